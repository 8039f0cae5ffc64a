/-
  The law RingOnce of layer 2 answers true at every input, for package ring as it landed. No condition beyond the statement's own.
-/
import Derived.Test.YtaoagoklgjcdcaaRingOnceRow
import Derived.Test.YtaoagoklgjcdcaaRingN
namespace Go.Proofs.Ytaoagoklgjcdcaa
theorem ringOnce_holds : Rows.RingOnceSaid := ringOnce.over RingN.theRing
#print axioms ringOnce_holds
end Go.Proofs.Ytaoagoklgjcdcaa
