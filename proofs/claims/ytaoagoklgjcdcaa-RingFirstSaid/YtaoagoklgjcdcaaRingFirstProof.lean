/-
  The law RingFirst of layer 2 answers true at every input, for package ring as it landed. No condition beyond the statement's own.
-/
import Derived.Test.YtaoagoklgjcdcaaRingFirstRow
import Derived.Test.YtaoagoklgjcdcaaRingN
namespace Go.Proofs.Ytaoagoklgjcdcaa
theorem ringFirst_holds : Rows.RingFirstSaid := ringFirst.over RingN.theRing
#print axioms ringFirst_holds
end Go.Proofs.Ytaoagoklgjcdcaa
