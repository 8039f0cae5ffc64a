/-
  The law RingDoes of layer 2 answers true at every input, for package ring as it landed. No condition beyond the statement's own.
-/
import Derived.Test.YtaoagoklgjcdcaaRingDoesRow
import Derived.Test.YtaoagoklgjcdcaaRingN
namespace Go.Proofs.Ytaoagoklgjcdcaa
theorem ringDoes_holds : Rows.RingDoesSaid := ringDoes.over RingN.theRing
#print axioms ringDoes_holds
end Go.Proofs.Ytaoagoklgjcdcaa
