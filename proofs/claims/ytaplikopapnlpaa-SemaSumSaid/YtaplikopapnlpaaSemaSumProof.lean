/-
  The law SemaSum of layer 13 answers true at every input, for package sema as it landed. No condition beyond the statement's own.
-/
import Derived.Test.YtaplikopapnlpaaSemaSumRow
import Derived.Test.YtaplikopapnlpaaSemaC
namespace Go.Proofs.Ytaplikopapnlpaa
theorem semaSum_holds : Rows.SemaSumSaid := semaSum.over SemaA.theSg
#print axioms semaSum_holds
end Go.Proofs.Ytaplikopapnlpaa
