/-
  The law SemaDoes of layer 13 answers true at every input, for package sema as it landed. No condition beyond the statement's own.
-/
import Derived.Test.YtaplikopapnlpaaSemaDoesRow
import Derived.Test.YtaplikopapnlpaaSemaC
namespace Go.Proofs.Ytaplikopapnlpaa
theorem semaDoes_holds : Rows.SemaDoesSaid := semaDoes.over SemaA.theSg
#print axioms semaDoes_holds
end Go.Proofs.Ytaplikopapnlpaa
