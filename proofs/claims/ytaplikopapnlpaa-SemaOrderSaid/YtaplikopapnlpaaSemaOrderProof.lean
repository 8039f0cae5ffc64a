/-
  The law SemaOrder of layer 13 answers true at every input, for package sema as it landed. No condition beyond the statement's own.
-/
import Derived.Test.YtaplikopapnlpaaSemaOrderRow
import Derived.Test.YtaplikopapnlpaaSemaC
namespace Go.Proofs.Ytaplikopapnlpaa
theorem semaOrder_holds : Rows.SemaOrderSaid := semaOrder.over SemaA.theSg
#print axioms semaOrder_holds
end Go.Proofs.Ytaplikopapnlpaa
