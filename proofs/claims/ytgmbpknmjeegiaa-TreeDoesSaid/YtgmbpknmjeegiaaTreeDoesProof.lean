/-
  The law TreeDoes of layer 5 answers true at every input, for package tree as it landed. No condition beyond the statement's own.
-/
import Derived.Test.YtgmbpknmjeegiaaTreeDoesRow
import Derived.Test.YtgmbpknmjeegiaaTreeThe
namespace Go.Proofs.Ytgmbpknmjeegiaa
theorem treeDoes_holds : Rows.TreeDoesSaid := treeDoes.over TreeC.theTree
#print axioms treeDoes_holds
end Go.Proofs.Ytgmbpknmjeegiaa
