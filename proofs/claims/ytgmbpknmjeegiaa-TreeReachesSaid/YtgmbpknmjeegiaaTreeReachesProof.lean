/-
  The law TreeReaches of layer 5 answers true at every input, for package tree as it landed. No condition beyond the statement's own.
-/
import Derived.Test.YtgmbpknmjeegiaaTreeReachesRow
import Derived.Test.YtgmbpknmjeegiaaTreeThe
namespace Go.Proofs.Ytgmbpknmjeegiaa
theorem treeReaches_holds : Rows.TreeReachesSaid := treeReaches.over TreeC.theTree
#print axioms treeReaches_holds
end Go.Proofs.Ytgmbpknmjeegiaa
