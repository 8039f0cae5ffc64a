/-
  The law TreePaths of layer 5 answers true at every input, for package tree as it landed. No condition beyond the statement's own.
-/
import Derived.Test.YtgmbpknmjeegiaaTreePathsRow
import Derived.Test.YtgmbpknmjeegiaaTreeThe
namespace Go.Proofs.Ytgmbpknmjeegiaa
theorem treePaths_holds : Rows.TreePathsSaid := treePaths.over TreeC.theTree
#print axioms treePaths_holds
end Go.Proofs.Ytgmbpknmjeegiaa
