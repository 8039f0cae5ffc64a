/-
  The law RWDoes of layer 9 answers true at every input, for package rw as it landed. No condition beyond the statement's own.
-/
import Derived.Test.YtmlicljoadcoeaaRWDoesRow
import Derived.Test.YtmlicljoadcoeaaRwA
namespace Go.Proofs.Ytmlicljoadcoeaa
theorem rWDoes_holds : Rows.RWDoesSaid := rWDoes.over RwA.theRw
#print axioms rWDoes_holds
end Go.Proofs.Ytmlicljoadcoeaa
