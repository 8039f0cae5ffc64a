/-
  The law RWOne of layer 9 answers true at every input, for package rw as it landed. No condition beyond the statement's own.
-/
import Derived.Test.YtmlicljoadcoeaaRWOneRow
import Derived.Test.YtmlicljoadcoeaaRwA
namespace Go.Proofs.Ytmlicljoadcoeaa
theorem rWOne_holds : Rows.RWOneSaid := rWOne.over RwA.theRw
#print axioms rWOne_holds
end Go.Proofs.Ytmlicljoadcoeaa
