/-
  The law RWMisuse of layer 9 answers true at every input, for package rw as it landed. No condition beyond the statement's own.
-/
import Derived.Test.YtmlicljoadcoeaaRWMisuseRow
import Derived.Test.YtmlicljoadcoeaaRwA
namespace Go.Proofs.Ytmlicljoadcoeaa
theorem rWMisuse_holds : Rows.RWMisuseSaid := rWMisuse.over RwA.theRw
#print axioms rWMisuse_holds
end Go.Proofs.Ytmlicljoadcoeaa
