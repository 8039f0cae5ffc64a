/-
  The law RWPrefers of layer 9 answers true at every input, for package rw as it landed. No condition beyond the statement's own.
-/
import Derived.Test.YtmlicljoadcoeaaRWPrefersRow
import Derived.Test.YtmlicljoadcoeaaRwA
namespace Go.Proofs.Ytmlicljoadcoeaa
theorem rWPrefers_holds : Rows.RWPrefersSaid := rWPrefers.over RwA.theRw
#print axioms rWPrefers_holds
end Go.Proofs.Ytmlicljoadcoeaa
