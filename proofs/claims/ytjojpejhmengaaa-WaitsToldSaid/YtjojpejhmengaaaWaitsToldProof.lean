/-
  The law WaitsTold of layer 12 answers true at every input, for package waits as it landed. No condition beyond the statement's own.
-/
import Derived.Test.YtjojpejhmengaaaWaitsToldRow
import Derived.Test.YtjojpejhmengaaaWaitsA
namespace Go.Proofs.Ytjojpejhmengaaa
theorem waitsTold_holds : Rows.WaitsToldSaid := waitsTold.over WaitsA.theWg
#print axioms waitsTold_holds
end Go.Proofs.Ytjojpejhmengaaa
