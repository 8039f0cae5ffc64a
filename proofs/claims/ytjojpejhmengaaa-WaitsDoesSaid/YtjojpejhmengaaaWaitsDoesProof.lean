/-
  The law WaitsDoes of layer 12 answers true at every input, for package waits as it landed. No condition beyond the statement's own.
-/
import Derived.Test.YtjojpejhmengaaaWaitsDoesRow
import Derived.Test.YtjojpejhmengaaaWaitsA
namespace Go.Proofs.Ytjojpejhmengaaa
theorem waitsDoes_holds : Rows.WaitsDoesSaid := waitsDoes.over WaitsA.theWg
#print axioms waitsDoes_holds
end Go.Proofs.Ytjojpejhmengaaa
