/-
  The law WaitsMisuse of layer 12 answers true at every input, for package waits as it landed. No condition beyond the statement's own.
-/
import Derived.Test.YtjojpejhmengaaaWaitsMisuseRow
import Derived.Test.YtjojpejhmengaaaWaitsA
namespace Go.Proofs.Ytjojpejhmengaaa
theorem waitsMisuse_holds : Rows.WaitsMisuseSaid := waitsMisuse.over WaitsA.theWg
#print axioms waitsMisuse_holds
end Go.Proofs.Ytjojpejhmengaaa
