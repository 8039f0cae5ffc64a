/-
  The law TaskAlone of layer 18 answers true at every input, for package task as it landed. No condition beyond the statement's own.
-/
import Derived.Test.YthdipkdolgcmgaaTaskAloneRow
import Derived.Test.YthdipkdolgcmgaaTkThe
namespace Go.Proofs.Ythdipkdolgcmgaa
theorem taskAlone_holds : Rows.TaskAloneSaid := taskAlone.over TkA.theTb
#print axioms taskAlone_holds
end Go.Proofs.Ythdipkdolgcmgaa
