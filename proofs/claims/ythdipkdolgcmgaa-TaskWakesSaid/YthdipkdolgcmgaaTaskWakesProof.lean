/-
  The law TaskWakes of layer 18 answers true at every input, for package task as it landed. No condition beyond the statement's own.
-/
import Derived.Test.YthdipkdolgcmgaaTaskWakesRow
import Derived.Test.YthdipkdolgcmgaaTkThe
namespace Go.Proofs.Ythdipkdolgcmgaa
theorem taskWakes_holds : Rows.TaskWakesSaid := taskWakes.over TkA.theTb
#print axioms taskWakes_holds
end Go.Proofs.Ythdipkdolgcmgaa
