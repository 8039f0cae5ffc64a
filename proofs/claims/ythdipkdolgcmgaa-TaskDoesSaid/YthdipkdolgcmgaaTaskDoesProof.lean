/-
  The law TaskDoes of layer 18 answers true at every input, for package task as it landed. No condition beyond the statement's own.
-/
import Derived.Test.YthdipkdolgcmgaaTaskDoesRow
import Derived.Test.YthdipkdolgcmgaaTkThe
namespace Go.Proofs.Ythdipkdolgcmgaa
theorem taskDoes_holds : Rows.TaskDoesSaid := taskDoes.over TkA.theTb
#print axioms taskDoes_holds
end Go.Proofs.Ythdipkdolgcmgaa
