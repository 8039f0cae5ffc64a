/-
  The law HeapDoes of layer 3 answers true at every input, for package heap as it landed. No condition beyond the statement's own.
-/
import Derived.Test.YtilfjhpellmfoaaHeapDoesRow
import Derived.Test.YtilfjhpellmfoaaHeapThe
namespace Go.Proofs.Ytilfjhpellmfoaa
theorem heapDoes_holds : Rows.HeapDoesSaid := heapDoes.over HeapC.theHeap
#print axioms heapDoes_holds
end Go.Proofs.Ytilfjhpellmfoaa
