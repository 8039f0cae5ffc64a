/-
  The law HeapMoved of layer 3 answers true at every input, for package heap as it landed. No condition beyond the statement's own.
-/
import Derived.Test.YtilfjhpellmfoaaHeapMovedRow
import Derived.Test.YtilfjhpellmfoaaHeapThe
namespace Go.Proofs.Ytilfjhpellmfoaa
theorem heapMoved_holds : Rows.HeapMovedSaid := heapMoved.over HeapC.theHeap
#print axioms heapMoved_holds
end Go.Proofs.Ytilfjhpellmfoaa
