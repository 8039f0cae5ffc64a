/-
  The law HeapOrder of layer 3 answers true at every input, for package heap as it landed. No condition beyond the statement's own.
-/
import Derived.Test.YtilfjhpellmfoaaHeapOrderRow
import Derived.Test.YtilfjhpellmfoaaHeapThe
namespace Go.Proofs.Ytilfjhpellmfoaa
theorem heapOrder_holds : Rows.HeapOrderSaid := heapOrder.over HeapC.theHeap
#print axioms heapOrder_holds
end Go.Proofs.Ytilfjhpellmfoaa
