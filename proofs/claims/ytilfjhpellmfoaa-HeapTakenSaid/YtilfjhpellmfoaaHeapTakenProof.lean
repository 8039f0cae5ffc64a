/-
  The law HeapTaken of layer 3 answers true at every input, for package heap as it landed. No condition beyond the statement's own.
-/
import Derived.Test.YtilfjhpellmfoaaHeapTakenRow
import Derived.Test.YtilfjhpellmfoaaHeapThe
namespace Go.Proofs.Ytilfjhpellmfoaa
theorem heapTaken_holds : Rows.HeapTakenSaid := heapTaken.over HeapC.theHeap
#print axioms heapTaken_holds
end Go.Proofs.Ytilfjhpellmfoaa
