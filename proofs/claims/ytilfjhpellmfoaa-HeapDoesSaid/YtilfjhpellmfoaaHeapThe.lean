/-
  Package heap, as it landed, is what the laws of layer 3 ask of it: 'theHeap'. No condition.
-/
import Derived.Test.YtilfjhpellmfoaaHeapV
import Derived.Test.YtilfjhpellmfoaaHeapI
namespace Go.Proofs.Ytilfjhpellmfoaa.HeapC
open Go.ChangeShapes Go.WideShapes Go.ChangeAt Go.RowKit Mem RefHeap HeapI HeapP

/-- Package heap, as the laws ask for it. -/
def theHeap : HeapI.Heap where
  A := HeapA
  ptr := fun h => h.ptr
  keep := fun h _ hk => h.keep hk
  lt := fun h k hk => h.lt k hk
  ok := fun h => h.ok
  new_no := fun n w _ h => new_no n w h
  new_yes := fun n w h1 h2 => new_a n w h1 h2
  put := fun h x hx => put_a h x hx
  drop := fun h id _ => drop_a h id
  move := fun h id t _ ht => move_a h id t ht
  take := fun h t _ => take_a h t
  get := fun h id _ => get_a h id
  first := fun h => first_a h
  len := fun h => (len_a h).mono fun _ _ ⟨he, hm⟩ => ⟨he, 0, hm.symm⟩
  all := fun h => all_a h
  rows := fun h => rows_a h
  ahead := fun a b w _ _ => ahead_c a b w
end Go.Proofs.Ytilfjhpellmfoaa.HeapC
