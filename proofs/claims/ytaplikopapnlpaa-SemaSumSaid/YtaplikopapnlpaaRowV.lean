/-
  A local array as one row of values: made, stored and read as a whole. Over any program. No condition.
-/
import Derived.Test.YtaplikopapnlpaaMem
import Derived.Laws.Tables
import Derived.Great.Walk
namespace Go.Proofs.Ytaplikopapnlpaa.RowV
open Go.ChangeShapes Go.WideShapes Go.ChangeAt Go.RowKit Mem

/-- So many values in a row. -/
def rowV (n : Nat) (f : Nat → Value) : Array Value := ((List.range n).map f).toArray
theorem row_size (n : Nat) (f : Nat → Value) : (rowV n f).size = n := by simp [rowV]
theorem row_get {n : Nat} (f : Nat → Value) {i : Nat} (h : i < n) : (rowV n f)[i]? = some (f i) := by
  unfold rowV
  rw [List.getElem?_toArray, List.getElem?_map, List.getElem?_range h]; rfl
theorem row_set (n : Nat) (f : Nat → Value) (i : Nat) (x : Value) : (rowV n f).setIfInBounds i x = rowV n fun j => if j = i then x else f j := by
  apply Array.ext_getElem?
  intro j
  rw [Array.getElem?_setIfInBounds, row_size]
  by_cases hj : j < n
  · rw [row_get _ hj, row_get _ hj]
    by_cases hi : i = j
    · subst hi; rw [if_pos rfl, if_pos hj, if_pos rfl]
    · rw [if_neg hi, if_neg (fun h => hi h.symm)]
  · rw [Array.getElem?_eq_none (xs := rowV n _) (by rw [row_size]; omega), Array.getElem?_eq_none (xs := rowV n _) (by rw [row_size]; omega)]
    split
    · rw [if_neg (by omega)]
    · rfl
theorem row_one (n : Nat) (f : Nat → Value) (hf : ∀ i, (f i).oneCell' = true) : (rowV n f).all (·.oneCell') = true := by
  rw [Array.all_eq_true_iff_forall_mem]
  intro v hv
  simp [rowV] at hv
  obtain ⟨i, _, rfl⟩ := hv
  exact hf i
theorem row_cell {w : World} {g n : Nat} {f : Nat → Value} {t : TypeId} (h : w.heap[g]? = some (.cells (rowV n f) t (0, 0))) {i : Nat} (hi : i < n) : w.cell? ⟨g, i, none⟩ = some (f i) := by
  rw [cell_block h i, row_get _ hi]

section
variable {P : Program} {ops : Array Oper} {rest : List Oper} {o : Oper} {a : Act} {w : World} {Q : Exit → Act → World → Prop}
theorem wl_build (hg : o.guard = none) (t : TypeId) (ho : o.op = .build t #[]) {cs : Array Value} (hb : P.built t [] = some cs) (h : wpList P ops Q rest (a.put o.dst (.agg cs)) w) : wpList P ops Q (o :: rest) a w := by
  refine wpList_build hg t #[] ho (by simp [hb]) ?_
  simpa [hb] using h
theorem wl_alloc (hg : o.guard = none) (t : TypeId) (ho : o.op = .alloc t) {cs : Array Value} (hz : (P.info? t).map (·.zero) = some (some (.agg cs))) (h : wpList P ops Q rest (a.put o.dst (.pointer (some ⟨w.heap.size, 0, none⟩))) (w.alloc (.cells cs t))) : wpList P ops Q (o :: rest) a w := by
  refine Go.Great.wpList_allocTo hg o.dst rfl (.pointer (some ⟨w.heap.size, 0, none⟩)) (.cells cs t) ?_ h
  cases hi : P.info? t with
  | none => simp [hi] at hz
  | some i =>
    simp [hi] at hz
    unfold execOp
    simp [ho, Instr.alloc, newVar, zeroValue, typeInfo, hi, hz, Value.cells, go_sem]
theorem setRow_same {g : Nat} {cs : Array Value} {t : TypeId} (hg : w.heap[g]? = some (.cells cs t (0, 0))) : w.setRow g cs = w := by
  have : (w.setRow g cs).heap = w.heap := by
    apply Array.ext_getElem?
    intro k
    by_cases hk : k = g
    · subst hk; rw [setRow_heap w k cs cs t (0, 0) hg, hg]
    · exact setRow_other w g k cs hk
  show World.setRow w g cs = w
  unfold World.setRow at this ⊢
  rw [show w.heap.modify g _ = w.heap from this]
theorem wl_store (hg : o.guard = none) (t : TypeId) (x y : Operand) (ho : o.op = .store t x y) {g n : Nat} {f : Nat → Value} (hx : a.eval x = .pointer (some ⟨g, 0, none⟩)) (hy : a.eval y = .agg (rowV n f)) (hb : w.heap[g]? = some (.cells (rowV n f) t (0, 0))) (hs : (P.info? t).map (·.size) = some n) (hf : ∀ i, (f i).oneCell' = true)
    (h : wpList P ops Q rest (a.put o.dst undef) w) : wpList P ops Q (o :: rest) a w := by
  refine wpList_store_row hg t x y ho g (rowV n f) hx hy t (rowV n f) hb (by rw [hs, row_size]) rfl (row_one n f hf) ?_
  rw [setRow_same hb]
  exact h
end
theorem heap_at (w : World) (o1 : Obj) (k : Nat) (h : k < w.heap.size) : (w.alloc o1).heap[k]? = w.heap[k]? := Below.heap_alloc w o1 k h
theorem new1 (w : World) (o1 o2 : Obj) : ((w.alloc o1).alloc o2).heap[w.heap.size]? = some o1 := (heap_at _ _ _ (by simp)).trans (heap_alloc_new w o1)
theorem new2 (w : World) (o1 o2 : Obj) : ((w.alloc o1).alloc o2).heap[w.heap.size + 1]? = some o2 := by
  have h := heap_alloc_new (w.alloc o1) o2
  rw [show (w.alloc o1).heap.size = w.heap.size + 1 by simp] at h
  exact h
theorem of3 (w : World) (o1 o2 o3 : Obj) : (((w.alloc o1).alloc o2).alloc o3).heap[w.heap.size]? = some o1 := (heap_at _ _ _ (by simp; omega)).trans (new1 w o1 o2)
theorem of3' (w : World) (o1 o2 o3 : Obj) : (((w.alloc o1).alloc o2).alloc o3).heap[w.heap.size + 1]? = some o2 := (heap_at _ _ _ (by simp)).trans (new2 w o1 o2)
theorem of3'' (w : World) (o1 o2 o3 : Obj) : (((w.alloc o1).alloc o2).alloc o3).heap[w.heap.size + 1 + 1]? = some o3 := by
  have h := new2 (w.alloc o1) o2 o3
  rw [show (w.alloc o1).heap.size = w.heap.size + 1 by simp] at h
  exact h
end Go.Proofs.Ytaplikopapnlpaa.RowV
