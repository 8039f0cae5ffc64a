/-
  Package heap's Move and Take, as they landed. Condition: the pointer is as 'HeapA' says.
-/
import Derived.Test.YtpoolfnfboohjaaHeapT
namespace Go.Proofs.Ytpoolfnfboohjaa.HeapC
open Go.ChangeShapes Go.WideShapes Go.ChangeAt Go.RowKit Mem RefHeap HeapI HeapP

theorem getE_in {L : List Ent} {N : Int} {id : Int} (h : Ok L N) (hg : getB L id = true) : EntIn (getE L id) := by
  obtain ⟨e, he, _, h2⟩ := get_some hg
  rw [h2]
  exact h.ins e he

theorem take_no {w : World} {v : Value} {F : Nat → Prop} {L : List Ent} {N : Int} (h : HeapA w v F L N) (now : Int) (hn : takeB L now = false) :
    Calls Try.prog 43 #[v, .int .i64 now] w fun e w' => e = .returned (.tuple #[zeroEnt.val, .bool false]) ∧ Below w.heap.size w w' := by
  obtain ⟨p, rfl⟩ := h.ptr
  have HH1 := Lib.hid (h.below (new_below0 w (.cells #[.int .i64 0, .int .i64 0, .int .i64 0] 65)))
  have HB1 : Hid (Below w.heap.size w (w.alloc (.cells #[.int .i64 0, .int .i64 0, .int .i64 0] 65))) := new_below0 w _
  have HX1 : Hid ((w.alloc (.cells #[.int .i64 0, .int .i64 0, .int .i64 0] 65)).heap[w.heap.size]? = some (.cells #[.int .i64 0, .int .i64 0, .int .i64 0] 65 (0, 0))) := heap_alloc_new w _
  clear h
  have hc : (!L.isEmpty) = false ∨ ((!L.isEmpty) = true ∧ now < (firstE L).at_) := by
    cases L with
    | nil => exact .inl rfl
    | cons a l => exact .inr ⟨rfl, by unfold takeB at hn; show now < a.at_; simp at hn; omega⟩
  clear hn
  have HFI := Lib.hid (first_a HH1.out)
  generalize firstE L = x at *
  generalize (!L.isEmpty) = b at *
  go_enter Try.func43, Try.ntmps43
  go_wp2_with fail
  refine HFI.out.mono ?_
  rintro e w2 ⟨rfl, hb2⟩
  have HB2 : Hid (Below w.heap.size w (w2.alloc (.cells #[.int .i64 x.id, .int .i64 x.at_, .int .i64 x.seq] 65))) := (HB1.out.trans (hb2.mono (by simp))).alloc (Nat.le_trans HB1.out.size hb2.size) _
  have hwl2 : w.heap.size < w2.heap.size := Nat.lt_of_lt_of_le (lt_of_block HX1.out) hb2.size
  have hy2 := (hb2.block w.heap.size (lt_of_block HX1.out)).trans HX1.out
  have hy0 : (w2.alloc (.cells #[.int .i64 x.id, .int .i64 x.at_, .int .i64 x.seq] 65)).heap[w.heap.size]? = some (.cells #[.int .i64 0, .int .i64 0, .int .i64 0] 65 (0, 0)) := (Below.heap_alloc w2 _ _ hwl2).trans hy2
  have hx0 : (w2.alloc (.cells #[.int .i64 x.id, .int .i64 x.at_, .int .i64 x.seq] 65)).heap[w2.heap.size]? = some (.cells #[.int .i64 x.id, .int .i64 x.at_, .int .i64 x.seq] 65 (0, 0)) := heap_alloc_new w2 _
  have HY := Lib.hid hy0
  have HX := Lib.hid hx0
  have HY2 := Lib.hid hy2
  have HB3 : Hid (Below w.heap.size w w2) := HB1.out.trans (hb2.mono (by simp))
  clear hb2 hy0 hx0 hy2
  simp only [Ent.val]
  have hg2 : w2.heap.size < (w2.alloc (.cells #[.int .i64 x.id, .int .i64 x.at_, .int .i64 x.seq] 65)).heap.size := by simp
  have f0 := frozen_block HY2.out 0
  have f1 := frozen_block HY2.out 1
  have f2 := frozen_block HY2.out 2
  have z0 : w2.cell? ⟨w.heap.size, 0, none⟩ = some (.int .i64 0) := (cell_block HY2.out 0).trans rfl
  have z1 : w2.cell? ⟨w.heap.size, 1, none⟩ = some (.int .i64 0) := (cell_block HY2.out 1).trans rfl
  have z2 : w2.cell? ⟨w.heap.size, 2, none⟩ = some (.int .i64 0) := (cell_block HY2.out 2).trans rfl
  clear HFI HH1 HX1 HB1 hg2
  rcases hc with rfl | ⟨rfl, hlt⟩
  · go_wp2
    have HZ := Lib.hid (set3 HY2.out (.int .i64 0) (.int .i64 0) (.int .i64 0))
    have r0 := (cell_block HZ.out 0).trans rfl
    have r1 := (cell_block HZ.out 1).trans rfl
    have r2 := (cell_block HZ.out 2).trans rfl
    exact bodyPost_ret (v := .tuple #[zeroEnt.val, .bool false]) (by simp [results, Try.results43, go_sem, Ent.val, zeroEnt, r0, r1, r2, hwl2]) rfl ⟨rfl, (((HB3.out.setCell (Nat.le_refl _) _).setCell (Nat.le_refl _) _).setCell (Nat.le_refl _) _).alloc (by simp; omega) _⟩
  · go_wp2
    have HZ := Lib.hid (set3 HY2.out (.int .i64 0) (.int .i64 0) (.int .i64 0))
    have r0 := (cell_block HZ.out 0).trans rfl
    have r1 := (cell_block HZ.out 1).trans rfl
    have r2 := (cell_block HZ.out 2).trans rfl
    exact bodyPost_ret (v := .tuple #[zeroEnt.val, .bool false]) (by simp [results, Try.results43, go_sem, Ent.val, zeroEnt, r0, r1, r2, hwl2]) rfl ⟨rfl, (((HB3.out.setCell (Nat.le_refl _) _).setCell (Nat.le_refl _) _).setCell (Nat.le_refl _) _).alloc (by simp; omega) _⟩
end Go.Proofs.Ytpoolfnfboohjaa.HeapC
