/-
  Contracts of the functions of package heap, as it landed, sixth part: a thing stands where it belongs. Condition: the pointer's blocks are as 'HB' says.
-/
import Derived.Test.YtpoolfnfboohjaaHeapD
import Derived.Deep.RegionHeld3
namespace Go.Proofs.Ytpoolfnfboohjaa.HeapC
open Go.ChangeShapes Go.WideShapes Go.ChangeAt Go.RowKit Mem RefHeap HeapI HeapP

/-- All stand; only rows and places have changed since w. -/
def Settled (w wr : World) (g q : Nat) (u : Value) (n m : Nat) (M : List Ent) (N : Int) : Prop :=
  ∃ R p, HB wr g q u R p ∧ Full R p M N ∧ R.length = n ∧ p.length = m ∧ Only (fun b => b = q ∨ u.ownBlock = some b) w wr

section
variable {w w1 wr : World} {g q : Nat} {u : Value} {n m : Nat} {x : Ent} {k : Nat} {M : List Ent} {N : Int}
theorem Upped.here (h : Upped w wr g q u n m x k M N) : Upped wr wr g q u n m x k M N := by
  obtain ⟨R, p, h1, h2, h3, h4, h5, h6⟩ := h
  exact ⟨R, p, h1, h2, h3, h4, Only.refl _ _, h6⟩
theorem Upped.only (h : Upped w wr g q u n m x k M N) : Only (fun b => b = q ∨ u.ownBlock = some b) w wr := by
  obtain ⟨R, p, h1, h2, h3, h4, h5, h6⟩ := h
  exact h5
theorem Downed.only (h : Downed w wr g q u n m x k M N) : Only (fun b => b = q ∨ u.ownBlock = some b) w wr := by
  obtain ⟨R, p, h1, h2, h3, h4, h5, h6⟩ := h
  exact h5
theorem Settled.only (h : Settled w wr g q u n m M N) : Only (fun b => b = q ∨ u.ownBlock = some b) w wr := by
  obtain ⟨R, p, h1, h2, h3, h4, h5⟩ := h
  exact h5
theorem kept_box {bx : Nat} {o : Obj} (h : Only (fun b => b = q ∨ u.ownBlock = some b) w wr) (hx : w.heap[bx]? = some o) (hn : q ≠ bx ∧ u.ownBlock ≠ some bx) : wr.heap[bx]? = some o :=
  (h.block bx (lt_of_block hx) fun e => e.elim (fun e => hn.1 e.symm) hn.2).trans hx
/-- x stands at the free place. -/
theorem Downed.stand (h : Downed w wr g q u n m x k M N) : Calls Try.prog 55 #[.pointer (some ⟨g, 0, none⟩), x.val, .int .i64 k] wr fun e w' => e = .returned (.tuple #[]) ∧ Settled w w' g q u n m M N := by
  obtain ⟨R, p, h1, h2, h3, h4, h5, h6, h7⟩ := h
  have hxi := h2.idx h2.mx
  obtain ⟨i, hi⟩ : ∃ i : Nat, x.id = i := Int.eq_ofNat_of_zero_le hxi.1
  have hR := h2.len
  refine (stand_c h1 (by have := h2.pn; have := h2.good.n1; omega) (by omega) x k i h2.kn (by omega) hi).mono ?_
  rintro e w' ⟨rfl, hb, ho⟩
  refine ⟨rfl, _, _, hb, ?_, by rw [List.length_set]; exact h3, by rw [List.length_set]; exact h4, h5.trans ho fun _ _ h => h⟩
  have := h2.fill h6 h7
  rw [hi] at this
  exact this
end

set_option maxRecDepth 100000 in
set_option maxHeartbeats 1000000 in
theorem settle_c {w : World} {g q : Nat} {u : Value} {n m : Nat} {x : Ent} {k : Nat} {M : List Ent} {N : Int} (h : Stood w w g q u n m x k M N) :
    Calls Try.prog 46 #[.pointer (some ⟨g, 0, none⟩), x.val, .int .i64 k] w fun e w' => e = .returned (.tuple #[]) ∧ Settled w w' g q u n m M N := by
  obtain ⟨W1, hW1⟩ : ∃ W1, W1 = (w.alloc (.cells #[.int .i64 x.id, .int .i64 x.at_, .int .i64 x.seq] 65)).drew := ⟨_, rfl⟩
  have hbb : Below w.heap.size w W1 := by rw [hW1]; exact (new_below0 w _).drew
  have HW : Hid (Only (fun b => b = q ∨ u.ownBlock = some b) w W1) := Only.of_below hbb
  have H1 : Hid (Stood W1 W1 g q u n m x k M N) := by
    obtain ⟨R, p, h1, h2, h3, h4, h5⟩ := h
    exact ⟨R, p, h1.below hbb, h2, h3, h4, Only.refl _ _⟩
  have hgq : q ≠ w.heap.size ∧ u.ownBlock ≠ some w.heap.size := by
    obtain ⟨R, p, h1, _⟩ := h
    refine ⟨by have := h1.qlt; omega, fun e => ?_⟩
    have := (h1.rows.lt _ e).2
    omega
  have HX : Hid (W1.heap[w.heap.size]? = some (.cells #[.int .i64 x.id, .int .i64 x.at_, .int .i64 x.seq] 65 (0, 0))) := by rw [hW1]; exact heap_alloc_new w _
  have HXL : Hid (w.heap.size < W1.heap.size) := lt_of_block HX.out
  have HG := Lib.hid hgq
  have hup := up_c H1.out
  unfold Ent.val at hup
  have HUP := Lib.hid hup
  have hdn := fun W k (h : Upped W W g q u n m x k M N) => down_c h
  unfold Ent.val at hdn
  have HDN := Lib.hid hdn
  have hst := fun W W' k (h : Downed W W' g q u n m x k M N) => h.stand
  unfold Ent.val at hst
  have HST := Lib.hid hst
  rw [hW1] at HUP
  have HW1 := Lib.hid hW1
  have HX1 : Hid ((w.alloc (.cells #[.int .i64 x.id, .int .i64 x.at_, .int .i64 x.seq] 65)).drew.heap[w.heap.size]? = some (.cells #[.int .i64 x.id, .int .i64 x.at_, .int .i64 x.seq] 65 (0, 0))) := by rw [hW1] at HX; exact HX
  clear h hbb hgq hup hW1 hdn hst HX HXL H1
  unfold Ent.val
  go_enter Try.func46, Try.ntmps46
  go_wp2
  go_region_held3 (fun W => W.cell? ⟨w.heap.size, 0, none⟩ = some (.int .i64 x.id) ∧ W.cell? ⟨w.heap.size, 1, none⟩ = some (.int .i64 x.at_) ∧ W.cell? ⟨w.heap.size, 2, none⟩ = some (.int .i64 x.seq)) (go_keep)
    (first
      | (go_at_call 57; (with_reducible refine HUP.out.mono ?_); rintro e w5 ⟨k5, rfl, h5⟩; have HX5 := Lib.hid (kept_box h5.only HX1.out HG.out); have s0w5 : w5.cell? ⟨w.heap.size, 0, none⟩ = some (.int .i64 x.id) := (cell_block HX5.out 0).trans rfl; have s1w5 : w5.cell? ⟨w.heap.size, 1, none⟩ = some (.int .i64 x.at_) := (cell_block HX5.out 1).trans rfl; have s2w5 : w5.cell? ⟨w.heap.size, 2, none⟩ = some (.int .i64 x.seq) := (cell_block HX5.out 2).trans rfl)
      | (go_at_call 56; (with_reducible refine (HDN.out _ _ h5.here).mono ?_); rintro e w6 ⟨k6, rfl, h6⟩; have HX6 := Lib.hid (kept_box h6.only HX5.out HG.out); have s0w6 : w6.cell? ⟨w.heap.size, 0, none⟩ = some (.int .i64 x.id) := (cell_block HX6.out 0).trans rfl; have s1w6 : w6.cell? ⟨w.heap.size, 1, none⟩ = some (.int .i64 x.at_) := (cell_block HX6.out 1).trans rfl; have s2w6 : w6.cell? ⟨w.heap.size, 2, none⟩ = some (.int .i64 x.seq) := (cell_block HX6.out 2).trans rfl)
      | (go_at_call 55; (with_reducible refine (HST.out _ _ _ h6).mono ?_); rintro e w7 ⟨rfl, h7⟩; have HX7 := Lib.hid (kept_box h7.only HX5.out HG.out); have s0w7 : w7.cell? ⟨w.heap.size, 0, none⟩ = some (.int .i64 x.id) := (cell_block HX7.out 0).trans rfl; have s1w7 : w7.cell? ⟨w.heap.size, 1, none⟩ = some (.int .i64 x.at_) := (cell_block HX7.out 1).trans rfl; have s2w7 : w7.cell? ⟨w.heap.size, 2, none⟩ = some (.int .i64 x.seq) := (cell_block HX7.out 2).trans rfl))
  go_end0
  obtain ⟨R, p, a1, a2, a3, a4, a5⟩ := h7
  have o5 := h5.only
  rw [← HW1.out] at o5
  exact ⟨rfl, R, p, a1, a2, a3, a4, (HW.out.trans o5 fun _ _ h => h).trans a5 fun _ _ h => h⟩
end Go.Proofs.Ytpoolfnfboohjaa.HeapC
