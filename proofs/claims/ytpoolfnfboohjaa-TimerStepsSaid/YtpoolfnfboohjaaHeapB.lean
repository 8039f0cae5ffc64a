/-
  Contracts of the functions of package heap, as it landed, third part: one place told and taken. Condition: the pointer's blocks are as 'HB' says.
-/
import Derived.Test.YtpoolfnfboohjaaHeapA
namespace Go.Proofs.Ytpoolfnfboohjaa.HeapC
open Go.ChangeShapes Go.WideShapes Go.ChangeAt Go.RowKit Mem RefHeap HeapI HeapP

/-- Where a thing is, as it is told. -/
def placeV (p : List Int) (id : Int) : Int := if 0 ≤ id ∧ id < p.length then p.getD id.toNat (-1) else -1

theorem HB.stood {w : World} {g q b c : Nat} {R : List Ent} {p : List Int} (h : HB w g q (.slice (some ⟨b, 0, none⟩) R.length c) R p) {k : Nat} (hk : k < R.length) (x : Ent) (i : Nat) (a : Int) :
    HB ((((w.setCell ⟨b, k * 3, none⟩ (.int .i64 x.id)).setCell ⟨b, k * 3 + 1, none⟩ (.int .i64 x.at_)).setCell ⟨b, k * 3 + 2, none⟩ (.int .i64 x.seq)).setCell ⟨q, i, none⟩ (.int .i64 a)) g q (.slice (some ⟨b, 0, none⟩) R.length c) (R.set k x) (p.set i a) := by
  have hb := h.apart b rfl
  refine ⟨?_, ?_, ?_, h.ne, h.apart⟩
  · rw [Below.heap_setCell _ _ _ g (show g ≠ q from h.ne), Below.heap_setCell _ _ _ g (show g ≠ b from fun e => hb.1 e.symm), Below.heap_setCell _ _ _ g (show g ≠ b from fun e => hb.1 e.symm), Below.heap_setCell _ _ _ g (show g ≠ b from fun e => hb.1 e.symm), List.length_set]
    exact h.head
  · rw [List.length_set]
    refine own_set (own_of_blocks h.places fun k hq _ => ?_) i a
    obtain rfl : q = k := by simpa [Value.ownBlock] using hq
    rw [Below.heap_setCell _ _ _ q (show q ≠ b from fun e => hb.2 e.symm), Below.heap_setCell _ _ _ q (show q ≠ b from fun e => hb.2 e.symm), Below.heap_setCell _ _ _ q (show q ≠ b from fun e => hb.2 e.symm)]
  · refine OwnL.of_blocks (own_set3 h.rows hk x) fun k hq _ => ?_
    obtain rfl : b = k := by simpa [Value.ownBlock] using hq
    exact Below.heap_setCell _ _ _ b (show b ≠ q from hb.2)

section
variable {w : World} {g q : Nat} {u : Value} {R : List Ent} {p : List Int} (h : HB w g q u R p)
include h
theorem mayBe_c (_hp : p.length ≤ 100000) (id : Int) : Calls Try.prog 53 #[.pointer (some ⟨g, 0, none⟩), .int .i64 id] w fun e w' => e = .returned (.bool (decide (0 ≤ id ∧ id < p.length))) ∧ w = w' := by
  have h1 := h.c1
  clear h
  by_cases hr : 0 ≤ id
  all_goals
    go_enter Try.func53, Try.ntmps53
    go_wp2
    all_goals
      go_ret
      exact ⟨ret_bool (by rw [Bool.eq_iff_iff]; simp; try omega), rfl⟩
theorem placeOf_c (hp : p.length ≤ 100000) (id : Int) : Calls Try.prog 42 #[.pointer (some ⟨g, 0, none⟩), .int .i64 id] w fun e w' => e = .returned (.int .i64 (placeV p id)) ∧ w = w' := by
  have H := Lib.hid h
  have h1 := h.c1
  by_cases hr : 0 ≤ id ∧ id < p.length
  · obtain ⟨i, rfl⟩ := Int.eq_ofNat_of_zero_le hr.1
    have hil : i < p.length := by omega
    have hd := decide_eq_true hr
    have hx : p[i]? = some (p.getD i (-1)) := by rw [List.getD_eq_getElem?_getD, List.getElem?_eq_getElem hil]; rfl
    have hP : Hid (placeV p (i : Int) = p.getD i (-1)) := by show _ = _; unfold placeV; rw [if_pos hr]; rfl
    have c0 := h.place hx
    generalize p.getD i (-1) = a at *
    obtain ⟨hr1, hr2⟩ := hr
    clear h hx
    go_enter Try.func42, Try.ntmps42
    go_wp2_with fail
    refine (mayBe_c H.out hp i).mono ?_
    rintro e w1 ⟨rfl, rfl⟩
    rw [hd]
    clear hd
    go_wp2
    go_ret
    exact ⟨ret_int hP.out.symm, rfl⟩
  · have hd := decide_eq_false hr
    have hP : Hid (placeV p id = -1) := by show _ = _; unfold placeV; rw [if_neg hr]
    clear h hr h1
    go_enter Try.func42, Try.ntmps42
    go_wp2_with fail
    refine (mayBe_c H.out hp id).mono ?_
    rintro e w1 ⟨rfl, rfl⟩
    rw [hd]
    clear hd
    go_wp2
    go_ret
    exact ⟨ret_int hP.out.symm, rfl⟩

set_option maxRecDepth 100000 in
set_option maxHeartbeats 1000000 in
theorem stand_c (_hp : p.length ≤ 100000) (_hR : R.length ≤ 100000) (x : Ent) (k i : Nat) (hk : k < R.length) (hi : i < p.length) (hx : x.id = i) :
    Calls Try.prog 55 #[.pointer (some ⟨g, 0, none⟩), x.val, .int .i64 k] w fun e w' => e = .returned (.tuple #[]) ∧ HB w' g q u (R.set k x) (p.set i k) ∧ Only (fun b => b = q ∨ u.ownBlock = some b) w w' := by
  obtain ⟨xi, xa, xz⟩ := x
  simp only at hx
  subst hx
  obtain ⟨b, c, rfl, hbg, hbq, hbl, c0, c1, c2, hf⟩ := h.row (List.getElem?_eq_getElem hk)
  have g0 := h.c0
  have g1 := h.c1
  have hq0 := h.place (List.getElem?_eq_getElem hi)
  have hqf := h.pf i
  have f0 := hf (k * 3)
  have f1 := hf (k * 3 + 1)
  have f2 := hf (k * 3 + 2)
  have hqb : q ≠ b := fun e => hbq e.symm
  have hg := h.glt
  have hql := h.qlt
  have H := Lib.hid h
  unfold Ent.val
  clear h hf
  have i0 : (0 : Int) ≤ (k : Int) := by omega
  have i1 : (k : Int) < (R.length : Int) := by omega
  have i2 : (0 : Int) ≤ (i : Int) := by omega
  have i3 : (i : Int) < (p.length : Int) := by omega
  go_enter Try.func55, Try.ntmps55
  go_wp2
  go_region
  go_end0
  exact ⟨rfl, ((H.out.stood hk ⟨i, xa, xz⟩ i k).alloc _).drew,
    ((((((Only.refl (fun a => a = q ∨ (Value.slice (some ⟨b, 0, none⟩) R.length c).ownBlock = some a) w).setCell (a := ⟨b, k * 3, none⟩) (.inl (.inr rfl)) _).setCell (a := ⟨b, k * 3 + 1, none⟩) (.inl (.inr rfl)) _).setCell (a := ⟨b, k * 3 + 2, none⟩) (.inl (.inr rfl)) _).setCell (a := ⟨q, i, none⟩) (.inl (.inl rfl)) _).alloc _).drew⟩
end
end Go.Proofs.Ytpoolfnfboohjaa.HeapC
