/-
  Contracts of the functions of package heap, as it landed, eighth part: Drop. Condition: the pointer's blocks are as 'HB' says.
-/
import Derived.Test.YtpoolfnfboohjaaHeapF
namespace Go.Proofs.Ytpoolfnfboohjaa.HeapC
open Go.ChangeShapes Go.WideShapes Go.ChangeAt Go.RowKit Mem RefHeap HeapI HeapP

section
variable {w : World} {g q b c : Nat} {u : Value} {R : List Ent} {p : List Int}
theorem flat_take {α : Type} {E : Enc α} (R : List α) (n : Nat) (h : n ≤ R.length) : (R.flatMap E.cells).take (n * E.sz) = (R.take n).flatMap E.cells := by
  induction R generalizing n with
  | nil => simp at h; subst h; simp
  | cons r R ih =>
    cases n with
    | zero => simp
    | succ n =>
      have hl := E.len r
      rw [List.flatMap_cons, Nat.succ_mul, show n * E.sz + E.sz = (E.cells r).length + n * E.sz by omega, List.take_length_add_append, ih n (by simpa using h)]
      rfl
theorem HB.short (h : HB w g q (.slice (some ⟨b, 0, none⟩) R.length c) R p) {n : Nat} (hn : n ≤ R.length) : HB (w.setCell ⟨g, 0, none⟩ (.slice (some ⟨b, 0, none⟩) n c)) g q (.slice (some ⟨b, 0, none⟩) n c) (R.take n) p := by
  have hb := h.apart b rfl
  refine ⟨?_, ?_, ?_, h.ne, fun k hk => h.apart k hk⟩
  · simp [World.setCell, Array.getElem?_modify, h.head]
  · refine own_of_blocks h.places fun k hk _ => ?_
    obtain rfl : q = k := by simpa [Value.ownBlock] using hk
    exact Below.heap_setCell _ _ _ q (show q ≠ g from fun e => h.ne e.symm)
  · refine OwnL.of_blocks (w := w) ?_ fun k hk _ => ?_
    · have hl : (R.take n).length = n := by rw [List.length_take]; omega
      unfold OwnL
      rw [hl]
      rcases h.rows.2 with ⟨he, _⟩ | ⟨g', cap, cur, he, hb', hg, hnc, hcm, hcs, hcur⟩
      · cases he
      · injection he with h1 h2 h3
        injection h1 with h1
        injection h1 with h1
        subst h1 h3
        refine ⟨by rw [flat_length (E := entE), hl], .inr ⟨b, c, cur, rfl, hb', hg, by omega, hcm, hcs, ?_⟩⟩
        rw [← flat_take R n hn, ← hcur, List.take_take, Nat.min_eq_left (Nat.mul_le_mul_right _ hn)]
    · obtain rfl : b = k := by simpa [Value.ownBlock] using hk
      exact Below.heap_setCell _ _ _ b (show b ≠ g from hb.1)
theorem HB.unplace (h : HB w g q u R p) (i : Nat) (a : Int) : HB (w.setCell ⟨q, i, none⟩ (.int .i64 a)) g q u R (p.set i a) := by
  refine ⟨?_, ?_, ?_, h.ne, h.apart⟩
  · rw [Below.heap_setCell _ _ _ g (show g ≠ q from h.ne), List.length_set]
    exact h.head
  · rw [List.length_set]
    exact own_set h.places i a
  · exact h.rows.of_blocks fun k hk _ => Below.heap_setCell _ _ _ k (show k ≠ q from (h.apart k hk).2)
end

theorem drop_no {w : World} {g q : Nat} {u : Value} {R : List Ent} {p : List Int} (h : HB w g q u R p) (hp : p.length ≤ 100000) (id : Int) (hx : placeV p id = -1) :
    Calls Try.prog 38 #[.pointer (some ⟨g, 0, none⟩), .int .i64 id] w fun e w' => e = .returned (.bool false) ∧ w = w' := by
  have H1 := Lib.hid h
  have HX := Lib.hid hx
  clear h hx
  go_enter Try.func38, Try.ntmps38
  go_wp2_with fail
  refine (placeOf_c H1.out hp id).mono ?_
  rintro e w1 ⟨rfl, rfl⟩
  rw [HX.out]
  go_wp2
  go_ret
  exact ⟨rfl, rfl⟩

set_option maxRecDepth 100000 in
set_option maxHeartbeats 2000000 in
theorem drop_yes {w : World} {g q : Nat} {u : Value} {R : List Ent} {p : List Int} (h : HB w g q u R p) {L M : List Ent} {N : Int} (hF : Full R p L N) (y : Ent) (j : Nat) (hj : R[j]? = some y) (hM : (y :: M).Perm L) :
    Calls Try.prog 38 #[.pointer (some ⟨g, 0, none⟩), .int .i64 y.id] w fun e w' => e = .returned (.bool true) ∧ PutDone w w' g q u M N := by
  have hp : p.length ≤ 100000 := by have := Full.plen hF; omega
  have hR : R.length ≤ 1000 := hF.len
  have HP := Lib.hid (place_in hF hj)
  have hyi := hF.idx (hF.perm.mem_iff.1 (mem_get hj))
  have hjl : j < R.length := (List.getElem?_eq_some_iff.1 hj).1
  obtain ⟨i, hi⟩ : ∃ i : Nat, y.id = i := Int.eq_ofNat_of_zero_le hyi.1
  have hip : i < p.length := by omega
  obtain ⟨n, hn⟩ : ∃ n, n = R.length - 1 := ⟨_, rfl⟩
  have hnl : n < R.length := by omega
  have hl : R[n]? = some R[n] := List.getElem?_eq_getElem hnl
  generalize R[n] = l at hl
  obtain ⟨b, c, rfl, hbg, hbq, hbl, c0, c1, c2, hf⟩ := h.row hl
  have hcap : R.length ≤ c := by
    rcases h.rows.2 with ⟨he, _⟩ | ⟨_, cap, _, he, _, _, hnc, _⟩
    · cases he
    · injection he with _ _ he; subst he; exact hnc
  have g0 := h.c0
  have g1 := h.c1
  have f0 := h.f0
  have q0 := h.place (List.getElem?_eq_getElem hip)
  have qf := h.pf i
  have hgl := h.glt
  have hql := h.qlt
  have hgq := h.ne
  have en : (R.length : Int) - 1 = (n : Int) := by omega
  have n0 : (0 : Int) ≤ (n : Int) := by omega
  have n1 : (n : Int) < (R.length : Int) := by omega
  have n2 : (n : Int) ≤ (c : Int) := by omega
  have i0 : (0 : Int) ≤ (i : Int) := by omega
  have i1 : (i : Int) < (p.length : Int) := by omega
  have hj1 : ((j : Int) == -1) = false := by simp
  have H := Lib.hid h
  have HF := Lib.hid hF
  have HJ := Lib.hid hj
  have HL := Lib.hid hl
  have HM := Lib.hid hM
  have HI := Lib.hid hi
  have HN := Lib.hid hn
  rw [hi] at HP ⊢
  clear h hF hj hl hM hi hn hf hyi
  go_enter Try.func38, Try.ntmps38
  go_wp2_with fail
  refine (placeOf_c H.out hp i).mono ?_
  rintro e w1 ⟨rfl, rfl⟩
  rw [HP.out]
  have HB2 : Hid (HB (((w.setCell ⟨g, 0, none⟩ (.slice (some ⟨b, 0, none⟩) n c)).setCell ⟨q, i, none⟩ (.int .i64 (-1))).alloc (.cells #[.int .i64 l.id, .int .i64 l.at_, .int .i64 l.seq] 65)) g q (.slice (some ⟨b, 0, none⟩) n c) (R.take n) (p.set i (-1))) := ((H.out.short (by omega)).unplace i (-1)).alloc _
  have HO2 : Hid (Only (foot g q (.slice (some ⟨b, 0, none⟩) R.length c)) w (((w.setCell ⟨g, 0, none⟩ (.slice (some ⟨b, 0, none⟩) n c)).setCell ⟨q, i, none⟩ (.int .i64 (-1))).alloc (.cells #[.int .i64 l.id, .int .i64 l.at_, .int .i64 l.seq] 65))) := (((Only.refl (foot g q (.slice (some ⟨b, 0, none⟩) R.length c)) w).setCell (a := ⟨g, 0, none⟩) (.inl (.inl rfl)) _).setCell (a := ⟨q, i, none⟩) (.inl (.inr (.inl rfl))) _).alloc _
  by_cases hjn : j < n
  · have HH : Hid (Hole (R.take n) (p.set i (-1)) l j M N) := by
      have h := HF.out.drop HJ.out (l := l) (by rw [← HN.out]; exact HL.out) (by rw [← HN.out]; exact hjn) HM.out
      rw [← HN.out, HI.out] at h
      exact h
    go_wp2_with fail
    generalize (((w.setCell ⟨g, 0, none⟩ (.slice (some ⟨b, 0, none⟩) n c)).setCell ⟨q, i, none⟩ (.int .i64 (-1))).alloc (.cells #[.int .i64 l.id, .int .i64 l.at_, .int .i64 l.seq] 65)) = w2 at *
    have HS : Hid (Stood w2 w2 g q (.slice (some ⟨b, 0, none⟩) n c) n p.length l j M N) := ⟨_, _, HB2.out, HH.out, by rw [List.length_take]; omega, by rw [List.length_set], Only.refl _ _⟩
    have hst := settle_c HS.out
    unfold Ent.val at hst
    refine hst.mono ?_
    clear hst
    rintro e w7 ⟨rfl, R7, p7, b1, b2, b3, b4, b5⟩
    have HB7 := Lib.hid b1
    have HF7 := Lib.hid b2
    have HO7 := Lib.hid b5
    clear b1 b2 b3 b4 b5
    go_wp2
    go_ret
    refine ⟨rfl, _, R7, p7, HB7.out, HF7.out, HO2.out.trans HO7.out fun k hk hf => ?_, fun k hk => .inl hk⟩
    exact hf.elim (fun hf => .inr (.inl hf)) fun hf => .inr (.inr hf)
  · obtain rfl : j = n := by omega
    have HH : Hid (Full (R.take j) (p.set i (-1)) M N) := by
      have h := HF.out.drop_last (y := y) (by rw [← HN.out]; exact HJ.out) HM.out
      rw [← HN.out, HI.out] at h
      exact h
    go_wp2
    go_ret
    exact ⟨rfl, _, _, _, HB2.out, HH.out, HO2.out, fun k hk => .inl hk⟩
end Go.Proofs.Ytpoolfnfboohjaa.HeapC
