/-
  Package team, as it landed, over its arena of two rows, first part: the small functions, and who asks. No condition.
-/
import Derived.Test.YtkgmcifianhogaaArena
import Derived.Test.YtkgmcifianhogaaFour
import Derived.Test.YtkgmcifianhogaaTeamI
import Derived.Deep.LoopGhost
namespace Go.Proofs.Ytkgmcifianhogaa.TeamA
open Go.ChangeShapes Go.WideShapes Go.ChangeAt Go.RowKit Mem MutP TeamP Hand RefMut Arena

/-! ### two rows, as plain mathematics -/
section
variable {C W : List Int} {N t : Int} {s : St}
theorem flat2 : [C, W].flatten = C ++ W := by simp
theorem two_first : RefRing.firstL [C, W] 0 = C.headD (-1) := by unfold RefRing.firstL; simp
theorem two_list : RefRing.listL [C, W] 0 = C ∧ RefRing.listL [C, W] 1 = W := by unfold RefRing.listL; exact ⟨by simp, by simp⟩
theorem two_drop (h : (C ++ W).Nodup) (t : Int) : RefRing.dropL [C, W] t = [withoutL C t, withoutL W t] := by
  rw [Rows4.drop_map (by rw [flat2]; exact h)]
  rfl
theorem two_put (h0 : 0 ≤ t) (h1 : t < N) (hc : t ∉ C) (hw : t ∉ W) : (RefRing.putE [C, W] N 0 t = 0 ∧ RefRing.putL [C, W] N 0 t false = [C ++ [t], W]) ∧ (RefRing.putE [C, W] N 1 t = 0 ∧ RefRing.putL [C, W] N 1 t false = [C, W ++ [t]]) := by
  have hno : ∀ l ∈ [C, W], t ∉ l := by
    intro l hl
    simp only [List.mem_cons, List.not_mem_nil, or_false] at hl
    rcases hl with rfl | rfl
    · exact hc
    · exact hw
  exact ⟨Rows4.put_all (L := [C, W]) (N := N) 0 (by simp) ⟨h0, h1⟩ hno, Rows4.put_all (L := [C, W]) (N := N) 1 (by simp) ⟨h0, h1⟩ hno⟩
theorem two_in (h : (s.C ++ s.W).Nodup) (t : Int) : (RefRing.inL [s.C, s.W] t = -1 ∧ TeamP.waitsB s t = false) ∨ (0 ≤ RefRing.inL [s.C, s.W] t ∧ TeamP.waitsB s t = true) := by
  by_cases hc : t ∈ s.C
  · refine .inr ⟨?_, waits_iff.2 (.inl hc)⟩
    rw [Rows4.in_at (L := [s.C, s.W]) (x := t) (by rw [flat2]; exact h) (i := 0) (by simp) hc]
    omega
  · by_cases hw : t ∈ s.W
    · refine .inr ⟨?_, waits_iff.2 (.inr hw)⟩
      rw [Rows4.in_at (L := [s.C, s.W]) (x := t) (by rw [flat2]; exact h) (i := 1) (by simp) hw]
      omega
    · refine .inl ⟨Rows4.in_none fun l hl => ?_, ?_⟩
      · simp only [List.mem_cons, List.not_mem_nil, or_false] at hl
        rcases hl with rfl | rfl
        · exact hc
        · exact hw
      · have : ¬ TeamP.waitsB s t = true := fun e => by
          rcases waits_iff.1 e with e | e
          · exact hc e
          · exact hw e
        simpa using this
/-- Who comes first, if somebody does. -/
def topC : List Int → Int
  | [] => -1
  | x :: _ => x
theorem topC_nil : topC [] = -1 := rfl
theorem topC_cons (x : Int) (l : List Int) : topC (x :: l) = x := rfl
theorem topC_is (l : List Int) : l.headD (-1) = topC l := by cases l <;> rfl
end

/-- A team: its own block, and its arena of two rows. -/
def oa (g : Nat) (va : Value) (s : St) : List Res := [blk g (.cells #[.int .i64 s.L, .int .i64 s.A, .int .i64 s.E, va] 62 (0, 0)), ob aren va ([s.C, s.W], s.N)]

section
variable {B : Nat → Prop} {w wk : World} {Rs : List Res} {g : Nat} {va : Value} {s : St}
theorem oa_ptr (h : Sep B w wk (oa g va s ++ Rs)) : ∃ a, va = .pointer (some a) := ob_ptr (O := aren) h 1 rfl
theorem oa_c (h : Sep B w wk (oa g va s ++ Rs)) : wk.cell? ⟨g, 0, none⟩ = some (.int .i64 s.L) ∧ wk.cell? ⟨g, 1, none⟩ = some (.int .i64 s.A) ∧ wk.cell? ⟨g, 2, none⟩ = some (.int .i64 s.E) ∧ wk.cell? ⟨g, 3, none⟩ = some va :=
  ⟨(cell_block (h.blk_at 0 rfl) 0).trans rfl, (cell_block (h.blk_at 0 rfl) 1).trans rfl, (cell_block (h.blk_at 0 rfl) 2).trans rfl, (cell_block (h.blk_at 0 rfl) 3).trans rfl⟩
theorem oa_f (h : Sep B w wk (oa g va s ++ Rs)) : wk.frozen? ⟨g, 0, none⟩ = false ∧ wk.frozen? ⟨g, 1, none⟩ = false ∧ wk.frozen? ⟨g, 2, none⟩ = false := ⟨frozen_block (h.blk_at 0 rfl) 0, frozen_block (h.blk_at 0 rfl) 1, frozen_block (h.blk_at 0 rfl) 2⟩

set_option maxRecDepth 100000 in
theorem lim_s (h : Sep B w wk (oa g va s ++ Rs)) :
    Calls Try.prog 18 #[.pointer (some ⟨g, 0, none⟩)] wk fun e wn => e = .returned (.int .i64 s.L) ∧ wk = wn := by
  obtain ⟨c0, _, _, _⟩ := oa_c h
  clear h
  generalize s.L = L at *
  go_enter Try.func18, Try.ntmps18
  go_wp2
  go_ret
  exact ⟨rfl, rfl⟩
set_option maxRecDepth 100000 in
theorem active_s (h : Sep B w wk (oa g va s ++ Rs)) :
    Calls Try.prog 19 #[.pointer (some ⟨g, 0, none⟩)] wk fun e wn => e = .returned (.int .i64 s.A) ∧ wk = wn := by
  obtain ⟨_, c1, _, _⟩ := oa_c h
  clear h
  generalize s.A = A at *
  go_enter Try.func19, Try.ntmps19
  go_wp2
  go_ret
  exact ⟨rfl, rfl⟩
set_option maxRecDepth 100000 in
theorem first_s (h : Sep B w wk (oa g va s ++ Rs)) :
    Calls Try.prog 20 #[.pointer (some ⟨g, 0, none⟩)] wk fun e wn => e = .returned (.int .i64 s.E) ∧ wk = wn := by
  obtain ⟨_, _, c2, _⟩ := oa_c h
  clear h
  generalize s.E = E at *
  go_enter Try.func20, Try.ntmps20
  go_wp2
  go_ret
  exact ⟨rfl, rfl⟩
set_option maxRecDepth 100000 in
theorem idle_s (h : Sep B w wk (oa g va s ++ Rs)) {b : Bool} (hb : (s.A == 0) = b) :
    Calls Try.prog 32 #[.pointer (some ⟨g, 0, none⟩)] wk fun e wn => e = .returned (.bool b) ∧ wk = wn := by
  obtain ⟨_, c1, _, _⟩ := oa_c h
  subst hb
  clear h
  generalize s.A = A at *
  go_enter Try.func32, Try.ntmps32
  go_wp2
  go_ret
  exact ⟨rfl, rfl⟩
set_option maxRecDepth 100000 in
theorem has_s (h : Sep B w wk (oa g va s ++ Rs)) (t : Int) :
    Calls Try.prog 47 #[.pointer (some ⟨g, 0, none⟩), .int .i64 t] wk fun e wn => e = .returned (.bool (nameM s.N t)) ∧ wk = wn := by
  obtain ⟨_, _, _, c3⟩ := oa_c h
  have HA := Lib.hid (a_nodes h 1 rfl)
  obtain ⟨a, rfl⟩ := oa_ptr h
  clear h
  generalize s.N = N at *
  rcases (by omega : t < 0 ∨ (0 ≤ t ∧ t < N) ∨ (0 ≤ t ∧ N ≤ t)) with h1 | ⟨h1, h2⟩ | ⟨h1, h2⟩
  · have HE : Hid (nameM N t = false) := by show _ = _; unfold nameM; exact decide_eq_false (by omega)
    have d0 : decide (t ≥ 0) = false := by simp; omega
    go_enter Try.func47, Try.ntmps47
    go_wp2
    go_ret
    exact ⟨ret_bool HE.out.symm, rfl⟩
  · have HE : Hid (nameM N t = true) := name_iff.2 ⟨h1, h2⟩
    go_enter Try.func47, Try.ntmps47
    go_wp2_with fail
    refine HA.out.mono ?_
    rintro e w1 ⟨rfl, rfl⟩
    go_wp2
    go_ret
    exact ⟨ret_bool HE.out.symm, rfl⟩
  · have HE : Hid (nameM N t = false) := by show _ = _; unfold nameM; exact decide_eq_false (by omega)
    have d1 : decide (t < N) = false := by simp; omega
    go_enter Try.func47, Try.ntmps47
    go_wp2_with fail
    refine HA.out.mono ?_
    rintro e w1 ⟨rfl, rfl⟩
    go_wp2
    go_ret
    exact ⟨ret_bool HE.out.symm, rfl⟩
set_option maxRecDepth 100000 in
theorem may_s (h : Sep B w wk (oa g va s ++ Rs)) (hok : TeamP.Ok s) (t : Int) :
    Calls Try.prog 43 #[.pointer (some ⟨g, 0, none⟩), .int .i64 t] wk fun e wn => e = .returned (.int .i64 (askE s t)) ∧ wk = wn := by
  have HN := Lib.hid (has_s h t)
  have HI := Lib.hid (a_in h 1 rfl t)
  obtain ⟨_, _, _, c3⟩ := oa_c h
  have HT := Lib.hid (two_in hok.once t)
  have HE := Lib.hid (ask_errs s t)
  obtain ⟨a, rfl⟩ := oa_ptr h
  clear h hok
  generalize askE s t = E at *
  generalize RefRing.inL [s.C, s.W] t = q at *
  rcases HE.out with ⟨rfl, e1⟩ | ⟨rfl, e1, e2⟩ | ⟨rfl, e1, e2⟩
  · rw [e1] at HN
    clear HE HT HI e1
    go_enter Try.func43, Try.ntmps43
    go_wp2_with fail
    refine HN.out.mono ?_
    rintro e w1 ⟨rfl, rfl⟩
    go_wp2
    go_ret
    exact ⟨rfl, rfl⟩
  · rw [e1] at HN
    have hq : (q != -1) = true := by
      rcases HT.out with ⟨_, h⟩ | ⟨h, _⟩
      · rw [e2] at h; cases h
      · simp; omega
    clear HE HT e1 e2
    go_enter Try.func43, Try.ntmps43
    go_wp2_with fail
    refine HN.out.mono ?_
    rintro e w1 ⟨rfl, rfl⟩
    go_wp2_with fail
    refine HI.out.mono ?_
    rintro e w1 ⟨rfl, rfl⟩
    go_wp2
    go_ret
    exact ⟨rfl, rfl⟩
  · rw [e1] at HN
    obtain rfl : q = -1 := by
      rcases HT.out with ⟨h, _⟩ | ⟨_, h⟩
      · exact h
      · rw [e2] at h; cases h
    clear HE HT e1 e2
    go_enter Try.func43, Try.ntmps43
    go_wp2_with fail
    refine HN.out.mono ?_
    rintro e w1 ⟨rfl, rfl⟩
    go_wp2_with fail
    refine HI.out.mono ?_
    rintro e w1 ⟨rfl, rfl⟩
    go_wp2
    go_ret
    exact ⟨rfl, rfl⟩
set_option maxRecDepth 100000 in
set_option maxHeartbeats 1000000 in
theorem try_s (h : Sep B w wk (oa g va s ++ Rs)) (hok : TeamP.Ok s) (hA : s.A ≤ 1000000) {b : Bool} {s' : St} (hb : tryB s = b) (hs : tryS s = s') :
    Calls Try.prog 25 #[.pointer (some ⟨g, 0, none⟩)] wk fun e wn => e = .returned (.bool b) ∧ Sep B w wn (oa g va s' ++ Rs) := by
  subst hb hs
  have S0 := Lib.hid h
  have HC := Lib.hid (try_cases s)
  have ha := hok.a0
  have hl0 := hok.l0
  obtain ⟨c0, c1, _, _⟩ := oa_c h
  obtain ⟨_, f1, _⟩ := oa_f h
  clear h hok
  rcases HC.out with ⟨h1, g1, g2⟩ | ⟨⟨h1, h2⟩, g1, g2⟩
  · rw [g1, g2]
    obtain ⟨z, hz⟩ : ∃ z, z = s.A + 1 := ⟨_, rfl⟩
    have hw1 : IntKind.i64.wrap (s.A + 1) = z := by rw [hz]; exact IntWalk.i64_in _ (by omega)
    rw [← hz]
    have HS : Hid (∀ k, Sep B w ((wk.drewN k).setCell ⟨g, 1, none⟩ (.int .i64 z)) (oa g va { s with A := z } ++ Rs)) := fun k => (S0.out.drewN k).set 0 rfl 1 (.int .i64 z)
    clear HC g1 g2 hz S0
    rcases (by omega : s.L = -1 ∨ (0 ≤ s.L ∧ s.A < s.L)) with h | ⟨h, h3⟩
    · rw [h] at c0
      clear h1 hl0 h
      generalize s.A = a at *
      go_enter Try.func25, Try.ntmps25
      go_upto_region 1 with (fail)
      go_quiet ((fail))
      go_wp2
      go_ret
      exact ⟨rfl, HS.out _⟩
    · have d1 : (s.L != -1) = true := by simp; omega
      have d2 : decide (s.L ≤ s.A) = false := decide_eq_false (by omega)
      clear h1 hl0
      generalize s.L = l at *
      generalize s.A = a at *
      go_enter Try.func25, Try.ntmps25
      go_upto_region 1 with (fail)
      go_quiet ((fail))
      go_wp2
      go_ret
      exact ⟨rfl, HS.out _⟩
  · rw [g1, g2]
    have HS : Hid (∀ k, Sep B w (wk.drewN k) (oa g va s ++ Rs)) := fun k => S0.out.drewN k
    have d1 : (s.L != -1) = true := by simp; omega
    have d2 : decide (s.L ≤ s.A) = true := decide_eq_true h2
    clear HC g1 g2 S0
    generalize s.L = l at *
    generalize s.A = a at *
    go_enter Try.func25, Try.ntmps25
    go_upto_region 1 with (fail)
    go_quiet ((fail))
    go_wp2
    go_ret
    exact ⟨rfl, HS.out _⟩
set_option maxRecDepth 100000 in
theorem leave_s (h : Sep B w wk (oa g va s ++ Rs)) (hok : TeamP.Ok s) (t : Int) :
    Calls Try.prog 27 #[.pointer (some ⟨g, 0, none⟩), .int .i64 t] wk fun e wn => e = .returned (.bool (TeamP.waitsB s t)) ∧ Sep B w wn (oa g va (lvS s t) ++ Rs) := by
  obtain ⟨_, _, _, c3⟩ := oa_c h
  have hd := a_drop h 1 rfl t
  have hb : decide (0 ≤ RefRing.inL [s.C, s.W] t) = TeamP.waitsB s t := by
    rcases two_in hok.once t with ⟨h1, h2⟩ | ⟨h1, h2⟩
    · rw [h1, h2]; rfl
    · rw [h2, decide_eq_true h1]
  rw [two_drop hok.once, hb] at hd
  obtain ⟨a, rfl⟩ := oa_ptr h
  have HD : Hid (Calls Try.prog 38 #[.pointer (some a), .int .i64 t] wk fun e wn => e = .returned (.bool (TeamP.waitsB s t)) ∧ Sep B w wn (oa g (.pointer (some a)) (lvS s t) ++ Rs)) := hd
  clear h hd hb hok
  generalize TeamP.waitsB s t = bo at *
  go_enter Try.func27, Try.ntmps27
  go_wp2_with fail
  refine HD.out.mono ?_
  rintro e w1 ⟨rfl, h1⟩
  have H1 := Lib.hid h1
  clear h1 HD
  go_wp2
  go_ret
  exact ⟨rfl, H1.out⟩
end
end Go.Proofs.Ytkgmcifianhogaa.TeamA
