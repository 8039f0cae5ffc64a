/-
  Package team, as it landed, second part: who asks, a limit that is set, what ends. No condition.
-/
import Derived.Test.YtkgmcifianhogaaTeamA
namespace Go.Proofs.Ytkgmcifianhogaa.TeamA
open Go.ChangeShapes Go.WideShapes Go.ChangeAt Go.RowKit Mem MutP TeamP Hand RefMut Arena

section
variable {B : Nat → Prop} {w wk : World} {Rs : List Res} {g : Nat} {va : Value} {s : St}
theorem put_s (h : Sep B w wk (oa g va s ++ Rs)) (t : Int) (h0 : 0 ≤ t) (h1 : t < s.N) (hc : t ∉ s.C) (hw : t ∉ s.W) :
    (Calls Try.prog 44 #[va, .int .i64 0, .int .i64 t] wk fun e wn => e = .returned (.int .i64 0) ∧ Sep B w wn (oa g va { s with C := s.C ++ [t] } ++ Rs)) ∧
    (Calls Try.prog 44 #[va, .int .i64 1, .int .i64 t] wk fun e wn => e = .returned (.int .i64 0) ∧ Sep B w wn (oa g va { s with W := s.W ++ [t] } ++ Rs)) := by
  have hp0 := a_put h 1 rfl 0 t
  have hp1 := a_put h 1 rfl 1 t
  obtain ⟨⟨e0, p0⟩, e1, p1⟩ := two_put h0 h1 hc hw
  rw [e0, p0] at hp0
  rw [e1, p1] at hp1
  exact ⟨hp0, hp1⟩

set_option maxRecDepth 100000 in
theorem askGo_s (h : Sep B w wk (oa g va s ++ Rs)) (hok : TeamP.Ok s) (t : Int) {b : Bool} {s1 : St} (HF0 : Calls Try.prog 25 #[.pointer (some ⟨g, 0, none⟩)] wk fun e wn => e = .returned (.bool b) ∧ Sep B w wn (oa g va s1 ++ Rs)) {bo : Bool} {s' : St}
    (hq : (askE s t ≠ 0 ∧ bo = false ∧ s' = s) ∨ (askE s t = 0 ∧ b = true ∧ bo = true ∧ s' = s1) ∨ (askE s t = 0 ∧ b = false ∧ bo = false ∧ s1 = s ∧ s' = { s with C := s.C ++ [t] })) :
    Calls Try.prog 34 #[.pointer (some ⟨g, 0, none⟩), .int .i64 t, .func (.func 25) #[.pointer (some ⟨g, 0, none⟩)] #[], .int .i64 0] wk fun e wn => e = .returned (.tuple #[.bool bo, .int .i64 (askE s t)]) ∧ Sep B w wn (oa g va s' ++ Rs) := by
  have HM := Lib.hid (may_s h hok t)
  have HF := Lib.hid HF0
  have H0 := Lib.hid h
  have HZ : Hid (askE s t = 0 → (0 ≤ t ∧ t < s.N) ∧ t ∉ s.C ∧ t ∉ s.W) := ask_zero
  obtain ⟨a, rfl⟩ := oa_ptr h
  clear h hok HF0
  generalize askE s t = E at *
  rcases hq with ⟨hE, rfl, rfl⟩ | ⟨rfl, rfl, rfl, rfl⟩ | ⟨rfl, rfl, rfl, rfl, rfl⟩
  · have e1 : (E != 0) = true := by simpa using hE
    clear HF HZ hE
    go_enter Try.func34, Try.ntmps34
    go_wp2_with fail
    refine HM.out.mono ?_
    rintro e w1 ⟨rfl, rfl⟩
    go_wp2
    go_ret2
    exact ⟨rfl, H0.out⟩
  · clear HZ H0
    go_enter Try.func34, Try.ntmps34
    go_wp2_with fail
    refine HM.out.mono ?_
    rintro e w1 ⟨rfl, rfl⟩
    go_wp2_with fail
    refine HF.out.mono ?_
    rintro e w1 ⟨rfl, h1⟩
    have H1 := Lib.hid h1
    clear h1 HF HM
    go_wp2
    go_ret2
    exact ⟨rfl, H1.out⟩
  · obtain ⟨⟨t0, t1⟩, hc, hw⟩ := HZ.out rfl
    have HP : Hid (∀ w1, Sep B w w1 (oa g (.pointer (some a)) s1 ++ Rs) → Calls Try.prog 44 #[.pointer (some a), .int .i64 0, .int .i64 t] w1 fun e wn => e = .returned (.int .i64 0) ∧ Sep B w wn (oa g (.pointer (some a)) { s1 with C := s1.C ++ [t] } ++ Rs)) := fun w1 h1 => (put_s h1 t t0 t1 hc hw).1
    clear HZ H0 t0 t1 hc hw
    go_enter Try.func34, Try.ntmps34
    go_wp2_with fail
    refine HM.out.mono ?_
    rintro e w1 ⟨rfl, rfl⟩
    go_wp2_with fail
    refine HF.out.mono ?_
    rintro e w1 ⟨rfl, h1⟩
    have c3 := (oa_c h1).2.2.2
    have HP1 := Lib.hid (HP.out w1 h1)
    clear h1 HF HM HP
    go_wp2_with fail
    refine HP1.out.mono ?_
    rintro e w2 ⟨rfl, h2⟩
    have H2 := Lib.hid h2
    clear h2 HP1 c3
    go_wp2
    go_ret2
    exact ⟨rfl, H2.out⟩

set_option maxRecDepth 100000 in
theorem askWait_s (h : Sep B w wk (oa g va s ++ Rs)) (hok : TeamP.Ok s) (t : Int) {b : Bool} {s1 : St} (HF0 : Calls Try.prog 32 #[.pointer (some ⟨g, 0, none⟩)] wk fun e wn => e = .returned (.bool b) ∧ Sep B w wn (oa g va s1 ++ Rs)) {bo : Bool} {s' : St}
    (hq : (askE s t ≠ 0 ∧ bo = false ∧ s' = s) ∨ (askE s t = 0 ∧ b = true ∧ bo = true ∧ s' = s1) ∨ (askE s t = 0 ∧ b = false ∧ bo = false ∧ s1 = s ∧ s' = { s with W := s.W ++ [t] })) :
    Calls Try.prog 34 #[.pointer (some ⟨g, 0, none⟩), .int .i64 t, .func (.func 32) #[.pointer (some ⟨g, 0, none⟩)] #[], .int .i64 1] wk fun e wn => e = .returned (.tuple #[.bool bo, .int .i64 (askE s t)]) ∧ Sep B w wn (oa g va s' ++ Rs) := by
  have HM := Lib.hid (may_s h hok t)
  have HF := Lib.hid HF0
  have H0 := Lib.hid h
  have HZ : Hid (askE s t = 0 → (0 ≤ t ∧ t < s.N) ∧ t ∉ s.C ∧ t ∉ s.W) := ask_zero
  obtain ⟨a, rfl⟩ := oa_ptr h
  clear h hok HF0
  generalize askE s t = E at *
  rcases hq with ⟨hE, rfl, rfl⟩ | ⟨rfl, rfl, rfl, rfl⟩ | ⟨rfl, rfl, rfl, rfl, rfl⟩
  · have e1 : (E != 0) = true := by simpa using hE
    clear HF HZ hE
    go_enter Try.func34, Try.ntmps34
    go_wp2_with fail
    refine HM.out.mono ?_
    rintro e w1 ⟨rfl, rfl⟩
    go_wp2
    go_ret2
    exact ⟨rfl, H0.out⟩
  · clear HZ H0
    go_enter Try.func34, Try.ntmps34
    go_wp2_with fail
    refine HM.out.mono ?_
    rintro e w1 ⟨rfl, rfl⟩
    go_wp2_with fail
    refine HF.out.mono ?_
    rintro e w1 ⟨rfl, h1⟩
    have H1 := Lib.hid h1
    clear h1 HF HM
    go_wp2
    go_ret2
    exact ⟨rfl, H1.out⟩
  · obtain ⟨⟨t0, t1⟩, hc, hw⟩ := HZ.out rfl
    have HP : Hid (∀ w1, Sep B w w1 (oa g (.pointer (some a)) s1 ++ Rs) → Calls Try.prog 44 #[.pointer (some a), .int .i64 1, .int .i64 t] w1 fun e wn => e = .returned (.int .i64 0) ∧ Sep B w wn (oa g (.pointer (some a)) { s1 with W := s1.W ++ [t] } ++ Rs)) := fun w1 h1 => (put_s h1 t t0 t1 hc hw).2
    clear HZ H0 t0 t1 hc hw
    go_enter Try.func34, Try.ntmps34
    go_wp2_with fail
    refine HM.out.mono ?_
    rintro e w1 ⟨rfl, rfl⟩
    go_wp2_with fail
    refine HF.out.mono ?_
    rintro e w1 ⟨rfl, h1⟩
    have c3 := (oa_c h1).2.2.2
    have HP1 := Lib.hid (HP.out w1 h1)
    clear h1 HF HM HP
    go_wp2_with fail
    refine HP1.out.mono ?_
    rintro e w2 ⟨rfl, h2⟩
    have H2 := Lib.hid h2
    clear h2 HP1 c3
    go_wp2
    go_ret2
    exact ⟨rfl, H2.out⟩

set_option maxRecDepth 100000 in
theorem go_s (h : Sep B w wk (oa g va s ++ Rs)) (hok : TeamP.Ok s) (hA : s.A ≤ 1000000) (t : Int) :
    Calls Try.prog 23 #[.pointer (some ⟨g, 0, none⟩), .int .i64 t] wk fun e wn => e = .returned (.tuple #[.bool (goB s t), .int .i64 (askE s t)]) ∧ Sep B w wn (oa g va (goS s t) ++ Rs) := by
  have HK : Hid (Calls Try.prog 34 #[.pointer (some ⟨g, 0, none⟩), .int .i64 t, .func (.func 25) #[.pointer (some ⟨g, 0, none⟩)] #[], .int .i64 0] wk fun e wn => e = .returned (.tuple #[.bool (goB s t), .int .i64 (askE s t)]) ∧ Sep B w wn (oa g va (goS s t) ++ Rs)) := by
    refine askGo_s h hok t (try_s h hok hA rfl rfl) ?_
    rcases go_cases s t with ⟨e1, e2, e3⟩ | ⟨e1, e2, e3, e4⟩ | ⟨e1, e2, e3, e4⟩
    · exact .inl ⟨e1, e2, e3⟩
    · rcases try_cases s with ⟨_, q1, q2⟩ | ⟨q0, _⟩
      · exact .inr (.inl ⟨e1, q1, e3, by rw [e4, q2]⟩)
      · omega
    · rcases try_cases s with ⟨q0, _⟩ | ⟨_, q1, q2⟩
      · omega
      · exact .inr (.inr ⟨e1, q1, e3, q2, e4⟩)
  clear h hok hA
  generalize goB s t = b at *
  generalize askE s t = E at *
  generalize goS s t = s' at *
  go_enter Try.func23, Try.ntmps23
  go_wp2_with fail
  refine HK.out.mono ?_
  rintro e w1 ⟨rfl, h1⟩
  have H1 := Lib.hid h1
  clear h1 HK
  go_wp2
  go_ret2
  exact ⟨rfl, H1.out⟩
set_option maxRecDepth 100000 in
theorem wait_s (h : Sep B w wk (oa g va s ++ Rs)) (hok : TeamP.Ok s) (t : Int) :
    Calls Try.prog 24 #[.pointer (some ⟨g, 0, none⟩), .int .i64 t] wk fun e wn => e = .returned (.tuple #[.bool (wtB s t), .int .i64 (askE s t)]) ∧ Sep B w wn (oa g va (wtS s t) ++ Rs) := by
  have HK : Hid (Calls Try.prog 34 #[.pointer (some ⟨g, 0, none⟩), .int .i64 t, .func (.func 32) #[.pointer (some ⟨g, 0, none⟩)] #[], .int .i64 1] wk fun e wn => e = .returned (.tuple #[.bool (wtB s t), .int .i64 (askE s t)]) ∧ Sep B w wn (oa g va (wtS s t) ++ Rs)) := by
    refine askWait_s h hok t (b := s.A == 0) (s1 := s) ((idle_s h rfl).mono ?_) ?_
    · rintro e wn ⟨rfl, rfl⟩
      exact ⟨rfl, h⟩
    rcases wt_cases s t with ⟨e1, e2, e3⟩ | ⟨e1, e2, e3, e4⟩ | ⟨e1, e2, e3, e4⟩
    · exact .inl ⟨e1, e2, e3⟩
    · exact .inr (.inl ⟨e1, by simpa using e2, e3, e4⟩)
    · exact .inr (.inr ⟨e1, by simpa using e2, e3, rfl, e4⟩)
  clear h hok
  generalize wtB s t = b at *
  generalize askE s t = E at *
  generalize wtS s t = s' at *
  go_enter Try.func24, Try.ntmps24
  go_wp2_with fail
  refine HK.out.mono ?_
  rintro e w1 ⟨rfl, h1⟩
  have H1 := Lib.hid h1
  clear h1 HK
  go_wp2
  go_ret2
  exact ⟨rfl, H1.out⟩

set_option maxRecDepth 100000 in
theorem limit_s (h : Sep B w wk (oa g va s ++ Rs)) (hok : TeamP.Ok s) (n : Int) :
    Calls Try.prog 22 #[.pointer (some ⟨g, 0, none⟩), .int .i64 n] wk fun e wn => e = .returned (.int .i64 (limE s)) ∧ Sep B w wn (oa g va (limS s n) ++ Rs) := by
  have HD := Lib.hid (idle_s h rfl)
  have HF := Lib.hid (a_first h 1 rfl 0)
  rw [two_first, topC_is] at HF
  have H0 := Lib.hid h
  have HC := Lib.hid (lim_cases s n)
  have HWS : Hid (∀ x ∈ s.C, 0 ≤ x) := fun x hx => (hok.cs x hx).1
  obtain ⟨c0, _, _, c3⟩ := oa_c h
  obtain ⟨f0, _, _⟩ := oa_f h
  obtain ⟨a, rfl⟩ := oa_ptr h
  clear h hok
  obtain ⟨E, hE⟩ : ∃ E, limE s = E := ⟨_, rfl⟩
  obtain ⟨s', hs'⟩ : ∃ s', limS s n = s' := ⟨_, rfl⟩
  simp only [hE, hs'] at HC ⊢
  clear hE hs'
  by_cases hA : s.A = 0
  · have e1 : (s.A == 0) = true := by simpa using hA
    rw [e1] at HD
    by_cases hC : s.C = []
    · have HQ : Hid (E = 0 ∧ s' = { s with L := if n < 0 then -1 else n }) := by
        rcases HC.out with ⟨h, _⟩ | ⟨_, _, q1, q2⟩
        · rcases h with h | h
          · exact absurd hA h
          · exact absurd hC h
        · exact ⟨q1, q2⟩
      have HH : Hid (∀ k m, m = (if n < 0 then -1 else n) → Sep B w ((wk.drewN k).setCell ⟨g, 0, none⟩ (.int .i64 m)) (oa g (.pointer (some a)) { s with L := if n < 0 then -1 else n } ++ Rs)) := fun k m hm => by
        rw [← hm]
        exact (H0.out.drewN k).set 0 rfl 0 (.int .i64 m)
      rw [hC, topC_nil] at HF
      clear HC HWS hA hC e1 H0
      generalize s.L = l at *
      go_enter Try.func22, Try.ntmps22
      go_wp2_with fail
      refine HD.out.mono ?_
      rintro e w1 ⟨rfl, rfl⟩
      go_wp2_with fail
      refine HF.out.mono ?_
      rintro e w1 ⟨rfl, k, rfl⟩
      go_wp2
      all_goals
        go_ret
        obtain ⟨rfl, rfl⟩ := HQ.out
        exact ⟨rfl, HH.out _ _ (by split <;> omega)⟩
    · have HQ : Hid (E = 5 ∧ s' = s) := by
        rcases HC.out with ⟨_, q⟩ | ⟨_, q, _⟩
        · exact q
        · exact absurd q hC
      have HH : Hid (∀ k, Sep B w (wk.drewN k) (oa g (.pointer (some a)) s ++ Rs)) := fun k => H0.out.drewN k
      have hx : (topC s.C != -1) = true := by
        cases hs : s.C with
        | nil => exact absurd hs hC
        | cons x l =>
          have := HWS.out x (by rw [hs]; exact List.mem_cons_self ..)
          rw [topC_cons]
          simp
          omega
      clear HC HWS hA hC e1 H0
      generalize topC s.C = x at *
      go_enter Try.func22, Try.ntmps22
      go_wp2_with fail
      refine HD.out.mono ?_
      rintro e w1 ⟨rfl, rfl⟩
      go_wp2_with fail
      refine HF.out.mono ?_
      rintro e w1 ⟨rfl, k, rfl⟩
      go_wp2
      go_ret
      obtain ⟨rfl, rfl⟩ := HQ.out
      exact ⟨rfl, HH.out _⟩
  · have HQ : Hid (E = 5 ∧ s' = s) := by
      rcases HC.out with ⟨_, q⟩ | ⟨q, _⟩
      · exact q
      · exact absurd q hA
    have e1 : (s.A == 0) = false := by simpa using hA
    rw [e1] at HD
    clear HC HWS hA e1 HF
    go_enter Try.func22, Try.ntmps22
    go_wp2_with fail
    refine HD.out.mono ?_
    rintro e w1 ⟨rfl, rfl⟩
    go_wp2
    go_ret
    obtain ⟨rfl, rfl⟩ := HQ.out
    exact ⟨rfl, H0.out⟩
end
end Go.Proofs.Ytkgmcifianhogaa.TeamA
