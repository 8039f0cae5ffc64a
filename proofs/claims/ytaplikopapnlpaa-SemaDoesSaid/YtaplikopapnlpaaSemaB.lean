/-
  Package sema, as it landed, second part: who waits, who is given, and that it meets what the laws of layer 13 ask of it: 'theSg'. No condition.
-/
import Derived.Test.YtaplikopapnlpaaSemaA
namespace Go.Proofs.Ytaplikopapnlpaa.SemaA
open Go.ChangeShapes Go.WideShapes Go.ChangeAt Go.RowKit Mem MutP SemaP Hand RefMut Arena FitsC

section
variable {B : Nat → Prop} {w wk : World} {Rs : List Res} {p mb : Nat} {va : Value} {s : St}
set_option maxRecDepth 100000 in
theorem drop_s (h : Sep B w wk (oa p va mb s ++ Rs)) (hok : SemaP.Ok s) (t : Int) (ht : In64 t) (hw : t ∈ s.W ∨ t ∈ s.D) :
    Calls Try.prog 38 #[.pointer (some ⟨p, 0, none⟩), .int .i64 t] wk fun e wn => e = .returned (.tuple #[]) ∧ Sep B w wn (oa p va mb (dropS s t) ++ Rs) := by
  obtain ⟨_, _, c2, _⟩ := oa_c h
  have hd := a_drop h 1 rfl t
  rw [two_drop hok.once t] at hd
  have HL := drop_len hok.once hw
  have HIS : Hid ((wantF s t).isSome = true) := by show _ = _; rw [(wantF_get s t).2]; exact waits_iff.2 hw
  have HMP := Lib.hid (wantF_drop s t)
  obtain ⟨a, rfl⟩ := oa_ptr h
  have HD : Hid (Calls Try.prog 47 #[.pointer (some a), .int .i64 t] wk fun e wn => (∃ b, e = .returned (.bool b)) ∧ Sep B w wn (blk p (.cells #[.int .i64 s.C, .int .i64 s.H, .pointer (some a), .map (some mb)] 63 (0, 0)) :: ob aren (.pointer (some a)) ([withoutL s.W t, withoutL s.D t], s.N) :: mapf mb ((withoutL s.W t).length + (withoutL s.D t).length + 1) (wantF s) :: Rs)) := by
    refine hd.mono ?_
    rintro e wn ⟨rfl, h1⟩
    refine ⟨⟨_, rfl⟩, ?_⟩
    rw [← HL]
    exact h1
  have HT := Lib.hid ht
  clear h hd hok hw HL ht
  generalize hn : (withoutL s.W t).length + (withoutL s.D t).length = nn at *
  have HN := Lib.hid hn
  clear hn
  go_enter Try.func38, Try.ntmps38
  go_wp2_with fail
  refine HD.out.mono ?_
  rintro e w1 ⟨⟨b, rfl⟩, h1⟩
  have c3 := (cell_block (h1.blk_at 0 rfl) 3).trans rfl
  have S1 := Lib.hid h1
  clear h1 HD c2
  go_wp2_with (at_delete; refine wp_mdel rfl _ _ rfl rfl rfl S1.out 2 rfl HT.out HIS.out ?_)
  intro w2 h2
  have HF : Hid (Sep B w w2 (oa p (.pointer (some a)) mb (dropS s t) ++ Rs)) := by
    have h3 : Sep B w w2 (blk p (.cells #[.int .i64 s.C, .int .i64 s.H, .pointer (some a), .map (some mb)] 63 (0, 0)) :: ob aren (.pointer (some a)) ([withoutL s.W t, withoutL s.D t], s.N) :: mapf mb nn (updM (wantF s) t none) :: Rs) := h2
    rw [HMP.out, ← HN.out] at h3
    exact h3
  clear h2 S1 c3
  go_wp2
  go_end0
  exact ⟨rfl, HF.out⟩

set_option maxRecDepth 100000 in
/-- wait(row, t, n), of one who doesn't wait. -/
theorem wait_s (h : Sep B w wk (oa p va mb s ++ Rs)) (hok : SemaP.Ok s) (r : Int) (t n : Int) (hn : In64 n) (h0 : 0 ≤ t) (h1 : t < s.N) (hw : t ∉ s.W) (hd : t ∉ s.D) (hr : r = 0 ∨ r = 1) {s' : St} (hs' : s' = if r = 0 then { s with W := s.W ++ [t], g := updF s.g t n } else { s with D := s.D ++ [t], g := updF s.g t n }) :
    Calls Try.prog 32 #[.pointer (some ⟨p, 0, none⟩), .int .i64 r, .int .i64 t, .int .i64 n] wk fun e wn => e = .returned (.tuple #[]) ∧ Sep B w wn (oa p va mb s' ++ Rs) := by
  obtain ⟨_, _, c2, _⟩ := oa_c h
  have hp := a_put h 1 rfl r t
  have hlen := hok.len
  have hN := hok.n1
  have HT : Hid (In64 t) := ⟨by omega, by omega⟩
  have HV := Lib.hid hn
  obtain ⟨a, rfl⟩ := oa_ptr h
  have HFIN : Hid (∀ wn, Sep B w wn (blk p (.cells #[.int .i64 s.C, .int .i64 s.H, .pointer (some a), .map (some mb)] 63 (0, 0)) :: ob aren (.pointer (some a)) (RefRing.putL [s.W, s.D] s.N r t false, s.N) :: mapf mb (s.W.length + s.D.length + 1) (updM (wantF s) t (some n)) :: Rs) → Sep B w wn (oa p (.pointer (some a)) mb s' ++ Rs)) := by
    intro wn hs
    rcases hr with rfl | rfl
    · rw [if_pos rfl] at hs'
      rw [(two_put h0 h1 hw hd).1, wantF_w hw hd] at hs
      rw [hs']
      show Sep B w wn (_ :: _ :: mapf mb ((s.W ++ [t]).length + s.D.length) _ :: Rs)
      rw [show (s.W ++ [t]).length + s.D.length = s.W.length + s.D.length + 1 by simp; omega]
      exact hs
    · rw [if_neg (by omega)] at hs'
      rw [(two_put h0 h1 hw hd).2, wantF_d hw hd] at hs
      rw [hs']
      show Sep B w wn (_ :: _ :: mapf mb (s.W.length + (s.D ++ [t]).length) _ :: Rs)
      rw [show s.W.length + (s.D ++ [t]).length = s.W.length + s.D.length + 1 by simp; omega]
      exact hs
  have HP : Hid (Calls Try.prog 44 #[.pointer (some a), .int .i64 r, .int .i64 t] wk fun e wn => (∃ E, e = .returned (.int .i64 E)) ∧ Sep B w wn (blk p (.cells #[.int .i64 s.C, .int .i64 s.H, .pointer (some a), .map (some mb)] 63 (0, 0)) :: ob aren (.pointer (some a)) (RefRing.putL [s.W, s.D] s.N r t false, s.N) :: mapf mb (s.W.length + s.D.length) (wantF s) :: Rs)) := by
    refine hp.mono ?_
    rintro e wn ⟨rfl, h1⟩
    exact ⟨⟨_, rfl⟩, h1⟩
  have hn6 : s.W.length + s.D.length < 1000000 := by omega
  clear h hp hok hn hr hs' hw hd hN hlen h0 h1
  generalize s.W.length + s.D.length = nn at *
  go_enter Try.func32, Try.ntmps32
  go_wp2_with fail
  refine HP.out.mono ?_
  rintro e w1 ⟨⟨E, rfl⟩, h1⟩
  have c3 := (cell_block (h1.blk_at 0 rfl) 3).trans rfl
  have S1 := Lib.hid h1
  clear h1 HP c2
  go_wp2_with (at_mapUpdate; refine wp_mput rfl _ _ _ rfl rfl rfl rfl S1.out 2 rfl HT.out HV.out hn6 ?_)
  intro w2 h2
  have HF := Lib.hid (HFIN.out w2 h2)
  clear h2 S1 c3 HFIN
  go_wp2
  go_end0
  exact ⟨rfl, HF.out⟩

set_option maxRecDepth 100000 in
theorem try_s (h : Sep B w wk (oa p va mb s ++ Rs)) (hok : SemaP.Ok s) (t n : Int) (ht : In64 t) (hn : In64 n) :
    Calls Try.prog 23 #[.pointer (some ⟨p, 0, none⟩), .int .i64 t, .int .i64 n] wk fun e wn => e = .returned (.tuple #[.bool (askB s t n), .int .i64 (askE s t n)]) ∧ Sep B w wn (oa p va mb (askS s t n false) ++ Rs) := by
  obtain ⟨_, c1, c2, _⟩ := oa_c h
  have HM := Lib.hid (may_s h t n ht)
  have HF : Hid (∀ k, Calls Try.prog 35 #[.pointer (some ⟨p, 0, none⟩), .int .i64 n] (wk.drewN k) fun e wn => e = .returned (.bool (fitsv s.H n s.C)) ∧ ∃ k', wn = (wk.drewN k).drewN k') := fun k => fits_s (h.drewN k) hok n hn
  have HFI := Lib.hid (a_first h 1 rfl 0)
  rw [two_first] at HFI
  have HC := Lib.hid (SemaP.ask_cases s t n false)
  have S0 := Lib.hid h
  obtain ⟨a, rfl⟩ := oa_ptr h
  have h0 := hok.h0
  have h1 := hok.h1
  have h2 := hok.c1
  have HWS : Hid (∀ x ∈ s.W, 0 ≤ x) := fun x hx => (hok.ws x hx).1
  obtain ⟨E, hE⟩ : ∃ E, askE s t n = E := ⟨_, rfl⟩
  obtain ⟨Bo, hBo⟩ : ∃ Bo, askB s t n = Bo := ⟨_, rfl⟩
  obtain ⟨S2, hS2⟩ : ∃ S2, askS s t n false = S2 := ⟨_, rfl⟩
  simp only [hE, hBo, hS2] at HM HC ⊢
  clear hE hBo hS2 h hok ht
  rcases HC.out with ⟨hE, rfl, rfl⟩ | ⟨rfl, rfl, hW, hn0, hf, rfl⟩ | ⟨rfl, rfl, hW, hn0, _, hS2e⟩ | ⟨_, _, _, h, _⟩ | ⟨_, _, _, h, _⟩
  · have e1 : (E != 0) = true := by simpa using hE
    clear HC hE HF HFI HWS
    go_enter Try.func23, Try.ntmps23
    go_wp2_with fail
    refine HM.out.mono ?_
    rintro e w1 ⟨rfl, rfl⟩
    go_wp2
    go_ret2
    exact ⟨rfl, S0.out⟩
  · have hfv : fitsv s.H n s.C = true := fits_yes ⟨h0, hn0, hf⟩
    rw [hfv] at HF
    rw [hW] at HFI
    obtain ⟨z, hz⟩ : ∃ z, z = s.H + n := ⟨_, rfl⟩
    have hw1 : IntKind.i64.wrap (s.H + n) = z := by rw [hz]; exact IntWalk.i64_in _ (by omega)
    have HFN : Hid (∀ k, Sep B w ((wk.drewN k).setCell ⟨p, 1, none⟩ (.int .i64 z)) (oa p (.pointer (some a)) mb { s with H := s.H + n } ++ Rs)) := by
      intro k
      rw [← hz]
      exact (S0.out.drewN k).set 0 rfl 1 (.int .i64 z)
    have f1 : ∀ k, (wk.drewN k).frozen? ⟨p, 1, none⟩ = false := fun k => frozen_block ((S0.out.drewN k).blk_at 0 rfl) 1
    have F1 := Lib.hid f1
    have K1 : Hid (∀ k, (wk.drewN k).cell? ⟨p, 1, none⟩ = some (.int .i64 s.H)) := fun k => (cell_block ((S0.out.drewN k).blk_at 0 rfl) 1).trans rfl
    clear HC hfv hW hz S0 f1 HWS hf h0 h1
    generalize s.H = H at *
    go_enter Try.func23, Try.ntmps23
    go_wp2_with fail
    refine HM.out.mono ?_
    rintro e w1 ⟨rfl, rfl⟩
    go_wp2_with fail
    refine HFI.out.mono ?_
    rintro e w1 ⟨rfl, k, rfl⟩
    go_wp2_with fail
    refine (HF.out k).mono ?_
    rintro e w1 ⟨rfl, k', rfl⟩
    rw [World.drewN_drewN]
    have c1 := K1.out (k + k')
    have f1 := F1.out (k + k')
    have HR := Lib.hid (HFN.out (k + k'))
    clear HFN HF HFI HM K1 F1 c2
    generalize wk.drewN (k + k') = w5 at *
    go_wp2
    go_ret2
    exact ⟨rfl, HR.out⟩
  · rw [hS2e]
    have HB : Hid (∀ k, Sep B w (wk.drewN k) (oa p (.pointer (some a)) mb s ++ Rs)) := fun k => S0.out.drewN k
    clear hS2e
    by_cases hwn : s.W = []
    · have hfv : fitsv s.H n s.C = false := fits_no (.inr (by
        rcases hW with hW | hW
        · exact absurd hwn hW
        · exact hW))
      rw [hfv] at HF
      rw [hwn] at HFI
      clear HC hfv hW S0 HWS hwn
      go_enter Try.func23, Try.ntmps23
      go_wp2_with fail
      refine HM.out.mono ?_
      rintro e w1 ⟨rfl, rfl⟩
      go_wp2_with fail
      refine HFI.out.mono ?_
      rintro e w1 ⟨rfl, k, rfl⟩
      go_wp2_with fail
      refine (HF.out k).mono ?_
      rintro e w1 ⟨rfl, k', rfl⟩
      rw [World.drewN_drewN]
      go_wp2
      go_ret2
      exact ⟨rfl, HB.out _⟩
    · have hx : (s.W.headD (-1) != -1) = true := by
        cases hs : s.W with
        | nil => exact absurd hs hwn
        | cons x l =>
          have := HWS.out x (by rw [hs]; exact List.mem_cons_self ..)
          rw [List.headD_cons]
          simp
          omega
      clear HC hW S0 HWS hwn HF
      generalize s.W.headD (-1) = x at *
      go_enter Try.func23, Try.ntmps23
      go_wp2_with fail
      refine HM.out.mono ?_
      rintro e w1 ⟨rfl, rfl⟩
      go_wp2_with fail
      refine HFI.out.mono ?_
      rintro e w1 ⟨rfl, k, rfl⟩
      go_wp2
      go_ret2
      exact ⟨rfl, HB.out _⟩
  · cases h
  · cases h

set_option maxRecDepth 100000 in
theorem acquire_s (h : Sep B w wk (oa p va mb s ++ Rs)) (hok : SemaP.Ok s) (t n : Int) (ht : In64 t) (hn : In64 n) :
    Calls Try.prog 22 #[.pointer (some ⟨p, 0, none⟩), .int .i64 t, .int .i64 n] wk fun e wn => e = .returned (.tuple #[.bool (askB s t n), .int .i64 (askE s t n)]) ∧ Sep B w wn (oa p va mb (askS s t n true) ++ Rs) := by
  have HT := Lib.hid (try_s h hok t n ht hn)
  have HC := Lib.hid (SemaP.ask_cases s t n true)
  have HCF := Lib.hid (SemaP.ask_cases s t n false)
  have HZ : Hid (askE s t n = 0 → (0 ≤ t ∧ t < s.N) ∧ 0 ≤ n ∧ t ∉ s.W ∧ t ∉ s.D) := ask_zero
  have HO := Lib.hid hok
  have HV := Lib.hid hn
  obtain ⟨E, hE⟩ : ∃ E, askE s t n = E := ⟨_, rfl⟩
  obtain ⟨Bo, hBo⟩ : ∃ Bo, askB s t n = Bo := ⟨_, rfl⟩
  obtain ⟨S2, hS2⟩ : ∃ S2, askS s t n true = S2 := ⟨_, rfl⟩
  obtain ⟨S1, hS1⟩ : ∃ S1, askS s t n false = S1 := ⟨_, rfl⟩
  simp only [hE, hBo, hS2, hS1] at HT HC HCF HZ ⊢
  clear hE hBo hS2 hS1 h hok ht hn
  have go2 : (E ≠ 0 ∨ Bo = true) → S1 = S2 := fun hh => by
    rcases HC.out with ⟨h1, h2, h3⟩ | ⟨h1, h2, _, _, _, h3⟩ | ⟨_, _, _, _, h, _⟩ | ⟨h1, h2, _⟩ | ⟨h1, h2, _⟩
    · rcases HCF.out with ⟨_, _, e⟩ | ⟨e, _⟩ | ⟨e, _⟩ | ⟨e, _⟩ | ⟨e, _⟩
      · rw [h3, e]
      all_goals exact absurd e h1
    · rcases HCF.out with ⟨e, _⟩ | ⟨_, _, _, _, _, e⟩ | ⟨_, e, _⟩ | ⟨_, e, _⟩ | ⟨_, e, _⟩
      · exact absurd h1 e
      · rw [h3, e]
      all_goals rw [h2] at e; cases e
    · cases h
    all_goals
      rcases hh with hh | hh
      · exact absurd h1 hh
      · rw [h2] at hh; cases hh
  rcases (by by_cases e1 : E ≠ 0; exact .inl e1; exact .inr (by omega) : E ≠ 0 ∨ E = 0) with hE | rfl
  · obtain rfl := go2 (.inl hE)
    have hBf : Bo = false := by
      rcases HC.out with ⟨_, h2, _⟩ | ⟨h1, _⟩ | ⟨h1, _⟩ | ⟨h1, _⟩ | ⟨h1, _⟩
      · exact h2
      all_goals exact absurd h1 hE
    subst hBf
    have e1 : (E != 0) = true := by simpa using hE
    clear HC HCF HZ go2 hE
    go_enter Try.func22, Try.ntmps22
    go_wp2_with fail
    refine HT.out.mono ?_
    rintro e w1 ⟨rfl, h1⟩
    have H1 := Lib.hid h1
    clear h1 HT
    go_wp2
    go_ret2
    exact ⟨rfl, H1.out⟩
  · cases Bo with
    | true =>
      obtain rfl := go2 (.inr rfl)
      clear HC HCF HZ go2
      go_enter Try.func22, Try.ntmps22
      go_wp2_with fail
      refine HT.out.mono ?_
      rintro e w1 ⟨rfl, h1⟩
      have H1 := Lib.hid h1
      clear h1 HT
      go_wp2
      go_ret2
      exact ⟨rfl, H1.out⟩
    | false =>
      have hS1 : S1 = s := by
        rcases HCF.out with ⟨e, _⟩ | ⟨_, e, _⟩ | ⟨_, _, _, _, _, e⟩ | ⟨_, _, _, e, _⟩ | ⟨_, _, _, e, _⟩
        · exact absurd rfl e
        · cases e
        · exact e
        · cases e
        · cases e
      subst hS1
      obtain ⟨⟨t0, t1⟩, hn0, hw, hd⟩ := HZ.out rfl
      have HW0 : Hid (t ∉ S1.W) := hw
      have HD0 : Hid (t ∉ S1.D) := hd
      have HCC : Hid ((S1.C < n ∧ S2 = { S1 with D := S1.D ++ [t], g := updF S1.g t n }) ∨ (n ≤ S1.C ∧ S2 = { S1 with W := S1.W ++ [t], g := updF S1.g t n })) := by
        rcases HC.out with ⟨e, _⟩ | ⟨_, e, _⟩ | ⟨_, _, _, _, e, _⟩ | ⟨_, _, _, _, h1, e⟩ | ⟨_, _, _, _, _, h1, e⟩
        · exact absurd rfl e
        · cases e
        · cases e
        · exact .inl ⟨h1, e⟩
        · exact .inr ⟨h1, e⟩
      clear HC HCF HZ go2 hw hd
      rcases HCC.out with ⟨hC, hS⟩ | ⟨hC, hS⟩
      · have d1 : decide (n > S1.C) = true := decide_eq_true hC
        have HS := Lib.hid hS
        clear HCC hC hS
        go_enter Try.func22, Try.ntmps22
        go_wp2_with fail
        refine HT.out.mono ?_
        rintro e w1 ⟨rfl, h1⟩
        have c0 := (oa_c h1).1
        have HWT := Lib.hid (wait_s h1 HO.out 1 t n HV.out t0 t1 HW0.out HD0.out (.inr rfl) (s' := S2) (by rw [if_neg (by omega)]; exact HS.out))
        clear h1 HT t1
        generalize S1.C = C at *
        go_wp2_with fail
        refine HWT.out.mono ?_
        rintro e w2 ⟨rfl, h2⟩
        have H2 := Lib.hid h2
        clear h2 HWT
        go_wp2
        go_ret2
        exact ⟨rfl, H2.out⟩
      · have d1 : decide (n > S1.C) = false := decide_eq_false (by omega)
        have HS := Lib.hid hS
        clear HCC hC hS
        go_enter Try.func22, Try.ntmps22
        go_wp2_with fail
        refine HT.out.mono ?_
        rintro e w1 ⟨rfl, h1⟩
        have c0 := (oa_c h1).1
        have HWT := Lib.hid (wait_s h1 HO.out 0 t n HV.out t0 t1 HW0.out HD0.out (.inl rfl) (s' := S2) (by rw [if_pos rfl]; exact HS.out))
        clear h1 HT t1
        generalize S1.C = C at *
        go_wp2_with fail
        refine HWT.out.mono ?_
        rintro e w2 ⟨rfl, h2⟩
        have H2 := Lib.hid h2
        clear h2 HWT
        go_wp2
        go_ret2
        exact ⟨rfl, H2.out⟩
end
end Go.Proofs.Ytaplikopapnlpaa.SemaA
