/-
  Contracts of the functions of package countermandref13 (the document's answer for layer 13), third part: Acquire, Release. Condition: the semaphore is at hand.
-/
import Derived.Test.YtaplikopapnlpaaRefSemaB
namespace Go.Proofs.Ytaplikopapnlpaa.RefSema
open Go.ChangeShapes Go.WideShapes Go.ChangeAt Go.RowKit Mem MutP SemaP Hand RefMut FitsC

theorem perm_d (a b c d e : Res) (Rs : List Res) : (a :: b :: c :: d :: e :: Rs).Perm (c :: d :: b :: e :: a :: Rs) :=
  ((List.perm_append_comm (l₁ := [a]) (l₂ := [b, c, d, e])).trans (((List.perm_append_comm (l₁ := [b]) (l₂ := [c, d])).append_right [e]).append_right [a])).append_right Rs
theorem perm_w (a b c d e : Res) (Rs : List Res) : (a :: b :: c :: d :: e :: Rs).Perm (c :: b :: d :: a :: e :: Rs) :=
  ((List.perm_append_comm (l₁ := [a]) (l₂ := [b, c, d])).trans (((List.perm_append_comm (l₁ := [b]) (l₂ := [c])).append_right [d]).append_right [a])).append_right (e :: Rs)
section
variable {B : Nat → Prop} {w wk : World} {Rs : List Res} {p : Nat}
/-- Two new lists in place of those of the doomed. -/
theorem put_d {H C : Int} {W D : List Int} {g : Int → Int} {N : Int} {A1 : Option Addr} {c1 : Nat} {A2 : Option Addr} {c2 : Nat} {A3 : Option Addr} {c3 : Nat} {A4 : Option Addr} {c4 : Nat} {b b' : Option Addr} {m m' : Nat} {l l' : List Int} {e e' : TypeId} {t n : Int} {o : Obj}
    (h : Sep B w wk (grow intE e' (.slice b' l'.length m') l' :: grow intE e (.slice b l.length m) l :: blk p o :: nums (.slice A1 W.length c1) W :: nums (.slice A2 D.length c2) D :: nums (.slice A3 W.length c3) (W.map g) :: nums (.slice A4 D.length c4) (D.map g) :: Rs))
    (ho : o = .cells #[.int .i64 H, .int .i64 C, .slice A1 W.length c1, .slice b l.length m, .slice A3 W.length c3, .slice b' l'.length m', .int .i64 N] 48) (hl : l = D ++ [t]) (hl' : l' = D.map g ++ [n]) (hm : D.length ≤ 1000) (hw : t ∉ W) (hd : t ∉ D) :
    Sep B w wk (rgo p H C W (D ++ [t]) (updF g t n) N A1 c1 b m A3 c3 b' m' ++ Rs) := by
  have e1 : l'.length = (D ++ [t]).length := by rw [hl']; simp
  have e2 : l' = (D ++ [t]).map (updF g t n) := by rw [map_put hd, hl']
  have e3 : W.map g = W.map (updF g t n) := (map_upd hw).symm
  have h1 := grow_nums h (by rw [e1]; simp; omega)
  have h2 := grow_nums h1.swap (by rw [hl]; simp; omega)
  have h3 := (h2.swap).sub (.cons_cons _ (.cons_cons _ (.cons_cons _ (.cons_cons _ (.cons _ (.cons_cons _ (.cons _ (List.Sublist.refl Rs))))))))
  have h4 := h3.perm (perm_d _ _ _ _ _ Rs)
  rw [ho, e1, e2, e3, hl] at h4
  exact h4
/-- .. of those who want. -/
theorem put_w {H C : Int} {W D : List Int} {g : Int → Int} {N : Int} {A1 : Option Addr} {c1 : Nat} {A2 : Option Addr} {c2 : Nat} {A3 : Option Addr} {c3 : Nat} {A4 : Option Addr} {c4 : Nat} {b b' : Option Addr} {m m' : Nat} {l l' : List Int} {e e' : TypeId} {t n : Int} {o : Obj}
    (h : Sep B w wk (grow intE e' (.slice b' l'.length m') l' :: grow intE e (.slice b l.length m) l :: blk p o :: nums (.slice A1 W.length c1) W :: nums (.slice A2 D.length c2) D :: nums (.slice A3 W.length c3) (W.map g) :: nums (.slice A4 D.length c4) (D.map g) :: Rs))
    (ho : o = .cells #[.int .i64 H, .int .i64 C, .slice b l.length m, .slice A2 D.length c2, .slice b' l'.length m', .slice A4 D.length c4, .int .i64 N] 48) (hl : l = W ++ [t]) (hl' : l' = W.map g ++ [n]) (hm : W.length ≤ 1000) (hw : t ∉ W) (hd : t ∉ D) :
    Sep B w wk (rgo p H C (W ++ [t]) D (updF g t n) N b m A2 c2 b' m' A4 c4 ++ Rs) ∧ (W ++ [t]).length ≤ m ∧ (W ++ [t]).length ≤ m' := by
  have e1 : l'.length = (W ++ [t]).length := by rw [hl']; simp
  have e2 : l' = (W ++ [t]).map (updF g t n) := by rw [map_put hw, hl']
  have e3 : D.map g = D.map (updF g t n) := (map_upd hd).symm
  have f1 := fits_own (h.own 1 rfl) _ _ _ rfl
  have f2 := fits_own (h.own 0 rfl) _ _ _ rfl
  have h1 := grow_nums h (by rw [e1]; simp; omega)
  have h2 := grow_nums h1.swap (by rw [hl]; simp; omega)
  have h3 := (h2.swap).sub (.cons_cons _ (.cons_cons _ (.cons_cons _ (.cons _ (.cons_cons _ (.cons _ (.cons_cons _ (List.Sublist.refl Rs))))))))
  have h4 := h3.perm (perm_w _ _ _ _ _ Rs)
  rw [ho, e1, e2, e3, hl] at h4
  rw [e1] at f2
  rw [hl] at f1
  exact ⟨h4, f1, f2⟩

theorem two_step {v : World} {cs : Array Value} {T e : TypeId} {R : Res} {Rs : List Res} (j : Nat) (u : Value) (h : Sep B w v (R :: blk p (.cells cs T) :: Rs)) : Sep B w ((v.setCell ⟨p, j, none⟩ u).alloc (.cells #[] e)) (grow intE e (.slice (some ⟨v.heap.size, 0, none⟩) 0 0) [] :: R :: blk p (.cells (cs.setIfInBounds j u) T) :: Rs) := by
  have h1 := (h.set 1 rfl j u).grow0 intE e
  rw [show (v.setCell ⟨p, j, none⟩ u).heap.size = v.heap.size by simp [World.setCell]] at h1
  exact h1
set_option maxRecDepth 100000 in
set_option maxHeartbeats 1000000 in
theorem acquire_s {s : St} (h : Sep B w wk (rg p s :: Rs)) (t n : Int) (hn : In64 n) (wait : Bool) :
    Calls Try.prog 11 #[.pointer (some ⟨p, 0, none⟩), .int .i64 t, .int .i64 n, .bool wait] wk fun e wn => e = .returned (.tuple #[.bool (askB s t n), .int .i64 (askE s t n)]) ∧ Sep B w wn (rg p (askS s t n wait) :: Rs) := by
  have HSK := Lib.hid h
  have HQ := Lib.hid ((rg_good h).ask t n hn wait)
  have HC := Lib.hid (SemaP.ask_cases s t n wait)
  have HE := Lib.hid (ask_errs s t n)
  obtain ⟨A1, c1, A2, c2, A3, c3, A4, c4, hs, hok, f1, f3⟩ := rg_open h
  have hlen := hok.1.len
  have H0 := hok.1.h0
  have H1 := hok.1.h1
  have C1 := hok.1.c1
  have HZ : Hid (askE s t n = 0 → t ∉ s.W ∧ t ∉ s.D) := fun h => (ask_zero h).2.2
  have HBD : Hid (askB s t n = decide (askE s t n = 0 ∧ s.W = [] ∧ s.H + n ≤ s.C)) := rfl
  obtain ⟨n0, n1⟩ := hn
  obtain ⟨E, hE⟩ : ∃ E, askE s t n = E := ⟨_, rfl⟩
  obtain ⟨Bo, hBo⟩ : ∃ Bo, askB s t n = Bo := ⟨_, rfl⟩
  obtain ⟨S2, hS2⟩ : ∃ S2, askS s t n wait = S2 := ⟨_, rfl⟩
  simp only [hE, hBo, hS2] at HQ HC HE HZ HBD ⊢
  clear hE hBo hS2 h hok
  obtain ⟨H, C, W, D, g, N⟩ := s
  simp only at *
  have S0 := Lib.hid hs
  obtain ⟨x0, x1, x2, x3, x4, x5, x6, fr, hpl⟩ := rgo_cs hs
  have HW : Hid (∀ m, Calls Try.prog 27 #[.slice A1 W.length c1, .int .i64 t] (wk.drewN m) fun e w' => e = .returned (.bool (inL W t)) ∧ wk.drewN m = w') := fun m => in_any ((hs.drewN m).rd 1 rfl) t
  have HD : Hid (∀ m, Calls Try.prog 27 #[.slice A2 D.length c2, .int .i64 t] (wk.drewN m) fun e w' => e = .returned (.bool (inL D t)) ∧ wk.drewN m = w') := fun m => in_any ((hs.drewN m).rd 2 rfl) t
  clear hs
  rcases HE.out with ⟨rfl, hnm⟩ | ⟨rfl, hnm, hn0⟩ | ⟨rfl, hnm, hn0, hwt⟩ | ⟨rfl, hnm, hn0, hwt⟩
  · have HB : Hid (Bo = false ∧ S2 = ⟨H, C, W, D, g, N⟩) := by
      rcases HC.out with ⟨_, h1, h2⟩ | ⟨h, _⟩ | ⟨h, _⟩ | ⟨h, _⟩ | ⟨h, _⟩
      · exact ⟨h1, h2⟩
      all_goals omega
    obtain ⟨rfl, rfl⟩ := HB.out
    have hlt : t < 0 ∨ (0 ≤ t ∧ N ≤ t) := by
      unfold nameM at hnm
      rw [decide_eq_false_iff_not] at hnm
      omega
    clear HC HE HB HW HD HZ HBD hnm S0
    rcases hlt with h1 | ⟨h1, h2⟩
    all_goals
      go_enter Try.func11, Try.ntmps11
      go_wp2
      go_ret2
      exact ⟨rfl, HSK.out⟩
  · have HB : Hid (Bo = false ∧ S2 = ⟨H, C, W, D, g, N⟩) := by
      rcases HC.out with ⟨_, h1, h2⟩ | ⟨h, _⟩ | ⟨h, _⟩ | ⟨h, _⟩ | ⟨h, _⟩
      · exact ⟨h1, h2⟩
      all_goals omega
    obtain ⟨rfl, rfl⟩ := HB.out
    obtain ⟨t0, t1⟩ := name_iff.1 hnm
    have d0 : decide (t < 0) = false := by simp; omega
    have d1 : decide (t ≥ N) = false := by simp; omega
    clear HC HE HB HW HD HZ HBD hnm S0
    go_enter Try.func11, Try.ntmps11
    go_wp2
    go_ret2
    exact ⟨rfl, HSK.out⟩
  · have HB : Hid (Bo = false ∧ S2 = ⟨H, C, W, D, g, N⟩) := by
      rcases HC.out with ⟨_, h1, h2⟩ | ⟨h, _⟩ | ⟨h, _⟩ | ⟨h, _⟩ | ⟨h, _⟩
      · exact ⟨h1, h2⟩
      all_goals omega
    obtain ⟨rfl, rfl⟩ := HB.out
    obtain ⟨t0, t1⟩ := name_iff.1 hnm
    have d0 : decide (t < 0) = false := by simp; omega
    have d1 : decide (t ≥ N) = false := by simp; omega
    have d2 : decide (n < 0) = false := by simp; omega
    have hwt' : (inL W t || inL D t) = true := hwt
    clear HC HE HB HZ HBD hnm S0 hwt
    cases hiw : inL W t with
    | true =>
      rw [hiw] at HW
      clear hwt' hiw HD
      go_enter Try.func11, Try.ntmps11
      go_wp2_with fail
      refine (HW.out 0).mono ?_
      rintro e w1 ⟨rfl, rfl⟩
      go_wp2
      go_ret2
      exact ⟨rfl, HSK.out⟩
    | false =>
      rw [hiw, Bool.false_or] at hwt'
      rw [hiw] at HW
      rw [hwt'] at HD
      clear hwt' hiw
      go_enter Try.func11, Try.ntmps11
      go_wp2_with fail
      refine (HW.out 0).mono ?_
      rintro e w1 ⟨rfl, rfl⟩
      go_wp2_with fail
      refine (HD.out 0).mono ?_
      rintro e w1 ⟨rfl, rfl⟩
      go_wp2
      go_ret2
      exact ⟨rfl, HSK.out⟩
  · obtain ⟨t0, t1⟩ := name_iff.1 hnm
    have d0 : decide (t < 0) = false := by simp; omega
    have d1 : decide (t ≥ N) = false := by simp; omega
    have d2 : decide (n < 0) = false := by simp; omega
    obtain ⟨hnw, hnd⟩ := HZ.out rfl
    have e1 : inL W t = false := by unfold inL; exact decide_eq_false hnw
    have e2 : inL D t = false := by unfold inL; exact decide_eq_false hnd
    rw [e1] at HW
    rw [e2] at HD
    have HNW : Hid (t ∉ W) := hnw
    have HND : Hid (t ∉ D) := hnd
    clear HE HZ hnm hwt hnw hnd e1 e2 HSK
    go_enter Try.func11, Try.ntmps11
    go_wp2_with fail
    refine (HW.out 0).mono ?_
    rintro e w1 ⟨rfl, rfl⟩
    go_wp2_with fail
    refine (HD.out 0).mono ?_
    rintro e w1 ⟨rfl, rfl⟩
    clear HW HD
    go_upto_region 7 with (fail)
    go_cut [53] (fun s53 wx => s53 = .bool Bo ∧ ∃ m, wx = wk.drewN m)
    case first => as_aux_lemma =>
      by_cases hWn : W = []
      · subst hWn
        have hb : Bo = fitsv H n C := by rw [HBD.out]; unfold fitsv; rw [Bool.eq_iff_iff]; simp; omega
        have HFI : Hid (∀ v, Calls Try.prog 28 #[.int .i64 H, .int .i64 n, .int .i64 C] v fun e w' => e = .returned (.bool Bo) ∧ v = w') := fun v => rfits_is ⟨by omega, by omega⟩ ⟨by omega, by omega⟩ ⟨by omega, by omega⟩ hb.symm
        simp only [List.length_nil] at x2
        clear hb HBD HC
        go_quiet ((go_at_call 28; exact RingI.quiet_left (HFI.out _)))
        go_wp2
        go_meet
        exact ⟨rfl, _, rfl⟩
      · have hb : Bo = false := by rw [HBD.out]; simp [hWn]
        subst hb
        have hwl : W.length ≠ 0 := fun e => hWn (List.eq_nil_of_length_eq_zero e)
        have i1 : ((W.length : Int) == 0) = false := by rw [beq_eq_false_iff_ne]; omega
        clear HBD HC hWn hwl f1 f3 hlen
        go_quiet (fail)
        go_wp2
        go_meet
        exact ⟨rfl, _, rfl⟩
    case rest => as_aux_lemma =>
      obtain ⟨rfl, m, rfl⟩ := hcut
      have S1 := Lib.hid (S0.out.drewN m)
      have HCS := rgo_cs S1.out
      clear x0 x1 x2 x3 x4 x5 x6 fr hpl S0
      generalize wk.drewN m = wd at *
      obtain ⟨x0, x1, x2, x3, x4, x5, x6, fr, hpl⟩ := HCS
      rcases HC.out with ⟨h, _⟩ | ⟨_, rfl, hW, hn1, hf, rfl⟩ | ⟨_, rfl, _, _, rfl, rfl⟩ | ⟨_, rfl, _, rfl, hCn, rfl⟩ | ⟨_, rfl, _, rfl, _, hCn, rfl⟩
      · exact absurd rfl h
      · obtain ⟨z, hz⟩ : ∃ z, z = H + n := ⟨_, rfl⟩
        have hw1 : IntKind.i64.wrap (H + n) = z := by rw [hz]; exact IntWalk.i64_in _ (by omega)
        have HS : Hid (Sep B w (wd.setCell ⟨p, 0, none⟩ (.int .i64 z)) (rg p ⟨H + n, C, W, D, g, N⟩ :: Rs)) := by
          have h1 := S1.out.set 0 rfl 0 (.int .i64 z)
          rw [hz] at h1 ⊢
          exact rg_close (s := ⟨H + n, C, W, D, g, N⟩) h1 HQ.out f1 f3
        clear hz HC HBD HQ S1 hf hW HNW HND
        go_wp2
        go_ret2
        exact ⟨rfl, HS.out⟩
      · have HS : Hid (Sep B w wd (rg p ⟨H, C, W, D, g, N⟩ :: Rs)) := rg_close (s := ⟨H, C, W, D, g, N⟩) S1.out HQ.out f1 f3
        clear HC HBD HQ S1 HNW HND
        go_wp2
        go_ret2
        exact ⟨rfl, HS.out⟩
      · have SG := Lib.hid (S1.out.grow0 intE 3)
        have HRD : Hid (RdL intE (wd.alloc (.cells #[] 3)) (fun _ => True) (.slice A2 D.length c2) D) := rdL_of (SG.out.rd 3 rfl)
        have hdn : (D.map g).length = D.length := List.length_map _
        have hx10 : D.length ≤ 1000 := by omega
        have hld : ([] : List Int).length + D.length ≤ 1000000 := by show 0 + D.length ≤ _; omega
        have hle : ([] : List Int).length + (D.map g).length ≤ 1000000 := by rw [hdn]; show 0 + D.length ≤ _; omega
        have hlf : ∀ l : List Int, l = [] ++ D → l.length + [t].length ≤ 1000000 := fun l e => by rw [e]; show D.length + 1 ≤ _; omega
        have hlg : ∀ l : List Int, l = [] ++ D.map g → l.length + [n].length ≤ 1000000 := fun l e => by rw [e]; show (D.map g).length + 1 ≤ _; rw [hdn]; omega
        have HLF := Lib.hid hlf
        have HLG := Lib.hid hlg
        have d5 : decide (n > C) = true := decide_eq_true hCn
        clear HC HBD hdn hlf hlg
        go_wp2_with (first
          | (at_builtin; refine wpList_appS rfl _ _ intElemL rfl rfl rfl SG.out 0 rfl HRD.out hld ?_; intro A3' c3' w3 l3 HL3 h3; have HX1 : Hid (RdL intE (w3.alloc (.cells #[.int .i64 t] 3)) (fun _ => True) (.slice (some ⟨w3.heap.size, 0, none⟩) 1 1) [t]) := RdL.lit1 (E := intE) w3 3 t (cs := #[.int .i64 t]) rfl (fun _ => True) trivial; have S3 := Lib.hid (Sep.next h3 (new_below0 w3 (.cells #[.int .i64 t] 3))); have hl3 := HLF.out l3 HL3.out; clear h3)
          | (at_builtin; refine wpList_appS rfl _ _ intElemL rfl rfl rfl S3.out 0 rfl HX1.out hl3 ?_; intro A5 c5 w5 l5 HL5 h5; have f5 := frozen_block (Sep.blk_at h5 1 rfl) 3; have k3 := (cell_block (Sep.blk_at h5 1 rfl) 3).trans rfl; have hp5 := lt_of_block (Sep.blk_at h5 1 rfl); have k5 := (cell_block (Sep.blk_at h5 1 rfl) 5).trans rfl; have S6 := Lib.hid (two_step (e := 2) 3 (.slice A5 l5.length c5) h5); have HR6 := Lib.hid (rdL_of (Sep.rd S6.out 6 rfl)); clear h5)
          | (at_builtin; refine wpList_appS rfl _ _ int64ElemL rfl rfl rfl S6.out 0 rfl HR6.out hle ?_; intro A7 c7 w7 l7 HL7 h7; have HX7 : Hid (RdL intE (w7.alloc (.cells #[.int .i64 n] 2)) (fun _ => True) (.slice (some ⟨w7.heap.size, 0, none⟩) 1 1) [n]) := RdL.lit1 (E := intE) w7 2 n (cs := #[.int .i64 n]) rfl (fun _ => True) trivial; have S7 := Lib.hid (Sep.next h7 (new_below0 w7 (.cells #[.int .i64 n] 2))); have hl7 := HLG.out l7 HL7.out; clear h7)
          | (at_builtin; refine wpList_appS rfl _ _ int64ElemL rfl rfl rfl S7.out 0 rfl HX7.out hl7 ?_; intro A9 c9 w9 l9 HL9 h9; have f9 := frozen_block (Sep.blk_at h9 2 rfl) 5; have k9 := (cell_block (Sep.blk_at h9 2 rfl) 5).trans rfl; have hp9 := lt_of_block (Sep.blk_at h9 2 rfl); have S9 := Lib.hid h9; clear h9))
        go_wp2
        go_ret2
        have e5 : l5 = D ++ [t] := by rw [HL5.out, HL3.out]; rfl
        have e9 : l9 = D.map g ++ [n] := by rw [HL9.out, HL7.out]; rfl
        have hF := put_d (H := H) (C := C) (N := N) (S9.out.set 2 rfl 5 (.slice A9 l9.length c9)) rfl e5 e9 hx10 HNW.out HND.out
        exact ⟨rfl, rg_close (s := ⟨H, C, W, D ++ [t], updF g t n, N⟩) hF HQ.out f1 f3⟩
      · have SG := Lib.hid (S1.out.grow0 intE 3)
        have HRD : Hid (RdL intE (wd.alloc (.cells #[] 3)) (fun _ => True) (.slice A1 W.length c1) W) := rdL_of (SG.out.rd 2 rfl)
        have hdn : (W.map g).length = W.length := List.length_map _
        have hx10 : W.length ≤ 1000 := by omega
        have hld : ([] : List Int).length + W.length ≤ 1000000 := by show 0 + W.length ≤ _; omega
        have hle : ([] : List Int).length + (W.map g).length ≤ 1000000 := by rw [hdn]; show 0 + W.length ≤ _; omega
        have hlf : ∀ l : List Int, l = [] ++ W → l.length + [t].length ≤ 1000000 := fun l e => by rw [e]; show W.length + 1 ≤ _; omega
        have hlg : ∀ l : List Int, l = [] ++ W.map g → l.length + [n].length ≤ 1000000 := fun l e => by rw [e]; show (W.map g).length + 1 ≤ _; rw [hdn]; omega
        have HLF := Lib.hid hlf
        have HLG := Lib.hid hlg
        have d5 : decide (n > C) = false := decide_eq_false (by omega)
        clear HC HBD hdn hlf hlg
        go_wp2_with (first
          | (at_builtin; refine wpList_appS rfl _ _ intElemL rfl rfl rfl SG.out 0 rfl HRD.out hld ?_; intro A3' c3' w3 l3 HL3 h3; have HX1 : Hid (RdL intE (w3.alloc (.cells #[.int .i64 t] 3)) (fun _ => True) (.slice (some ⟨w3.heap.size, 0, none⟩) 1 1) [t]) := RdL.lit1 (E := intE) w3 3 t (cs := #[.int .i64 t]) rfl (fun _ => True) trivial; have S3 := Lib.hid (Sep.next h3 (new_below0 w3 (.cells #[.int .i64 t] 3))); have hl3 := HLF.out l3 HL3.out; clear h3)
          | (at_builtin; refine wpList_appS rfl _ _ intElemL rfl rfl rfl S3.out 0 rfl HX1.out hl3 ?_; intro A5 c5 w5 l5 HL5 h5; have f5 := frozen_block (Sep.blk_at h5 1 rfl) 2; have k3 := (cell_block (Sep.blk_at h5 1 rfl) 2).trans rfl; have hp5 := lt_of_block (Sep.blk_at h5 1 rfl); have k5 := (cell_block (Sep.blk_at h5 1 rfl) 4).trans rfl; have S6 := Lib.hid (two_step (e := 2) 2 (.slice A5 l5.length c5) h5); have HR6 := Lib.hid (rdL_of (Sep.rd S6.out 5 rfl)); clear h5)
          | (at_builtin; refine wpList_appS rfl _ _ int64ElemL rfl rfl rfl S6.out 0 rfl HR6.out hle ?_; intro A7 c7 w7 l7 HL7 h7; have HX7 : Hid (RdL intE (w7.alloc (.cells #[.int .i64 n] 2)) (fun _ => True) (.slice (some ⟨w7.heap.size, 0, none⟩) 1 1) [n]) := RdL.lit1 (E := intE) w7 2 n (cs := #[.int .i64 n]) rfl (fun _ => True) trivial; have S7 := Lib.hid (Sep.next h7 (new_below0 w7 (.cells #[.int .i64 n] 2))); have hl7 := HLG.out l7 HL7.out; clear h7)
          | (at_builtin; refine wpList_appS rfl _ _ int64ElemL rfl rfl rfl S7.out 0 rfl HX7.out hl7 ?_; intro A9 c9 w9 l9 HL9 h9; have f9 := frozen_block (Sep.blk_at h9 2 rfl) 4; have k9 := (cell_block (Sep.blk_at h9 2 rfl) 4).trans rfl; have hp9 := lt_of_block (Sep.blk_at h9 2 rfl); have S9 := Lib.hid h9; clear h9))
        go_wp2
        go_ret2
        have e5 : l5 = W ++ [t] := by rw [HL5.out, HL3.out]; rfl
        have e9 : l9 = W.map g ++ [n] := by rw [HL9.out, HL7.out]; rfl
        obtain ⟨hF, g1, g3⟩ := put_w (H := H) (C := C) (N := N) (S9.out.set 2 rfl 4 (.slice A9 l9.length c9)) rfl e5 e9 hx10 HNW.out HND.out
        exact ⟨rfl, rg_close (s := ⟨H, C, W ++ [t], D, updF g t n, N⟩) hF HQ.out g1 g3⟩
end
end Go.Proofs.Ytaplikopapnlpaa.RefSema
