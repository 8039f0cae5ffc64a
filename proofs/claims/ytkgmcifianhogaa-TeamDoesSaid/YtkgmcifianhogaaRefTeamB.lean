/-
  Contracts of the functions of package countermandref14 (the document's answer for layer 14), second part: who asks, who leaves, what ends. Condition: the team is at hand.
-/
import Derived.Test.YtkgmcifianhogaaRefTeam
namespace Go.Proofs.Ytkgmcifianhogaa.Hand
open Go.ChangeShapes Go.WideShapes Go.ChangeAt Go.RowKit Mem
/-- All of a list that was told but its first. -/
theorem Sep.next_at {B : Nat → Prop} {w wk : World} {Rs : List Res} (h : Sep B w wk Rs) (i : Nat) {A A' : Option Addr} {n c c' : Nat} {x : Int} {W : List Int} (hi : Rs[i]? = some (nums (.slice A n c) (x :: W))) (hA : ∀ b off, A = some ⟨b, off, none⟩ → 0 < W.length → A' = some ⟨b, off + 1, none⟩) : Sep B w wk (Rs.set i (nums (.slice A' W.length c') W)) := by
  obtain ⟨F, ⟨⟨A1, c1, e, hm, hx⟩, hlt⟩, _, hn⟩ := h.upd i hi
  injection e with e1 e2 e3
  subst e1
  obtain ⟨b1, off1, rfl, hF, hb, hc⟩ := hx (by simp)
  have hm : W.length + 1 ≤ 1000000 := hm
  refine hn (nums (.slice A' W.length c') W) (F' := F) ⟨⟨A', c', rfl, by omega, fun h0 => ⟨b1, off1 + 1, hA b1 off1 rfl h0, hF, hb, fun j hj => ?_⟩⟩, hlt⟩ (.refl _ _) fun k hk => .inl hk
  have h1 := hc (j + 1) (by simp; omega)
  rw [show off1 + 1 + j = off1 + (j + 1) by omega]
  exact h1
end Go.Proofs.Ytkgmcifianhogaa.Hand
namespace Go.Proofs.Ytkgmcifianhogaa.RefTeam
open Go.ChangeShapes Go.WideShapes Go.ChangeAt Go.RowKit Mem MutP TeamP Hand RefMut

section
variable {B : Nat → Prop} {w wk : World} {Rs : List Res} {p : Nat} {s : St}
set_option maxRecDepth 100000 in
theorem may_s (h : Sep B w wk (rt p s :: Rs)) (t : Int) :
    Calls Try.prog 29 #[.pointer (some ⟨p, 0, none⟩), .int .i64 t] wk fun e wn => e = .returned (.int .i64 (askE s t)) ∧ wk = wn := by
  obtain ⟨A1, c1, A2, c2, hs, _, _⟩ := rt_open h
  have HI := Lib.hid (in_any (hs.rd 1 rfl) t)
  have HI2 := Lib.hid (in_any (hs.rd 2 rfl) t)
  obtain ⟨⟨_, _, _, x3, x4, x5⟩, _, _⟩ := rto_cs hs
  have HE := Lib.hid (ask_errs s t)
  clear h hs
  obtain ⟨E, hE⟩ : ∃ E, askE s t = E := ⟨_, rfl⟩
  simp only [hE] at HE ⊢
  clear hE
  rcases HE.out with ⟨rfl, e1⟩ | ⟨rfl, e1, e2⟩ | ⟨rfl, e1, e2⟩
  · have hn : t < 0 ∨ (0 ≤ t ∧ s.N ≤ t) := by
      have h1 : ¬ nameM s.N t = true := by rw [e1]; simp
      rw [name_iff] at h1
      omega
    clear HI HI2 HE e1
    generalize s.N = N at *
    rcases hn with h1 | ⟨h1, h2⟩
    all_goals
      go_enter Try.func29, Try.ntmps29
      go_wp2
      go_ret
      exact ⟨rfl, rfl⟩
  · obtain ⟨t0, t1⟩ := name_iff.1 e1
    clear HE e1
    generalize s.N = N at *
    have d0 : decide (t < 0) = false := by simp; omega
    have d1 : decide (N ≤ t) = false := by simp; omega
    by_cases hc : inL s.C t = true
    · rw [hc] at HI
      clear HI2 e2 hc
      go_enter Try.func29, Try.ntmps29
      go_wp2_with fail
      refine HI.out.mono ?_
      rintro e w1 ⟨rfl, rfl⟩
      go_wp2
      go_ret
      exact ⟨rfl, rfl⟩
    · have hc2 : inL s.C t = false := by simpa using hc
      have hw : inL s.W t = true := by unfold TeamP.waitsB at e2; rw [hc2] at e2; simpa using e2
      rw [hc2] at HI
      rw [hw] at HI2
      clear e2 hc hc2 hw
      go_enter Try.func29, Try.ntmps29
      go_wp2_with fail
      refine HI.out.mono ?_
      rintro e w1 ⟨rfl, rfl⟩
      go_wp2_with fail
      refine HI2.out.mono ?_
      rintro e w1 ⟨rfl, rfl⟩
      go_wp2
      go_ret
      exact ⟨rfl, rfl⟩
  · obtain ⟨t0, t1⟩ := name_iff.1 e1
    clear HE e1
    generalize s.N = N at *
    have d0 : decide (t < 0) = false := by simp; omega
    have d1 : decide (N ≤ t) = false := by simp; omega
    have h2 : inL s.C t = false ∧ inL s.W t = false := by unfold TeamP.waitsB at e2; simpa using e2
    rw [h2.1] at HI
    rw [h2.2] at HI2
    clear e2 h2
    go_enter Try.func29, Try.ntmps29
    go_wp2_with fail
    refine HI.out.mono ?_
    rintro e w1 ⟨rfl, rfl⟩
    go_wp2_with fail
    refine HI2.out.mono ?_
    rintro e w1 ⟨rfl, rfl⟩
    go_wp2
    go_ret
    exact ⟨rfl, rfl⟩

set_option maxRecDepth 100000 in
set_option maxHeartbeats 1000000 in
theorem go_s (h : Sep B w wk (rt p s :: Rs)) (t : Int) (hA : s.A ≤ 1000000) :
    Calls Try.prog 10 #[.pointer (some ⟨p, 0, none⟩), .int .i64 t] wk fun e wn => e = .returned (.tuple #[.bool (goB s t), .int .i64 (askE s t)]) ∧ Sep B w wn (rt p (goS s t) :: Rs) := by
  have HM := Lib.hid (may_s h t)
  have HT := Lib.hid (try_s h hA)
  have HC := Lib.hid (go_cases s t)
  have HTC := Lib.hid (try_cases s)
  have HO := Lib.hid ((rt_ok h).goes t)
  have HL := Lib.hid (rt_ok h).len
  have H0 := Lib.hid h
  clear h hA
  rcases HC.out with ⟨hE, g1, g2⟩ | ⟨hE, h1, g1, g2⟩ | ⟨hE, h1, g1, g2⟩
  · rw [g1, g2]
    generalize askE s t = E at *
    have e1 : (E != 0) = true := by simpa using hE
    clear HC HTC HT HO HL hE g1 g2
    go_enter Try.func10, Try.ntmps10
    go_wp2_with fail
    refine HM.out.mono ?_
    rintro e w1 ⟨rfl, rfl⟩
    go_wp2_with fail
    refine HM.out.mono ?_
    rintro e w1 ⟨rfl, rfl⟩
    go_wp2
    go_ret2
    exact ⟨rfl, H0.out⟩
  · have ht : tryB s = true ∧ tryS s = { s with A := s.A + 1 } := by
      rcases HTC.out with ⟨_, a, b⟩ | ⟨_, a, b⟩
      · exact ⟨a, b⟩
      · omega
    rw [ht.1, ht.2] at HT
    rw [g1, g2, hE]
    rw [hE] at HM
    clear HC HTC HO HL hE g1 g2 ht h1
    go_enter Try.func10, Try.ntmps10
    go_wp2_with fail
    refine HM.out.mono ?_
    rintro e w1 ⟨rfl, rfl⟩
    go_wp2_with fail
    refine HT.out.mono ?_
    rintro e w1 ⟨rfl, h1⟩
    have H1 := Lib.hid h1
    clear h1
    go_wp2
    go_ret2
    exact ⟨rfl, H1.out⟩
  · have ht : tryB s = false ∧ tryS s = s := by
      rcases HTC.out with ⟨_, a, b⟩ | ⟨_, a, b⟩
      · omega
      · exact ⟨a, b⟩
    rw [ht.1, ht.2] at HT
    rw [g2] at HO
    rw [g1, g2, hE]
    rw [hE] at HM
    clear HC HTC hE g1 g2 ht h1
    go_enter Try.func10, Try.ntmps10
    go_wp2_with fail
    refine HM.out.mono ?_
    rintro e w1 ⟨rfl, rfl⟩
    go_wp2_with fail
    refine HT.out.mono ?_
    rintro e w1 ⟨rfl, h1⟩
    obtain ⟨A1, c1, A2, c2, hs, _, _⟩ := rt_open h1
    obtain ⟨⟨_, _, _, x3, _, _⟩, _, hpl⟩ := rto_cs hs
    have S1 := Lib.hid (hs.grow0 intE 3)
    have HRW : Hid (RdL intE (w1.alloc (.cells #[] 3)) (fun _ => True) (.slice A1 s.C.length c1) s.C) := rdL_of (S1.out.rd 2 rfl)
    have hcl : s.C.length ≤ 1000 := by have := HL.out; omega
    clear h1 hs HT HM H0
    go_wp2_with (first
      | (at_builtin; refine wpList_appS rfl _ _ intElemL rfl rfl rfl S1.out 0 rfl HRW.out (by show 0 + s.C.length ≤ _; omega) ?_; intro A3 c3' w3 l3 HL3 h3; have HX1 : Hid (RdL intE (w3.alloc (.cells #[.int .i64 t] 3)) (fun _ => True) (.slice (some ⟨w3.heap.size, 0, none⟩) 1 1) [t]) := RdL.lit1 (E := intE) w3 3 t (cs := #[.int .i64 t]) rfl (fun _ => True) trivial; have S3 := Lib.hid (Sep.next h3 (new_below0 w3 (.cells #[.int .i64 t] 3))); have hl3 : Hid (l3.length = s.C.length) := congrArg List.length HL3.out; clear h3)
      | (at_builtin; refine wpList_appS rfl _ _ intElemL rfl rfl rfl S3.out 0 rfl HX1.out (by rw [hl3.out]; show s.C.length + 1 ≤ _; omega) ?_; intro A5 c5 w5 l5 HL5 h5; have k5 := (cell_block (Sep.blk_at h5 1 rfl) 3).trans rfl; have f5 := frozen_block (Sep.blk_at h5 1 rfl) 3; have S5 := Lib.hid h5; clear h5))
    go_wp2
    go_ret2
    have hl5 : l5 = s.C ++ [t] := by rw [HL5.out, HL3.out]; rfl
    subst hl5
    have h6 := grow_nums ((S5.out.set 1 rfl 3 (.slice A5 (s.C ++ [t]).length c5))) (by simp; omega)
    have h7 := h6.swap.sub (.cons_cons _ (.cons_cons _ (.cons _ (List.Sublist.refl _))))
    exact ⟨rfl, rt_close (s := { s with C := s.C ++ [t] }) h7 HO.out (fits_own (S5.out.own 0 rfl) _ _ _ rfl)⟩

set_option maxRecDepth 100000 in
set_option maxHeartbeats 1000000 in
theorem wait_s (h : Sep B w wk (rt p s :: Rs)) (t : Int) :
    Calls Try.prog 13 #[.pointer (some ⟨p, 0, none⟩), .int .i64 t] wk fun e wn => e = .returned (.tuple #[.bool (wtB s t), .int .i64 (askE s t)]) ∧ Sep B w wn (rt p (wtS s t) :: Rs) := by
  have HM := Lib.hid (may_s h t)
  have HC := Lib.hid (wt_cases s t)
  have HO := Lib.hid ((rt_ok h).wait t)
  have HL := Lib.hid (rt_ok h).len
  have H0 := Lib.hid h
  obtain ⟨A1, c1, A2, c2, hs, _, hcap⟩ := rt_open h
  obtain ⟨⟨_, x1, _, _, x4, _⟩, _, hpl⟩ := rto_cs hs
  have S0 := Lib.hid hs
  have HCAP := Lib.hid hcap
  clear h hs hcap
  rcases HC.out with ⟨hE, g1, g2⟩ | ⟨hE, h1, g1, g2⟩ | ⟨hE, h1, g1, g2⟩
  · rw [g1, g2]
    generalize askE s t = E at *
    have e1 : (E != 0) = true := by simpa using hE
    clear HC HO HL hE g1 g2
    go_enter Try.func13, Try.ntmps13
    go_wp2_with fail
    refine HM.out.mono ?_
    rintro e w1 ⟨rfl, rfl⟩
    go_wp2_with fail
    refine HM.out.mono ?_
    rintro e w1 ⟨rfl, rfl⟩
    go_wp2
    go_ret2
    exact ⟨rfl, H0.out⟩
  · rw [g1, g2, hE]
    rw [hE] at HM
    rw [h1] at x1
    clear HC HO HL hE g1 g2 h1
    go_enter Try.func13, Try.ntmps13
    go_wp2_with fail
    refine HM.out.mono ?_
    rintro e w1 ⟨rfl, rfl⟩
    go_wp2
    go_ret2
    exact ⟨rfl, H0.out⟩
  · rw [g2] at HO
    rw [g1, g2, hE]
    rw [hE] at HM
    have e1 : (s.A == 0) = false := by simpa using h1
    have S1 := Lib.hid (S0.out.grow0 intE 3)
    have HRW : Hid (RdL intE (wk.alloc (.cells #[] 3)) (fun _ => True) (.slice A2 s.W.length c2) s.W) := rdL_of (S1.out.rd 3 rfl)
    have hcl : s.W.length ≤ 1000 := by have := HL.out; omega
    obtain ⟨a, ha⟩ : ∃ a, a = s.A := ⟨_, rfl⟩
    rw [← ha] at x1 e1
    clear HC hE g1 g2 h1 S0 H0 ha
    go_enter Try.func13, Try.ntmps13
    go_wp2_with fail
    refine HM.out.mono ?_
    rintro e w1 ⟨rfl, rfl⟩
    go_wp2_with (first
      | (at_builtin; refine wpList_appS rfl _ _ intElemL rfl rfl rfl S1.out 0 rfl HRW.out (by show 0 + s.W.length ≤ _; omega) ?_; intro A3 c3' w3 l3 HL3 h3; have HX1 : Hid (RdL intE (w3.alloc (.cells #[.int .i64 t] 3)) (fun _ => True) (.slice (some ⟨w3.heap.size, 0, none⟩) 1 1) [t]) := RdL.lit1 (E := intE) w3 3 t (cs := #[.int .i64 t]) rfl (fun _ => True) trivial; have S3 := Lib.hid (Sep.next h3 (new_below0 w3 (.cells #[.int .i64 t] 3))); have hl3 : Hid (l3.length = s.W.length) := congrArg List.length HL3.out; clear h3)
      | (at_builtin; refine wpList_appS rfl _ _ intElemL rfl rfl rfl S3.out 0 rfl HX1.out (by rw [hl3.out]; show s.W.length + 1 ≤ _; omega) ?_; intro A5 c5 w5 l5 HL5 h5; have k5 := (cell_block (Sep.blk_at h5 1 rfl) 4).trans rfl; have f5 := frozen_block (Sep.blk_at h5 1 rfl) 4; have S5 := Lib.hid h5; clear h5))
    go_wp2
    go_ret2
    have hl5 : l5 = s.W ++ [t] := by rw [HL5.out, HL3.out]; rfl
    subst hl5
    have h6 := grow_nums ((S5.out.set 1 rfl 4 (.slice A5 (s.W ++ [t]).length c5))) (by simp; omega)
    have h7 := (h6.perm (by exact (List.perm_append_comm (l₁ := [_]) (l₂ := [_, _])).append_right _)).sub (.cons_cons _ (.cons_cons _ (.cons_cons _ (.cons _ (List.Sublist.refl _)))))
    exact ⟨rfl, rt_close (s := { s with W := s.W ++ [t] }) h7 HO.out HCAP.out⟩

set_option maxRecDepth 100000 in
set_option maxHeartbeats 1000000 in
theorem leave_s (h : Sep B w wk (rt p s :: Rs)) (t : Int) :
    Calls Try.prog 14 #[.pointer (some ⟨p, 0, none⟩), .int .i64 t] wk fun e wn => e = .returned (.bool (TeamP.waitsB s t)) ∧ Sep B w wn (rt p (lvS s t) :: Rs) := by
  have HO := Lib.hid ((rt_ok h).leave t)
  obtain ⟨A1, c1, A2, c2, hs, _, hcap⟩ := rt_open h
  have HI := Lib.hid (in_any (hs.rd 1 rfl) t)
  have HI2 := Lib.hid (in_any (hs.rd 2 rfl) t)
  obtain ⟨⟨_, _, _, x3, x4, _⟩, _, hpl⟩ := rto_cs hs
  have HW1 := Lib.hid (without_s hs (hs.rd 1 rfl) t)
  clear h
  have hwb : TeamP.waitsB s t = (inL s.C t || inL s.W t) := rfl
  rw [hwb]
  clear hwb hs
  by_cases hc : inL s.C t = true
  · rw [hc] at HI ⊢
    rw [Bool.true_or]
    clear HI2 hc
    go_enter Try.func14, Try.ntmps14
    go_wp2_with fail
    refine HI.out.mono ?_
    rintro e w1 ⟨rfl, rfl⟩
    go_wp2_with fail
    refine HW1.out.mono ?_
    rintro e w1 ⟨A3, c3, rfl, h1, _, hf⟩
    have k3 := (cell_block (h1.blk_at 1 rfl) 3).trans rfl
    have f3 := frozen_block (h1.blk_at 1 rfl) 3
    have h2 := (h1.set 1 rfl 3 (.slice A3 (withoutL s.C t).length c3))
    have k4 : (w1.setCell ⟨p, 3, none⟩ (.slice A3 (withoutL s.C t).length c3)).cell? ⟨p, 4, none⟩ = some (.slice A2 s.W.length c2) := (cell_block (h2.blk_at 1 rfl) 4).trans rfl
    have HW2 := Lib.hid (without_s h2 (h2.rd 3 rfl) t)
    have HF := Lib.hid hf
    clear h1 h2 hf HI HW1 x3 x4
    go_wp2_with fail
    refine HW2.out.mono ?_
    rintro e w2 ⟨A4, c4, rfl, h3, _, _⟩
    have k5 := (cell_block (h3.blk_at 2 rfl) 4).trans rfl
    have f5 := frozen_block (h3.blk_at 2 rfl) 4
    have S3 := Lib.hid (h3.set 2 rfl 4 (.slice A4 (withoutL s.W t).length c4))
    clear h3 HW2 k3 k4 f3
    go_wp2
    go_ret
    have h7 := S3.out.perm (by exact (List.perm_append_comm (l₁ := [_, _]) (l₂ := [_])).append_right _)
    have h8 := (h7.perm (by exact ((List.perm_append_comm (l₁ := [_]) (l₂ := [_])).append_right _).cons _)).sub (.cons_cons _ (.cons_cons _ (.cons_cons _ (.cons _ (.cons _ (List.Sublist.refl Rs))))))
    exact ⟨rfl, rt_close (s := lvS s t) h8 HO.out (HF.out _ _ _ rfl)⟩
  · have hc2 : inL s.C t = false := by simpa using hc
    rw [hc2] at HI ⊢
    rw [Bool.false_or]
    clear hc hc2
    generalize inL s.W t = bo at *
    go_enter Try.func14, Try.ntmps14
    go_wp2_with fail
    refine HI.out.mono ?_
    rintro e w1 ⟨rfl, rfl⟩
    go_wp2_with fail
    refine HI2.out.mono ?_
    rintro e w1 ⟨rfl, rfl⟩
    go_wp2_with fail
    refine HW1.out.mono ?_
    rintro e w1 ⟨A3, c3, rfl, h1, _, hf⟩
    have k3 := (cell_block (h1.blk_at 1 rfl) 3).trans rfl
    have f3 := frozen_block (h1.blk_at 1 rfl) 3
    have h2 := (h1.set 1 rfl 3 (.slice A3 (withoutL s.C t).length c3))
    have k4 : (w1.setCell ⟨p, 3, none⟩ (.slice A3 (withoutL s.C t).length c3)).cell? ⟨p, 4, none⟩ = some (.slice A2 s.W.length c2) := (cell_block (h2.blk_at 1 rfl) 4).trans rfl
    have HW2 := Lib.hid (without_s h2 (h2.rd 3 rfl) t)
    have HF := Lib.hid hf
    clear h1 h2 hf HI HI2 HW1 x3 x4
    go_wp2_with fail
    refine HW2.out.mono ?_
    rintro e w2 ⟨A4, c4, rfl, h3, _, _⟩
    have k5 := (cell_block (h3.blk_at 2 rfl) 4).trans rfl
    have f5 := frozen_block (h3.blk_at 2 rfl) 4
    have S3 := Lib.hid (h3.set 2 rfl 4 (.slice A4 (withoutL s.W t).length c4))
    clear h3 HW2 k3 k4 f3
    go_wp2
    go_ret
    have h7 := S3.out.perm (by exact (List.perm_append_comm (l₁ := [_, _]) (l₂ := [_])).append_right _)
    have h8 := (h7.perm (by exact ((List.perm_append_comm (l₁ := [_]) (l₂ := [_])).append_right _).cons _)).sub (.cons_cons _ (.cons_cons _ (.cons_cons _ (.cons _ (.cons _ (List.Sublist.refl Rs))))))
    exact ⟨rfl, rt_close (s := lvS s t) h8 HO.out (HF.out _ _ _ rfl)⟩
end
end Go.Proofs.Ytkgmcifianhogaa.RefTeam
