/-
  Contracts of the functions of package countermandref06 (the document's answer for layer 6), second part: who is ended. Condition: the arena is at hand.
-/
import Derived.Test.YtidkppjhmgehoaaRefCtx
import Derived.Test.YtidkppjhmgehoaaInts
import Derived.StillTailTactics
namespace Go.Proofs.Ytidkppjhmgehoaa.RefCtx
open Go.ChangeShapes Go.WideShapes Go.ChangeAt Go.RowKit Mem TreeP RefTree CtxP Hand TreeI

theorem grow_frozen {B : Nat → Prop} {w W : World} {Rs : List Res} {α : Type} {E : Enc α} {e : TypeId} {b n c : Nat} {X : List α} (h : Sep B w W Rs) (i : Nat) (hi : Rs[i]? = some (grow E e (.slice (some ⟨b, 0, none⟩) n c) X)) (m : Nat) : W.frozen? ⟨b, m, none⟩ = false := by
  have ho := h.own i hi
  rcases ho.2 with ⟨h', _⟩ | ⟨g, cap, cur, h', hb, hg, _⟩
  · injection h' with h'; cases h'
  · have : b = g := by injection h' with h'; injection h' with h'; injection h'
    subst this
    exact frozen_block hg m
theorem end_facts {B : Nat → Prop} {w W : World} {Rs : List Res} {R1 R3 : Res} {l : List Int} {b1 o1 c1 p bb n cx : Nat} {P : Value} {t e : TypeId} {X : List Cn} (h : Sep B w W (nums (.slice (some ⟨b1, o1, none⟩) l.length c1) l :: R1 :: blk p (.cells #[P, .slice (some ⟨bb, 0, none⟩) n cx] t) :: R3 :: grow cnE e (.slice (some ⟨bb, 0, none⟩) n cx) X :: Rs)) {i : Nat} (hi : i < l.length) {j : Nat} (hj : l.getD i 0 = (j : Int)) :
    W.cell? ⟨b1, o1 + i, none⟩ = some (.int .i64 j) ∧ W.cell? ⟨p, 1, none⟩ = some (.slice (some ⟨bb, 0, none⟩) n cx) ∧ ∀ m, W.frozen? ⟨bb, m, none⟩ = false := by
  refine ⟨?_, (cell_block (h.blk_at 2 rfl) 1).trans rfl, grow_frozen h 4 rfl⟩
  obtain ⟨b', o', e1, _, _, hc⟩ := Rd.cells (h.rd 0 rfl) (by omega)
  injection e1 with e1
  injection e1 with e2 e3
  subst e2 e3
  rw [hc i hi, hj]

set_option maxRecDepth 100000 in
set_option maxHeartbeats 2000000 in
theorem end_s {B : Nat → Prop} {w wk : World} {Rs : List Res} {p : Nat} {T : List Nd} {X : List Cn} {M : Int} (h : Sep B w wk (rx p T X M :: Rs)) (n e c : Int) :
    Calls Try.prog 36 #[.pointer (some ⟨p, 0, none⟩), .int .i64 n, .int .i64 e, .int .i64 c] wk fun r wn => ∃ A cc, r = .returned (.slice A (endO T X n).length cc) ∧ Sep B w wn (grow intE 3 (.slice A (endO T X n).length cc) (endO T X n) :: rx p T (endX T X n e c) M :: Rs) := by
  obtain ⟨q, u, hs, hlen, hok⟩ := rx_open h
  obtain ⟨Ax, cx, rfl⟩ := (hs.own 2 rfl).form
  have hm : X.length ≤ 200 := by have := hok.len; have := hok.m1; omega
  have HRE : Hid (∀ w' G, RT w' G q T M → Calls Try.prog 63 #[.pointer (some ⟨q, 0, none⟩), .int .i64 n] w' fun e w2 => ∃ u, e = .returned u ∧ Rd w2 (fun k => w'.heap.size ≤ k) u (reachT T n) ∧ Below w'.heap.size w' w2) := fun w' G hR => by
    by_cases h0 : 0 ≤ n
    · exact reach_any hok.wf (T.length - n).toNat n w' hR h0 (by omega)
    · exact reach_out hR n (by rw [Bool.eq_false_iff]; intro h; exact h0 (there_iff.1 h).1)
  have HTH : Hid (∀ (i : Nat) (k : Int), (reachT T n)[i]? = some k → there T k = true) := fun i k hk => (reach_there hok.wf (List.mem_of_getElem? hk)).1
  have HND : Hid (reachT T n).Nodup := reach_once hok.wf n
  have hrl := reach_len hok.wf n
  have HX : Hid (endX T X n e c = markL X (reachT T n) e (cz e c)) := rfl
  have HO : Hid (endO T X n = toldL X (reachT T n)) := rfl
  have HOK := Lib.hid hok
  have HLEN := Lib.hid hlen
  have S0 := Lib.hid (hs.grow0 intE 3)
  clear h hs hok
  have hcz : Hid (cz e c = if c = 0 then e else c) := rfl
  generalize cz e c = z at *
  generalize reachT T n = l at *
  rw [HX.out, HO.out]
  clear HX HO
  go_enter Try.func36, Try.ntmps36
  go_upto_if 13 with (fail)
  go_cut [3] (fun s3 wx => s3 = .int .i64 z ∧ wx = wk)
  case first =>
    by_cases hc0 : c = 0
    · subst hc0
      have hz0 : z = e := by rw [hcz.out]; simp
      clear hcz
      go_wp2_with fail
      go_meet
      exact ⟨by rw [hz0], rfl⟩
    · have hz0 : z = c := by rw [hcz.out, if_neg hc0]
      have e1 : (c == 0) = false := by simpa using hc0
      clear hcz hc0
      go_wp2_with fail
      go_meet
      exact ⟨by rw [hz0], rfl⟩
  case rest =>
    obtain ⟨rfl, hwc⟩ := hcut
    have hwc' := hwc.symm
    subst hwc'
    clear hcz hwc
    have k0 := (cell_block (S0.out.blk_at 1 rfl) 0).trans rfl
    obtain ⟨GR, ⟨hR, _⟩⟩ := S0.out.get 2 rfl
    have HR := Lib.hid hR
    clear hR
    go_wp2_with fail
    refine (HRE.out _ _ HR.out).mono ?_
    rintro r w1 ⟨u1, rfl, hr, hb⟩
    obtain ⟨A1, c1, rfl⟩ : ∃ A c, u1 = .slice A l.length c := by obtain ⟨A, c, e, _⟩ := hr; exact ⟨A, c, e⟩
    have S1 := Lib.hid (S0.out.add hb (R := nums (.slice A1 l.length c1) l) (F := fun k => (wk.alloc (.cells #[] 3)).heap.size ≤ k ∧ k < w1.heap.size) ⟨hr.mono fun k hk h => ⟨h, hk⟩, fun k h => h.2⟩ fun k h => h.1)
    clear hr hb S0 HR HRE k0
    go_wp2
    go_loopw [9, 11] (fun o t W => ∃ i : Nat, i ≤ l.length ∧ t = .int .i64 i ∧ Hid (∃ A cc, o = .slice A (toldL X (l.take i)).length cc ∧ Sep B w W (nums (.slice A1 l.length c1) l :: grow intE 3 (.slice A (toldL X (l.take i)).length cc) (toldL X (l.take i)) :: blk p (.cells #[.pointer (some ⟨q, 0, none⟩), .slice Ax X.length cx] 42) :: rt q T M :: grow cnE 45 (.slice Ax X.length cx) (markL X (l.take i) e z) :: Rs))) (fun _ t _ => l.length - (intOf t).toNat)
    case atStart =>
      refine ⟨0, Nat.zero_le _, rfl, _, _, rfl, ?_⟩
      rw [List.take_zero, markL_nil]
      exact S1.out
    case round =>
      obtain ⟨i, hi, rfl, HS⟩ := hrel
      obtain ⟨Ao, co, rfl, hS⟩ := HS.out
      have SL := Lib.hid hS
      have k1 := (cell_block (hS.blk_at 2 rfl) 1).trans rfl
      have hol : (toldL X (l.take i)).length ≤ i := Nat.le_trans (List.length_filter_le _ _) (List.length_take_le _ _)
      clear HS S1
      by_cases hlt : i < l.length
      · obtain ⟨b1, o1, e1, _, hbl, hc1⟩ := Rd.cells (hS.rd 0 rfl) (by omega)
        subst e1
        have q0 := hc1 i hlt
        have hg : l[i]? = some (l.getD i 0) := by rw [List.getD_eq_getElem?_getD, List.getElem?_eq_getElem hlt]; rfl
        have hth := HTH.out i _ hg
        have HTk : Hid (l.take (i + 1) = l.take i ++ [l.getD i 0]) := by show _ = _; rw [List.take_add_one, hg]; rfl
        have hnot : l.getD i 0 ∉ l.take i := by
          have hnd : (l.take (i + 1)).Nodup := (List.take_sublist _ _).nodup HND.out
          rw [HTk.out, List.nodup_append] at hnd
          intro hm
          exact hnd.2.2 _ hm _ (by simp) rfl
        obtain ⟨j, hj, hjl⟩ := there_nat hth
        rw [hj] at q0 HTk hnot
        have hjX : j < X.length := by have := HLEN.out; omega
        have hxm := mark_at (e := e) (c := z) hjX hnot
        obtain ⟨bb, cb, eA, hbb, hcell, hfz⟩ := hS.elem 4 rfl hxm
        obtain ⟨rfl, rfl⟩ : Ax = some ⟨bb, 0, none⟩ ∧ cx = cb := by injection eA with e1 e2 e3; exact ⟨e1, e3⟩
        have d0 : wr.cell? ⟨bb, j * 8, none⟩ = some (.int .i64 (cn X (j : Nat)).e) := hcell 0 _ rfl
        have i0 : (0 : Int) ≤ (i : Int) := by omega
        have i1 : (i : Int) < (l.length : Int) := by omega
        have j0 : (0 : Int) ≤ (j : Int) := by omega
        have j1 : (j : Int) < (X.length : Int) := by omega
        have HXM := Lib.hid hxm
        have HNT := Lib.hid hnot
        have HJ := Lib.hid hj
        clear hc1 hg hth hj hS hxm hcell eA hnot
        by_cases h0 : (cn X (j : Nat)).e = 0
        · have HM := Lib.hid (mark_yes (e := e) (c := z) hjX HNT.out h0)
          have HTO : Hid (toldL X (l.take (i + 1)) = toldL X (l.take i) ++ [(j : Int)]) := by show _ = _; rw [HTk.out, told_yes h0]
          rw [h0] at d0
          clear h0
          go_wp2
          go_quiet (fail)
          go_wp2
          clear d0 q0 k1 hfz
          have S2 := Lib.hid (SL.out.drewN nq).drew
          clear SL
          generalize wr.drewN nq = w2 at *
          obtain ⟨q0, k1, hfz⟩ := end_facts S2.out hlt HJ.out
          have f0 := hfz (j * 8)
          refine wp_region_still_tail 11 (by kernel_rfl) (by kernel_rfl) ?_
          simp only [List.take_succ_cons, List.take_zero, List.drop_succ_cons, List.drop_zero]
          change wpStill _ _ w2.drew (fun a' => wpList _ _ _ _ a' w2.drew) _ _
          obtain ⟨bq, cq, eq, hbq, hcq, _⟩ := S2.out.elem 4 rfl HXM.out
          obtain ⟨rfl, rfl⟩ : bb = bq ∧ cx = cq := by injection eq with e1 e2 e3; injection e1 with e1; injection e1 with e1; exact ⟨e1, e3⟩
          have d0 : w2.drew.cell? ⟨bb, j * 8, none⟩ = some (.int .i64 (cn X (j : Nat)).e) := hcq 0 _ rfl
          clear hcq eq hfz
          generalize w2.drew = w3 at *
          repeat still_step
          refine wpStill_nil ?_
          go_wp2
          have S4 : Hid (Sep B w (w3.setCell ⟨bb, j * 8, none⟩ (.int .i64 e)).drew (nums (.slice (some ⟨b1, o1, none⟩) l.length c1) l :: grow intE 3 (.slice Ao (toldL X (l.take i)).length co) (toldL X (l.take i)) :: blk p (.cells #[.pointer (some ⟨q, 0, none⟩), .slice (some ⟨bb, 0, none⟩) X.length cx] 42) :: rt q T M :: grow cnE 45 (.slice (some ⟨bb, 0, none⟩) X.length cx) ((markL X (l.take i) e z).set j { cn X (j : Nat) with e := e }) :: Rs)) :=
            (S2.out.setc 4 rfl (x' := { cn X (j : Nat) with e := e }) (j := 0) (u := .int .i64 e) HXM.out (by show 0 < 8; omega) rfl).drew
          have HXM4 : Hid (((markL X (l.take i) e z).set j { cn X (j : Nat) with e := e })[j]? = some { cn X (j : Nat) with e := e }) := by
            show _ = _
            rw [List.getElem?_set, if_pos rfl, if_pos (List.getElem?_eq_some_iff.1 HXM.out).1]
          clear S2 d0 q0 k1 f0 hbq
          refine wp_region_still_tail 11 (by kernel_rfl) (by kernel_rfl) ?_
          simp only [List.take_succ_cons, List.take_zero, List.drop_succ_cons, List.drop_zero]
          change wpStill _ _ (w3.setCell ⟨bb, j * 8, none⟩ (.int .i64 e)).drew (fun a' => wpList _ _ _ _ a' (w3.setCell ⟨bb, j * 8, none⟩ (.int .i64 e)).drew) _ _
          generalize (w3.setCell ⟨bb, j * 8, none⟩ (.int .i64 e)).drew = w4 at *
          obtain ⟨q0, k1, hfz⟩ := end_facts S4.out hlt HJ.out
          have f0 := hfz (j * 8 + 1)
          obtain ⟨bq, cq, eq, hbq, hcq, _⟩ := S4.out.elem 4 rfl HXM4.out
          obtain ⟨rfl, rfl⟩ : bb = bq ∧ cx = cq := by injection eq with e1 e2 e3; injection e1 with e1; injection e1 with e1; exact ⟨e1, e3⟩
          have d0 : w4.cell? ⟨bb, j * 8 + 1, none⟩ = some (.int .i64 (cn X (j : Nat)).cause) := hcq 1 _ rfl
          clear hcq eq hfz
          repeat still_step
          refine wpStill_nil ?_
          have S5 : Hid (Sep B w (w4.setCell ⟨bb, j * 8 + 1, none⟩ (.int .i64 z)) (nums (.slice (some ⟨b1, o1, none⟩) l.length c1) l :: grow intE 3 (.slice Ao (toldL X (l.take i)).length co) (toldL X (l.take i)) :: blk p (.cells #[.pointer (some ⟨q, 0, none⟩), .slice (some ⟨bb, 0, none⟩) X.length cx] 42) :: rt q T M :: grow cnE 45 (.slice (some ⟨bb, 0, none⟩) X.length cx) (markL X (l.take (i + 1)) e z) :: Rs)) := by
            have := S4.out.setc 4 rfl (x' := CtxP.mark e z (cn X (j : Nat))) (j := 1) (u := .int .i64 z) HXM4.out (by show 1 < 8; omega) rfl
            rw [List.set_set, ← HM.out.1, ← HTk.out] at this
            exact this
          obtain ⟨p0, _, _⟩ := end_facts S5.out hlt HJ.out
          have HX1 : Hid (RdL intE ((w4.setCell ⟨bb, j * 8 + 1, none⟩ (.int .i64 z)).alloc (.cells #[.int .i64 (j : Int)] 3)) (fun _ => True) (.slice (some ⟨(w4.setCell ⟨bb, j * 8 + 1, none⟩ (.int .i64 z)).heap.size, 0, none⟩) 1 1) [(j : Int)]) :=
            RdL.lit1 (E := intE) (w4.setCell ⟨bb, j * 8 + 1, none⟩ (.int .i64 z)) 3 (j : Int) (cs := #[.int .i64 (j : Int)]) rfl (fun _ => True) trivial
          have esz : (w4.setCell ⟨bb, j * 8 + 1, none⟩ (.int .i64 z)).heap.size = w4.heap.size := by simp [World.setCell]
          rw [esz] at HX1
          clear S4 esz
          go_wp2_with (at_builtin; refine wpList_appS rfl _ _ intElemL rfl rfl rfl (S5.out.next (new_below0 _ _)) 1 rfl HX1.out (by simp; omega) ?_; intro A3 c3 w5 l3 HL3 h3)
          have S6 := Lib.hid h3
          clear h3 S5 HX1
          go_wp2
          go_roundw
          case rel => exact ⟨i + 1, by omega, by go_num, by rw [HTO.out, ← HL3.out]; exact ⟨_, _, rfl, S6.out⟩⟩
          case measure => simp [intOf]; omega
        · have HM : Hid (markL X (l.take (i + 1)) e z = markL X (l.take i) e z) := by show _ = _; rw [HTk.out, mark_no hjX h0]
          have HTO : Hid (toldL X (l.take (i + 1)) = toldL X (l.take i)) := by show _ = _; rw [HTk.out, told_no h0]
          generalize (cn X (j : Nat)).e = xe at *
          have e1 : (xe == 0) = false := by simpa using h0
          clear h0
          go_wp2
          go_quiet (fail)
          go_wp2
          go_roundw
          case rel => exact ⟨i + 1, by omega, by go_num, by rw [HM.out, HTO.out]; exact ⟨_, _, rfl, SL.out.drewN _⟩⟩
          case measure => simp [intOf]; omega
      · have HE : Hid (l.take i = l) := List.take_of_length_le (by omega)
        have hS2 := SL.out
        rw [HE.out] at hS2
        have S9 := Lib.hid hS2
        clear hS hS2 SL
        go_wp2
        go_ret
        rw [HE.out]
        refine ⟨_, _, rfl, ?_⟩
        have h5 := (S9.out.tail).perm (show List.Perm (_ :: _ :: _ :: _ :: Rs) _ from ((List.Perm.swap _ _ _).trans ((List.Perm.swap _ _ _).cons _)).trans (((List.Perm.swap _ _ _).cons _).cons _))
        have h6 := rx_close h5 (by rw [markL_len]; exact HLEN.out) HOK.out
        exact h6.swap

set_option maxRecDepth 100000 in
set_option maxHeartbeats 2000000 in
theorem due_s {B : Nat → Prop} {w wk : World} {Rs : List Res} {p : Nat} {T : List Nd} {X : List Cn} {M : Int} (h : Sep B w wk (rx p T X M :: Rs)) (now : Int) :
    Calls Try.prog 37 #[.pointer (some ⟨p, 0, none⟩), .int .i64 now] wk fun r wn => ∃ A cc, r = .returned (.slice A (dueO T X now).length cc) ∧ Sep B w wn (grow intE 3 (.slice A (dueO T X now).length cc) (dueO T X now) :: rx p T (dueX T X now) M :: Rs) := by
  have S0 := Lib.hid (h.grow0 intE 3)
  have HF0 : Hid (∃ F, (rx p T X M).holds (wk.alloc (.cells #[] 3)) F) := S0.out.get 1 rfl
  have HD : Hid (dueF T now (liveN X) X = (dueO T X now, dueX T X now)) := rfl
  have HLX : Hid (liveN X ≤ 200) := by
    obtain ⟨q, u, _, hl, hok⟩ := rx_open h
    have h1 := hok.len
    have h2 := hok.m1
    have h3 : liveN X ≤ X.length := List.countP_le_length
    show _ ≤ _
    omega
  clear h
  generalize dueO T X now = DO at *
  generalize dueX T X now = DX at *
  go_enter Try.func37, Try.ntmps37
  go_wp2_with fail
  refine (first_any HF0.out.choose_spec).mono ?_
  rintro r w1 ⟨rfl, d, rfl⟩
  have S1 := Lib.hid (S0.out.drewN d)
  clear S0 HF0
  go_wp2
  go_loopg [5, 6] (liveN X) (fun f o t W => ∃ (P : List Int) (X' : List Cn), t = .int .i64 (firstX X') ∧ Hid (P ++ (dueF T now f X').1 = DO ∧ (dueF T now f X').2 = DX ∧ liveN X' ≤ f ∧ P.length + 200 * f ≤ 200 * liveN X) ∧ Hid (∃ A cc, o = .slice A P.length cc ∧ Sep B w W (grow intE 3 (.slice A P.length cc) P :: rx p T X' M :: Rs)))
  case atStart => exact ⟨[], X, rfl, ⟨by rw [HD.out]; rfl, by rw [HD.out], Nat.le_refl _, by simp⟩, _, _, rfl, S1.out⟩
  case round =>
    obtain ⟨P, X', rfl, HP, HS⟩ := hrel
    obtain ⟨Ao, co, rfl, hS⟩ := HS.out
    have SL := Lib.hid hS
    obtain ⟨F, hF⟩ := hS.get 1 rfl
    obtain ⟨q, A, c, G, hs⟩ := rx_sees hF
    have k1 := hs.c1
    have hm : X'.length ≤ 200 := by have := hs.ok.len; have := hs.ok.m1; have := hs.len; omega
    have HR := Lib.hid hs.rd
    have HTX := Lib.hid hs.len
    have HW := Lib.hid hs.ok.wf
    have HRL := Lib.hid (reach_len hs.ok.wf (firstX X'))
    have hfi := first_in X'
    have HFL : Hid (0 ≤ firstX X' → (cn X' (firstX X')).has = true ∧ (cn X' (firstX X')).e = 0) := first_live
    have HDS : Hid (∀ f, ¬ (0 ≤ firstX X' ∧ (cn X' (firstX X')).at_ ≤ now) → dueF T now f X' = ([], X')) := fun f h => due_stop h f
    have HDT : Hid (∀ f, (0 ≤ firstX X' ∧ (cn X' (firstX X')).at_ ≤ now) → dueF T now (f + 1) X' = (endO T X' (firstX X') ++ (dueF T now f (endX T X' (firstX X') 11 (cn X' (firstX X')).why)).1, (dueF T now f (endX T X' (firstX X') 11 (cn X' (firstX X')).why)).2)) := fun f h => due_step h f
    have HOL : Hid ((endO T X' (firstX X')).length ≤ (reachT T (firstX X')).length) := told_len _ _
    clear HS hS hF hs S1
    generalize firstX X' = b at *
    rcases (by omega : b < 0 ∨ 0 ≤ b) with hb0 | hb0
    · have hd : decide (0 ≤ b) = false := by simp; omega
      have HDN := Lib.hid (HDS.out gk (by omega))
      clear hb0
      go_wp2
      go_ret
      obtain ⟨h1, h2, _, _⟩ := HP.out
      rw [HDN.out] at h1 h2
      rw [← h1, ← h2]
      simp only [List.append_nil]
      exact ⟨_, _, rfl, SL.out⟩
    · obtain ⟨j, rfl⟩ := Int.eq_ofNat_of_zero_le hb0
      have hj : j < X'.length := by omega
      obtain ⟨bb, off, rfl, _, d0, _, _, d3, d4, _⟩ := cn_cells HR.out (cn_at hj)
      have j0 : (0 : Int) ≤ (j : Int) := by omega
      have j1 : (j : Int) < (X'.length : Int) := by omega
      have hd : decide ((0 : Int) ≤ (j : Int)) = true := by simp
      by_cases ha : (cn X' (j : Nat)).at_ ≤ now
      · have hda : decide ((cn X' (j : Nat)).at_ ≤ now) = true := by simpa using ha
        have HLE := Lib.hid (live_end HW.out HTX.out hj (HFL.out j0).2 (cn X' (j : Nat)).why)
        have HDU := Lib.hid (fun f => HDT.out f ⟨j0, ha⟩)
        have HY : Hid ((endX T X' (j : Nat) 11 (cn X' (j : Nat)).why).length = X'.length) := endX_len _ _ _ _ _
        clear ha HDT HDS HFL
        generalize (cn X' (j : Nat)).at_ = ja at *
        generalize hwy : (cn X' (j : Nat)).why = why at *
        go_wp2_with fail
        refine (end_s (SL.out.swap) j 11 why).mono ?_
        rintro r w2 ⟨A2, c2, rfl, h2⟩
        have S2 := Lib.hid h2
        have HRO := Lib.hid ((h2.own 0 rfl).rd (G := fun _ => True) (by have := HOL.out; have := HRL.out; have := HTX.out; omega) fun _ _ => trivial)
        have hOl : (endO T X' (j : Nat)).length ≤ 200 := by have := HOL.out; have := HRL.out; have := HTX.out; omega
        obtain ⟨f, rfl⟩ : ∃ f, gk = f + 1 := ⟨gk - 1, by obtain ⟨_, _, h3, _⟩ := HP.out; have := HLE.out; omega⟩
        have HD2 := Lib.hid (HDU.out f)
        have hPl : P.length ≤ 40000 := by obtain ⟨_, _, _, h4⟩ := HP.out; have := HLX.out; omega
        clear h2 SL HDU
        generalize endO T X' (j : Nat) = O at *
        generalize endX T X' (j : Nat) 11 why = X2 at *
        go_wp2_with (at_builtin; refine wpList_appS rfl _ _ intElemL rfl rfl rfl S2.out 2 rfl HRO.out (by omega) ?_; intro A3 c3 w3 l3 HL3 h3)
        have S3 := Lib.hid h3.tail.swap
        obtain ⟨F3, hF3⟩ := h3.get 1 rfl
        have HF3 := Lib.hid hF3
        clear h3 S2 HRO hF3
        go_wp2_with fail
        refine (first_any HF3.out).mono ?_
        rintro r w4 ⟨rfl, d4, rfl⟩
        have S4 := Lib.hid (S3.out.drewN d4)
        clear S3 HF3
        go_wp2
        go_roundg f
        case measure => omega
        case rel =>
          obtain ⟨h1, h2, h3, h4⟩ := HP.out
          rw [HD2.out] at h1 h2
          obtain rfl := HL3.out
          exact ⟨P ++ O, X2, rfl, ⟨by rw [List.append_assoc]; exact h1, h2, by have := HLE.out; omega, by rw [List.length_append]; omega⟩, _, _, rfl, S4.out⟩
      · have hda : decide ((cn X' (j : Nat)).at_ ≤ now) = false := by simpa using ha
        have HDN := Lib.hid (HDS.out gk (by omega))
        clear ha
        generalize (cn X' (j : Nat)).at_ = ja at *
        go_wp2
        go_ret
        obtain ⟨h1, h2, _, _⟩ := HP.out
        rw [HDN.out] at h1 h2
        rw [← h1, ← h2]
        simp only [List.append_nil]
        exact ⟨_, _, rfl, SL.out⟩
end Go.Proofs.Ytidkppjhmgehoaa.RefCtx
