/-
  The walk of the law ScriptMore over any package that meets 'Cs': it returns true and leaves old memory as it was. Conditions: none but 'Cs'.
-/
import Derived.Test.YtolooaahaofflaaDoorScriBack
import Derived.Test.YtolooaahaofflaaDoorHeldN
namespace Go.Proofs.YtolooaahaofflaaDoor.ScriI
open Go.ChangeShapes Go.WideShapes Go.ChangeAt Go.RowKit Mem MutP CodeP ScriptP Hand RefCode CodeI Scr RefScr

theorem siElem : Elem itE Tryd.prog 26 23 := elem_of (z := .agg #[.int .i64 0, .int .i64 0, .int .i64 0]) (bytes := 24) Tryd.underlying26 (by kernel_rfl) rfl (by omega)

set_option maxRecDepth 100000 in
set_option maxHeartbeats 4000000 in
theorem more_s {w : World} (I : Cs w) (pv : Sv) (x : It) (ps1 : List (Pl In)) (xs1 : List It) (h0 : ScIn w pv ps1 xs1) (hx : InIt x) :
    Calls Tryd.prog 5 #[.agg pv.arr, .agg #[.int .i64 x.d, .int .i64 x.a, .int .i64 x.n]] w fun e w' => e = .returned (.bool true) ∧ Below w.heap.size w w' := by
  obtain ⟨p0, p1, p2, p3, pA, pn, pc, pX, pm, pd⟩ := pv
  have H0 := Lib.hid h0
  have HX := Lib.hid hx
  have S0 : Hid (Sep (fun _ => False) w ((w.alloc (.cells #[.int .i64 p0, .int .i64 p1, .int .i64 p2, .int .i64 p3, .slice pA pn pc, .slice pX pm pd] 28)).alloc (.cells #[.int .i64 x.d, .int .i64 x.a, .int .i64 x.n] 23)) [blk (w.heap.size) (.cells #[.int .i64 p0, .int .i64 p1, .int .i64 p2, .int .i64 p3, .slice pA pn pc, .slice pX pm pd] 28), blk (w.heap.size + 1) (.cells #[.int .i64 x.d, .int .i64 x.a, .int .i64 x.n] 23)]) := by
    have h1 := ((Sep.nil (fun _ => False) w).new (.cells #[.int .i64 p0, .int .i64 p1, .int .i64 p2, .int .i64 p3, .slice pA pn pc, .slice pX pm pd] 28)).new (.cells #[.int .i64 x.d, .int .i64 x.a, .int .i64 x.n] 23)
    simp only [World.size_alloc] at h1
    exact h1.swap
  obtain ⟨la, hla⟩ : ∃ r, largeB ⟨p0, p1, p2, p3, pA, pn, pc, pX, pm, pd⟩ ps1 = r := ⟨_, rfl⟩
  have HLA := Lib.hid hla
  unfold Sv.arr
  simp only
  clear h0 hla hx
  cases la with
  | true =>
    go_enter Tryd.func5, Tryd.ntmps5
    go_wp2_with fail
    refine (awake_s I _ S0.out.old).mono ?_
    rintro e w1 ⟨rfl, hb1⟩
    have S1 := Lib.hid (S0.out.next hb1)
    have kp0 := (cell_block (S1.out.blk_at 0 (g := w.heap.size) (o := .cells #[.int .i64 p0, .int .i64 p1, .int .i64 p2, .int .i64 p3, .slice pA pn pc, .slice pX pm pd] 28) rfl) 0).trans rfl
    have kp1 := (cell_block (S1.out.blk_at 0 (g := w.heap.size) (o := .cells #[.int .i64 p0, .int .i64 p1, .int .i64 p2, .int .i64 p3, .slice pA pn pc, .slice pX pm pd] 28) rfl) 1).trans rfl
    have kp2 := (cell_block (S1.out.blk_at 0 (g := w.heap.size) (o := .cells #[.int .i64 p0, .int .i64 p1, .int .i64 p2, .int .i64 p3, .slice pA pn pc, .slice pX pm pd] 28) rfl) 2).trans rfl
    have kp3 := (cell_block (S1.out.blk_at 0 (g := w.heap.size) (o := .cells #[.int .i64 p0, .int .i64 p1, .int .i64 p2, .int .i64 p3, .slice pA pn pc, .slice pX pm pd] 28) rfl) 3).trans rfl
    have kp4 := (cell_block (S1.out.blk_at 0 (g := w.heap.size) (o := .cells #[.int .i64 p0, .int .i64 p1, .int .i64 p2, .int .i64 p3, .slice pA pn pc, .slice pX pm pd] 28) rfl) 4).trans rfl
    have kp5 := (cell_block (S1.out.blk_at 0 (g := w.heap.size) (o := .cells #[.int .i64 p0, .int .i64 p1, .int .i64 p2, .int .i64 p3, .slice pA pn pc, .slice pX pm pd] 28) rfl) 5).trans rfl
    clear hb1 S0
    go_wp2_with fail
    refine (o_large S1.out H0.out HLA.out).mono ?_
    rintro e w2 ⟨rfl, h2⟩
    have S2 := Lib.hid h2
    clear h2 S1 kp0 kp1 kp2 kp3 kp4 kp5
    go_wp2
    go_ret
    exact ⟨rfl, S2.out.old⟩
  | false =>
    obtain ⟨sa, sb, sc⟩ := small_in H0.out HLA.out
    obtain ⟨s, hs⟩ : ∃ s, scIn ⟨p0, p1, p2, p3, pA, pn, pc, pX, pm, pd⟩ ps1 xs1 = s := ⟨_, rfl⟩
    rw [hs] at sa sb sc
    have SA := Lib.hid sa
    have SB := Lib.hid sb
    have SC := Lib.hid sc
    have HXL : Hid (s.xs.length = pm) := (RdS.xn sa).symm
    obtain ⟨bE, hbE⟩ : ∃ e, bytesSE s = e := ⟨_, rfl⟩
    obtain ⟨bB, hbR⟩ : ∃ e, bytesSR s = e := ⟨_, rfl⟩
    obtain ⟨bn, hbn⟩ : ∃ e, bB.length = e := ⟨_, rfl⟩
    have HbE := Lib.hid hbE
    have HbR := Lib.hid hbR
    have Hbn := Lib.hid hbn
    have bpm : pm ≤ 220 := by rw [← HXL.out]; exact sb.2.2
    clear sa sb sc hs hbE hbR hbn
    go_enter Tryd.func5, Tryd.ntmps5
    go_wp2_with fail
    refine (awake_s I _ S0.out.old).mono ?_
    rintro e w1 ⟨rfl, hb1⟩
    have S1 := Lib.hid (S0.out.next hb1)
    have kp0 := (cell_block (S1.out.blk_at 0 (g := w.heap.size) (o := .cells #[.int .i64 p0, .int .i64 p1, .int .i64 p2, .int .i64 p3, .slice pA pn pc, .slice pX pm pd] 28) rfl) 0).trans rfl
    have kp1 := (cell_block (S1.out.blk_at 0 (g := w.heap.size) (o := .cells #[.int .i64 p0, .int .i64 p1, .int .i64 p2, .int .i64 p3, .slice pA pn pc, .slice pX pm pd] 28) rfl) 1).trans rfl
    have kp2 := (cell_block (S1.out.blk_at 0 (g := w.heap.size) (o := .cells #[.int .i64 p0, .int .i64 p1, .int .i64 p2, .int .i64 p3, .slice pA pn pc, .slice pX pm pd] 28) rfl) 2).trans rfl
    have kp3 := (cell_block (S1.out.blk_at 0 (g := w.heap.size) (o := .cells #[.int .i64 p0, .int .i64 p1, .int .i64 p2, .int .i64 p3, .slice pA pn pc, .slice pX pm pd] 28) rfl) 3).trans rfl
    have kp4 := (cell_block (S1.out.blk_at 0 (g := w.heap.size) (o := .cells #[.int .i64 p0, .int .i64 p1, .int .i64 p2, .int .i64 p3, .slice pA pn pc, .slice pX pm pd] 28) rfl) 4).trans rfl
    have kp5 := (cell_block (S1.out.blk_at 0 (g := w.heap.size) (o := .cells #[.int .i64 p0, .int .i64 p1, .int .i64 p2, .int .i64 p3, .slice pA pn pc, .slice pX pm pd] 28) rfl) 5).trans rfl
    clear hb1 S0
    go_wp2_with fail
    refine (o_large S1.out H0.out HLA.out).mono ?_
    rintro e w2 ⟨rfl, h2⟩
    have S2 := Lib.hid h2
    clear h2 S1 kp0 kp1 kp2 kp3 kp4 kp5
    have kp0 := (cell_block (S2.out.blk_at 0 (g := w.heap.size) (o := .cells #[.int .i64 p0, .int .i64 p1, .int .i64 p2, .int .i64 p3, .slice pA pn pc, .slice pX pm pd] 28) rfl) 0).trans rfl
    have kp1 := (cell_block (S2.out.blk_at 0 (g := w.heap.size) (o := .cells #[.int .i64 p0, .int .i64 p1, .int .i64 p2, .int .i64 p3, .slice pA pn pc, .slice pX pm pd] 28) rfl) 1).trans rfl
    have kp2 := (cell_block (S2.out.blk_at 0 (g := w.heap.size) (o := .cells #[.int .i64 p0, .int .i64 p1, .int .i64 p2, .int .i64 p3, .slice pA pn pc, .slice pX pm pd] 28) rfl) 2).trans rfl
    have kp3 := (cell_block (S2.out.blk_at 0 (g := w.heap.size) (o := .cells #[.int .i64 p0, .int .i64 p1, .int .i64 p2, .int .i64 p3, .slice pA pn pc, .slice pX pm pd] 28) rfl) 3).trans rfl
    have kp4 := (cell_block (S2.out.blk_at 0 (g := w.heap.size) (o := .cells #[.int .i64 p0, .int .i64 p1, .int .i64 p2, .int .i64 p3, .slice pA pn pc, .slice pX pm pd] 28) rfl) 4).trans rfl
    have kp5 := (cell_block (S2.out.blk_at 0 (g := w.heap.size) (o := .cells #[.int .i64 p0, .int .i64 p1, .int .i64 p2, .int .i64 p3, .slice pA pn pc, .slice pX pm pd] 28) rfl) 5).trans rfl
    go_wp2_with fail
    refine (c_bytes I S2.out (SA.out.below S2.out.old) SB.out SC.out HbE.out HbR.out Hbn.out).mono ?_
    rintro e w4 ⟨A5, c5, f5, rfl, h4⟩
    have S4 : Hid (Sep (fun _ => False) w w4 [blk (w.heap.size) (.cells #[.int .i64 p0, .int .i64 p1, .int .i64 p2, .int .i64 p3, .slice pA pn pc, .slice pX pm pd] 28), blk (w.heap.size + 1) (.cells #[.int .i64 x.d, .int .i64 x.a, .int .i64 x.n] 23), told byE (.slice A5 bn c5) bB]) := h4.perm (List.perm_append_comm (l₁ := [told byE (.slice A5 bn c5) bB]) (l₂ := [blk (w.heap.size) (.cells #[.int .i64 p0, .int .i64 p1, .int .i64 p2, .int .i64 p3, .slice pA pn pc, .slice pX pm pd] 28), blk (w.heap.size + 1) (.cells #[.int .i64 x.d, .int .i64 x.a, .int .i64 x.n] 23)]))
    clear h4 S2 kp0 kp1 kp2 kp3 kp4 kp5
    have kp0 := (cell_block (S4.out.blk_at 0 (g := w.heap.size) (o := .cells #[.int .i64 p0, .int .i64 p1, .int .i64 p2, .int .i64 p3, .slice pA pn pc, .slice pX pm pd] 28) rfl) 0).trans rfl
    have kp1 := (cell_block (S4.out.blk_at 0 (g := w.heap.size) (o := .cells #[.int .i64 p0, .int .i64 p1, .int .i64 p2, .int .i64 p3, .slice pA pn pc, .slice pX pm pd] 28) rfl) 1).trans rfl
    have kp2 := (cell_block (S4.out.blk_at 0 (g := w.heap.size) (o := .cells #[.int .i64 p0, .int .i64 p1, .int .i64 p2, .int .i64 p3, .slice pA pn pc, .slice pX pm pd] 28) rfl) 2).trans rfl
    have kp3 := (cell_block (S4.out.blk_at 0 (g := w.heap.size) (o := .cells #[.int .i64 p0, .int .i64 p1, .int .i64 p2, .int .i64 p3, .slice pA pn pc, .slice pX pm pd] 28) rfl) 3).trans rfl
    have kp4 := (cell_block (S4.out.blk_at 0 (g := w.heap.size) (o := .cells #[.int .i64 p0, .int .i64 p1, .int .i64 p2, .int .i64 p3, .slice pA pn pc, .slice pX pm pd] 28) rfl) 4).trans rfl
    have kp5 := (cell_block (S4.out.blk_at 0 (g := w.heap.size) (o := .cells #[.int .i64 p0, .int .i64 p1, .int .i64 p2, .int .i64 p3, .slice pA pn pc, .slice pX pm pd] 28) rfl) 5).trans rfl
    cases hm : mayS s with
    | false =>
      obtain rfl : bE = 1 := by
        have e1 := HbE.out
        unfold bytesSE at e1
        rw [hm] at e1
        exact e1.symm
      clear hm
      go_wp2
      go_ret
      exact ⟨rfl, S4.out.old⟩
    | true =>
      obtain ⟨y1, y2⟩ : bE = 0 ∧ bB = bytesS s := by
        have e1 := HbE.out
        have e2 := HbR.out
        unfold bytesSE at e1
        unfold bytesSR at e2
        rw [hm] at e1 e2
        exact ⟨e1.symm, e2.symm⟩
      subst y1
      have HBB := Lib.hid y2
      have HLS : Hid (bn = longS s) := by show _ = _; rw [← Hbn.out, y2, bytesS_len SC.out.1]
      have HMM := Lib.hid hm
      clear y2 hm
      rcases (by omega : 200 ≤ pm ∨ (pm < 200 ∧ 3990 < bn) ∨ (pm < 200 ∧ bn ≤ 3990)) with hc | ⟨hc, hd⟩ | ⟨hc, hd⟩
      · have d0 : decide ((pm : Int) ≥ 200) = true := decide_eq_true (by omega)
        have d1 : decide (200 ≤ pm) = true := decide_eq_true hc
        clear hc
        go_wp2
        go_ret
        exact ⟨rfl, S4.out.old⟩
      · have d0 : decide ((pm : Int) ≥ 200) = false := decide_eq_false (by omega)
        have d1 : decide (200 ≤ pm) = false := decide_eq_false (by omega)
        have d2 : decide ((bn : Int) > 3990) = true := decide_eq_true (by omega)
        have d3 : decide (3990 < bn) = true := decide_eq_true hd
        clear hc hd
        go_wp2
        go_ret
        exact ⟨rfl, S4.out.old⟩
      · have d0 : decide ((pm : Int) ≥ 200) = false := decide_eq_false (by omega)
        have d1 : decide (200 ≤ pm) = false := decide_eq_false (by omega)
        have d2 : decide ((bn : Int) > 3990) = false := decide_eq_false (by omega)
        have d3 : decide (3990 < bn) = false := decide_eq_false (by omega)
        obtain ⟨t, ht⟩ : ∃ t : Sc, (⟨s.r, s.ps, s.xs ++ [x]⟩ : Sc) = t := ⟨_, rfl⟩
        have HMT : Hid (mayS t = rightI x) := by rw [← ht]; exact moreS HMM.out (by rw [HXL.out]; exact hc) (by rw [← HLS.out]; exact hd)
        have HBT : Hid (bytesS t = bytesS s ++ itL x) := by rw [← ht]; exact bytesS_more s x
        have HTS : Hid (Small t ∧ InSc t) := by
          rw [← ht]
          exact ⟨⟨SB.out.1, SB.out.2.1, by show (s.xs ++ [x]).length ≤ 220; rw [List.length_append, HXL.out]; simp; omega⟩, SC.out.1, SC.out.2.1, SC.out.2.2.1, fun y hy => by
            have hy : y ∈ s.xs ++ [x] := hy
            rcases List.mem_append.1 hy with hy | hy
            · exact SC.out.2.2.2 y hy
            · rw [List.mem_singleton] at hy; rw [hy]; exact HX.out⟩
        have HTV : Hid (∀ (V : World) (A9 : Option Addr) (c9 : Nat), Below w.heap.size w V → RdL itE V (fun _ => True) (.slice A9 (pm + 1) c9) (s.xs ++ [x]) → pm + 1 ≤ c9 → RdS V (fun _ => True) ⟨p0, p1, p2, p3, pA, pn, pc, A9, pm + 1, c9⟩ t) := fun V A9 c9 hV hr hc => by
          rw [← ht]
          have h1 := (SA.out.below hV).mono (G' := fun _ => True) (fun _ _ _ => trivial)
          exact ⟨h1.1, h1.2.1, hr, h1.2.2.2.1, hc⟩
        have HXS : Hid (∀ V : World, Below w.heap.size w V → RdL itE V (fun b => b < w.heap.size) (.slice pX pm pd) s.xs) := fun V hV => (SA.out.below hV).2.2.1
        have HHC : Hid (pm < 200 ∧ bn ≤ 3990) := ⟨hc, hd⟩
        clear ht hc hd
        go_upto_region 9 with (fail)
        have SD : Hid (Sep (fun _ => False) w (w4.alloc (.cells #[.int .i64 p0, .int .i64 p1, .int .i64 p2, .int .i64 p3, .slice pA pn pc, .slice pX pm pd] 28)).drew [blk (w.heap.size) (.cells #[.int .i64 p0, .int .i64 p1, .int .i64 p2, .int .i64 p3, .slice pA pn pc, .slice pX pm pd] 28), blk (w.heap.size + 1) (.cells #[.int .i64 x.d, .int .i64 x.a, .int .i64 x.n] 23), told byE (.slice A5 bn c5) bB, blk w4.heap.size (.cells #[.int .i64 p0, .int .i64 p1, .int .i64 p2, .int .i64 p3, .slice pA pn pc, .slice pX pm pd] 28)]) := by
          have h1 := (S4.out.new (.cells #[.int .i64 p0, .int .i64 p1, .int .i64 p2, .int .i64 p3, .slice pA pn pc, .slice pX pm pd] 28)).drew
          exact h1.perm (List.perm_append_comm (l₁ := [blk w4.heap.size (.cells #[.int .i64 p0, .int .i64 p1, .int .i64 p2, .int .i64 p3, .slice pA pn pc, .slice pX pm pd] 28)]) (l₂ := [blk (w.heap.size) (.cells #[.int .i64 p0, .int .i64 p1, .int .i64 p2, .int .i64 p3, .slice pA pn pc, .slice pX pm pd] 28), blk (w.heap.size + 1) (.cells #[.int .i64 x.d, .int .i64 x.a, .int .i64 x.n] 23), told byE (.slice A5 bn c5) bB]))
        clear S4 kp0 kp1 kp2 kp3 kp4 kp5 d0 d1 d2 d3
        go_cut [39] (fun s39 wx => ∃ A9 c9, s39 = .slice A9 (pm + 1) c9 ∧ Hid (Sep (fun _ => False) w wx [blk (w.heap.size) (.cells #[.int .i64 p0, .int .i64 p1, .int .i64 p2, .int .i64 p3, .slice pA pn pc, .slice pX pm pd] 28), blk (w.heap.size + 1) (.cells #[.int .i64 x.d, .int .i64 x.a, .int .i64 x.n] 23), told byE (.slice A5 bn c5) bB, blk w4.heap.size (.cells #[.int .i64 p0, .int .i64 p1, .int .i64 p2, .int .i64 p3, .slice pA pn pc, .slice A9 (pm + 1) c9] 28), grow itE 23 (.slice A9 (pm + 1) c9) (s.xs ++ [x])]))
        case first => as_aux_lemma =>
          refine Held.begin_ (fun V : World => V.cell? ⟨w.heap.size, 0, none⟩ = some (.int .i64 p0) ∧ V.cell? ⟨w.heap.size, 1, none⟩ = some (.int .i64 p1) ∧ V.cell? ⟨w.heap.size, 2, none⟩ = some (.int .i64 p2) ∧ V.cell? ⟨w.heap.size, 3, none⟩ = some (.int .i64 p3) ∧ V.cell? ⟨w.heap.size, 4, none⟩ = some (.slice pA pn pc) ∧ V.cell? ⟨w.heap.size, 5, none⟩ = some (.slice pX pm pd) ∧ V.cell? ⟨w.heap.size + 1, 0, none⟩ = some (.int .i64 x.d) ∧ V.cell? ⟨w.heap.size + 1, 1, none⟩ = some (.int .i64 x.a) ∧ V.cell? ⟨w.heap.size + 1, 2, none⟩ = some (.int .i64 x.n)) 8 (by kernel_rfl) ?_
          have hC : (fun V : World => V.cell? ⟨w.heap.size, 0, none⟩ = some (.int .i64 p0) ∧ V.cell? ⟨w.heap.size, 1, none⟩ = some (.int .i64 p1) ∧ V.cell? ⟨w.heap.size, 2, none⟩ = some (.int .i64 p2) ∧ V.cell? ⟨w.heap.size, 3, none⟩ = some (.int .i64 p3) ∧ V.cell? ⟨w.heap.size, 4, none⟩ = some (.slice pA pn pc) ∧ V.cell? ⟨w.heap.size, 5, none⟩ = some (.slice pX pm pd) ∧ V.cell? ⟨w.heap.size + 1, 0, none⟩ = some (.int .i64 x.d) ∧ V.cell? ⟨w.heap.size + 1, 1, none⟩ = some (.int .i64 x.a) ∧ V.cell? ⟨w.heap.size + 1, 2, none⟩ = some (.int .i64 x.n)) (w4.alloc (.cells #[.int .i64 p0, .int .i64 p1, .int .i64 p2, .int .i64 p3, .slice pA pn pc, .slice pX pm pd] 28)).drew := ⟨(cell_block (SD.out.blk_at 0 (g := w.heap.size) (o := .cells #[.int .i64 p0, .int .i64 p1, .int .i64 p2, .int .i64 p3, .slice pA pn pc, .slice pX pm pd] 28) rfl) 0).trans rfl, (cell_block (SD.out.blk_at 0 (g := w.heap.size) (o := .cells #[.int .i64 p0, .int .i64 p1, .int .i64 p2, .int .i64 p3, .slice pA pn pc, .slice pX pm pd] 28) rfl) 1).trans rfl, (cell_block (SD.out.blk_at 0 (g := w.heap.size) (o := .cells #[.int .i64 p0, .int .i64 p1, .int .i64 p2, .int .i64 p3, .slice pA pn pc, .slice pX pm pd] 28) rfl) 2).trans rfl, (cell_block (SD.out.blk_at 0 (g := w.heap.size) (o := .cells #[.int .i64 p0, .int .i64 p1, .int .i64 p2, .int .i64 p3, .slice pA pn pc, .slice pX pm pd] 28) rfl) 3).trans rfl, (cell_block (SD.out.blk_at 0 (g := w.heap.size) (o := .cells #[.int .i64 p0, .int .i64 p1, .int .i64 p2, .int .i64 p3, .slice pA pn pc, .slice pX pm pd] 28) rfl) 4).trans rfl, (cell_block (SD.out.blk_at 0 (g := w.heap.size) (o := .cells #[.int .i64 p0, .int .i64 p1, .int .i64 p2, .int .i64 p3, .slice pA pn pc, .slice pX pm pd] 28) rfl) 5).trans rfl, (cell_block (SD.out.blk_at 1 (g := w.heap.size + 1) (o := .cells #[.int .i64 x.d, .int .i64 x.a, .int .i64 x.n] 23) rfl) 0).trans rfl, (cell_block (SD.out.blk_at 1 (g := w.heap.size + 1) (o := .cells #[.int .i64 x.d, .int .i64 x.a, .int .i64 x.n] 23) rfl) 1).trans rfl, (cell_block (SD.out.blk_at 1 (g := w.heap.size + 1) (o := .cells #[.int .i64 x.d, .int .i64 x.a, .int .i64 x.n] 23) rfl) 2).trans rfl⟩
          refine Held.takeG 1 (v := ?_) hC rfl (by kernel_rfl) (by kernel_rfl) (by kernel_rfl) (by kernel_rfl) (fun _ _ _ h => h) rfl ?_ ?_; rotate_left; · (intro W hW; obtain ⟨k0, k1, k2, k3, k4, k5, k6, k7, k8⟩ := hW; go_simp <;> with_reducible rfl)
          try simp only [Act.put, List.setIfInBounds_toArray, List.set_cons_zero, List.set_cons_succ]
          refine Held.takeG 2 (v := ?_) hC rfl (by kernel_rfl) (by kernel_rfl) (by kernel_rfl) (by kernel_rfl) (fun _ _ _ h => h) rfl ?_ ?_; rotate_left; · (intro W hW; obtain ⟨k0, k1, k2, k3, k4, k5, k6, k7, k8⟩ := hW; go_simp <;> with_reducible rfl)
          try simp only [Act.put, List.setIfInBounds_toArray, List.set_cons_zero, List.set_cons_succ]
          refine Held.takeG 4 (v := ?_) hC rfl (by kernel_rfl) (by kernel_rfl) (by kernel_rfl) (by kernel_rfl) (fun _ _ _ h => h) rfl ?_ ?_; rotate_left; · (intro W hW; obtain ⟨k0, k1, k2, k3, k4, k5, k6, k7, k8⟩ := hW; go_simp <;> with_reducible rfl)
          try simp only [Act.put, List.setIfInBounds_toArray, List.set_cons_zero, List.set_cons_succ]
          clear hC
          generalize (w4.alloc (.cells #[.int .i64 p0, .int .i64 p1, .int .i64 p2, .int .i64 p3, .slice pA pn pc, .slice pX pm pd] 28)).drew = w0 at *
          refine Held.either 0 5 (by kernel_rfl) rfl rfl ?_ ?_
          · intro K hK
            go_simp
            have Sg : Hid (Sep (fun _ => False) w (w0.alloc (.cells #[] 23)) [blk (w.heap.size) (.cells #[.int .i64 p0, .int .i64 p1, .int .i64 p2, .int .i64 p3, .slice pA pn pc, .slice pX pm pd] 28), blk (w.heap.size + 1) (.cells #[.int .i64 x.d, .int .i64 x.a, .int .i64 x.n] 23), told byE (.slice A5 bn c5) bB, blk w4.heap.size (.cells #[.int .i64 p0, .int .i64 p1, .int .i64 p2, .int .i64 p3, .slice pA pn pc, .slice pX pm pd] 28), grow itE 23 (.slice (some ⟨w0.heap.size, 0, none⟩) 0 0) ([] : List It)]) := (SD.out.grow0 itE 23).perm (List.perm_append_comm (l₁ := [grow itE 23 (.slice (some ⟨w0.heap.size, 0, none⟩) 0 0) ([] : List It)]) (l₂ := [blk (w.heap.size) (.cells #[.int .i64 p0, .int .i64 p1, .int .i64 p2, .int .i64 p3, .slice pA pn pc, .slice pX pm pd] 28), blk (w.heap.size + 1) (.cells #[.int .i64 x.d, .int .i64 x.a, .int .i64 x.n] 23), told byE (.slice A5 bn c5) bB, blk w4.heap.size (.cells #[.int .i64 p0, .int .i64 p1, .int .i64 p2, .int .i64 p3, .slice pA pn pc, .slice pX pm pd] 28)]))
            refine hK.out _ _ (fun _ => ⟨(cell_block (Sg.out.blk_at 0 (g := w.heap.size) (o := .cells #[.int .i64 p0, .int .i64 p1, .int .i64 p2, .int .i64 p3, .slice pA pn pc, .slice pX pm pd] 28) rfl) 0).trans rfl, (cell_block (Sg.out.blk_at 0 (g := w.heap.size) (o := .cells #[.int .i64 p0, .int .i64 p1, .int .i64 p2, .int .i64 p3, .slice pA pn pc, .slice pX pm pd] 28) rfl) 1).trans rfl, (cell_block (Sg.out.blk_at 0 (g := w.heap.size) (o := .cells #[.int .i64 p0, .int .i64 p1, .int .i64 p2, .int .i64 p3, .slice pA pn pc, .slice pX pm pd] 28) rfl) 2).trans rfl, (cell_block (Sg.out.blk_at 0 (g := w.heap.size) (o := .cells #[.int .i64 p0, .int .i64 p1, .int .i64 p2, .int .i64 p3, .slice pA pn pc, .slice pX pm pd] 28) rfl) 3).trans rfl, (cell_block (Sg.out.blk_at 0 (g := w.heap.size) (o := .cells #[.int .i64 p0, .int .i64 p1, .int .i64 p2, .int .i64 p3, .slice pA pn pc, .slice pX pm pd] 28) rfl) 4).trans rfl, (cell_block (Sg.out.blk_at 0 (g := w.heap.size) (o := .cells #[.int .i64 p0, .int .i64 p1, .int .i64 p2, .int .i64 p3, .slice pA pn pc, .slice pX pm pd] 28) rfl) 5).trans rfl, (cell_block (Sg.out.blk_at 1 (g := w.heap.size + 1) (o := .cells #[.int .i64 x.d, .int .i64 x.a, .int .i64 x.n] 23) rfl) 0).trans rfl, (cell_block (Sg.out.blk_at 1 (g := w.heap.size + 1) (o := .cells #[.int .i64 x.d, .int .i64 x.a, .int .i64 x.n] 23) rfl) 1).trans rfl, (cell_block (Sg.out.blk_at 1 (g := w.heap.size + 1) (o := .cells #[.int .i64 x.d, .int .i64 x.a, .int .i64 x.n] 23) rfl) 2).trans rfl⟩) ?_
            clear hK K
            try simp only [Act.put, List.setIfInBounds_toArray, List.set_cons_zero, List.set_cons_succ]
            refine Held.either 3 5 (by kernel_rfl) rfl rfl ?_ ?_
            · intro K hK
              refine wp_appC (.tmp 33) (.tmp 35) siElem rfl rfl rfl Sg.out 4 rfl (HXS.out _ Sg.out.old) (by rw [HXL.out]; simp; omega) ?_
              intro A2 c2 w2 l2 HLl2 hh
              have Sl2 : Hid (Sep (fun _ => False) w (w2) [blk (w.heap.size) (.cells #[.int .i64 p0, .int .i64 p1, .int .i64 p2, .int .i64 p3, .slice pA pn pc, .slice pX pm pd] 28), blk (w.heap.size + 1) (.cells #[.int .i64 x.d, .int .i64 x.a, .int .i64 x.n] 23), told byE (.slice A5 bn c5) bB, blk w4.heap.size (.cells #[.int .i64 p0, .int .i64 p1, .int .i64 p2, .int .i64 p3, .slice pA pn pc, .slice pX pm pd] 28), grow itE 23 (.slice A2 l2.length c2) l2]) := hh
              clear hh
              have HNl2 : Hid (l2 = s.xs ∧ l2.length = pm) := by
                have e : l2 = s.xs := by rw [HLl2.out]; simp
                exact ⟨e, by rw [e, HXL.out]⟩
              refine hK.out _ _ (fun _ => ⟨(cell_block (Sl2.out.blk_at 0 (g := w.heap.size) (o := .cells #[.int .i64 p0, .int .i64 p1, .int .i64 p2, .int .i64 p3, .slice pA pn pc, .slice pX pm pd] 28) rfl) 0).trans rfl, (cell_block (Sl2.out.blk_at 0 (g := w.heap.size) (o := .cells #[.int .i64 p0, .int .i64 p1, .int .i64 p2, .int .i64 p3, .slice pA pn pc, .slice pX pm pd] 28) rfl) 1).trans rfl, (cell_block (Sl2.out.blk_at 0 (g := w.heap.size) (o := .cells #[.int .i64 p0, .int .i64 p1, .int .i64 p2, .int .i64 p3, .slice pA pn pc, .slice pX pm pd] 28) rfl) 2).trans rfl, (cell_block (Sl2.out.blk_at 0 (g := w.heap.size) (o := .cells #[.int .i64 p0, .int .i64 p1, .int .i64 p2, .int .i64 p3, .slice pA pn pc, .slice pX pm pd] 28) rfl) 3).trans rfl, (cell_block (Sl2.out.blk_at 0 (g := w.heap.size) (o := .cells #[.int .i64 p0, .int .i64 p1, .int .i64 p2, .int .i64 p3, .slice pA pn pc, .slice pX pm pd] 28) rfl) 4).trans rfl, (cell_block (Sl2.out.blk_at 0 (g := w.heap.size) (o := .cells #[.int .i64 p0, .int .i64 p1, .int .i64 p2, .int .i64 p3, .slice pA pn pc, .slice pX pm pd] 28) rfl) 5).trans rfl, (cell_block (Sl2.out.blk_at 1 (g := w.heap.size + 1) (o := .cells #[.int .i64 x.d, .int .i64 x.a, .int .i64 x.n] 23) rfl) 0).trans rfl, (cell_block (Sl2.out.blk_at 1 (g := w.heap.size + 1) (o := .cells #[.int .i64 x.d, .int .i64 x.a, .int .i64 x.n] 23) rfl) 1).trans rfl, (cell_block (Sl2.out.blk_at 1 (g := w.heap.size + 1) (o := .cells #[.int .i64 x.d, .int .i64 x.a, .int .i64 x.n] 23) rfl) 2).trans rfl⟩) ?_
              clear hK K
              try simp only [Act.put, List.setIfInBounds_toArray, List.set_cons_zero, List.set_cons_succ]
              refine Held.only 5 (by kernel_rfl) rfl ?_
              intro K hK
              go_simp
              have St : Hid (Sep (fun _ => False) w (w2.alloc (.cells #[.int .i64 x.d, .int .i64 x.a, .int .i64 x.n] 23)) [blk (w.heap.size) (.cells #[.int .i64 p0, .int .i64 p1, .int .i64 p2, .int .i64 p3, .slice pA pn pc, .slice pX pm pd] 28), blk (w.heap.size + 1) (.cells #[.int .i64 x.d, .int .i64 x.a, .int .i64 x.n] 23), told byE (.slice A5 bn c5) bB, blk w4.heap.size (.cells #[.int .i64 p0, .int .i64 p1, .int .i64 p2, .int .i64 p3, .slice pA pn pc, .slice pX pm pd] 28), grow itE 23 (.slice A2 l2.length c2) l2, told itE (.slice (some ⟨w2.heap.size, 0, none⟩) 1 1) [x]]) := (Sl2.out.lit_told (E := itE) 23 [x] (cs := #[.int .i64 x.d, .int .i64 x.a, .int .i64 x.n]) rfl (by simp) rfl).perm (List.perm_append_comm (l₁ := [told itE (.slice (some ⟨w2.heap.size, 0, none⟩) 1 1) [x]]) (l₂ := [blk (w.heap.size) (.cells #[.int .i64 p0, .int .i64 p1, .int .i64 p2, .int .i64 p3, .slice pA pn pc, .slice pX pm pd] 28), blk (w.heap.size + 1) (.cells #[.int .i64 x.d, .int .i64 x.a, .int .i64 x.n] 23), told byE (.slice A5 bn c5) bB, blk w4.heap.size (.cells #[.int .i64 p0, .int .i64 p1, .int .i64 p2, .int .i64 p3, .slice pA pn pc, .slice pX pm pd] 28), grow itE 23 (.slice A2 l2.length c2) l2]))
              refine hK.out _ _ (fun _ => ⟨(cell_block (St.out.blk_at 0 (g := w.heap.size) (o := .cells #[.int .i64 p0, .int .i64 p1, .int .i64 p2, .int .i64 p3, .slice pA pn pc, .slice pX pm pd] 28) rfl) 0).trans rfl, (cell_block (St.out.blk_at 0 (g := w.heap.size) (o := .cells #[.int .i64 p0, .int .i64 p1, .int .i64 p2, .int .i64 p3, .slice pA pn pc, .slice pX pm pd] 28) rfl) 1).trans rfl, (cell_block (St.out.blk_at 0 (g := w.heap.size) (o := .cells #[.int .i64 p0, .int .i64 p1, .int .i64 p2, .int .i64 p3, .slice pA pn pc, .slice pX pm pd] 28) rfl) 2).trans rfl, (cell_block (St.out.blk_at 0 (g := w.heap.size) (o := .cells #[.int .i64 p0, .int .i64 p1, .int .i64 p2, .int .i64 p3, .slice pA pn pc, .slice pX pm pd] 28) rfl) 3).trans rfl, (cell_block (St.out.blk_at 0 (g := w.heap.size) (o := .cells #[.int .i64 p0, .int .i64 p1, .int .i64 p2, .int .i64 p3, .slice pA pn pc, .slice pX pm pd] 28) rfl) 4).trans rfl, (cell_block (St.out.blk_at 0 (g := w.heap.size) (o := .cells #[.int .i64 p0, .int .i64 p1, .int .i64 p2, .int .i64 p3, .slice pA pn pc, .slice pX pm pd] 28) rfl) 5).trans rfl, (cell_block (St.out.blk_at 1 (g := w.heap.size + 1) (o := .cells #[.int .i64 x.d, .int .i64 x.a, .int .i64 x.n] 23) rfl) 0).trans rfl, (cell_block (St.out.blk_at 1 (g := w.heap.size + 1) (o := .cells #[.int .i64 x.d, .int .i64 x.a, .int .i64 x.n] 23) rfl) 1).trans rfl, (cell_block (St.out.blk_at 1 (g := w.heap.size + 1) (o := .cells #[.int .i64 x.d, .int .i64 x.a, .int .i64 x.n] 23) rfl) 2).trans rfl⟩) ?_
              clear hK K
              try simp only [Act.put, List.setIfInBounds_toArray, List.set_cons_zero, List.set_cons_succ]
              refine Held.only 6 (by kernel_rfl) rfl ?_
              intro K hK
              refine wp_appC (.tmp 36) (.tmp 38) siElem rfl rfl rfl St.out 4 rfl (St.out.rdL 5 rfl) (by rw [HNl2.out.2]; simp; omega) ?_
              intro A6 c6 w5 l5 HLl5 hh
              have Sl5 : Hid (Sep (fun _ => False) w (w5) [blk (w.heap.size) (.cells #[.int .i64 p0, .int .i64 p1, .int .i64 p2, .int .i64 p3, .slice pA pn pc, .slice pX pm pd] 28), blk (w.heap.size + 1) (.cells #[.int .i64 x.d, .int .i64 x.a, .int .i64 x.n] 23), told byE (.slice A5 bn c5) bB, blk w4.heap.size (.cells #[.int .i64 p0, .int .i64 p1, .int .i64 p2, .int .i64 p3, .slice pA pn pc, .slice pX pm pd] 28), grow itE 23 (.slice A6 l5.length c6) l5, told itE (.slice (some ⟨w2.heap.size, 0, none⟩) 1 1) [x]]) := hh
              clear hh
              have HNl5 : Hid (l5 = s.xs ++ [x] ∧ l5.length = pm + 1) := by
                have e : l5 = s.xs ++ [x] := by rw [HLl5.out, HNl2.out.1]
                exact ⟨e, by rw [e, List.length_append, HXL.out]; rfl⟩
              refine hK.out _ _ (fun _ => ⟨(cell_block (Sl5.out.blk_at 0 (g := w.heap.size) (o := .cells #[.int .i64 p0, .int .i64 p1, .int .i64 p2, .int .i64 p3, .slice pA pn pc, .slice pX pm pd] 28) rfl) 0).trans rfl, (cell_block (Sl5.out.blk_at 0 (g := w.heap.size) (o := .cells #[.int .i64 p0, .int .i64 p1, .int .i64 p2, .int .i64 p3, .slice pA pn pc, .slice pX pm pd] 28) rfl) 1).trans rfl, (cell_block (Sl5.out.blk_at 0 (g := w.heap.size) (o := .cells #[.int .i64 p0, .int .i64 p1, .int .i64 p2, .int .i64 p3, .slice pA pn pc, .slice pX pm pd] 28) rfl) 2).trans rfl, (cell_block (Sl5.out.blk_at 0 (g := w.heap.size) (o := .cells #[.int .i64 p0, .int .i64 p1, .int .i64 p2, .int .i64 p3, .slice pA pn pc, .slice pX pm pd] 28) rfl) 3).trans rfl, (cell_block (Sl5.out.blk_at 0 (g := w.heap.size) (o := .cells #[.int .i64 p0, .int .i64 p1, .int .i64 p2, .int .i64 p3, .slice pA pn pc, .slice pX pm pd] 28) rfl) 4).trans rfl, (cell_block (Sl5.out.blk_at 0 (g := w.heap.size) (o := .cells #[.int .i64 p0, .int .i64 p1, .int .i64 p2, .int .i64 p3, .slice pA pn pc, .slice pX pm pd] 28) rfl) 5).trans rfl, (cell_block (Sl5.out.blk_at 1 (g := w.heap.size + 1) (o := .cells #[.int .i64 x.d, .int .i64 x.a, .int .i64 x.n] 23) rfl) 0).trans rfl, (cell_block (Sl5.out.blk_at 1 (g := w.heap.size + 1) (o := .cells #[.int .i64 x.d, .int .i64 x.a, .int .i64 x.n] 23) rfl) 1).trans rfl, (cell_block (Sl5.out.blk_at 1 (g := w.heap.size + 1) (o := .cells #[.int .i64 x.d, .int .i64 x.a, .int .i64 x.n] 23) rfl) 2).trans rfl⟩) ?_
              clear hK K
              try simp only [Act.put, List.setIfInBounds_toArray, List.set_cons_zero, List.set_cons_succ]
              have y5 := (cell_block (Sl5.out.blk_at 3 (g := w4.heap.size) (o := .cells #[.int .i64 p0, .int .i64 p1, .int .i64 p2, .int .i64 p3, .slice pA pn pc, .slice pX pm pd] 28) rfl) 5).trans rfl
              have yf := frozen_block (Sl5.out.blk_at 3 (g := w4.heap.size) (o := .cells #[.int .i64 p0, .int .i64 p1, .int .i64 p2, .int .i64 p3, .slice pA pn pc, .slice pX pm pd] 28) rfl) 5
              have S9 : Hid (Sep (fun _ => False) w (w5.setCell ⟨w4.heap.size, 5, none⟩ (.slice A6 (pm + 1) c6)) [blk (w.heap.size) (.cells #[.int .i64 p0, .int .i64 p1, .int .i64 p2, .int .i64 p3, .slice pA pn pc, .slice pX pm pd] 28), blk (w.heap.size + 1) (.cells #[.int .i64 x.d, .int .i64 x.a, .int .i64 x.n] 23), told byE (.slice A5 bn c5) bB, blk w4.heap.size (.cells #[.int .i64 p0, .int .i64 p1, .int .i64 p2, .int .i64 p3, .slice pA pn pc, .slice A6 (pm + 1) c6] 28), grow itE 23 (.slice A6 (pm + 1) c6) (s.xs ++ [x])]) := by
                have h9 := Sl5.out.set 3 rfl 5 (.slice A6 (pm + 1) c6)
                rw [HNl5.out.2, HNl5.out.1] at h9
                exact h9.sub (.cons_cons _ (.cons_cons _ (.cons_cons _ (.cons_cons _ (.cons_cons _ (List.nil_sublist _))))))
              rw [HNl5.out.2]
              refine Held.only 7 (by kernel_rfl) rfl ?_
              intro K hK
              go_simp
              refine hK.out _ _ (fun _ => ⟨(cell_block (Sl5.out.blk_at 0 (g := w.heap.size) (o := .cells #[.int .i64 p0, .int .i64 p1, .int .i64 p2, .int .i64 p3, .slice pA pn pc, .slice pX pm pd] 28) rfl) 0).trans rfl, (cell_block (Sl5.out.blk_at 0 (g := w.heap.size) (o := .cells #[.int .i64 p0, .int .i64 p1, .int .i64 p2, .int .i64 p3, .slice pA pn pc, .slice pX pm pd] 28) rfl) 1).trans rfl, (cell_block (Sl5.out.blk_at 0 (g := w.heap.size) (o := .cells #[.int .i64 p0, .int .i64 p1, .int .i64 p2, .int .i64 p3, .slice pA pn pc, .slice pX pm pd] 28) rfl) 2).trans rfl, (cell_block (Sl5.out.blk_at 0 (g := w.heap.size) (o := .cells #[.int .i64 p0, .int .i64 p1, .int .i64 p2, .int .i64 p3, .slice pA pn pc, .slice pX pm pd] 28) rfl) 3).trans rfl, (cell_block (Sl5.out.blk_at 0 (g := w.heap.size) (o := .cells #[.int .i64 p0, .int .i64 p1, .int .i64 p2, .int .i64 p3, .slice pA pn pc, .slice pX pm pd] 28) rfl) 4).trans rfl, (cell_block (Sl5.out.blk_at 0 (g := w.heap.size) (o := .cells #[.int .i64 p0, .int .i64 p1, .int .i64 p2, .int .i64 p3, .slice pA pn pc, .slice pX pm pd] 28) rfl) 5).trans rfl, (cell_block (Sl5.out.blk_at 1 (g := w.heap.size + 1) (o := .cells #[.int .i64 x.d, .int .i64 x.a, .int .i64 x.n] 23) rfl) 0).trans rfl, (cell_block (Sl5.out.blk_at 1 (g := w.heap.size + 1) (o := .cells #[.int .i64 x.d, .int .i64 x.a, .int .i64 x.n] 23) rfl) 1).trans rfl, (cell_block (Sl5.out.blk_at 1 (g := w.heap.size + 1) (o := .cells #[.int .i64 x.d, .int .i64 x.a, .int .i64 x.n] 23) rfl) 2).trans rfl⟩) ?_
              clear hK K
              try simp only [Act.put, List.setIfInBounds_toArray, List.set_cons_zero, List.set_cons_succ]
              refine Held.only 8 (by kernel_rfl) rfl ?_
              intro K hK
              go_simp
              refine hK.out _ _ (fun h => absurd rfl h) ?_
              clear hK K
              try simp only [Act.put]
              refine Held.done (by kernel_rfl) ?_ _
              go_wp2_with fail
              go_meet
              exact ⟨_, _, rfl, S9⟩
            · intro K hK
              go_simp
              have St : Hid (Sep (fun _ => False) w ((w0.alloc (.cells #[] 23)).alloc (.cells #[.int .i64 x.d, .int .i64 x.a, .int .i64 x.n] 23)) [blk (w.heap.size) (.cells #[.int .i64 p0, .int .i64 p1, .int .i64 p2, .int .i64 p3, .slice pA pn pc, .slice pX pm pd] 28), blk (w.heap.size + 1) (.cells #[.int .i64 x.d, .int .i64 x.a, .int .i64 x.n] 23), told byE (.slice A5 bn c5) bB, blk w4.heap.size (.cells #[.int .i64 p0, .int .i64 p1, .int .i64 p2, .int .i64 p3, .slice pA pn pc, .slice pX pm pd] 28), grow itE 23 (.slice (some ⟨w0.heap.size, 0, none⟩) 0 0) ([] : List It), told itE (.slice (some ⟨w0.heap.size + 1, 0, none⟩) 1 1) [x]]) := by
                have h1 := (Sg.out.lit_told (E := itE) 23 [x] (cs := #[.int .i64 x.d, .int .i64 x.a, .int .i64 x.n]) rfl (by simp) rfl)
                simp only [World.size_alloc] at h1
                exact h1.perm (List.perm_append_comm (l₁ := [told itE (.slice (some ⟨w0.heap.size + 1, 0, none⟩) 1 1) [x]]) (l₂ := [blk (w.heap.size) (.cells #[.int .i64 p0, .int .i64 p1, .int .i64 p2, .int .i64 p3, .slice pA pn pc, .slice pX pm pd] 28), blk (w.heap.size + 1) (.cells #[.int .i64 x.d, .int .i64 x.a, .int .i64 x.n] 23), told byE (.slice A5 bn c5) bB, blk w4.heap.size (.cells #[.int .i64 p0, .int .i64 p1, .int .i64 p2, .int .i64 p3, .slice pA pn pc, .slice pX pm pd] 28), grow itE 23 (.slice (some ⟨w0.heap.size, 0, none⟩) 0 0) ([] : List It)]))
              refine hK.out _ _ (fun _ => ⟨(cell_block (St.out.blk_at 0 (g := w.heap.size) (o := .cells #[.int .i64 p0, .int .i64 p1, .int .i64 p2, .int .i64 p3, .slice pA pn pc, .slice pX pm pd] 28) rfl) 0).trans rfl, (cell_block (St.out.blk_at 0 (g := w.heap.size) (o := .cells #[.int .i64 p0, .int .i64 p1, .int .i64 p2, .int .i64 p3, .slice pA pn pc, .slice pX pm pd] 28) rfl) 1).trans rfl, (cell_block (St.out.blk_at 0 (g := w.heap.size) (o := .cells #[.int .i64 p0, .int .i64 p1, .int .i64 p2, .int .i64 p3, .slice pA pn pc, .slice pX pm pd] 28) rfl) 2).trans rfl, (cell_block (St.out.blk_at 0 (g := w.heap.size) (o := .cells #[.int .i64 p0, .int .i64 p1, .int .i64 p2, .int .i64 p3, .slice pA pn pc, .slice pX pm pd] 28) rfl) 3).trans rfl, (cell_block (St.out.blk_at 0 (g := w.heap.size) (o := .cells #[.int .i64 p0, .int .i64 p1, .int .i64 p2, .int .i64 p3, .slice pA pn pc, .slice pX pm pd] 28) rfl) 4).trans rfl, (cell_block (St.out.blk_at 0 (g := w.heap.size) (o := .cells #[.int .i64 p0, .int .i64 p1, .int .i64 p2, .int .i64 p3, .slice pA pn pc, .slice pX pm pd] 28) rfl) 5).trans rfl, (cell_block (St.out.blk_at 1 (g := w.heap.size + 1) (o := .cells #[.int .i64 x.d, .int .i64 x.a, .int .i64 x.n] 23) rfl) 0).trans rfl, (cell_block (St.out.blk_at 1 (g := w.heap.size + 1) (o := .cells #[.int .i64 x.d, .int .i64 x.a, .int .i64 x.n] 23) rfl) 1).trans rfl, (cell_block (St.out.blk_at 1 (g := w.heap.size + 1) (o := .cells #[.int .i64 x.d, .int .i64 x.a, .int .i64 x.n] 23) rfl) 2).trans rfl⟩) ?_
              clear hK K
              try simp only [Act.put, List.setIfInBounds_toArray, List.set_cons_zero, List.set_cons_succ]
              refine Held.only 3 (by kernel_rfl) rfl ?_
              intro K hK
              refine wp_appC (.tmp 33) (.tmp 35) siElem rfl rfl rfl St.out 4 rfl (HXS.out _ St.out.old) (by rw [HXL.out]; simp; omega) ?_
              intro A2 c2 w2 l2 HLl2 hh
              have Sl2 : Hid (Sep (fun _ => False) w (w2) [blk (w.heap.size) (.cells #[.int .i64 p0, .int .i64 p1, .int .i64 p2, .int .i64 p3, .slice pA pn pc, .slice pX pm pd] 28), blk (w.heap.size + 1) (.cells #[.int .i64 x.d, .int .i64 x.a, .int .i64 x.n] 23), told byE (.slice A5 bn c5) bB, blk w4.heap.size (.cells #[.int .i64 p0, .int .i64 p1, .int .i64 p2, .int .i64 p3, .slice pA pn pc, .slice pX pm pd] 28), grow itE 23 (.slice A2 l2.length c2) l2, told itE (.slice (some ⟨w0.heap.size + 1, 0, none⟩) 1 1) [x]]) := hh
              clear hh
              have HNl2 : Hid (l2 = s.xs ∧ l2.length = pm) := by
                have e : l2 = s.xs := by rw [HLl2.out]; simp
                exact ⟨e, by rw [e, HXL.out]⟩
              refine hK.out _ _ (fun _ => ⟨(cell_block (Sl2.out.blk_at 0 (g := w.heap.size) (o := .cells #[.int .i64 p0, .int .i64 p1, .int .i64 p2, .int .i64 p3, .slice pA pn pc, .slice pX pm pd] 28) rfl) 0).trans rfl, (cell_block (Sl2.out.blk_at 0 (g := w.heap.size) (o := .cells #[.int .i64 p0, .int .i64 p1, .int .i64 p2, .int .i64 p3, .slice pA pn pc, .slice pX pm pd] 28) rfl) 1).trans rfl, (cell_block (Sl2.out.blk_at 0 (g := w.heap.size) (o := .cells #[.int .i64 p0, .int .i64 p1, .int .i64 p2, .int .i64 p3, .slice pA pn pc, .slice pX pm pd] 28) rfl) 2).trans rfl, (cell_block (Sl2.out.blk_at 0 (g := w.heap.size) (o := .cells #[.int .i64 p0, .int .i64 p1, .int .i64 p2, .int .i64 p3, .slice pA pn pc, .slice pX pm pd] 28) rfl) 3).trans rfl, (cell_block (Sl2.out.blk_at 0 (g := w.heap.size) (o := .cells #[.int .i64 p0, .int .i64 p1, .int .i64 p2, .int .i64 p3, .slice pA pn pc, .slice pX pm pd] 28) rfl) 4).trans rfl, (cell_block (Sl2.out.blk_at 0 (g := w.heap.size) (o := .cells #[.int .i64 p0, .int .i64 p1, .int .i64 p2, .int .i64 p3, .slice pA pn pc, .slice pX pm pd] 28) rfl) 5).trans rfl, (cell_block (Sl2.out.blk_at 1 (g := w.heap.size + 1) (o := .cells #[.int .i64 x.d, .int .i64 x.a, .int .i64 x.n] 23) rfl) 0).trans rfl, (cell_block (Sl2.out.blk_at 1 (g := w.heap.size + 1) (o := .cells #[.int .i64 x.d, .int .i64 x.a, .int .i64 x.n] 23) rfl) 1).trans rfl, (cell_block (Sl2.out.blk_at 1 (g := w.heap.size + 1) (o := .cells #[.int .i64 x.d, .int .i64 x.a, .int .i64 x.n] 23) rfl) 2).trans rfl⟩) ?_
              clear hK K
              try simp only [Act.put, List.setIfInBounds_toArray, List.set_cons_zero, List.set_cons_succ]
              refine Held.only 6 (by kernel_rfl) rfl ?_
              intro K hK
              refine wp_appC (.tmp 36) (.tmp 38) siElem rfl rfl rfl Sl2.out 4 rfl (Sl2.out.rdL 5 rfl) (by rw [HNl2.out.2]; simp; omega) ?_
              intro A6 c6 w5 l5 HLl5 hh
              have Sl5 : Hid (Sep (fun _ => False) w (w5) [blk (w.heap.size) (.cells #[.int .i64 p0, .int .i64 p1, .int .i64 p2, .int .i64 p3, .slice pA pn pc, .slice pX pm pd] 28), blk (w.heap.size + 1) (.cells #[.int .i64 x.d, .int .i64 x.a, .int .i64 x.n] 23), told byE (.slice A5 bn c5) bB, blk w4.heap.size (.cells #[.int .i64 p0, .int .i64 p1, .int .i64 p2, .int .i64 p3, .slice pA pn pc, .slice pX pm pd] 28), grow itE 23 (.slice A6 l5.length c6) l5, told itE (.slice (some ⟨w0.heap.size + 1, 0, none⟩) 1 1) [x]]) := hh
              clear hh
              have HNl5 : Hid (l5 = s.xs ++ [x] ∧ l5.length = pm + 1) := by
                have e : l5 = s.xs ++ [x] := by rw [HLl5.out, HNl2.out.1]
                exact ⟨e, by rw [e, List.length_append, HXL.out]; rfl⟩
              refine hK.out _ _ (fun _ => ⟨(cell_block (Sl5.out.blk_at 0 (g := w.heap.size) (o := .cells #[.int .i64 p0, .int .i64 p1, .int .i64 p2, .int .i64 p3, .slice pA pn pc, .slice pX pm pd] 28) rfl) 0).trans rfl, (cell_block (Sl5.out.blk_at 0 (g := w.heap.size) (o := .cells #[.int .i64 p0, .int .i64 p1, .int .i64 p2, .int .i64 p3, .slice pA pn pc, .slice pX pm pd] 28) rfl) 1).trans rfl, (cell_block (Sl5.out.blk_at 0 (g := w.heap.size) (o := .cells #[.int .i64 p0, .int .i64 p1, .int .i64 p2, .int .i64 p3, .slice pA pn pc, .slice pX pm pd] 28) rfl) 2).trans rfl, (cell_block (Sl5.out.blk_at 0 (g := w.heap.size) (o := .cells #[.int .i64 p0, .int .i64 p1, .int .i64 p2, .int .i64 p3, .slice pA pn pc, .slice pX pm pd] 28) rfl) 3).trans rfl, (cell_block (Sl5.out.blk_at 0 (g := w.heap.size) (o := .cells #[.int .i64 p0, .int .i64 p1, .int .i64 p2, .int .i64 p3, .slice pA pn pc, .slice pX pm pd] 28) rfl) 4).trans rfl, (cell_block (Sl5.out.blk_at 0 (g := w.heap.size) (o := .cells #[.int .i64 p0, .int .i64 p1, .int .i64 p2, .int .i64 p3, .slice pA pn pc, .slice pX pm pd] 28) rfl) 5).trans rfl, (cell_block (Sl5.out.blk_at 1 (g := w.heap.size + 1) (o := .cells #[.int .i64 x.d, .int .i64 x.a, .int .i64 x.n] 23) rfl) 0).trans rfl, (cell_block (Sl5.out.blk_at 1 (g := w.heap.size + 1) (o := .cells #[.int .i64 x.d, .int .i64 x.a, .int .i64 x.n] 23) rfl) 1).trans rfl, (cell_block (Sl5.out.blk_at 1 (g := w.heap.size + 1) (o := .cells #[.int .i64 x.d, .int .i64 x.a, .int .i64 x.n] 23) rfl) 2).trans rfl⟩) ?_
              clear hK K
              try simp only [Act.put, List.setIfInBounds_toArray, List.set_cons_zero, List.set_cons_succ]
              have y5 := (cell_block (Sl5.out.blk_at 3 (g := w4.heap.size) (o := .cells #[.int .i64 p0, .int .i64 p1, .int .i64 p2, .int .i64 p3, .slice pA pn pc, .slice pX pm pd] 28) rfl) 5).trans rfl
              have yf := frozen_block (Sl5.out.blk_at 3 (g := w4.heap.size) (o := .cells #[.int .i64 p0, .int .i64 p1, .int .i64 p2, .int .i64 p3, .slice pA pn pc, .slice pX pm pd] 28) rfl) 5
              have S9 : Hid (Sep (fun _ => False) w (w5.setCell ⟨w4.heap.size, 5, none⟩ (.slice A6 (pm + 1) c6)) [blk (w.heap.size) (.cells #[.int .i64 p0, .int .i64 p1, .int .i64 p2, .int .i64 p3, .slice pA pn pc, .slice pX pm pd] 28), blk (w.heap.size + 1) (.cells #[.int .i64 x.d, .int .i64 x.a, .int .i64 x.n] 23), told byE (.slice A5 bn c5) bB, blk w4.heap.size (.cells #[.int .i64 p0, .int .i64 p1, .int .i64 p2, .int .i64 p3, .slice pA pn pc, .slice A6 (pm + 1) c6] 28), grow itE 23 (.slice A6 (pm + 1) c6) (s.xs ++ [x])]) := by
                have h9 := Sl5.out.set 3 rfl 5 (.slice A6 (pm + 1) c6)
                rw [HNl5.out.2, HNl5.out.1] at h9
                exact h9.sub (.cons_cons _ (.cons_cons _ (.cons_cons _ (.cons_cons _ (.cons_cons _ (List.nil_sublist _))))))
              rw [HNl5.out.2]
              refine Held.only 7 (by kernel_rfl) rfl ?_
              intro K hK
              go_simp
              refine hK.out _ _ (fun _ => ⟨(cell_block (Sl5.out.blk_at 0 (g := w.heap.size) (o := .cells #[.int .i64 p0, .int .i64 p1, .int .i64 p2, .int .i64 p3, .slice pA pn pc, .slice pX pm pd] 28) rfl) 0).trans rfl, (cell_block (Sl5.out.blk_at 0 (g := w.heap.size) (o := .cells #[.int .i64 p0, .int .i64 p1, .int .i64 p2, .int .i64 p3, .slice pA pn pc, .slice pX pm pd] 28) rfl) 1).trans rfl, (cell_block (Sl5.out.blk_at 0 (g := w.heap.size) (o := .cells #[.int .i64 p0, .int .i64 p1, .int .i64 p2, .int .i64 p3, .slice pA pn pc, .slice pX pm pd] 28) rfl) 2).trans rfl, (cell_block (Sl5.out.blk_at 0 (g := w.heap.size) (o := .cells #[.int .i64 p0, .int .i64 p1, .int .i64 p2, .int .i64 p3, .slice pA pn pc, .slice pX pm pd] 28) rfl) 3).trans rfl, (cell_block (Sl5.out.blk_at 0 (g := w.heap.size) (o := .cells #[.int .i64 p0, .int .i64 p1, .int .i64 p2, .int .i64 p3, .slice pA pn pc, .slice pX pm pd] 28) rfl) 4).trans rfl, (cell_block (Sl5.out.blk_at 0 (g := w.heap.size) (o := .cells #[.int .i64 p0, .int .i64 p1, .int .i64 p2, .int .i64 p3, .slice pA pn pc, .slice pX pm pd] 28) rfl) 5).trans rfl, (cell_block (Sl5.out.blk_at 1 (g := w.heap.size + 1) (o := .cells #[.int .i64 x.d, .int .i64 x.a, .int .i64 x.n] 23) rfl) 0).trans rfl, (cell_block (Sl5.out.blk_at 1 (g := w.heap.size + 1) (o := .cells #[.int .i64 x.d, .int .i64 x.a, .int .i64 x.n] 23) rfl) 1).trans rfl, (cell_block (Sl5.out.blk_at 1 (g := w.heap.size + 1) (o := .cells #[.int .i64 x.d, .int .i64 x.a, .int .i64 x.n] 23) rfl) 2).trans rfl⟩) ?_
              clear hK K
              try simp only [Act.put, List.setIfInBounds_toArray, List.set_cons_zero, List.set_cons_succ]
              refine Held.only 8 (by kernel_rfl) rfl ?_
              intro K hK
              go_simp
              refine hK.out _ _ (fun h => absurd rfl h) ?_
              clear hK K
              try simp only [Act.put]
              refine Held.done (by kernel_rfl) ?_ _
              go_wp2_with fail
              go_meet
              exact ⟨_, _, rfl, S9⟩
          · intro K hK
            go_simp
            have St : Hid (Sep (fun _ => False) w (w0.alloc (.cells #[.int .i64 x.d, .int .i64 x.a, .int .i64 x.n] 23)) [blk (w.heap.size) (.cells #[.int .i64 p0, .int .i64 p1, .int .i64 p2, .int .i64 p3, .slice pA pn pc, .slice pX pm pd] 28), blk (w.heap.size + 1) (.cells #[.int .i64 x.d, .int .i64 x.a, .int .i64 x.n] 23), told byE (.slice A5 bn c5) bB, blk w4.heap.size (.cells #[.int .i64 p0, .int .i64 p1, .int .i64 p2, .int .i64 p3, .slice pA pn pc, .slice pX pm pd] 28), told itE (.slice (some ⟨w0.heap.size, 0, none⟩) 1 1) [x]]) := (SD.out.lit_told (E := itE) 23 [x] (cs := #[.int .i64 x.d, .int .i64 x.a, .int .i64 x.n]) rfl (by simp) rfl).perm (List.perm_append_comm (l₁ := [told itE (.slice (some ⟨w0.heap.size, 0, none⟩) 1 1) [x]]) (l₂ := [blk (w.heap.size) (.cells #[.int .i64 p0, .int .i64 p1, .int .i64 p2, .int .i64 p3, .slice pA pn pc, .slice pX pm pd] 28), blk (w.heap.size + 1) (.cells #[.int .i64 x.d, .int .i64 x.a, .int .i64 x.n] 23), told byE (.slice A5 bn c5) bB, blk w4.heap.size (.cells #[.int .i64 p0, .int .i64 p1, .int .i64 p2, .int .i64 p3, .slice pA pn pc, .slice pX pm pd] 28)]))
            refine hK.out _ _ (fun _ => ⟨(cell_block (St.out.blk_at 0 (g := w.heap.size) (o := .cells #[.int .i64 p0, .int .i64 p1, .int .i64 p2, .int .i64 p3, .slice pA pn pc, .slice pX pm pd] 28) rfl) 0).trans rfl, (cell_block (St.out.blk_at 0 (g := w.heap.size) (o := .cells #[.int .i64 p0, .int .i64 p1, .int .i64 p2, .int .i64 p3, .slice pA pn pc, .slice pX pm pd] 28) rfl) 1).trans rfl, (cell_block (St.out.blk_at 0 (g := w.heap.size) (o := .cells #[.int .i64 p0, .int .i64 p1, .int .i64 p2, .int .i64 p3, .slice pA pn pc, .slice pX pm pd] 28) rfl) 2).trans rfl, (cell_block (St.out.blk_at 0 (g := w.heap.size) (o := .cells #[.int .i64 p0, .int .i64 p1, .int .i64 p2, .int .i64 p3, .slice pA pn pc, .slice pX pm pd] 28) rfl) 3).trans rfl, (cell_block (St.out.blk_at 0 (g := w.heap.size) (o := .cells #[.int .i64 p0, .int .i64 p1, .int .i64 p2, .int .i64 p3, .slice pA pn pc, .slice pX pm pd] 28) rfl) 4).trans rfl, (cell_block (St.out.blk_at 0 (g := w.heap.size) (o := .cells #[.int .i64 p0, .int .i64 p1, .int .i64 p2, .int .i64 p3, .slice pA pn pc, .slice pX pm pd] 28) rfl) 5).trans rfl, (cell_block (St.out.blk_at 1 (g := w.heap.size + 1) (o := .cells #[.int .i64 x.d, .int .i64 x.a, .int .i64 x.n] 23) rfl) 0).trans rfl, (cell_block (St.out.blk_at 1 (g := w.heap.size + 1) (o := .cells #[.int .i64 x.d, .int .i64 x.a, .int .i64 x.n] 23) rfl) 1).trans rfl, (cell_block (St.out.blk_at 1 (g := w.heap.size + 1) (o := .cells #[.int .i64 x.d, .int .i64 x.a, .int .i64 x.n] 23) rfl) 2).trans rfl⟩) ?_
            clear hK K
            try simp only [Act.put, List.setIfInBounds_toArray, List.set_cons_zero, List.set_cons_succ]
            refine Held.only 0 (by kernel_rfl) rfl ?_
            intro K hK
            go_simp
            have Sg : Hid (Sep (fun _ => False) w ((w0.alloc (.cells #[.int .i64 x.d, .int .i64 x.a, .int .i64 x.n] 23)).alloc (.cells #[] 23)) [blk (w.heap.size) (.cells #[.int .i64 p0, .int .i64 p1, .int .i64 p2, .int .i64 p3, .slice pA pn pc, .slice pX pm pd] 28), blk (w.heap.size + 1) (.cells #[.int .i64 x.d, .int .i64 x.a, .int .i64 x.n] 23), told byE (.slice A5 bn c5) bB, blk w4.heap.size (.cells #[.int .i64 p0, .int .i64 p1, .int .i64 p2, .int .i64 p3, .slice pA pn pc, .slice pX pm pd] 28), told itE (.slice (some ⟨w0.heap.size, 0, none⟩) 1 1) [x], grow itE 23 (.slice (some ⟨w0.heap.size + 1, 0, none⟩) 0 0) ([] : List It)]) := by
              have h1 := St.out.grow0 itE 23
              simp only [World.size_alloc] at h1
              exact h1.perm (List.perm_append_comm (l₁ := [grow itE 23 (.slice (some ⟨w0.heap.size + 1, 0, none⟩) 0 0) ([] : List It)]) (l₂ := [blk (w.heap.size) (.cells #[.int .i64 p0, .int .i64 p1, .int .i64 p2, .int .i64 p3, .slice pA pn pc, .slice pX pm pd] 28), blk (w.heap.size + 1) (.cells #[.int .i64 x.d, .int .i64 x.a, .int .i64 x.n] 23), told byE (.slice A5 bn c5) bB, blk w4.heap.size (.cells #[.int .i64 p0, .int .i64 p1, .int .i64 p2, .int .i64 p3, .slice pA pn pc, .slice pX pm pd] 28), told itE (.slice (some ⟨w0.heap.size, 0, none⟩) 1 1) [x]]))
            refine hK.out _ _ (fun _ => ⟨(cell_block (Sg.out.blk_at 0 (g := w.heap.size) (o := .cells #[.int .i64 p0, .int .i64 p1, .int .i64 p2, .int .i64 p3, .slice pA pn pc, .slice pX pm pd] 28) rfl) 0).trans rfl, (cell_block (Sg.out.blk_at 0 (g := w.heap.size) (o := .cells #[.int .i64 p0, .int .i64 p1, .int .i64 p2, .int .i64 p3, .slice pA pn pc, .slice pX pm pd] 28) rfl) 1).trans rfl, (cell_block (Sg.out.blk_at 0 (g := w.heap.size) (o := .cells #[.int .i64 p0, .int .i64 p1, .int .i64 p2, .int .i64 p3, .slice pA pn pc, .slice pX pm pd] 28) rfl) 2).trans rfl, (cell_block (Sg.out.blk_at 0 (g := w.heap.size) (o := .cells #[.int .i64 p0, .int .i64 p1, .int .i64 p2, .int .i64 p3, .slice pA pn pc, .slice pX pm pd] 28) rfl) 3).trans rfl, (cell_block (Sg.out.blk_at 0 (g := w.heap.size) (o := .cells #[.int .i64 p0, .int .i64 p1, .int .i64 p2, .int .i64 p3, .slice pA pn pc, .slice pX pm pd] 28) rfl) 4).trans rfl, (cell_block (Sg.out.blk_at 0 (g := w.heap.size) (o := .cells #[.int .i64 p0, .int .i64 p1, .int .i64 p2, .int .i64 p3, .slice pA pn pc, .slice pX pm pd] 28) rfl) 5).trans rfl, (cell_block (Sg.out.blk_at 1 (g := w.heap.size + 1) (o := .cells #[.int .i64 x.d, .int .i64 x.a, .int .i64 x.n] 23) rfl) 0).trans rfl, (cell_block (Sg.out.blk_at 1 (g := w.heap.size + 1) (o := .cells #[.int .i64 x.d, .int .i64 x.a, .int .i64 x.n] 23) rfl) 1).trans rfl, (cell_block (Sg.out.blk_at 1 (g := w.heap.size + 1) (o := .cells #[.int .i64 x.d, .int .i64 x.a, .int .i64 x.n] 23) rfl) 2).trans rfl⟩) ?_
            clear hK K
            try simp only [Act.put, List.setIfInBounds_toArray, List.set_cons_zero, List.set_cons_succ]
            refine Held.only 3 (by kernel_rfl) rfl ?_
            intro K hK
            refine wp_appC (.tmp 33) (.tmp 35) siElem rfl rfl rfl Sg.out 5 rfl (HXS.out _ Sg.out.old) (by rw [HXL.out]; simp; omega) ?_
            intro A2 c2 w2 l2 HLl2 hh
            have Sl2 : Hid (Sep (fun _ => False) w (w2) [blk (w.heap.size) (.cells #[.int .i64 p0, .int .i64 p1, .int .i64 p2, .int .i64 p3, .slice pA pn pc, .slice pX pm pd] 28), blk (w.heap.size + 1) (.cells #[.int .i64 x.d, .int .i64 x.a, .int .i64 x.n] 23), told byE (.slice A5 bn c5) bB, blk w4.heap.size (.cells #[.int .i64 p0, .int .i64 p1, .int .i64 p2, .int .i64 p3, .slice pA pn pc, .slice pX pm pd] 28), told itE (.slice (some ⟨w0.heap.size, 0, none⟩) 1 1) [x], grow itE 23 (.slice A2 l2.length c2) l2]) := hh
            clear hh
            have HNl2 : Hid (l2 = s.xs ∧ l2.length = pm) := by
              have e : l2 = s.xs := by rw [HLl2.out]; simp
              exact ⟨e, by rw [e, HXL.out]⟩
            refine hK.out _ _ (fun _ => ⟨(cell_block (Sl2.out.blk_at 0 (g := w.heap.size) (o := .cells #[.int .i64 p0, .int .i64 p1, .int .i64 p2, .int .i64 p3, .slice pA pn pc, .slice pX pm pd] 28) rfl) 0).trans rfl, (cell_block (Sl2.out.blk_at 0 (g := w.heap.size) (o := .cells #[.int .i64 p0, .int .i64 p1, .int .i64 p2, .int .i64 p3, .slice pA pn pc, .slice pX pm pd] 28) rfl) 1).trans rfl, (cell_block (Sl2.out.blk_at 0 (g := w.heap.size) (o := .cells #[.int .i64 p0, .int .i64 p1, .int .i64 p2, .int .i64 p3, .slice pA pn pc, .slice pX pm pd] 28) rfl) 2).trans rfl, (cell_block (Sl2.out.blk_at 0 (g := w.heap.size) (o := .cells #[.int .i64 p0, .int .i64 p1, .int .i64 p2, .int .i64 p3, .slice pA pn pc, .slice pX pm pd] 28) rfl) 3).trans rfl, (cell_block (Sl2.out.blk_at 0 (g := w.heap.size) (o := .cells #[.int .i64 p0, .int .i64 p1, .int .i64 p2, .int .i64 p3, .slice pA pn pc, .slice pX pm pd] 28) rfl) 4).trans rfl, (cell_block (Sl2.out.blk_at 0 (g := w.heap.size) (o := .cells #[.int .i64 p0, .int .i64 p1, .int .i64 p2, .int .i64 p3, .slice pA pn pc, .slice pX pm pd] 28) rfl) 5).trans rfl, (cell_block (Sl2.out.blk_at 1 (g := w.heap.size + 1) (o := .cells #[.int .i64 x.d, .int .i64 x.a, .int .i64 x.n] 23) rfl) 0).trans rfl, (cell_block (Sl2.out.blk_at 1 (g := w.heap.size + 1) (o := .cells #[.int .i64 x.d, .int .i64 x.a, .int .i64 x.n] 23) rfl) 1).trans rfl, (cell_block (Sl2.out.blk_at 1 (g := w.heap.size + 1) (o := .cells #[.int .i64 x.d, .int .i64 x.a, .int .i64 x.n] 23) rfl) 2).trans rfl⟩) ?_
            clear hK K
            try simp only [Act.put, List.setIfInBounds_toArray, List.set_cons_zero, List.set_cons_succ]
            refine Held.only 6 (by kernel_rfl) rfl ?_
            intro K hK
            refine wp_appC (.tmp 36) (.tmp 38) siElem rfl rfl rfl Sl2.out 5 rfl (Sl2.out.rdL 4 rfl) (by rw [HNl2.out.2]; simp; omega) ?_
            intro A6 c6 w5 l5 HLl5 hh
            have Sl5 : Hid (Sep (fun _ => False) w (w5) [blk (w.heap.size) (.cells #[.int .i64 p0, .int .i64 p1, .int .i64 p2, .int .i64 p3, .slice pA pn pc, .slice pX pm pd] 28), blk (w.heap.size + 1) (.cells #[.int .i64 x.d, .int .i64 x.a, .int .i64 x.n] 23), told byE (.slice A5 bn c5) bB, blk w4.heap.size (.cells #[.int .i64 p0, .int .i64 p1, .int .i64 p2, .int .i64 p3, .slice pA pn pc, .slice pX pm pd] 28), told itE (.slice (some ⟨w0.heap.size, 0, none⟩) 1 1) [x], grow itE 23 (.slice A6 l5.length c6) l5]) := hh
            clear hh
            have HNl5 : Hid (l5 = s.xs ++ [x] ∧ l5.length = pm + 1) := by
              have e : l5 = s.xs ++ [x] := by rw [HLl5.out, HNl2.out.1]
              exact ⟨e, by rw [e, List.length_append, HXL.out]; rfl⟩
            refine hK.out _ _ (fun _ => ⟨(cell_block (Sl5.out.blk_at 0 (g := w.heap.size) (o := .cells #[.int .i64 p0, .int .i64 p1, .int .i64 p2, .int .i64 p3, .slice pA pn pc, .slice pX pm pd] 28) rfl) 0).trans rfl, (cell_block (Sl5.out.blk_at 0 (g := w.heap.size) (o := .cells #[.int .i64 p0, .int .i64 p1, .int .i64 p2, .int .i64 p3, .slice pA pn pc, .slice pX pm pd] 28) rfl) 1).trans rfl, (cell_block (Sl5.out.blk_at 0 (g := w.heap.size) (o := .cells #[.int .i64 p0, .int .i64 p1, .int .i64 p2, .int .i64 p3, .slice pA pn pc, .slice pX pm pd] 28) rfl) 2).trans rfl, (cell_block (Sl5.out.blk_at 0 (g := w.heap.size) (o := .cells #[.int .i64 p0, .int .i64 p1, .int .i64 p2, .int .i64 p3, .slice pA pn pc, .slice pX pm pd] 28) rfl) 3).trans rfl, (cell_block (Sl5.out.blk_at 0 (g := w.heap.size) (o := .cells #[.int .i64 p0, .int .i64 p1, .int .i64 p2, .int .i64 p3, .slice pA pn pc, .slice pX pm pd] 28) rfl) 4).trans rfl, (cell_block (Sl5.out.blk_at 0 (g := w.heap.size) (o := .cells #[.int .i64 p0, .int .i64 p1, .int .i64 p2, .int .i64 p3, .slice pA pn pc, .slice pX pm pd] 28) rfl) 5).trans rfl, (cell_block (Sl5.out.blk_at 1 (g := w.heap.size + 1) (o := .cells #[.int .i64 x.d, .int .i64 x.a, .int .i64 x.n] 23) rfl) 0).trans rfl, (cell_block (Sl5.out.blk_at 1 (g := w.heap.size + 1) (o := .cells #[.int .i64 x.d, .int .i64 x.a, .int .i64 x.n] 23) rfl) 1).trans rfl, (cell_block (Sl5.out.blk_at 1 (g := w.heap.size + 1) (o := .cells #[.int .i64 x.d, .int .i64 x.a, .int .i64 x.n] 23) rfl) 2).trans rfl⟩) ?_
            clear hK K
            try simp only [Act.put, List.setIfInBounds_toArray, List.set_cons_zero, List.set_cons_succ]
            have y5 := (cell_block (Sl5.out.blk_at 3 (g := w4.heap.size) (o := .cells #[.int .i64 p0, .int .i64 p1, .int .i64 p2, .int .i64 p3, .slice pA pn pc, .slice pX pm pd] 28) rfl) 5).trans rfl
            have yf := frozen_block (Sl5.out.blk_at 3 (g := w4.heap.size) (o := .cells #[.int .i64 p0, .int .i64 p1, .int .i64 p2, .int .i64 p3, .slice pA pn pc, .slice pX pm pd] 28) rfl) 5
            have S9 : Hid (Sep (fun _ => False) w (w5.setCell ⟨w4.heap.size, 5, none⟩ (.slice A6 (pm + 1) c6)) [blk (w.heap.size) (.cells #[.int .i64 p0, .int .i64 p1, .int .i64 p2, .int .i64 p3, .slice pA pn pc, .slice pX pm pd] 28), blk (w.heap.size + 1) (.cells #[.int .i64 x.d, .int .i64 x.a, .int .i64 x.n] 23), told byE (.slice A5 bn c5) bB, blk w4.heap.size (.cells #[.int .i64 p0, .int .i64 p1, .int .i64 p2, .int .i64 p3, .slice pA pn pc, .slice A6 (pm + 1) c6] 28), grow itE 23 (.slice A6 (pm + 1) c6) (s.xs ++ [x])]) := by
              have h9 := Sl5.out.set 3 rfl 5 (.slice A6 (pm + 1) c6)
              rw [HNl5.out.2, HNl5.out.1] at h9
              exact h9.sub (.cons_cons _ (.cons_cons _ (.cons_cons _ (.cons_cons _ (.cons _ (.cons_cons _ (List.nil_sublist _)))))))
            rw [HNl5.out.2]
            refine Held.only 7 (by kernel_rfl) rfl ?_
            intro K hK
            go_simp
            refine hK.out _ _ (fun _ => ⟨(cell_block (Sl5.out.blk_at 0 (g := w.heap.size) (o := .cells #[.int .i64 p0, .int .i64 p1, .int .i64 p2, .int .i64 p3, .slice pA pn pc, .slice pX pm pd] 28) rfl) 0).trans rfl, (cell_block (Sl5.out.blk_at 0 (g := w.heap.size) (o := .cells #[.int .i64 p0, .int .i64 p1, .int .i64 p2, .int .i64 p3, .slice pA pn pc, .slice pX pm pd] 28) rfl) 1).trans rfl, (cell_block (Sl5.out.blk_at 0 (g := w.heap.size) (o := .cells #[.int .i64 p0, .int .i64 p1, .int .i64 p2, .int .i64 p3, .slice pA pn pc, .slice pX pm pd] 28) rfl) 2).trans rfl, (cell_block (Sl5.out.blk_at 0 (g := w.heap.size) (o := .cells #[.int .i64 p0, .int .i64 p1, .int .i64 p2, .int .i64 p3, .slice pA pn pc, .slice pX pm pd] 28) rfl) 3).trans rfl, (cell_block (Sl5.out.blk_at 0 (g := w.heap.size) (o := .cells #[.int .i64 p0, .int .i64 p1, .int .i64 p2, .int .i64 p3, .slice pA pn pc, .slice pX pm pd] 28) rfl) 4).trans rfl, (cell_block (Sl5.out.blk_at 0 (g := w.heap.size) (o := .cells #[.int .i64 p0, .int .i64 p1, .int .i64 p2, .int .i64 p3, .slice pA pn pc, .slice pX pm pd] 28) rfl) 5).trans rfl, (cell_block (Sl5.out.blk_at 1 (g := w.heap.size + 1) (o := .cells #[.int .i64 x.d, .int .i64 x.a, .int .i64 x.n] 23) rfl) 0).trans rfl, (cell_block (Sl5.out.blk_at 1 (g := w.heap.size + 1) (o := .cells #[.int .i64 x.d, .int .i64 x.a, .int .i64 x.n] 23) rfl) 1).trans rfl, (cell_block (Sl5.out.blk_at 1 (g := w.heap.size + 1) (o := .cells #[.int .i64 x.d, .int .i64 x.a, .int .i64 x.n] 23) rfl) 2).trans rfl⟩) ?_
            clear hK K
            try simp only [Act.put, List.setIfInBounds_toArray, List.set_cons_zero, List.set_cons_succ]
            refine Held.only 8 (by kernel_rfl) rfl ?_
            intro K hK
            go_simp
            refine hK.out _ _ (fun h => absurd rfl h) ?_
            clear hK K
            try simp only [Act.put]
            refine Held.done (by kernel_rfl) ?_ _
            go_wp2_with fail
            go_meet
            exact ⟨_, _, rfl, S9⟩
        case rest =>
          obtain ⟨A9, c9, rfl, S9⟩ := hcut
          have hc9 : pm + 1 ≤ c9 := fits_ownL (S9.out.own 4 rfl) _ _ _ rfl
          have HRT : Hid (∀ (V : World) (Rs : List Res), Sep (fun _ => False) w V (blk (w.heap.size) (.cells #[.int .i64 p0, .int .i64 p1, .int .i64 p2, .int .i64 p3, .slice pA pn pc, .slice pX pm pd] 28) :: blk (w.heap.size + 1) (.cells #[.int .i64 x.d, .int .i64 x.a, .int .i64 x.n] 23) :: told byE (.slice A5 bn c5) bB :: blk w4.heap.size (.cells #[.int .i64 p0, .int .i64 p1, .int .i64 p2, .int .i64 p3, .slice pA pn pc, .slice A9 (pm + 1) c9] 28) :: grow itE 23 (.slice A9 (pm + 1) c9) (s.xs ++ [x]) :: Rs) → RdS V (fun _ => True) ⟨p0, p1, p2, p3, pA, pn, pc, A9, pm + 1, c9⟩ t) := fun V Rs hS =>
            HTV.out V A9 c9 hS.old ((hS.own 4 rfl).rd (by rw [List.length_append, HXL.out]; simp; omega) fun _ _ => trivial) hc9
          obtain ⟨tE, htE⟩ : ∃ e, bytesSE t = e := ⟨_, rfl⟩
          obtain ⟨tB, htR⟩ : ∃ e, bytesSR t = e := ⟨_, rfl⟩
          obtain ⟨tn, htn⟩ : ∃ e, tB.length = e := ⟨_, rfl⟩
          have HtE := Lib.hid htE
          have HtR := Lib.hid htR
          have Htn := Lib.hid htn
          clear htE htR htn
          have S10 := Lib.hid S9
          cases hrx : rightI x with
          | false =>
            rw [hrx] at HMT
            obtain ⟨y1, y2⟩ : tE = 1 ∧ tB = [] := by
              have e1 := HtE.out
              have e2 := HtR.out
              unfold bytesSE at e1
              unfold bytesSR at e2
              rw [HMT.out] at e1 e2
              exact ⟨e1.symm, e2.symm⟩
            subst y1 y2
            obtain rfl : tn = 0 := Htn.out.symm
            have HRX := Lib.hid hrx
            clear hrx
            have kt0 := (cell_block (S9.out.blk_at 3 (g := w4.heap.size) (o := .cells #[.int .i64 p0, .int .i64 p1, .int .i64 p2, .int .i64 p3, .slice pA pn pc, .slice A9 (pm + 1) c9] 28) rfl) 0).trans rfl
            have kt1 := (cell_block (S9.out.blk_at 3 (g := w4.heap.size) (o := .cells #[.int .i64 p0, .int .i64 p1, .int .i64 p2, .int .i64 p3, .slice pA pn pc, .slice A9 (pm + 1) c9] 28) rfl) 1).trans rfl
            have kt2 := (cell_block (S9.out.blk_at 3 (g := w4.heap.size) (o := .cells #[.int .i64 p0, .int .i64 p1, .int .i64 p2, .int .i64 p3, .slice pA pn pc, .slice A9 (pm + 1) c9] 28) rfl) 2).trans rfl
            have kt3 := (cell_block (S9.out.blk_at 3 (g := w4.heap.size) (o := .cells #[.int .i64 p0, .int .i64 p1, .int .i64 p2, .int .i64 p3, .slice pA pn pc, .slice A9 (pm + 1) c9] 28) rfl) 3).trans rfl
            have kt4 := (cell_block (S9.out.blk_at 3 (g := w4.heap.size) (o := .cells #[.int .i64 p0, .int .i64 p1, .int .i64 p2, .int .i64 p3, .slice pA pn pc, .slice A9 (pm + 1) c9] 28) rfl) 4).trans rfl
            have kt5 := (cell_block (S9.out.blk_at 3 (g := w4.heap.size) (o := .cells #[.int .i64 p0, .int .i64 p1, .int .i64 p2, .int .i64 p3, .slice pA pn pc, .slice A9 (pm + 1) c9] 28) rfl) 5).trans rfl
            go_wp2_with fail
            refine (c_bytes I S9.out (HRT.out _ _ S9.out) HTS.out.1 HTS.out.2 HtE.out HtR.out Htn.out).mono ?_
            rintro e wf ⟨A7, c7, _, rfl, hf⟩
            have S11 : Hid (Sep (fun _ => False) w wf [blk (w.heap.size) (.cells #[.int .i64 p0, .int .i64 p1, .int .i64 p2, .int .i64 p3, .slice pA pn pc, .slice pX pm pd] 28), blk (w.heap.size + 1) (.cells #[.int .i64 x.d, .int .i64 x.a, .int .i64 x.n] 23), told byE (.slice A5 bn c5) bB, blk w4.heap.size (.cells #[.int .i64 p0, .int .i64 p1, .int .i64 p2, .int .i64 p3, .slice pA pn pc, .slice A9 (pm + 1) c9] 28), grow itE 23 (.slice A9 (pm + 1) c9) (s.xs ++ [x])]) := hf.tail
            clear hf kt0 kt1 kt2 kt3 kt4 kt5 S9 S10
            go_upto_region 11 with (fail)
            have SD := Lib.hid S11.out.drew
            clear S11
            refine Held.begin_ (fun V : World => V.cell? ⟨w.heap.size + 1, 0, none⟩ = some (.int .i64 x.d) ∧ V.cell? ⟨w.heap.size + 1, 1, none⟩ = some (.int .i64 x.a) ∧ V.cell? ⟨w.heap.size + 1, 2, none⟩ = some (.int .i64 x.n) ∧ V.cell? ⟨w4.heap.size, 0, none⟩ = some (.int .i64 p0) ∧ V.cell? ⟨w4.heap.size, 1, none⟩ = some (.int .i64 p1) ∧ V.cell? ⟨w4.heap.size, 2, none⟩ = some (.int .i64 p2) ∧ V.cell? ⟨w4.heap.size, 3, none⟩ = some (.int .i64 p3) ∧ V.cell? ⟨w4.heap.size, 4, none⟩ = some (.slice pA pn pc) ∧ V.cell? ⟨w4.heap.size, 5, none⟩ = some (.slice A9 (pm + 1) c9)) 12 (by kernel_rfl) ?_
            have hC : (fun V : World => V.cell? ⟨w.heap.size + 1, 0, none⟩ = some (.int .i64 x.d) ∧ V.cell? ⟨w.heap.size + 1, 1, none⟩ = some (.int .i64 x.a) ∧ V.cell? ⟨w.heap.size + 1, 2, none⟩ = some (.int .i64 x.n) ∧ V.cell? ⟨w4.heap.size, 0, none⟩ = some (.int .i64 p0) ∧ V.cell? ⟨w4.heap.size, 1, none⟩ = some (.int .i64 p1) ∧ V.cell? ⟨w4.heap.size, 2, none⟩ = some (.int .i64 p2) ∧ V.cell? ⟨w4.heap.size, 3, none⟩ = some (.int .i64 p3) ∧ V.cell? ⟨w4.heap.size, 4, none⟩ = some (.slice pA pn pc) ∧ V.cell? ⟨w4.heap.size, 5, none⟩ = some (.slice A9 (pm + 1) c9)) wf.drew := ⟨(cell_block (SD.out.blk_at 1 (g := w.heap.size + 1) (o := .cells #[.int .i64 x.d, .int .i64 x.a, .int .i64 x.n] 23) rfl) 0).trans rfl, (cell_block (SD.out.blk_at 1 (g := w.heap.size + 1) (o := .cells #[.int .i64 x.d, .int .i64 x.a, .int .i64 x.n] 23) rfl) 1).trans rfl, (cell_block (SD.out.blk_at 1 (g := w.heap.size + 1) (o := .cells #[.int .i64 x.d, .int .i64 x.a, .int .i64 x.n] 23) rfl) 2).trans rfl, (cell_block (SD.out.blk_at 3 (g := w4.heap.size) (o := .cells #[.int .i64 p0, .int .i64 p1, .int .i64 p2, .int .i64 p3, .slice pA pn pc, .slice A9 (pm + 1) c9] 28) rfl) 0).trans rfl, (cell_block (SD.out.blk_at 3 (g := w4.heap.size) (o := .cells #[.int .i64 p0, .int .i64 p1, .int .i64 p2, .int .i64 p3, .slice pA pn pc, .slice A9 (pm + 1) c9] 28) rfl) 1).trans rfl, (cell_block (SD.out.blk_at 3 (g := w4.heap.size) (o := .cells #[.int .i64 p0, .int .i64 p1, .int .i64 p2, .int .i64 p3, .slice pA pn pc, .slice A9 (pm + 1) c9] 28) rfl) 2).trans rfl, (cell_block (SD.out.blk_at 3 (g := w4.heap.size) (o := .cells #[.int .i64 p0, .int .i64 p1, .int .i64 p2, .int .i64 p3, .slice pA pn pc, .slice A9 (pm + 1) c9] 28) rfl) 3).trans rfl, (cell_block (SD.out.blk_at 3 (g := w4.heap.size) (o := .cells #[.int .i64 p0, .int .i64 p1, .int .i64 p2, .int .i64 p3, .slice pA pn pc, .slice A9 (pm + 1) c9] 28) rfl) 4).trans rfl, (cell_block (SD.out.blk_at 3 (g := w4.heap.size) (o := .cells #[.int .i64 p0, .int .i64 p1, .int .i64 p2, .int .i64 p3, .slice pA pn pc, .slice A9 (pm + 1) c9] 28) rfl) 5).trans rfl⟩
            refine Held.takeN 0 (v := ?_) hC rfl (by kernel_rfl) (by kernel_rfl) (by kernel_rfl) rfl (fun _ _ _ h => h) rfl ?_ ?_; rotate_left; · (intro W hW; obtain ⟨k0, k1, k2, k3, k4, k5, k6, k7, k8⟩ := hW; go_simp <;> with_reducible rfl)
            try simp only [Act.put, List.setIfInBounds_toArray, List.set_cons_zero, List.set_cons_succ]
            refine Held.takeN 2 (v := ?_) hC rfl (by kernel_rfl) (by kernel_rfl) (by kernel_rfl) rfl (fun _ _ _ h => h) rfl ?_ ?_; rotate_left; · (intro W hW; obtain ⟨k0, k1, k2, k3, k4, k5, k6, k7, k8⟩ := hW; go_simp <;> with_reducible rfl)
            try simp only [Act.put, List.setIfInBounds_toArray, List.set_cons_zero, List.set_cons_succ]
            refine Held.onlyG 1 (by kernel_rfl) rfl rfl ?_
            intro K hK
            go_simp
            refine (c_may I SD.out (HRT.out _ _ SD.out) HTS.out.1 HTS.out.2 HMT.out).mono ?_
            rintro e S1aw ⟨rfl, S1ah⟩
            have S1a : Hid (Sep (fun _ => False) w S1aw [blk (w.heap.size) (.cells #[.int .i64 p0, .int .i64 p1, .int .i64 p2, .int .i64 p3, .slice pA pn pc, .slice pX pm pd] 28), blk (w.heap.size + 1) (.cells #[.int .i64 x.d, .int .i64 x.a, .int .i64 x.n] 23), told byE (.slice A5 bn c5) bB, blk w4.heap.size (.cells #[.int .i64 p0, .int .i64 p1, .int .i64 p2, .int .i64 p3, .slice pA pn pc, .slice A9 (pm + 1) c9] 28), grow itE 23 (.slice A9 (pm + 1) c9) (s.xs ++ [x])]) := S1ah
            clear S1ah
            refine hK.out _ _ (fun _ => ⟨(cell_block (S1a.out.blk_at 1 (g := w.heap.size + 1) (o := .cells #[.int .i64 x.d, .int .i64 x.a, .int .i64 x.n] 23) rfl) 0).trans rfl, (cell_block (S1a.out.blk_at 1 (g := w.heap.size + 1) (o := .cells #[.int .i64 x.d, .int .i64 x.a, .int .i64 x.n] 23) rfl) 1).trans rfl, (cell_block (S1a.out.blk_at 1 (g := w.heap.size + 1) (o := .cells #[.int .i64 x.d, .int .i64 x.a, .int .i64 x.n] 23) rfl) 2).trans rfl, (cell_block (S1a.out.blk_at 3 (g := w4.heap.size) (o := .cells #[.int .i64 p0, .int .i64 p1, .int .i64 p2, .int .i64 p3, .slice pA pn pc, .slice A9 (pm + 1) c9] 28) rfl) 0).trans rfl, (cell_block (S1a.out.blk_at 3 (g := w4.heap.size) (o := .cells #[.int .i64 p0, .int .i64 p1, .int .i64 p2, .int .i64 p3, .slice pA pn pc, .slice A9 (pm + 1) c9] 28) rfl) 1).trans rfl, (cell_block (S1a.out.blk_at 3 (g := w4.heap.size) (o := .cells #[.int .i64 p0, .int .i64 p1, .int .i64 p2, .int .i64 p3, .slice pA pn pc, .slice A9 (pm + 1) c9] 28) rfl) 2).trans rfl, (cell_block (S1a.out.blk_at 3 (g := w4.heap.size) (o := .cells #[.int .i64 p0, .int .i64 p1, .int .i64 p2, .int .i64 p3, .slice pA pn pc, .slice A9 (pm + 1) c9] 28) rfl) 3).trans rfl, (cell_block (S1a.out.blk_at 3 (g := w4.heap.size) (o := .cells #[.int .i64 p0, .int .i64 p1, .int .i64 p2, .int .i64 p3, .slice pA pn pc, .slice A9 (pm + 1) c9] 28) rfl) 4).trans rfl, (cell_block (S1a.out.blk_at 3 (g := w4.heap.size) (o := .cells #[.int .i64 p0, .int .i64 p1, .int .i64 p2, .int .i64 p3, .slice pA pn pc, .slice A9 (pm + 1) c9] 28) rfl) 5).trans rfl⟩) ?_
            clear hK K
            try simp only [Act.put, List.setIfInBounds_toArray, List.set_cons_zero, List.set_cons_succ]
            have hC : (fun V : World => V.cell? ⟨w.heap.size + 1, 0, none⟩ = some (.int .i64 x.d) ∧ V.cell? ⟨w.heap.size + 1, 1, none⟩ = some (.int .i64 x.a) ∧ V.cell? ⟨w.heap.size + 1, 2, none⟩ = some (.int .i64 x.n) ∧ V.cell? ⟨w4.heap.size, 0, none⟩ = some (.int .i64 p0) ∧ V.cell? ⟨w4.heap.size, 1, none⟩ = some (.int .i64 p1) ∧ V.cell? ⟨w4.heap.size, 2, none⟩ = some (.int .i64 p2) ∧ V.cell? ⟨w4.heap.size, 3, none⟩ = some (.int .i64 p3) ∧ V.cell? ⟨w4.heap.size, 4, none⟩ = some (.slice pA pn pc) ∧ V.cell? ⟨w4.heap.size, 5, none⟩ = some (.slice A9 (pm + 1) c9)) S1aw := ⟨(cell_block (S1a.out.blk_at 1 (g := w.heap.size + 1) (o := .cells #[.int .i64 x.d, .int .i64 x.a, .int .i64 x.n] 23) rfl) 0).trans rfl, (cell_block (S1a.out.blk_at 1 (g := w.heap.size + 1) (o := .cells #[.int .i64 x.d, .int .i64 x.a, .int .i64 x.n] 23) rfl) 1).trans rfl, (cell_block (S1a.out.blk_at 1 (g := w.heap.size + 1) (o := .cells #[.int .i64 x.d, .int .i64 x.a, .int .i64 x.n] 23) rfl) 2).trans rfl, (cell_block (S1a.out.blk_at 3 (g := w4.heap.size) (o := .cells #[.int .i64 p0, .int .i64 p1, .int .i64 p2, .int .i64 p3, .slice pA pn pc, .slice A9 (pm + 1) c9] 28) rfl) 0).trans rfl, (cell_block (S1a.out.blk_at 3 (g := w4.heap.size) (o := .cells #[.int .i64 p0, .int .i64 p1, .int .i64 p2, .int .i64 p3, .slice pA pn pc, .slice A9 (pm + 1) c9] 28) rfl) 1).trans rfl, (cell_block (S1a.out.blk_at 3 (g := w4.heap.size) (o := .cells #[.int .i64 p0, .int .i64 p1, .int .i64 p2, .int .i64 p3, .slice pA pn pc, .slice A9 (pm + 1) c9] 28) rfl) 2).trans rfl, (cell_block (S1a.out.blk_at 3 (g := w4.heap.size) (o := .cells #[.int .i64 p0, .int .i64 p1, .int .i64 p2, .int .i64 p3, .slice pA pn pc, .slice A9 (pm + 1) c9] 28) rfl) 3).trans rfl, (cell_block (S1a.out.blk_at 3 (g := w4.heap.size) (o := .cells #[.int .i64 p0, .int .i64 p1, .int .i64 p2, .int .i64 p3, .slice pA pn pc, .slice A9 (pm + 1) c9] 28) rfl) 4).trans rfl, (cell_block (S1a.out.blk_at 3 (g := w4.heap.size) (o := .cells #[.int .i64 p0, .int .i64 p1, .int .i64 p2, .int .i64 p3, .slice pA pn pc, .slice A9 (pm + 1) c9] 28) rfl) 5).trans rfl⟩
            refine Held.onlyG 3 (by kernel_rfl) rfl rfl ?_
            intro K hK
            go_simp
            refine (c_right I S1a.out x HX.out HRX.out).mono ?_
            rintro e S1bw ⟨rfl, S1bh⟩
            have S1b : Hid (Sep (fun _ => False) w S1bw [blk (w.heap.size) (.cells #[.int .i64 p0, .int .i64 p1, .int .i64 p2, .int .i64 p3, .slice pA pn pc, .slice pX pm pd] 28), blk (w.heap.size + 1) (.cells #[.int .i64 x.d, .int .i64 x.a, .int .i64 x.n] 23), told byE (.slice A5 bn c5) bB, blk w4.heap.size (.cells #[.int .i64 p0, .int .i64 p1, .int .i64 p2, .int .i64 p3, .slice pA pn pc, .slice A9 (pm + 1) c9] 28), grow itE 23 (.slice A9 (pm + 1) c9) (s.xs ++ [x])]) := S1bh
            clear S1bh
            refine hK.out _ _ (fun _ => ⟨(cell_block (S1b.out.blk_at 1 (g := w.heap.size + 1) (o := .cells #[.int .i64 x.d, .int .i64 x.a, .int .i64 x.n] 23) rfl) 0).trans rfl, (cell_block (S1b.out.blk_at 1 (g := w.heap.size + 1) (o := .cells #[.int .i64 x.d, .int .i64 x.a, .int .i64 x.n] 23) rfl) 1).trans rfl, (cell_block (S1b.out.blk_at 1 (g := w.heap.size + 1) (o := .cells #[.int .i64 x.d, .int .i64 x.a, .int .i64 x.n] 23) rfl) 2).trans rfl, (cell_block (S1b.out.blk_at 3 (g := w4.heap.size) (o := .cells #[.int .i64 p0, .int .i64 p1, .int .i64 p2, .int .i64 p3, .slice pA pn pc, .slice A9 (pm + 1) c9] 28) rfl) 0).trans rfl, (cell_block (S1b.out.blk_at 3 (g := w4.heap.size) (o := .cells #[.int .i64 p0, .int .i64 p1, .int .i64 p2, .int .i64 p3, .slice pA pn pc, .slice A9 (pm + 1) c9] 28) rfl) 1).trans rfl, (cell_block (S1b.out.blk_at 3 (g := w4.heap.size) (o := .cells #[.int .i64 p0, .int .i64 p1, .int .i64 p2, .int .i64 p3, .slice pA pn pc, .slice A9 (pm + 1) c9] 28) rfl) 2).trans rfl, (cell_block (S1b.out.blk_at 3 (g := w4.heap.size) (o := .cells #[.int .i64 p0, .int .i64 p1, .int .i64 p2, .int .i64 p3, .slice pA pn pc, .slice A9 (pm + 1) c9] 28) rfl) 3).trans rfl, (cell_block (S1b.out.blk_at 3 (g := w4.heap.size) (o := .cells #[.int .i64 p0, .int .i64 p1, .int .i64 p2, .int .i64 p3, .slice pA pn pc, .slice A9 (pm + 1) c9] 28) rfl) 4).trans rfl, (cell_block (S1b.out.blk_at 3 (g := w4.heap.size) (o := .cells #[.int .i64 p0, .int .i64 p1, .int .i64 p2, .int .i64 p3, .slice pA pn pc, .slice A9 (pm + 1) c9] 28) rfl) 5).trans rfl⟩) ?_
            clear hK K
            try simp only [Act.put, List.setIfInBounds_toArray, List.set_cons_zero, List.set_cons_succ]
            have hC : (fun V : World => V.cell? ⟨w.heap.size + 1, 0, none⟩ = some (.int .i64 x.d) ∧ V.cell? ⟨w.heap.size + 1, 1, none⟩ = some (.int .i64 x.a) ∧ V.cell? ⟨w.heap.size + 1, 2, none⟩ = some (.int .i64 x.n) ∧ V.cell? ⟨w4.heap.size, 0, none⟩ = some (.int .i64 p0) ∧ V.cell? ⟨w4.heap.size, 1, none⟩ = some (.int .i64 p1) ∧ V.cell? ⟨w4.heap.size, 2, none⟩ = some (.int .i64 p2) ∧ V.cell? ⟨w4.heap.size, 3, none⟩ = some (.int .i64 p3) ∧ V.cell? ⟨w4.heap.size, 4, none⟩ = some (.slice pA pn pc) ∧ V.cell? ⟨w4.heap.size, 5, none⟩ = some (.slice A9 (pm + 1) c9)) S1bw := ⟨(cell_block (S1b.out.blk_at 1 (g := w.heap.size + 1) (o := .cells #[.int .i64 x.d, .int .i64 x.a, .int .i64 x.n] 23) rfl) 0).trans rfl, (cell_block (S1b.out.blk_at 1 (g := w.heap.size + 1) (o := .cells #[.int .i64 x.d, .int .i64 x.a, .int .i64 x.n] 23) rfl) 1).trans rfl, (cell_block (S1b.out.blk_at 1 (g := w.heap.size + 1) (o := .cells #[.int .i64 x.d, .int .i64 x.a, .int .i64 x.n] 23) rfl) 2).trans rfl, (cell_block (S1b.out.blk_at 3 (g := w4.heap.size) (o := .cells #[.int .i64 p0, .int .i64 p1, .int .i64 p2, .int .i64 p3, .slice pA pn pc, .slice A9 (pm + 1) c9] 28) rfl) 0).trans rfl, (cell_block (S1b.out.blk_at 3 (g := w4.heap.size) (o := .cells #[.int .i64 p0, .int .i64 p1, .int .i64 p2, .int .i64 p3, .slice pA pn pc, .slice A9 (pm + 1) c9] 28) rfl) 1).trans rfl, (cell_block (S1b.out.blk_at 3 (g := w4.heap.size) (o := .cells #[.int .i64 p0, .int .i64 p1, .int .i64 p2, .int .i64 p3, .slice pA pn pc, .slice A9 (pm + 1) c9] 28) rfl) 2).trans rfl, (cell_block (S1b.out.blk_at 3 (g := w4.heap.size) (o := .cells #[.int .i64 p0, .int .i64 p1, .int .i64 p2, .int .i64 p3, .slice pA pn pc, .slice A9 (pm + 1) c9] 28) rfl) 3).trans rfl, (cell_block (S1b.out.blk_at 3 (g := w4.heap.size) (o := .cells #[.int .i64 p0, .int .i64 p1, .int .i64 p2, .int .i64 p3, .slice pA pn pc, .slice A9 (pm + 1) c9] 28) rfl) 4).trans rfl, (cell_block (S1b.out.blk_at 3 (g := w4.heap.size) (o := .cells #[.int .i64 p0, .int .i64 p1, .int .i64 p2, .int .i64 p3, .slice pA pn pc, .slice A9 (pm + 1) c9] 28) rfl) 5).trans rfl⟩
            refine Held.takeN 4 (v := ?_) hC rfl (by kernel_rfl) (by kernel_rfl) (by kernel_rfl) rfl (fun _ _ _ h => h) rfl ?_ ?_; rotate_left; · (intro W hW; obtain ⟨k0, k1, k2, k3, k4, k5, k6, k7, k8⟩ := hW; go_simp <;> with_reducible rfl)
            try simp only [Act.put, List.setIfInBounds_toArray, List.set_cons_zero, List.set_cons_succ]
            refine Held.takeN 5 (v := ?_) hC rfl (by kernel_rfl) (by kernel_rfl) (by kernel_rfl) rfl (fun _ _ _ h => h) rfl ?_ ?_; rotate_left; · (intro W hW; obtain ⟨k0, k1, k2, k3, k4, k5, k6, k7, k8⟩ := hW; go_simp <;> with_reducible rfl)
            try simp only [Act.put, List.setIfInBounds_toArray, List.set_cons_zero, List.set_cons_succ]
            refine Held.takeN 6 (v := ?_) hC rfl (by kernel_rfl) (by kernel_rfl) (by kernel_rfl) rfl (fun _ _ _ h => h) rfl ?_ ?_; rotate_left; · (intro W hW; obtain ⟨k0, k1, k2, k3, k4, k5, k6, k7, k8⟩ := hW; go_simp <;> with_reducible rfl)
            try simp only [Act.put, List.setIfInBounds_toArray, List.set_cons_zero, List.set_cons_succ]
            refine Held.takeN 7 (v := ?_) hC rfl (by kernel_rfl) (by kernel_rfl) (by kernel_rfl) rfl (fun _ _ _ h => h) rfl ?_ ?_; rotate_left; · (intro W hW; obtain ⟨k0, k1, k2, k3, k4, k5, k6, k7, k8⟩ := hW; go_simp <;> with_reducible rfl)
            try simp only [Act.put, List.setIfInBounds_toArray, List.set_cons_zero, List.set_cons_succ]
            refine Held.takeN 8 (v := ?_) hC rfl (by kernel_rfl) (by kernel_rfl) (by kernel_rfl) rfl (fun _ _ _ h => h) rfl ?_ ?_; rotate_left; · (intro W hW; obtain ⟨k0, k1, k2, k3, k4, k5, k6, k7, k8⟩ := hW; go_simp <;> with_reducible rfl)
            try simp only [Act.put, List.setIfInBounds_toArray, List.set_cons_zero, List.set_cons_succ]
            refine Held.onlyG 9 (by kernel_rfl) rfl rfl ?_
            intro K hK
            go_simp
            refine (c_right I S1b.out x HX.out HRX.out).mono ?_
            rintro e SZw ⟨rfl, SZh⟩
            have SZ : Hid (Sep (fun _ => False) w SZw [blk (w.heap.size) (.cells #[.int .i64 p0, .int .i64 p1, .int .i64 p2, .int .i64 p3, .slice pA pn pc, .slice pX pm pd] 28), blk (w.heap.size + 1) (.cells #[.int .i64 x.d, .int .i64 x.a, .int .i64 x.n] 23), told byE (.slice A5 bn c5) bB, blk w4.heap.size (.cells #[.int .i64 p0, .int .i64 p1, .int .i64 p2, .int .i64 p3, .slice pA pn pc, .slice A9 (pm + 1) c9] 28), grow itE 23 (.slice A9 (pm + 1) c9) (s.xs ++ [x])]) := SZh
            clear SZh
            refine hK.out _ _ (fun _ => ⟨(cell_block (SZ.out.blk_at 1 (g := w.heap.size + 1) (o := .cells #[.int .i64 x.d, .int .i64 x.a, .int .i64 x.n] 23) rfl) 0).trans rfl, (cell_block (SZ.out.blk_at 1 (g := w.heap.size + 1) (o := .cells #[.int .i64 x.d, .int .i64 x.a, .int .i64 x.n] 23) rfl) 1).trans rfl, (cell_block (SZ.out.blk_at 1 (g := w.heap.size + 1) (o := .cells #[.int .i64 x.d, .int .i64 x.a, .int .i64 x.n] 23) rfl) 2).trans rfl, (cell_block (SZ.out.blk_at 3 (g := w4.heap.size) (o := .cells #[.int .i64 p0, .int .i64 p1, .int .i64 p2, .int .i64 p3, .slice pA pn pc, .slice A9 (pm + 1) c9] 28) rfl) 0).trans rfl, (cell_block (SZ.out.blk_at 3 (g := w4.heap.size) (o := .cells #[.int .i64 p0, .int .i64 p1, .int .i64 p2, .int .i64 p3, .slice pA pn pc, .slice A9 (pm + 1) c9] 28) rfl) 1).trans rfl, (cell_block (SZ.out.blk_at 3 (g := w4.heap.size) (o := .cells #[.int .i64 p0, .int .i64 p1, .int .i64 p2, .int .i64 p3, .slice pA pn pc, .slice A9 (pm + 1) c9] 28) rfl) 2).trans rfl, (cell_block (SZ.out.blk_at 3 (g := w4.heap.size) (o := .cells #[.int .i64 p0, .int .i64 p1, .int .i64 p2, .int .i64 p3, .slice pA pn pc, .slice A9 (pm + 1) c9] 28) rfl) 3).trans rfl, (cell_block (SZ.out.blk_at 3 (g := w4.heap.size) (o := .cells #[.int .i64 p0, .int .i64 p1, .int .i64 p2, .int .i64 p3, .slice pA pn pc, .slice A9 (pm + 1) c9] 28) rfl) 4).trans rfl, (cell_block (SZ.out.blk_at 3 (g := w4.heap.size) (o := .cells #[.int .i64 p0, .int .i64 p1, .int .i64 p2, .int .i64 p3, .slice pA pn pc, .slice A9 (pm + 1) c9] 28) rfl) 5).trans rfl⟩) ?_
            clear hK K
            try simp only [Act.put, List.setIfInBounds_toArray, List.set_cons_zero, List.set_cons_succ]
            have hC : (fun V : World => V.cell? ⟨w.heap.size + 1, 0, none⟩ = some (.int .i64 x.d) ∧ V.cell? ⟨w.heap.size + 1, 1, none⟩ = some (.int .i64 x.a) ∧ V.cell? ⟨w.heap.size + 1, 2, none⟩ = some (.int .i64 x.n) ∧ V.cell? ⟨w4.heap.size, 0, none⟩ = some (.int .i64 p0) ∧ V.cell? ⟨w4.heap.size, 1, none⟩ = some (.int .i64 p1) ∧ V.cell? ⟨w4.heap.size, 2, none⟩ = some (.int .i64 p2) ∧ V.cell? ⟨w4.heap.size, 3, none⟩ = some (.int .i64 p3) ∧ V.cell? ⟨w4.heap.size, 4, none⟩ = some (.slice pA pn pc) ∧ V.cell? ⟨w4.heap.size, 5, none⟩ = some (.slice A9 (pm + 1) c9)) SZw := ⟨(cell_block (SZ.out.blk_at 1 (g := w.heap.size + 1) (o := .cells #[.int .i64 x.d, .int .i64 x.a, .int .i64 x.n] 23) rfl) 0).trans rfl, (cell_block (SZ.out.blk_at 1 (g := w.heap.size + 1) (o := .cells #[.int .i64 x.d, .int .i64 x.a, .int .i64 x.n] 23) rfl) 1).trans rfl, (cell_block (SZ.out.blk_at 1 (g := w.heap.size + 1) (o := .cells #[.int .i64 x.d, .int .i64 x.a, .int .i64 x.n] 23) rfl) 2).trans rfl, (cell_block (SZ.out.blk_at 3 (g := w4.heap.size) (o := .cells #[.int .i64 p0, .int .i64 p1, .int .i64 p2, .int .i64 p3, .slice pA pn pc, .slice A9 (pm + 1) c9] 28) rfl) 0).trans rfl, (cell_block (SZ.out.blk_at 3 (g := w4.heap.size) (o := .cells #[.int .i64 p0, .int .i64 p1, .int .i64 p2, .int .i64 p3, .slice pA pn pc, .slice A9 (pm + 1) c9] 28) rfl) 1).trans rfl, (cell_block (SZ.out.blk_at 3 (g := w4.heap.size) (o := .cells #[.int .i64 p0, .int .i64 p1, .int .i64 p2, .int .i64 p3, .slice pA pn pc, .slice A9 (pm + 1) c9] 28) rfl) 2).trans rfl, (cell_block (SZ.out.blk_at 3 (g := w4.heap.size) (o := .cells #[.int .i64 p0, .int .i64 p1, .int .i64 p2, .int .i64 p3, .slice pA pn pc, .slice A9 (pm + 1) c9] 28) rfl) 3).trans rfl, (cell_block (SZ.out.blk_at 3 (g := w4.heap.size) (o := .cells #[.int .i64 p0, .int .i64 p1, .int .i64 p2, .int .i64 p3, .slice pA pn pc, .slice A9 (pm + 1) c9] 28) rfl) 4).trans rfl, (cell_block (SZ.out.blk_at 3 (g := w4.heap.size) (o := .cells #[.int .i64 p0, .int .i64 p1, .int .i64 p2, .int .i64 p3, .slice pA pn pc, .slice A9 (pm + 1) c9] 28) rfl) 5).trans rfl⟩
            refine Held.takeN 10 (v := ?_) hC rfl (by kernel_rfl) (by kernel_rfl) (by kernel_rfl) rfl (fun _ _ _ h => h) rfl ?_ ?_; rotate_left; · (intro W hW; obtain ⟨k0, k1, k2, k3, k4, k5, k6, k7, k8⟩ := hW; go_simp <;> with_reducible rfl)
            try simp only [Act.put, List.setIfInBounds_toArray, List.set_cons_zero, List.set_cons_succ]
            refine Held.takeN 11 (v := ?_) hC rfl (by kernel_rfl) (by kernel_rfl) (by kernel_rfl) rfl (fun _ _ _ h => h) rfl ?_ ?_; rotate_left; · (intro W hW; obtain ⟨k0, k1, k2, k3, k4, k5, k6, k7, k8⟩ := hW; go_simp <;> with_reducible rfl)
            try simp only [Act.put, List.setIfInBounds_toArray, List.set_cons_zero, List.set_cons_succ]
            refine Held.done (by kernel_rfl) ?_ _
            go_wp2_with fail
            go_ret
            exact ⟨rfl, SZ.out.old⟩
          | true =>
            rw [hrx] at HMT
            obtain ⟨y1, y2⟩ : tE = 0 ∧ tB = bytesS t := by
              have e1 := HtE.out
              have e2 := HtR.out
              unfold bytesSE at e1
              unfold bytesSR at e2
              rw [HMT.out] at e1 e2
              exact ⟨e1.symm, e2.symm⟩
            subst y1
            have HTB : Hid (tB = bB ++ itL x) := by show _ = _; rw [y2, HBT.out, HBB.out]
            have htn2 : tn = bn + 10 := by rw [← Htn.out, HTB.out, List.length_append, Hbn.out, it_len]
            have HRX := Lib.hid hrx
            have w10 : IntKind.i64.wrap ((bn : Int) + 10) = (tn : Int) := by rw [IntWalk.i64_in _ (by have := HHC.out; omega)]; omega
            have HTN : Hid (tn = bn + 10) := htn2
            have ebn : ((tn : Int) == (tn : Int)) = true := by simp
            clear hrx y2 htn2
            have kt0 := (cell_block (S9.out.blk_at 3 (g := w4.heap.size) (o := .cells #[.int .i64 p0, .int .i64 p1, .int .i64 p2, .int .i64 p3, .slice pA pn pc, .slice A9 (pm + 1) c9] 28) rfl) 0).trans rfl
            have kt1 := (cell_block (S9.out.blk_at 3 (g := w4.heap.size) (o := .cells #[.int .i64 p0, .int .i64 p1, .int .i64 p2, .int .i64 p3, .slice pA pn pc, .slice A9 (pm + 1) c9] 28) rfl) 1).trans rfl
            have kt2 := (cell_block (S9.out.blk_at 3 (g := w4.heap.size) (o := .cells #[.int .i64 p0, .int .i64 p1, .int .i64 p2, .int .i64 p3, .slice pA pn pc, .slice A9 (pm + 1) c9] 28) rfl) 2).trans rfl
            have kt3 := (cell_block (S9.out.blk_at 3 (g := w4.heap.size) (o := .cells #[.int .i64 p0, .int .i64 p1, .int .i64 p2, .int .i64 p3, .slice pA pn pc, .slice A9 (pm + 1) c9] 28) rfl) 3).trans rfl
            have kt4 := (cell_block (S9.out.blk_at 3 (g := w4.heap.size) (o := .cells #[.int .i64 p0, .int .i64 p1, .int .i64 p2, .int .i64 p3, .slice pA pn pc, .slice A9 (pm + 1) c9] 28) rfl) 4).trans rfl
            have kt5 := (cell_block (S9.out.blk_at 3 (g := w4.heap.size) (o := .cells #[.int .i64 p0, .int .i64 p1, .int .i64 p2, .int .i64 p3, .slice pA pn pc, .slice A9 (pm + 1) c9] 28) rfl) 5).trans rfl
            go_wp2_with fail
            refine (c_bytes I S9.out (HRT.out _ _ S9.out) HTS.out.1 HTS.out.2 HtE.out HtR.out Htn.out).mono ?_
            rintro e wf ⟨A7, c7, f7, rfl, hf⟩
            have S11 : Hid (Sep (fun _ => False) w wf [blk (w.heap.size) (.cells #[.int .i64 p0, .int .i64 p1, .int .i64 p2, .int .i64 p3, .slice pA pn pc, .slice pX pm pd] 28), blk (w.heap.size + 1) (.cells #[.int .i64 x.d, .int .i64 x.a, .int .i64 x.n] 23), told byE (.slice A5 bn c5) bB, blk w4.heap.size (.cells #[.int .i64 p0, .int .i64 p1, .int .i64 p2, .int .i64 p3, .slice pA pn pc, .slice A9 (pm + 1) c9] 28), grow itE 23 (.slice A9 (pm + 1) c9) (s.xs ++ [x]), told byE (.slice A7 tn c7) tB]) := hf.perm (List.perm_append_comm (l₁ := [told byE (.slice A7 tn c7) tB]) (l₂ := [blk (w.heap.size) (.cells #[.int .i64 p0, .int .i64 p1, .int .i64 p2, .int .i64 p3, .slice pA pn pc, .slice pX pm pd] 28), blk (w.heap.size + 1) (.cells #[.int .i64 x.d, .int .i64 x.a, .int .i64 x.n] 23), told byE (.slice A5 bn c5) bB, blk w4.heap.size (.cells #[.int .i64 p0, .int .i64 p1, .int .i64 p2, .int .i64 p3, .slice pA pn pc, .slice A9 (pm + 1) c9] 28), grow itE 23 (.slice A9 (pm + 1) c9) (s.xs ++ [x])]))
            obtain ⟨y, hy⟩ : ∃ y, tB[0]? = some y := ⟨_, List.getElem?_eq_getElem (by rw [Htn.out, HTN.out]; omega)⟩
            obtain ⟨g7, o7, hA7, _⟩ := by_at (S11.out.rdL 5 rfl) hy
            subst hA7
            have b7 : (bn : Int) ≤ (c7 : Int) := by have := HTN.out; omega
            have b8 : bn ≤ c7 := by omega
            clear hf kt0 kt1 kt2 kt3 kt4 kt5 S9 S10 hy
            go_upto_region 11 with (fail)
            have SD := Lib.hid S11.out.drew
            clear S11
            refine Held.begin_ (fun V : World => V.cell? ⟨w.heap.size + 1, 0, none⟩ = some (.int .i64 x.d) ∧ V.cell? ⟨w.heap.size + 1, 1, none⟩ = some (.int .i64 x.a) ∧ V.cell? ⟨w.heap.size + 1, 2, none⟩ = some (.int .i64 x.n) ∧ V.cell? ⟨w4.heap.size, 0, none⟩ = some (.int .i64 p0) ∧ V.cell? ⟨w4.heap.size, 1, none⟩ = some (.int .i64 p1) ∧ V.cell? ⟨w4.heap.size, 2, none⟩ = some (.int .i64 p2) ∧ V.cell? ⟨w4.heap.size, 3, none⟩ = some (.int .i64 p3) ∧ V.cell? ⟨w4.heap.size, 4, none⟩ = some (.slice pA pn pc) ∧ V.cell? ⟨w4.heap.size, 5, none⟩ = some (.slice A9 (pm + 1) c9)) 12 (by kernel_rfl) ?_
            have hC : (fun V : World => V.cell? ⟨w.heap.size + 1, 0, none⟩ = some (.int .i64 x.d) ∧ V.cell? ⟨w.heap.size + 1, 1, none⟩ = some (.int .i64 x.a) ∧ V.cell? ⟨w.heap.size + 1, 2, none⟩ = some (.int .i64 x.n) ∧ V.cell? ⟨w4.heap.size, 0, none⟩ = some (.int .i64 p0) ∧ V.cell? ⟨w4.heap.size, 1, none⟩ = some (.int .i64 p1) ∧ V.cell? ⟨w4.heap.size, 2, none⟩ = some (.int .i64 p2) ∧ V.cell? ⟨w4.heap.size, 3, none⟩ = some (.int .i64 p3) ∧ V.cell? ⟨w4.heap.size, 4, none⟩ = some (.slice pA pn pc) ∧ V.cell? ⟨w4.heap.size, 5, none⟩ = some (.slice A9 (pm + 1) c9)) wf.drew := ⟨(cell_block (SD.out.blk_at 1 (g := w.heap.size + 1) (o := .cells #[.int .i64 x.d, .int .i64 x.a, .int .i64 x.n] 23) rfl) 0).trans rfl, (cell_block (SD.out.blk_at 1 (g := w.heap.size + 1) (o := .cells #[.int .i64 x.d, .int .i64 x.a, .int .i64 x.n] 23) rfl) 1).trans rfl, (cell_block (SD.out.blk_at 1 (g := w.heap.size + 1) (o := .cells #[.int .i64 x.d, .int .i64 x.a, .int .i64 x.n] 23) rfl) 2).trans rfl, (cell_block (SD.out.blk_at 3 (g := w4.heap.size) (o := .cells #[.int .i64 p0, .int .i64 p1, .int .i64 p2, .int .i64 p3, .slice pA pn pc, .slice A9 (pm + 1) c9] 28) rfl) 0).trans rfl, (cell_block (SD.out.blk_at 3 (g := w4.heap.size) (o := .cells #[.int .i64 p0, .int .i64 p1, .int .i64 p2, .int .i64 p3, .slice pA pn pc, .slice A9 (pm + 1) c9] 28) rfl) 1).trans rfl, (cell_block (SD.out.blk_at 3 (g := w4.heap.size) (o := .cells #[.int .i64 p0, .int .i64 p1, .int .i64 p2, .int .i64 p3, .slice pA pn pc, .slice A9 (pm + 1) c9] 28) rfl) 2).trans rfl, (cell_block (SD.out.blk_at 3 (g := w4.heap.size) (o := .cells #[.int .i64 p0, .int .i64 p1, .int .i64 p2, .int .i64 p3, .slice pA pn pc, .slice A9 (pm + 1) c9] 28) rfl) 3).trans rfl, (cell_block (SD.out.blk_at 3 (g := w4.heap.size) (o := .cells #[.int .i64 p0, .int .i64 p1, .int .i64 p2, .int .i64 p3, .slice pA pn pc, .slice A9 (pm + 1) c9] 28) rfl) 4).trans rfl, (cell_block (SD.out.blk_at 3 (g := w4.heap.size) (o := .cells #[.int .i64 p0, .int .i64 p1, .int .i64 p2, .int .i64 p3, .slice pA pn pc, .slice A9 (pm + 1) c9] 28) rfl) 5).trans rfl⟩
            refine Held.takeN 0 (v := ?_) hC rfl (by kernel_rfl) (by kernel_rfl) (by kernel_rfl) rfl (fun _ _ _ h => h) rfl ?_ ?_; rotate_left; · (intro W hW; obtain ⟨k0, k1, k2, k3, k4, k5, k6, k7, k8⟩ := hW; go_simp <;> with_reducible rfl)
            try simp only [Act.put, List.setIfInBounds_toArray, List.set_cons_zero, List.set_cons_succ]
            refine Held.takeN 2 (v := ?_) hC rfl (by kernel_rfl) (by kernel_rfl) (by kernel_rfl) rfl (fun _ _ _ h => h) rfl ?_ ?_; rotate_left; · (intro W hW; obtain ⟨k0, k1, k2, k3, k4, k5, k6, k7, k8⟩ := hW; go_simp <;> with_reducible rfl)
            try simp only [Act.put, List.setIfInBounds_toArray, List.set_cons_zero, List.set_cons_succ]
            refine Held.onlyG 1 (by kernel_rfl) rfl rfl ?_
            intro K hK
            go_simp
            refine (c_may I SD.out (HRT.out _ _ SD.out) HTS.out.1 HTS.out.2 HMT.out).mono ?_
            rintro e S1aw ⟨rfl, S1ah⟩
            have S1a : Hid (Sep (fun _ => False) w S1aw [blk (w.heap.size) (.cells #[.int .i64 p0, .int .i64 p1, .int .i64 p2, .int .i64 p3, .slice pA pn pc, .slice pX pm pd] 28), blk (w.heap.size + 1) (.cells #[.int .i64 x.d, .int .i64 x.a, .int .i64 x.n] 23), told byE (.slice A5 bn c5) bB, blk w4.heap.size (.cells #[.int .i64 p0, .int .i64 p1, .int .i64 p2, .int .i64 p3, .slice pA pn pc, .slice A9 (pm + 1) c9] 28), grow itE 23 (.slice A9 (pm + 1) c9) (s.xs ++ [x]), told byE (.slice (some ⟨g7, o7, none⟩) tn c7) tB]) := S1ah
            clear S1ah
            refine hK.out _ _ (fun _ => ⟨(cell_block (S1a.out.blk_at 1 (g := w.heap.size + 1) (o := .cells #[.int .i64 x.d, .int .i64 x.a, .int .i64 x.n] 23) rfl) 0).trans rfl, (cell_block (S1a.out.blk_at 1 (g := w.heap.size + 1) (o := .cells #[.int .i64 x.d, .int .i64 x.a, .int .i64 x.n] 23) rfl) 1).trans rfl, (cell_block (S1a.out.blk_at 1 (g := w.heap.size + 1) (o := .cells #[.int .i64 x.d, .int .i64 x.a, .int .i64 x.n] 23) rfl) 2).trans rfl, (cell_block (S1a.out.blk_at 3 (g := w4.heap.size) (o := .cells #[.int .i64 p0, .int .i64 p1, .int .i64 p2, .int .i64 p3, .slice pA pn pc, .slice A9 (pm + 1) c9] 28) rfl) 0).trans rfl, (cell_block (S1a.out.blk_at 3 (g := w4.heap.size) (o := .cells #[.int .i64 p0, .int .i64 p1, .int .i64 p2, .int .i64 p3, .slice pA pn pc, .slice A9 (pm + 1) c9] 28) rfl) 1).trans rfl, (cell_block (S1a.out.blk_at 3 (g := w4.heap.size) (o := .cells #[.int .i64 p0, .int .i64 p1, .int .i64 p2, .int .i64 p3, .slice pA pn pc, .slice A9 (pm + 1) c9] 28) rfl) 2).trans rfl, (cell_block (S1a.out.blk_at 3 (g := w4.heap.size) (o := .cells #[.int .i64 p0, .int .i64 p1, .int .i64 p2, .int .i64 p3, .slice pA pn pc, .slice A9 (pm + 1) c9] 28) rfl) 3).trans rfl, (cell_block (S1a.out.blk_at 3 (g := w4.heap.size) (o := .cells #[.int .i64 p0, .int .i64 p1, .int .i64 p2, .int .i64 p3, .slice pA pn pc, .slice A9 (pm + 1) c9] 28) rfl) 4).trans rfl, (cell_block (S1a.out.blk_at 3 (g := w4.heap.size) (o := .cells #[.int .i64 p0, .int .i64 p1, .int .i64 p2, .int .i64 p3, .slice pA pn pc, .slice A9 (pm + 1) c9] 28) rfl) 5).trans rfl⟩) ?_
            clear hK K
            try simp only [Act.put, List.setIfInBounds_toArray, List.set_cons_zero, List.set_cons_succ]
            have hC : (fun V : World => V.cell? ⟨w.heap.size + 1, 0, none⟩ = some (.int .i64 x.d) ∧ V.cell? ⟨w.heap.size + 1, 1, none⟩ = some (.int .i64 x.a) ∧ V.cell? ⟨w.heap.size + 1, 2, none⟩ = some (.int .i64 x.n) ∧ V.cell? ⟨w4.heap.size, 0, none⟩ = some (.int .i64 p0) ∧ V.cell? ⟨w4.heap.size, 1, none⟩ = some (.int .i64 p1) ∧ V.cell? ⟨w4.heap.size, 2, none⟩ = some (.int .i64 p2) ∧ V.cell? ⟨w4.heap.size, 3, none⟩ = some (.int .i64 p3) ∧ V.cell? ⟨w4.heap.size, 4, none⟩ = some (.slice pA pn pc) ∧ V.cell? ⟨w4.heap.size, 5, none⟩ = some (.slice A9 (pm + 1) c9)) S1aw := ⟨(cell_block (S1a.out.blk_at 1 (g := w.heap.size + 1) (o := .cells #[.int .i64 x.d, .int .i64 x.a, .int .i64 x.n] 23) rfl) 0).trans rfl, (cell_block (S1a.out.blk_at 1 (g := w.heap.size + 1) (o := .cells #[.int .i64 x.d, .int .i64 x.a, .int .i64 x.n] 23) rfl) 1).trans rfl, (cell_block (S1a.out.blk_at 1 (g := w.heap.size + 1) (o := .cells #[.int .i64 x.d, .int .i64 x.a, .int .i64 x.n] 23) rfl) 2).trans rfl, (cell_block (S1a.out.blk_at 3 (g := w4.heap.size) (o := .cells #[.int .i64 p0, .int .i64 p1, .int .i64 p2, .int .i64 p3, .slice pA pn pc, .slice A9 (pm + 1) c9] 28) rfl) 0).trans rfl, (cell_block (S1a.out.blk_at 3 (g := w4.heap.size) (o := .cells #[.int .i64 p0, .int .i64 p1, .int .i64 p2, .int .i64 p3, .slice pA pn pc, .slice A9 (pm + 1) c9] 28) rfl) 1).trans rfl, (cell_block (S1a.out.blk_at 3 (g := w4.heap.size) (o := .cells #[.int .i64 p0, .int .i64 p1, .int .i64 p2, .int .i64 p3, .slice pA pn pc, .slice A9 (pm + 1) c9] 28) rfl) 2).trans rfl, (cell_block (S1a.out.blk_at 3 (g := w4.heap.size) (o := .cells #[.int .i64 p0, .int .i64 p1, .int .i64 p2, .int .i64 p3, .slice pA pn pc, .slice A9 (pm + 1) c9] 28) rfl) 3).trans rfl, (cell_block (S1a.out.blk_at 3 (g := w4.heap.size) (o := .cells #[.int .i64 p0, .int .i64 p1, .int .i64 p2, .int .i64 p3, .slice pA pn pc, .slice A9 (pm + 1) c9] 28) rfl) 4).trans rfl, (cell_block (S1a.out.blk_at 3 (g := w4.heap.size) (o := .cells #[.int .i64 p0, .int .i64 p1, .int .i64 p2, .int .i64 p3, .slice pA pn pc, .slice A9 (pm + 1) c9] 28) rfl) 5).trans rfl⟩
            refine Held.onlyG 3 (by kernel_rfl) rfl rfl ?_
            intro K hK
            go_simp
            refine (c_right I S1a.out x HX.out HRX.out).mono ?_
            rintro e S1bw ⟨rfl, S1bh⟩
            have S1b : Hid (Sep (fun _ => False) w S1bw [blk (w.heap.size) (.cells #[.int .i64 p0, .int .i64 p1, .int .i64 p2, .int .i64 p3, .slice pA pn pc, .slice pX pm pd] 28), blk (w.heap.size + 1) (.cells #[.int .i64 x.d, .int .i64 x.a, .int .i64 x.n] 23), told byE (.slice A5 bn c5) bB, blk w4.heap.size (.cells #[.int .i64 p0, .int .i64 p1, .int .i64 p2, .int .i64 p3, .slice pA pn pc, .slice A9 (pm + 1) c9] 28), grow itE 23 (.slice A9 (pm + 1) c9) (s.xs ++ [x]), told byE (.slice (some ⟨g7, o7, none⟩) tn c7) tB]) := S1bh
            clear S1bh
            refine hK.out _ _ (fun _ => ⟨(cell_block (S1b.out.blk_at 1 (g := w.heap.size + 1) (o := .cells #[.int .i64 x.d, .int .i64 x.a, .int .i64 x.n] 23) rfl) 0).trans rfl, (cell_block (S1b.out.blk_at 1 (g := w.heap.size + 1) (o := .cells #[.int .i64 x.d, .int .i64 x.a, .int .i64 x.n] 23) rfl) 1).trans rfl, (cell_block (S1b.out.blk_at 1 (g := w.heap.size + 1) (o := .cells #[.int .i64 x.d, .int .i64 x.a, .int .i64 x.n] 23) rfl) 2).trans rfl, (cell_block (S1b.out.blk_at 3 (g := w4.heap.size) (o := .cells #[.int .i64 p0, .int .i64 p1, .int .i64 p2, .int .i64 p3, .slice pA pn pc, .slice A9 (pm + 1) c9] 28) rfl) 0).trans rfl, (cell_block (S1b.out.blk_at 3 (g := w4.heap.size) (o := .cells #[.int .i64 p0, .int .i64 p1, .int .i64 p2, .int .i64 p3, .slice pA pn pc, .slice A9 (pm + 1) c9] 28) rfl) 1).trans rfl, (cell_block (S1b.out.blk_at 3 (g := w4.heap.size) (o := .cells #[.int .i64 p0, .int .i64 p1, .int .i64 p2, .int .i64 p3, .slice pA pn pc, .slice A9 (pm + 1) c9] 28) rfl) 2).trans rfl, (cell_block (S1b.out.blk_at 3 (g := w4.heap.size) (o := .cells #[.int .i64 p0, .int .i64 p1, .int .i64 p2, .int .i64 p3, .slice pA pn pc, .slice A9 (pm + 1) c9] 28) rfl) 3).trans rfl, (cell_block (S1b.out.blk_at 3 (g := w4.heap.size) (o := .cells #[.int .i64 p0, .int .i64 p1, .int .i64 p2, .int .i64 p3, .slice pA pn pc, .slice A9 (pm + 1) c9] 28) rfl) 4).trans rfl, (cell_block (S1b.out.blk_at 3 (g := w4.heap.size) (o := .cells #[.int .i64 p0, .int .i64 p1, .int .i64 p2, .int .i64 p3, .slice pA pn pc, .slice A9 (pm + 1) c9] 28) rfl) 5).trans rfl⟩) ?_
            clear hK K
            try simp only [Act.put, List.setIfInBounds_toArray, List.set_cons_zero, List.set_cons_succ]
            have hC : (fun V : World => V.cell? ⟨w.heap.size + 1, 0, none⟩ = some (.int .i64 x.d) ∧ V.cell? ⟨w.heap.size + 1, 1, none⟩ = some (.int .i64 x.a) ∧ V.cell? ⟨w.heap.size + 1, 2, none⟩ = some (.int .i64 x.n) ∧ V.cell? ⟨w4.heap.size, 0, none⟩ = some (.int .i64 p0) ∧ V.cell? ⟨w4.heap.size, 1, none⟩ = some (.int .i64 p1) ∧ V.cell? ⟨w4.heap.size, 2, none⟩ = some (.int .i64 p2) ∧ V.cell? ⟨w4.heap.size, 3, none⟩ = some (.int .i64 p3) ∧ V.cell? ⟨w4.heap.size, 4, none⟩ = some (.slice pA pn pc) ∧ V.cell? ⟨w4.heap.size, 5, none⟩ = some (.slice A9 (pm + 1) c9)) S1bw := ⟨(cell_block (S1b.out.blk_at 1 (g := w.heap.size + 1) (o := .cells #[.int .i64 x.d, .int .i64 x.a, .int .i64 x.n] 23) rfl) 0).trans rfl, (cell_block (S1b.out.blk_at 1 (g := w.heap.size + 1) (o := .cells #[.int .i64 x.d, .int .i64 x.a, .int .i64 x.n] 23) rfl) 1).trans rfl, (cell_block (S1b.out.blk_at 1 (g := w.heap.size + 1) (o := .cells #[.int .i64 x.d, .int .i64 x.a, .int .i64 x.n] 23) rfl) 2).trans rfl, (cell_block (S1b.out.blk_at 3 (g := w4.heap.size) (o := .cells #[.int .i64 p0, .int .i64 p1, .int .i64 p2, .int .i64 p3, .slice pA pn pc, .slice A9 (pm + 1) c9] 28) rfl) 0).trans rfl, (cell_block (S1b.out.blk_at 3 (g := w4.heap.size) (o := .cells #[.int .i64 p0, .int .i64 p1, .int .i64 p2, .int .i64 p3, .slice pA pn pc, .slice A9 (pm + 1) c9] 28) rfl) 1).trans rfl, (cell_block (S1b.out.blk_at 3 (g := w4.heap.size) (o := .cells #[.int .i64 p0, .int .i64 p1, .int .i64 p2, .int .i64 p3, .slice pA pn pc, .slice A9 (pm + 1) c9] 28) rfl) 2).trans rfl, (cell_block (S1b.out.blk_at 3 (g := w4.heap.size) (o := .cells #[.int .i64 p0, .int .i64 p1, .int .i64 p2, .int .i64 p3, .slice pA pn pc, .slice A9 (pm + 1) c9] 28) rfl) 3).trans rfl, (cell_block (S1b.out.blk_at 3 (g := w4.heap.size) (o := .cells #[.int .i64 p0, .int .i64 p1, .int .i64 p2, .int .i64 p3, .slice pA pn pc, .slice A9 (pm + 1) c9] 28) rfl) 4).trans rfl, (cell_block (S1b.out.blk_at 3 (g := w4.heap.size) (o := .cells #[.int .i64 p0, .int .i64 p1, .int .i64 p2, .int .i64 p3, .slice pA pn pc, .slice A9 (pm + 1) c9] 28) rfl) 5).trans rfl⟩
            refine Held.takeN 4 (v := ?_) hC rfl (by kernel_rfl) (by kernel_rfl) (by kernel_rfl) rfl (fun _ _ _ h => h) rfl ?_ ?_; rotate_left; · (intro W hW; obtain ⟨k0, k1, k2, k3, k4, k5, k6, k7, k8⟩ := hW; go_simp <;> with_reducible rfl)
            try simp only [Act.put, List.setIfInBounds_toArray, List.set_cons_zero, List.set_cons_succ]
            refine Held.takeN 5 (v := ?_) hC rfl (by kernel_rfl) (by kernel_rfl) (by kernel_rfl) rfl (fun _ _ _ h => h) rfl ?_ ?_; rotate_left; · (intro W hW; obtain ⟨k0, k1, k2, k3, k4, k5, k6, k7, k8⟩ := hW; go_simp <;> with_reducible rfl)
            try simp only [Act.put, List.setIfInBounds_toArray, List.set_cons_zero, List.set_cons_succ]
            refine Held.takeN 6 (v := ?_) hC rfl (by kernel_rfl) (by kernel_rfl) (by kernel_rfl) rfl (fun _ _ _ h => h) rfl ?_ ?_; rotate_left; · (intro W hW; obtain ⟨k0, k1, k2, k3, k4, k5, k6, k7, k8⟩ := hW; go_simp <;> with_reducible rfl)
            try simp only [Act.put, List.setIfInBounds_toArray, List.set_cons_zero, List.set_cons_succ]
            refine Held.takeN 7 (v := ?_) hC rfl (by kernel_rfl) (by kernel_rfl) (by kernel_rfl) rfl (fun _ _ _ h => h) rfl ?_ ?_; rotate_left; · (intro W hW; obtain ⟨k0, k1, k2, k3, k4, k5, k6, k7, k8⟩ := hW; go_simp <;> with_reducible rfl)
            try simp only [Act.put, List.setIfInBounds_toArray, List.set_cons_zero, List.set_cons_succ]
            refine Held.takeN 8 (v := ?_) hC rfl (by kernel_rfl) (by kernel_rfl) (by kernel_rfl) rfl (fun _ _ _ h => h) rfl ?_ ?_; rotate_left; · (intro W hW; obtain ⟨k0, k1, k2, k3, k4, k5, k6, k7, k8⟩ := hW; go_simp <;> with_reducible rfl)
            try simp only [Act.put, List.setIfInBounds_toArray, List.set_cons_zero, List.set_cons_succ]
            refine Held.onlyG 9 (by kernel_rfl) rfl rfl ?_
            intro K hK
            go_simp
            refine (c_right I S1b.out x HX.out HRX.out).mono ?_
            rintro e SZw ⟨rfl, SZh⟩
            have SZ : Hid (Sep (fun _ => False) w SZw [blk (w.heap.size) (.cells #[.int .i64 p0, .int .i64 p1, .int .i64 p2, .int .i64 p3, .slice pA pn pc, .slice pX pm pd] 28), blk (w.heap.size + 1) (.cells #[.int .i64 x.d, .int .i64 x.a, .int .i64 x.n] 23), told byE (.slice A5 bn c5) bB, blk w4.heap.size (.cells #[.int .i64 p0, .int .i64 p1, .int .i64 p2, .int .i64 p3, .slice pA pn pc, .slice A9 (pm + 1) c9] 28), grow itE 23 (.slice A9 (pm + 1) c9) (s.xs ++ [x]), told byE (.slice (some ⟨g7, o7, none⟩) tn c7) tB]) := SZh
            clear SZh
            refine hK.out _ _ (fun _ => ⟨(cell_block (SZ.out.blk_at 1 (g := w.heap.size + 1) (o := .cells #[.int .i64 x.d, .int .i64 x.a, .int .i64 x.n] 23) rfl) 0).trans rfl, (cell_block (SZ.out.blk_at 1 (g := w.heap.size + 1) (o := .cells #[.int .i64 x.d, .int .i64 x.a, .int .i64 x.n] 23) rfl) 1).trans rfl, (cell_block (SZ.out.blk_at 1 (g := w.heap.size + 1) (o := .cells #[.int .i64 x.d, .int .i64 x.a, .int .i64 x.n] 23) rfl) 2).trans rfl, (cell_block (SZ.out.blk_at 3 (g := w4.heap.size) (o := .cells #[.int .i64 p0, .int .i64 p1, .int .i64 p2, .int .i64 p3, .slice pA pn pc, .slice A9 (pm + 1) c9] 28) rfl) 0).trans rfl, (cell_block (SZ.out.blk_at 3 (g := w4.heap.size) (o := .cells #[.int .i64 p0, .int .i64 p1, .int .i64 p2, .int .i64 p3, .slice pA pn pc, .slice A9 (pm + 1) c9] 28) rfl) 1).trans rfl, (cell_block (SZ.out.blk_at 3 (g := w4.heap.size) (o := .cells #[.int .i64 p0, .int .i64 p1, .int .i64 p2, .int .i64 p3, .slice pA pn pc, .slice A9 (pm + 1) c9] 28) rfl) 2).trans rfl, (cell_block (SZ.out.blk_at 3 (g := w4.heap.size) (o := .cells #[.int .i64 p0, .int .i64 p1, .int .i64 p2, .int .i64 p3, .slice pA pn pc, .slice A9 (pm + 1) c9] 28) rfl) 3).trans rfl, (cell_block (SZ.out.blk_at 3 (g := w4.heap.size) (o := .cells #[.int .i64 p0, .int .i64 p1, .int .i64 p2, .int .i64 p3, .slice pA pn pc, .slice A9 (pm + 1) c9] 28) rfl) 4).trans rfl, (cell_block (SZ.out.blk_at 3 (g := w4.heap.size) (o := .cells #[.int .i64 p0, .int .i64 p1, .int .i64 p2, .int .i64 p3, .slice pA pn pc, .slice A9 (pm + 1) c9] 28) rfl) 5).trans rfl⟩) ?_
            clear hK K
            try simp only [Act.put, List.setIfInBounds_toArray, List.set_cons_zero, List.set_cons_succ]
            have hC : (fun V : World => V.cell? ⟨w.heap.size + 1, 0, none⟩ = some (.int .i64 x.d) ∧ V.cell? ⟨w.heap.size + 1, 1, none⟩ = some (.int .i64 x.a) ∧ V.cell? ⟨w.heap.size + 1, 2, none⟩ = some (.int .i64 x.n) ∧ V.cell? ⟨w4.heap.size, 0, none⟩ = some (.int .i64 p0) ∧ V.cell? ⟨w4.heap.size, 1, none⟩ = some (.int .i64 p1) ∧ V.cell? ⟨w4.heap.size, 2, none⟩ = some (.int .i64 p2) ∧ V.cell? ⟨w4.heap.size, 3, none⟩ = some (.int .i64 p3) ∧ V.cell? ⟨w4.heap.size, 4, none⟩ = some (.slice pA pn pc) ∧ V.cell? ⟨w4.heap.size, 5, none⟩ = some (.slice A9 (pm + 1) c9)) SZw := ⟨(cell_block (SZ.out.blk_at 1 (g := w.heap.size + 1) (o := .cells #[.int .i64 x.d, .int .i64 x.a, .int .i64 x.n] 23) rfl) 0).trans rfl, (cell_block (SZ.out.blk_at 1 (g := w.heap.size + 1) (o := .cells #[.int .i64 x.d, .int .i64 x.a, .int .i64 x.n] 23) rfl) 1).trans rfl, (cell_block (SZ.out.blk_at 1 (g := w.heap.size + 1) (o := .cells #[.int .i64 x.d, .int .i64 x.a, .int .i64 x.n] 23) rfl) 2).trans rfl, (cell_block (SZ.out.blk_at 3 (g := w4.heap.size) (o := .cells #[.int .i64 p0, .int .i64 p1, .int .i64 p2, .int .i64 p3, .slice pA pn pc, .slice A9 (pm + 1) c9] 28) rfl) 0).trans rfl, (cell_block (SZ.out.blk_at 3 (g := w4.heap.size) (o := .cells #[.int .i64 p0, .int .i64 p1, .int .i64 p2, .int .i64 p3, .slice pA pn pc, .slice A9 (pm + 1) c9] 28) rfl) 1).trans rfl, (cell_block (SZ.out.blk_at 3 (g := w4.heap.size) (o := .cells #[.int .i64 p0, .int .i64 p1, .int .i64 p2, .int .i64 p3, .slice pA pn pc, .slice A9 (pm + 1) c9] 28) rfl) 2).trans rfl, (cell_block (SZ.out.blk_at 3 (g := w4.heap.size) (o := .cells #[.int .i64 p0, .int .i64 p1, .int .i64 p2, .int .i64 p3, .slice pA pn pc, .slice A9 (pm + 1) c9] 28) rfl) 3).trans rfl, (cell_block (SZ.out.blk_at 3 (g := w4.heap.size) (o := .cells #[.int .i64 p0, .int .i64 p1, .int .i64 p2, .int .i64 p3, .slice pA pn pc, .slice A9 (pm + 1) c9] 28) rfl) 4).trans rfl, (cell_block (SZ.out.blk_at 3 (g := w4.heap.size) (o := .cells #[.int .i64 p0, .int .i64 p1, .int .i64 p2, .int .i64 p3, .slice pA pn pc, .slice A9 (pm + 1) c9] 28) rfl) 5).trans rfl⟩
            refine Held.takeN 10 (v := ?_) hC rfl (by kernel_rfl) (by kernel_rfl) (by kernel_rfl) rfl (fun _ _ _ h => h) rfl ?_ ?_; rotate_left; · (intro W hW; obtain ⟨k0, k1, k2, k3, k4, k5, k6, k7, k8⟩ := hW; go_simp <;> with_reducible rfl)
            try simp only [Act.put, List.setIfInBounds_toArray, List.set_cons_zero, List.set_cons_succ]
            refine Held.takeN 11 (v := ?_) hC rfl (by kernel_rfl) (by kernel_rfl) (by kernel_rfl) rfl (fun _ _ _ h => h) rfl ?_ ?_; rotate_left; · (intro W hW; obtain ⟨k0, k1, k2, k3, k4, k5, k6, k7, k8⟩ := hW; go_simp <;> with_reducible rfl)
            try simp only [Act.put, List.setIfInBounds_toArray, List.set_cons_zero, List.set_cons_succ]
            refine Held.done (by kernel_rfl) ?_ _
            go_wp2_with fail
            refine (d_sameB SZ.out (rdl_take (k := bn) (SZ.out.rdL 5 rfl) (by have := HTN.out; omega)) (SZ.out.rdL 2 rfl) (r := true) (decide_eq_true (by rw [HTB.out, List.take_append_of_le_length (by rw [Hbn.out]; omega), List.take_of_length_le (by rw [Hbn.out]; omega)]))).mono ?_
            rintro e wq ⟨rfl, hq⟩
            have SQ := Lib.hid hq
            clear hq SZ
            go_wp2
            go_ret
            exact ⟨rfl, SQ.out.old⟩
end Go.Proofs.YtolooaahaofflaaDoor.ScriI
