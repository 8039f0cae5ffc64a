/-
  What package script does as it landed, third part: Bytes and May. Condition: the table of package code lies as it was written; what the script reads as.
-/
import Derived.Test.YtolooaahaofflaaDoorSdB
namespace Go.Proofs.YtolooaahaofflaaDoor.ScA
open Go.ChangeShapes Go.WideShapes Go.ChangeAt Go.RowKit Mem MutP CodeP ScriptP Hand RefCode CodeI Scr CodeT CdA RefScr

theorem parts_may {s : Sc} : mayS s = ((s.r.all fun x => decide (0 ≤ x)) && (decide (1 ≤ s.ps.length ∧ s.ps.length ≤ 8) && s.ps.all mayB) && (decide (s.xs.length ≤ 200) && s.xs.all rightI) && decide (longS s ≤ 4000)) := by
  rw [Bool.eq_iff_iff, mayS_iff]
  simp only [Bool.and_eq_true, List.all_eq_true, decide_eq_true_eq]
  constructor
  · rintro ⟨h1, h2, h3, h4, h5, h6⟩; exact ⟨⟨⟨h1, h4, h2⟩, h5, h3⟩, h6⟩
  · rintro ⟨⟨⟨h1, h4, h2⟩, h5, h3⟩, h6⟩; exact ⟨h1, h2, h3, h4, h5, h6⟩

set_option maxRecDepth 100000 in
set_option maxHeartbeats 2000000 in
theorem bytes_k {w : World} {G : Nat → Prop} {q : Sv} {s : Sc} (hT : Tab w) (h : RdS w G q s) :
    Calls Tryd.prog 8 #[.agg q.arr] w fun e w' => ∃ u, e = .returned (.tuple #[u, .int .i64 (bytesSE s)]) ∧ SaysL byE w w' u (bytesSR s) ∧ FitsV u := by
  have HRD := Lib.hid h
  have HT := Lib.hid hT
  obtain ⟨r0, r1, r2, r3, pA, pn, pc, xA, xn, xc⟩ := q
  have S0 : Hid (Sep (fun _ => False) w (w.alloc (.cells #[.int .i64 r0, .int .i64 r1, .int .i64 r2, .int .i64 r3, .slice pA pn pc, .slice xA xn xc] 28)) [blk w.heap.size (.cells #[.int .i64 r0, .int .i64 r1, .int .i64 r2, .int .i64 r3, .slice pA pn pc, .slice xA xn xc] 28)]) := (Sep.nil _ _).new _
  have HMS := Lib.hid (parts_may (s := s))
  have HRR : Hid (s.r = [r0, r1, r2, r3]) := h.1
  have HE : Hid (mayS s = false → bytesSE s = 1 ∧ bytesSR s = []) := fun hm => by unfold bytesSE bytesSR; rw [hm]; exact ⟨rfl, rfl⟩
  have HE1 : Hid (mayS s = true → bytesSE s = 0 ∧ bytesSR s = bytesS s) := fun hm => by unfold bytesSE bytesSR; rw [hm]; exact ⟨rfl, rfl⟩
  have HR4 : Hid (s.r.length = 4) := by show _ = _; rw [HRR.out]; rfl
  obtain ⟨a1, ha1⟩ : ∃ a1, (s.r.all fun x => decide (0 ≤ x)) = a1 := ⟨_, rfl⟩
  obtain ⟨a2, ha2⟩ : ∃ a2, (decide (1 ≤ s.ps.length ∧ s.ps.length ≤ 8) && s.ps.all mayB) = a2 := ⟨_, rfl⟩
  obtain ⟨a3, ha3⟩ : ∃ a3, (decide (s.xs.length ≤ 200) && s.xs.all rightI) = a3 := ⟨_, rfl⟩
  have HA2 := Lib.hid ha2
  have HA3 := Lib.hid ha3
  rw [ha1, ha2, ha3] at HMS
  have HC1 := Lib.hid (rooms_k r0 r1 r2 r3 (w.alloc (.cells #[.int .i64 r0, .int .i64 r1, .int .i64 r2, .int .i64 r3, .slice pA pn pc, .slice xA xn xc] 28)))
  rw [← HRR.out, ha1] at HC1
  have HC2 : Hid (∀ V, Below w.heap.size w V → Calls Tryd.prog 21 #[.slice pA pn pc] V fun e w' => e = .returned (.bool a2) ∧ Below V.heap.size V w') := fun V hV => by
    rw [← ha2]; exact programs_k (hT.next hV) ((h.below hV).2.1)
  have HC3 : Hid (∀ V, Below w.heap.size w V → Calls Tryd.prog 22 #[.slice xA xn xc] V fun e w' => e = .returned (.bool a3) ∧ Below V.heap.size V w') := fun V hV => by
    rw [← ha3]; exact items_k ((h.below hV).2.2.1)
  unfold Sv.arr at *
  simp only at *
  clear h hT ha1 ha2 ha3
  cases a1
  · have HZ := Lib.hid (HE.out (by rw [HMS.out]; rfl))
    go_enter Tryd.func8, Tryd.ntmps8
    go_wp2_with fail
    refine HC1.out.mono ?_
    rintro e w1 ⟨rfl, hb1⟩
    have HB1 := Lib.hid (S0.out.next hb1).old
    clear hb1 HC1 S0
    go_wp2
    (try simp only [Exit.inBlock, Exit.then])
    refine bodyPost_ret (results_tmp2c rfl _ _ _) rfl ?_
    refine ⟨_, by rw [HZ.out.1]; rfl, ?_⟩
    rw [HZ.out.2]
    exact ⟨says_nil byE HB1.out, fits_nil⟩
  cases a2
  · have HZ := Lib.hid (HE.out (by rw [HMS.out]; rfl))
    go_enter Tryd.func8, Tryd.ntmps8
    go_wp2_with fail
    refine HC1.out.mono ?_
    rintro e w1 ⟨rfl, hb1⟩
    have S1 := Lib.hid (S0.out.next hb1)
    have k4 := (cell_block (S1.out.blk_at 0 rfl) 4).trans rfl
    clear hb1 HC1 S0
    go_wp2_with fail
    refine (HC2.out _ S1.out.old).mono ?_
    rintro e w2 ⟨rfl, hb2⟩
    have HB1 := Lib.hid (S1.out.next hb2).old
    clear hb2 HC2 S1 k4
    go_wp2
    (try simp only [Exit.inBlock, Exit.then])
    refine bodyPost_ret (results_tmp2c rfl _ _ _) rfl ?_
    refine ⟨_, by rw [HZ.out.1]; rfl, ?_⟩
    rw [HZ.out.2]
    exact ⟨says_nil byE HB1.out, fits_nil⟩
  cases a3
  · have HZ := Lib.hid (HE.out (by rw [HMS.out]; rfl))
    go_enter Tryd.func8, Tryd.ntmps8
    go_wp2_with fail
    refine HC1.out.mono ?_
    rintro e w1 ⟨rfl, hb1⟩
    have S1 := Lib.hid (S0.out.next hb1)
    have k4 := (cell_block (S1.out.blk_at 0 rfl) 4).trans rfl
    clear hb1 HC1 S0
    go_wp2_with fail
    refine (HC2.out _ S1.out.old).mono ?_
    rintro e w2 ⟨rfl, hb2⟩
    have S2 := Lib.hid (S1.out.next hb2)
    have k5 := (cell_block (S2.out.blk_at 0 rfl) 5).trans rfl
    clear hb2 HC2 S1 k4
    go_wp2_with fail
    refine (HC3.out _ S2.out.old).mono ?_
    rintro e w3 ⟨rfl, hb3⟩
    have HB1 := Lib.hid (S2.out.next hb3).old
    clear hb3 HC3 S2 k5
    go_wp2
    (try simp only [Exit.inBlock, Exit.then])
    refine bodyPost_ret (results_tmp2c rfl _ _ _) rfl ?_
    refine ⟨_, by rw [HZ.out.1]; rfl, ?_⟩
    rw [HZ.out.2]
    exact ⟨says_nil byE HB1.out, fits_nil⟩
  have HPA : Hid (((∀ p ∈ s.ps, mayB p = true) ∧ s.ps.length ≤ 8) ∧ (∀ x ∈ s.xs, rightI x = true) ∧ s.xs.length ≤ 200) := by
    have h2 := HA2.out
    have h3 := HA3.out
    simp only [Bool.and_eq_true, List.all_eq_true, decide_eq_true_eq] at h2 h3
    exact ⟨⟨h2.2, h2.1.2⟩, h3.2, h3.1⟩
  have HW : Hid (∀ V, Below w.heap.size w V → Calls Tryd.prog 23 #[.agg #[.int .i64 r0, .int .i64 r1, .int .i64 r2, .int .i64 r3, .slice pA pn pc, .slice xA xn xc]] V fun e w' => ∃ (A : Option Addr) (c : Nat) (l : List Int), l = bytesS s ∧ e = .returned (.slice A l.length c) ∧ Sep (fun _ => False) V w' [grow byE 5 (.slice A l.length c) l]) := fun V hV => by
    have h1 := written_k (q := ⟨r0, r1, r2, r3, pA, pn, pc, xA, xn, xc⟩) (HT.out.next hV) (HRD.out.below hV) HPA.out.1.1 HPA.out.1.2 HPA.out.2.1 HPA.out.2.2
    exact h1
  have HLS : Hid ((bytesS s).length = longS s) := bytesS_len HR4.out
  go_enter Tryd.func8, Tryd.ntmps8
  go_wp2_with fail
  refine HC1.out.mono ?_
  rintro e w1 ⟨rfl, hb1⟩
  have S1 := Lib.hid (S0.out.next hb1)
  have k4 := (cell_block (S1.out.blk_at 0 rfl) 4).trans rfl
  clear hb1 HC1 S0
  go_wp2_with fail
  refine (HC2.out _ S1.out.old).mono ?_
  rintro e w2 ⟨rfl, hb2⟩
  have S2 := Lib.hid (S1.out.next hb2)
  have k5 := (cell_block (S2.out.blk_at 0 rfl) 5).trans rfl
  clear hb2 HC2 S1 k4
  go_wp2_with fail
  refine (HC3.out _ S2.out.old).mono ?_
  rintro e w3 ⟨rfl, hb3⟩
  have S3 := Lib.hid (S2.out.next hb3)
  have c0 := (cell_block (S3.out.blk_at 0 rfl) 0).trans rfl
  have c1 := (cell_block (S3.out.blk_at 0 rfl) 1).trans rfl
  have c2 := (cell_block (S3.out.blk_at 0 rfl) 2).trans rfl
  have c3 := (cell_block (S3.out.blk_at 0 rfl) 3).trans rfl
  have c4 := (cell_block (S3.out.blk_at 0 rfl) 4).trans rfl
  have c5 := (cell_block (S3.out.blk_at 0 rfl) 5).trans rfl
  clear hb3 HC3 S2 k5
  go_wp2_with fail
  refine (HW.out _ S3.out.old).mono ?_
  rintro e w4 ⟨A4, n4, l4, hl4, rfl, h4⟩
  have S4 := Lib.hid h4
  have HB3 := Lib.hid S3.out.old
  have HL4 := Lib.hid hl4
  have hlen : l4.length = longS s := by rw [hl4]; exact HLS.out
  obtain ⟨L, hL⟩ : ∃ L, l4.length = L := ⟨_, rfl⟩
  have HLL := Lib.hid hL
  rw [hL] at hlen S4 ⊢
  clear h4 hl4 HW S3 c0 c1 c2 c3 c4 c5 hL
  rcases (by omega : 4000 < L ∨ L ≤ 4000) with hl | hl
  · have HZ := Lib.hid (HE.out (by rw [HMS.out, decide_eq_false (by omega : ¬ longS s ≤ 4000)]; rfl))
    have d0 : decide ((L : Int) > 4000) = true := decide_eq_true (by omega)
    have d1 : decide (4000 < L) = true := decide_eq_true hl
    have HB4 : Hid (Below w.heap.size w w4) := HB3.out.trans (S4.out.old.mono HB3.out.size)
    clear hl hlen
    go_wp2
    (try simp only [Exit.inBlock, Exit.then])
    refine bodyPost_ret (results_tmp2c rfl _ _ _) rfl ?_
    refine ⟨_, by rw [HZ.out.1]; rfl, ?_⟩
    rw [HZ.out.2]
    exact ⟨says_nil byE HB4.out, fits_nil⟩
  · have HZ := Lib.hid (HE1.out (by rw [HMS.out, decide_eq_true (by omega : longS s ≤ 4000)]; rfl))
    have d0 : decide ((L : Int) > 4000) = false := decide_eq_false (by omega)
    have d1 : decide (4000 < L) = false := decide_eq_false (by omega)
    have HLB : Hid (l4.length ≤ 4000) := by show _ ≤ _; rw [HLL.out]; exact hl
    clear hl hlen
    go_wp2
    (try simp only [Exit.inBlock, Exit.then])
    refine bodyPost_ret (results_tmp2c rfl _ _ _) rfl ?_
    refine ⟨_, by rw [HZ.out.1]; rfl, ?_⟩
    rw [HZ.out.2, ← HL4.out]
    exact ⟨says_later (says_grow S4.out (by have := HLB.out; omega)) HB3.out, fits_grow S4.out⟩

set_option maxRecDepth 100000 in
theorem may_k {w : World} {G : Nat → Prop} {q : Sv} {s : Sc} (hT : Tab w) (h : RdS w G q s) :
    Calls Tryd.prog 15 #[.agg q.arr] w fun e w' => e = .returned (.bool (mayS s)) ∧ Below w.heap.size w w' := by
  have HC := Lib.hid (bytes_k (hT.next (new_below0 w (.cells q.arr 28))) (h.below (new_below0 w (.cells q.arr 28))))
  obtain ⟨r0, r1, r2, r3, pA, pn, pc, xA, xn, xc⟩ := q
  have HB : Hid (Below w.heap.size w (w.alloc (.cells #[.int .i64 r0, .int .i64 r1, .int .i64 r2, .int .i64 r3, .slice pA pn pc, .slice xA xn xc] 28))) := new_below0 w _
  have HE : Hid (bytesSE s = if mayS s = true then 0 else 1) := rfl
  generalize mayS s = m at *
  generalize bytesSE s = z at *
  unfold Sv.arr at *
  simp only at *
  clear h hT
  go_enter Tryd.func15, Tryd.ntmps15
  go_wp2_with fail
  refine HC.out.mono ?_
  rintro e w1 ⟨u, rfl, hs, _⟩
  obtain ⟨Au, cu, rfl⟩ := hs.1.form
  have HB1 : Hid (Below w.heap.size w w1) := HB.out.trans (hs.2.mono HB.out.size)
  have HV : Hid ((z == 0) = m) := by
    show _ = _
    rw [HE.out]
    cases m <;> rfl
  clear hs HC HB
  go_wp2
  go_ret
  exact ⟨ret_bool HV.out, HB1.out⟩
end Go.Proofs.YtolooaahaofflaaDoor.ScA
