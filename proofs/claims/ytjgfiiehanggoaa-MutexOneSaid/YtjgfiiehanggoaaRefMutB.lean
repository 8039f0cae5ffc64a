/-
  Contracts of the functions of package countermandref08 (the document's answer for layer 8), second part: Lock, Unlock, Leave. Condition: the lock is at hand.
-/
import Derived.Test.YtjgfiiehanggoaaRefMut
namespace Go.Proofs.Ytjgfiiehanggoaa.RefMut
open Go.ChangeShapes Go.WideShapes Go.ChangeAt Go.RowKit Mem MutP Hand

section
variable {B : Nat → Prop} {w wk : World} {Rs : List Res} {p : Nat} {H : Int} {W : List Int} {N : Int}

set_option maxRecDepth 100000 in
set_option maxHeartbeats 1000000 in
theorem lock_s (h : Sep B w wk (rm p H W N :: Rs)) (t : Int) (wait : Bool) :
    Calls Try.prog 10 #[.pointer (some ⟨p, 0, none⟩), .int .i64 t, .bool wait] wk fun e wn => e = .returned (.tuple #[.bool (lockB H W N t), .int .i64 (lockE W N t)]) ∧ Sep B w wn (rm p (lockH H W N t) (lockW H W N t wait) N :: Rs) := by
  obtain ⟨A, c, hs, hok, hcap⟩ := rm_open h
  have HOK := Lib.hid (hok.lock t wait)
  have HF : Hid (Fits (.slice A W.length c)) := fun _ _ _ e => by injection e with _ e2 e3; omega
  have S0 := Lib.hid hs
  have hwl := hok.wlen
  have hb := hs.blk_at 0 rfl
  have c0 : wk.cell? ⟨p, 0, none⟩ = some (.int .i64 H) := (cell_block hb 0).trans rfl
  have c1 : wk.cell? ⟨p, 1, none⟩ = some (.int .i64 N) := (cell_block hb 1).trans rfl
  have c2 : wk.cell? ⟨p, 2, none⟩ = some (.slice A W.length c) := (cell_block hb 2).trans rfl
  have f0 := frozen_block hb 0
  have f2 := frozen_block hb 2
  have hpl := lt_of_block hb
  have HI := Lib.hid (in_any (hs.rd 1 rfl) t)
  clear h hs hok hb hcap
  by_cases hn : nameM N t = true
  · obtain ⟨t0, t1⟩ := name_iff.1 hn
    have d0 : decide (t < 0) = false := by simp; omega
    have d1 : decide (N ≤ t) = false := by simp; omega
    cases hi : inL W t with
    | true =>
      rw [hi] at HI
      have HB : Hid (lockB H W N t = false ∧ lockE W N t = 6 ∧ lockH H W N t = H ∧ lockW H W N t wait = W) := by
        have h1 : lockB H W N t = false := by unfold lockB; simp [hi]
        refine ⟨h1, by unfold lockE; rw [if_neg (by rw [hn]; simp), if_pos hi], by unfold lockH; rw [if_neg (by rw [h1]; simp)], ?_⟩
        unfold lockW waitsB
        rw [if_neg (by simp [hi])]
      clear hn hi
      go_enter Try.func10, Try.ntmps10
      go_wp2_with fail
      refine HI.out.mono ?_
      rintro e w1 ⟨rfl, rfl⟩
      go_wp2
      go_ret2
      have HOK2 := HOK.out
      obtain ⟨g1, g2, g3, g4⟩ := HB.out
      rw [g1, g2, g3, g4]
      rw [g3, g4] at HOK2
      exact ⟨rfl, rm_close S0.out HOK2 HF.out⟩
    | false =>
      rw [hi] at HI
      have HE : Hid (lockE W N t = 0) := by show _ = _; unfold lockE; rw [if_neg (by rw [hn]; simp), if_neg (by rw [hi]; simp)]
      by_cases hH : H < 0
      · have dH : decide (H < 0) = true := by simpa using hH
        have HB : Hid (lockB H W N t = true ∧ lockH H W N t = t ∧ lockW H W N t wait = W) := by
          have h1 : lockB H W N t = true := by unfold lockB; rw [hn, hi, dH]; rfl
          refine ⟨h1, by unfold lockH; rw [if_pos h1], ?_⟩
          unfold lockW waitsB
          rw [if_neg (by rw [dH]; simp)]
        have S1 := Lib.hid (S0.out.set 0 rfl 0 (.int .i64 t))
        clear hn hi hH
        go_enter Try.func10, Try.ntmps10
        go_wp2_with fail
        refine HI.out.mono ?_
        rintro e w1 ⟨rfl, rfl⟩
        go_wp2
        go_ret2
        have HOK2 := HOK.out
        obtain ⟨g1, g3, g4⟩ := HB.out
        rw [g1, HE.out, g3, g4]
        rw [g3, g4] at HOK2
        exact ⟨rfl, rm_close S1.out HOK2 HF.out⟩
      · have dH : decide (H < 0) = false := by simpa using hH
        have HB : Hid (lockB H W N t = false ∧ lockH H W N t = H ∧ lockW H W N t wait = if wait = true then W ++ [t] else W) := by
          have h1 : lockB H W N t = false := by unfold lockB; rw [dH]; simp
          refine ⟨h1, by unfold lockH; rw [if_neg (by rw [h1]; simp)], ?_⟩
          unfold lockW waitsB
          rw [hn, hi, dH]
          cases wait <;> rfl
        clear hn hi hH
        cases wait with
        | false =>
          go_enter Try.func10, Try.ntmps10
          go_wp2_with fail
          refine HI.out.mono ?_
          rintro e w1 ⟨rfl, rfl⟩
          go_wp2
          go_ret2
          have HOK2 := HOK.out
          obtain ⟨g1, g3, g4⟩ := HB.out
          rw [g1, HE.out, g3, g4]
          rw [g3, g4] at HOK2
          exact ⟨rfl, rm_close S0.out HOK2 HF.out⟩
        | true =>
          have S1 := Lib.hid (S0.out.grow0 intE 3)
          have HRW : Hid (RdL intE (wk.alloc (.cells #[] 3)) (fun _ => True) (.slice A W.length c) W) := rdL_of (S1.out.rd 2 rfl)
          go_enter Try.func10, Try.ntmps10
          go_wp2_with fail
          refine HI.out.mono ?_
          rintro e w1 ⟨rfl, rfl⟩
          go_wp2_with (first
            | (at_builtin; refine wpList_appS rfl _ _ intElemL rfl rfl rfl S1.out 0 rfl HRW.out (by show 0 + W.length ≤ _; omega) ?_; intro A3 c3 w3 l3 HL3 h3; have HX1 : Hid (RdL intE (w3.alloc (.cells #[.int .i64 t] 3)) (fun _ => True) (.slice (some ⟨w3.heap.size, 0, none⟩) 1 1) [t]) := RdL.lit1 (E := intE) w3 3 t (cs := #[.int .i64 t]) rfl (fun _ => True) trivial; have S3 := Lib.hid (Sep.next h3 (new_below0 w3 (.cells #[.int .i64 t] 3))); have hl3 : Hid (l3.length = W.length) := congrArg List.length HL3.out; clear h3)
            | (at_builtin; refine wpList_appS rfl _ _ intElemL rfl rfl rfl S3.out 0 rfl HX1.out (by rw [hl3.out]; show W.length + 1 ≤ _; omega) ?_; intro A5 c5 w5 l5 HL5 h5; have k5 := (cell_block (Sep.blk_at h5 1 rfl) 2).trans rfl; have f5 := frozen_block (Sep.blk_at h5 1 rfl) 2; have S5 := Lib.hid h5; clear h5))
          go_wp2
          go_ret2
          have HOK2 := HOK.out
          obtain ⟨g1, g3, g4⟩ := HB.out
          have g4 : lockW H W N t true = W ++ [t] := g4.trans (if_pos trivial)
          rw [g1, HE.out, g3, g4]
          rw [g3, g4] at HOK2
          have hl5 : l5 = W ++ [t] := by rw [HL5.out, HL3.out]; rfl
          subst hl5
          have h6 := grow_nums ((S5.out.set 1 rfl 2 (.slice A5 (W ++ [t]).length c5))) (by simp; omega)
          have h7 := h6.swap.sub (.cons_cons _ (.cons_cons _ (.cons _ (List.Sublist.refl Rs))))
          exact ⟨rfl, rm_close h7 HOK2 (fits_own (S5.out.own 0 rfl))⟩
  · have hn' : nameM N t = false := by simpa using hn
    have HB : Hid (lockB H W N t = false ∧ lockE W N t = 3 ∧ lockH H W N t = H ∧ lockW H W N t wait = W) := by
      have h1 : lockB H W N t = false := by unfold lockB; rw [hn']; rfl
      refine ⟨h1, by unfold lockE; rw [if_pos hn'], by unfold lockH; rw [if_neg (by rw [h1]; simp)], ?_⟩
      unfold lockW waitsB
      rw [hn']
      rfl
    have hlt : t < 0 ∨ (0 ≤ t ∧ N ≤ t) := by
      rw [name_iff] at hn
      omega
    clear hn hn' HI
    rcases hlt with h1 | ⟨h1, h2⟩
    all_goals
      go_enter Try.func10, Try.ntmps10
      go_wp2
      go_ret2
      have HOK2 := HOK.out
      obtain ⟨g1, g2, g3, g4⟩ := HB.out
      rw [g1, g2, g3, g4]
      rw [g3, g4] at HOK2
      exact ⟨rfl, rm_close S0.out HOK2 HF.out⟩

set_option maxRecDepth 100000 in
set_option maxHeartbeats 1000000 in
theorem unlock_s (h : Sep B w wk (rm p H W N :: Rs)) (t : Int) :
    Calls Try.prog 11 #[.pointer (some ⟨p, 0, none⟩), .int .i64 t] wk fun e wn => e = .returned (.tuple #[.int .i64 (unlV H W N t), .int .i64 (unlE H N t)]) ∧ Sep B w wn (rm p (unlH H W N t) (unlW H W N t) N :: Rs) := by
  obtain ⟨A, c, hs, hok, hcap⟩ := rm_open h
  have HOK := Lib.hid (hok.unlock t)
  have HF : Hid (Fits (.slice A W.length c)) := fun _ _ _ e => by injection e with _ e2 e3; omega
  have S0 := Lib.hid hs
  have hwl := hok.wlen
  have hb := hs.blk_at 0 rfl
  have c0 : wk.cell? ⟨p, 0, none⟩ = some (.int .i64 H) := (cell_block hb 0).trans rfl
  have c1 : wk.cell? ⟨p, 1, none⟩ = some (.int .i64 N) := (cell_block hb 1).trans rfl
  have c2 : wk.cell? ⟨p, 2, none⟩ = some (.slice A W.length c) := (cell_block hb 2).trans rfl
  have f0 := frozen_block hb 0
  have f2 := frozen_block hb 2
  have hpl := lt_of_block hb
  have HIN : Hid (∀ u W', Sep B w (((wk.setCell ⟨p, 0, none⟩ (.int .i64 (-1))).setCell ⟨p, 0, none⟩ (.int .i64 (W.getD 0 0))).setCell ⟨p, 2, none⟩ u) (blk p (.cells #[.int .i64 (W.getD 0 0), .int .i64 N, u] 43) :: nums (.slice A W.length c) W' :: Rs) → Sep B w (((wk.setCell ⟨p, 0, none⟩ (.int .i64 (-1))).setCell ⟨p, 0, none⟩ (.int .i64 (W.getD 0 0))).setCell ⟨p, 2, none⟩ u) (blk p (.cells #[.int .i64 (W.getD 0 0), .int .i64 N, u] 43) :: nums (.slice A W.length c) W' :: Rs)) := fun _ _ h => h
  clear h hb hok
  by_cases hn : nameM N t = true
  · obtain ⟨t0, t1⟩ := name_iff.1 hn
    have d0 : decide (t < 0) = false := by simp; omega
    have d1 : decide (N ≤ t) = false := by simp; omega
    by_cases hH : H = t
    · subst hH
      have HE : Hid (unlE H N H = 0 ∧ unlV H W N H = W.headD (-1) ∧ unlH H W N H = W.headD (-1) ∧ unlW H W N H = W.tail) := by
        refine ⟨by unfold unlE; rw [if_neg (by rw [hn]; simp), if_pos rfl], by unfold unlV; rw [if_pos ⟨hn, rfl⟩], by unfold unlH; rw [if_pos ⟨hn, rfl⟩], by unfold unlW; rw [if_pos ⟨hn, rfl⟩]⟩
      clear hn
      cases W with
      | nil =>
        have S1 := Lib.hid (S0.out.set 0 rfl 0 (.int .i64 (-1)))
        clear HIN
        go_enter Try.func11, Try.ntmps11
        go_wp2
        go_ret2
        have HOK2 := HOK.out
        obtain ⟨g1, g2, g3, g4⟩ := HE.out
        rw [g1, g2, g3, g4]
        rw [g3, g4] at HOK2
        exact ⟨rfl, rm_close S1.out HOK2 HF.out⟩
      | cons x W =>
        obtain ⟨b, off, rfl, hbl, q0, _⟩ := rd_at (S0.out.rd 1 rfl) (i := 0) (by simp)
        have q0 : wk.cell? ⟨b, off, none⟩ = some (.int .i64 x) := q0
        have hne : b ≠ p := by
          have h1 := S0.out
          obtain ⟨_, F1, F2, ⟨_, rfl⟩, ⟨F3, F4, ⟨⟨A', c', e, _, hx⟩, _⟩, _, s3, _, _⟩, _, _, d⟩ := h1
          injection e with e1 e2 e3
          obtain ⟨b', off', e, hF, _⟩ := hx (by simp)
          rw [← e1] at e
          injection e with e
          injection e with e
          subst e
          rintro rfl
          exact d b rfl (s3 b hF)
        have S1 := Lib.hid ((S0.out.set 0 rfl 0 (.int .i64 (-1))).set 0 rfl 0 (.int .i64 x))
        clear HIN
        simp only [List.length_cons] at *
        go_enter Try.func11, Try.ntmps11
        go_wp2
        all_goals
          go_ret2
          have HOK2 := HOK.out
          obtain ⟨g1, g2, g3, g4⟩ := HE.out
          rw [g1, g2, g3, g4]
          rw [g3, g4] at HOK2
          refine ⟨rfl, rm_close (W := W) (nums_next (S1.out.set 0 rfl 2 _) ?_) HOK2 ?_⟩
          · intro h0
            first | omega | rfl
          · intro A n c' e
            have e2 : W.length = n := by injection e
            have e3 : c - 1 = c' ∨ (c = 1 ∧ 0 = c') := by injection e; omega
            omega
    · have e1 : (H != t) = true := by simpa using hH
      have HE : Hid (unlE H N t = 4 ∧ unlV H W N t = -1 ∧ unlH H W N t = H ∧ unlW H W N t = W) := by
        refine ⟨by unfold unlE; rw [if_neg (by rw [hn]; simp), if_neg hH], by unfold unlV; rw [if_neg fun h => hH h.2], by unfold unlH; rw [if_neg fun h => hH h.2], by unfold unlW; rw [if_neg fun h => hH h.2]⟩
      clear hn hH HIN
      go_enter Try.func11, Try.ntmps11
      go_wp2
      go_ret2
      have HOK2 := HOK.out
      obtain ⟨g1, g2, g3, g4⟩ := HE.out
      rw [g1, g2, g3, g4]
      rw [g3, g4] at HOK2
      exact ⟨rfl, rm_close S0.out HOK2 HF.out⟩
  · have hn' : nameM N t = false := by simpa using hn
    have HE : Hid (unlE H N t = 3 ∧ unlV H W N t = -1 ∧ unlH H W N t = H ∧ unlW H W N t = W) := by
      refine ⟨by unfold unlE; rw [if_pos hn'], by unfold unlV; rw [if_neg fun h => hn h.1], by unfold unlH; rw [if_neg fun h => hn h.1], by unfold unlW; rw [if_neg fun h => hn h.1]⟩
    have hlt : t < 0 ∨ (0 ≤ t ∧ N ≤ t) := by
      rw [name_iff] at hn
      omega
    clear hn hn' HIN
    rcases hlt with h1 | ⟨h1, h2⟩
    all_goals
      go_enter Try.func11, Try.ntmps11
      go_wp2
      go_ret2
      have HOK2 := HOK.out
      obtain ⟨g1, g2, g3, g4⟩ := HE.out
      rw [g1, g2, g3, g4]
      rw [g3, g4] at HOK2
      exact ⟨rfl, rm_close S0.out HOK2 HF.out⟩

set_option maxRecDepth 100000 in
theorem leave_s (h : Sep B w wk (rm p H W N :: Rs)) (t : Int) :
    Calls Try.prog 12 #[.pointer (some ⟨p, 0, none⟩), .int .i64 t] wk fun e wn => e = .returned (.bool (inL W t)) ∧ Sep B w wn (rm p H (withoutL W t) N :: Rs) := by
  obtain ⟨A, c, hs, hok, hcap⟩ := rm_open h
  have HOK := Lib.hid (hok.leave t)
  have S0 := Lib.hid hs
  have hb := hs.blk_at 0 rfl
  have c2 : wk.cell? ⟨p, 2, none⟩ = some (.slice A W.length c) := (cell_block hb 2).trans rfl
  have HI := Lib.hid (in_any (hs.rd 1 rfl) t)
  have HWO := Lib.hid (without_s hs (hs.rd 1 rfl) t)
  clear h hs hok hb hcap
  generalize inL W t = bo at *
  go_enter Try.func12, Try.ntmps12
  go_wp2_with fail
  refine HI.out.mono ?_
  rintro e w1 ⟨rfl, rfl⟩
  go_wp2_with fail
  refine HWO.out.mono ?_
  rintro e w1 ⟨A1, c1, rfl, h1, _, hf⟩
  have k2 := (cell_block (h1.blk_at 1 rfl) 2).trans rfl
  have f2 := frozen_block (h1.blk_at 1 rfl) 2
  have S1 := Lib.hid (h1.set 1 rfl 2 (.slice A1 (withoutL W t).length c1))
  have HF := Lib.hid hf
  clear h1 hf HI HWO c2 S0
  have HT : Hid (H = H ∧ withoutL W t = withoutL W t) := ⟨rfl, rfl⟩
  go_wp2
  go_ret
  have h7 := S1.out.swap.sub (.cons_cons _ (.cons_cons _ (.cons _ (List.Sublist.refl Rs))))
  exact ⟨rfl, rm_close h7 HOK.out HF.out⟩
end
end Go.Proofs.Ytjgfiiehanggoaa.RefMut
