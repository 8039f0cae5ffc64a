/-
  The walk of the law TeamDoes over any package that meets 'Tm'. Condition: what the arguments read as.
-/
import Derived.Test.YtkgmcifianhogaaTeamMisuse
namespace Go.Proofs.Ytkgmcifianhogaa.TeamI
open Go.ChangeShapes Go.WideShapes Go.ChangeAt Go.RowKit Mem MutP TeamP Hand RefMut RefTeam Acts3

theorem l_same2 {wq Q : World} {u u' : Value} {l : List Int} (hu : Rd wq (fun _ => True) u l) (hu' : Rd wq (fun _ => True) u' l) (hb : Below wq.heap.size wq Q) :
    Calls Try.prog 17 #[u, u'] Q fun e w' => e = .returned (.bool true) ∧ Below wq.heap.size wq w' := by
  refine (SameI.same_any (hu.below hb) (hu'.below hb)).mono ?_
  rintro e w' ⟨rfl, n, rfl⟩
  exact ⟨by simp, below_drewN hb n⟩

set_option maxHeartbeats 1000000 in
set_option maxRecDepth 100000 in
/-- What is too large, or no size that may be. -/
theorem does_easy (I : Tm) (n : Int) (A : Option Addr) (len cap : Nat) (w : World) (hn : In64 n) (hlen : len ≤ 9223372036854775807) (hno : ¬ (1 ≤ n ∧ n ≤ 20 ∧ len ≤ 100)) :
    Calls Try.prog 3 #[.int .i64 n, .slice A len cap] w fun e w' => e = .returned (.bool true) ∧ Below w.heap.size w w' := by
  have HN := Lib.hid hn
  clear hn
  rcases (by omega : (20 < n ∧ n ≤ 1000) ∨ ((n ≤ 20 ∨ 1000 < n) ∧ 100 < len) ∨ (n < 1 ∧ len ≤ 100) ∨ (1000 < n ∧ len ≤ 100)) with ⟨h1, h2⟩ | ⟨h1 | h1, h2⟩ | ⟨h1, h2⟩ | ⟨h1, h2⟩
  · go_enter Try.func3, Try.ntmps3
    go_wp2_with fail
    refine (awake_any I _).mono ?_
    rintro e w1 ⟨rfl, hb1⟩
    have HB := Lib.hid hb1
    clear hb1
    go_wp2
    go_ret
    exact ⟨rfl, HB.out⟩
  · go_enter Try.func3, Try.ntmps3
    go_wp2_with fail
    refine (awake_any I _).mono ?_
    rintro e w1 ⟨rfl, hb1⟩
    have HB := Lib.hid hb1
    clear hb1
    go_wp2
    go_ret
    exact ⟨rfl, HB.out⟩
  · go_enter Try.func3, Try.ntmps3
    go_wp2_with fail
    refine (awake_any I _).mono ?_
    rintro e w1 ⟨rfl, hb1⟩
    have HB := Lib.hid hb1
    clear hb1
    go_wp2
    go_ret
    exact ⟨rfl, HB.out⟩
  all_goals
    have hq : n < 1 ∨ 1000 < n := by omega
    have HQ := Lib.hid hq
    clear hq hno
    go_enter Try.func3, Try.ntmps3
    go_wp2_with fail
    refine (awake_any I _).mono ?_
    rintro e w1 ⟨rfl, hb1⟩
    have HB := Lib.hid hb1
    clear hb1
    go_wp2_with fail
    refine (I.new_no n _ HN.out HQ.out).mono ?_
    rintro e w3 ⟨rfl, hb3⟩
    have HB3 : Hid (Below w.heap.size w w3) := HB.out.trans (hb3.mono HB.out.size)
    clear hb3
    go_wp2_with fail
    refine (newG_no n _ HQ.out).mono ?_
    rintro e w4 ⟨rfl, rfl⟩
    go_wp2
    go_ret
    exact ⟨rfl, HB3.out⟩

set_option maxHeartbeats 8000000 in
set_option maxRecDepth 100000 in
theorem does_main (I : Tm) (n : Int) (A : Option Addr) (len cap : Nat) (zs : List Ac) (w : World) (hz : ZsIn w A len cap zs) (h1 : 1 ≤ n) (h2 : n ≤ 20) (h60 : len ≤ 100) :
    Calls Try.prog 3 #[.int .i64 n, .slice A len cap] w fun e w' => e = .returned (.bool true) ∧ Below w.heap.size w w' := by
  obtain ⟨hzl, hzr, hzo⟩ := hz (by omega)
  subst hzl
  have HZR := Lib.hid hzr
  have HZO := Lib.hid hzo
  clear hzr hzo hz
  go_enter Try.func3, Try.ntmps3
  go_wp2_with fail
  refine (awake_any I _).mono ?_
  rintro e w1 ⟨rfl, hb1⟩
  have S1 := Lib.hid ((Sep.nil (fun _ => False) w).next hb1)
  clear hb1
  go_wp2_with fail
  refine (m_new S1.out I n (by omega) (by omega)).mono ?_
  rintro e w2 ⟨a, rfl, h2'⟩
  have S2 := Lib.hid h2'
  clear h2' S1
  go_wp2_with fail
  refine (newG_s S2.out n (by omega) (by omega)).mono ?_
  rintro e w3 ⟨p, rfl, h3⟩
  have S3 := Lib.hid h3
  clear h3 S2
  go_wp2
  go_loopw [56] (fun u wr => ∃ j : Nat, j ≤ zs.length ∧ u = .int .i64 j ∧ Hid (∃ s : St, s.A ≤ j ∧ Sep (fun _ => False) w wr [rt p s, ob I.O (.pointer (some a)) s])) (fun u _ => zs.length - (intOf u).toNat)
  case atStart => exact ⟨0, Nat.zero_le _, rfl, newS n, by show (0 : Int) ≤ 0; omega, S3.out⟩
  case round =>
    obtain ⟨j, hj, rfl, HS⟩ := hrel
    obtain ⟨s, hsA, hS⟩ := HS.out
    have SL := Lib.hid hS
    have HSA : Hid (s.A ≤ j) := hsA
    have HBA : Hid (s.A ≤ 1000000) := by show _ ≤ _; omega
    clear HS hS S3 hsA
    by_cases hlt : j < zs.length
    · have hx : zs[j]? = some zs[j] := List.getElem?_eq_getElem hlt
      generalize zs[j] = z at hx
      obtain ⟨hd64, ht64, hk64⟩ := HZO.out z (List.mem_of_getElem? hx)
      obtain ⟨bb, off, rfl, hbb, c0, c1, c2⟩ := ac_cells HZR.out hx
      have hb := SL.out.old
      have q0 := (hb.cell (p := ⟨bb, off + j * 3, none⟩) hbb).trans c0
      have q1 := (hb.cell (p := ⟨bb, off + j * 3 + 1, none⟩) hbb).trans c1
      have q2 := (hb.cell (p := ⟨bb, off + j * 3 + 2, none⟩) hbb).trans c2
      obtain ⟨d, t, k⟩ := z
      simp only at q0 q1 q2 ht64 hk64
      have S4 := Lib.hid (SL.out.new (.cells #[.int .i64 d, .int .i64 t, .int .i64 k] 32))
      have HT64 := Lib.hid ht64
      have HK64 := Lib.hid hk64
      have HAS : Hid ((actS s d t k).A ≤ ((j + 1 : Nat) : Int)) := by show _ ≤ _; have := act_A (m_ok SL.out 1 rfl) d t k; have := HSA.out; omega
      clear hx c0 c1 c2 hb SL hd64 ht64 hk64 HSA
      obtain ⟨E, hE⟩ : ∃ E, actE s d t = E := ⟨_, rfl⟩
      obtain ⟨Bo, hBo⟩ : ∃ Bo, actB s d t = Bo := ⟨_, rfl⟩
      obtain ⟨⟨xc, xl, xf⟩, hR⟩ : ∃ R, actR s d k = R := ⟨_, rfl⟩
      obtain ⟨s2, hs2⟩ : ∃ s2, actS s d t k = s2 := ⟨_, rfl⟩
      have KE := Lib.hid hE
      have KB := Lib.hid hBo
      have KR := Lib.hid hR
      have KS := Lib.hid hs2
      rw [hs2] at HAS
      clear hE hBo hR hs2
      go_wp2_with fail
      refine (m_do S4.out 2 rfl HBA.out d t k HT64.out HK64.out KR.out KB.out KE.out KS.out).mono ?_
      rintro e w5 ⟨Ao, co, rfl, h5⟩
      have hsz : (w5.alloc (.cells #[.int .i64 xc, .slice Ao xl.length co, .bool xf] 35)).heap.size = w5.heap.size + 1 := World.size_alloc ..
      have h6 := (h5.new (.cells #[.int .i64 xc, .slice Ao xl.length co, .bool xf] 35)).new (.cells #[.int .i64 0, .slice none 0 0, .bool false] 38)
      rw [hsz] at h6
      have S6 : Hid (Sep (fun _ => False) w ((w5.alloc (.cells #[.int .i64 xc, .slice Ao xl.length co, .bool xf] 35)).alloc (.cells #[.int .i64 0, .slice none 0 0, .bool false] 38)) [rt p s, blk (w5.heap.size + 1) (.cells #[.int .i64 0, .slice none 0 0, .bool false] 38), blk w5.heap.size (.cells #[.int .i64 xc, .slice Ao xl.length co, .bool xf] 35), nums (.slice Ao xl.length co) xl, blk wr.heap.size (.cells #[.int .i64 d, .int .i64 t, .int .i64 k] 32), ob I.O (.pointer (some a)) s2]) := h6.perm (by exact (List.perm_append_comm (l₁ := [_, _, _, _]) (l₂ := [_])).append_right [_])
      have a0 : ((w5.alloc (.cells #[.int .i64 xc, .slice Ao xl.length co, .bool xf] 35)).alloc (.cells #[.int .i64 0, .slice none 0 0, .bool false] 38)).cell? ⟨wr.heap.size, 0, none⟩ = some (.int .i64 d) := (cell_block (S6.out.blk_at 4 rfl) 0).trans rfl
      have a1 : ((w5.alloc (.cells #[.int .i64 xc, .slice Ao xl.length co, .bool xf] 35)).alloc (.cells #[.int .i64 0, .slice none 0 0, .bool false] 38)).cell? ⟨wr.heap.size, 1, none⟩ = some (.int .i64 t) := (cell_block (S6.out.blk_at 4 rfl) 1).trans rfl
      have a2 : ((w5.alloc (.cells #[.int .i64 xc, .slice Ao xl.length co, .bool xf] 35)).alloc (.cells #[.int .i64 0, .slice none 0 0, .bool false] 38)).cell? ⟨wr.heap.size, 2, none⟩ = some (.int .i64 k) := (cell_block (S6.out.blk_at 4 rfl) 2).trans rfl
      clear h5 h6 hsz S4 q0 q1 q2
      go_upto_block 2 with (fail)
      go_cut [15, 16] (fun s15 s16 wx => s15 = .bool Bo ∧ s16 = .int .i64 E ∧ Hid (∃ A14 c14, Sep (fun _ => False) w wx [rt p s2, blk (w5.heap.size + 1) (.cells #[.int .i64 xc, .slice A14 xl.length c14, .bool xf] 38), blk w5.heap.size (.cells #[.int .i64 xc, .slice Ao xl.length co, .bool xf] 35), nums (.slice Ao xl.length co) xl, nums (.slice A14 xl.length c14) xl, ob I.O (.pointer (some a)) s2]))
      case first => as_aux_lemma =>
        have HNO : Hid (d ≠ 2 → xc = 0 ∧ xl = [] ∧ xf = false) := fun h => by
          have hr := KR.out
          unfold actR at hr
          rw [if_neg h] at hr
          unfold noEn at hr
          injection hr with q1 q2 q3
          exact ⟨q1.symm, q2.symm, q3.symm⟩
        have HFN : Hid (∀ wx, Sep (fun _ => False) w wx [rt p s2, blk (w5.heap.size + 1) (.cells #[.int .i64 0, .slice none 0 0, .bool false] 38), blk w5.heap.size (.cells #[.int .i64 xc, .slice Ao xl.length co, .bool xf] 35), nums (.slice Ao xl.length co) xl, blk wr.heap.size (.cells #[.int .i64 d, .int .i64 t, .int .i64 k] 32), ob I.O (.pointer (some a)) s2] → d ≠ 2 → Hid (∃ A14 c14, Sep (fun _ => False) w wx [rt p s2, blk (w5.heap.size + 1) (.cells #[.int .i64 xc, .slice A14 xl.length c14, .bool xf] 38), blk w5.heap.size (.cells #[.int .i64 xc, .slice Ao xl.length co, .bool xf] 35), nums (.slice Ao xl.length co) xl, nums (.slice A14 xl.length c14) xl, ob I.O (.pointer (some a)) s2])) := fun wx h hd => by
          obtain ⟨rfl, rfl, rfl⟩ := HNO.out hd
          have h1 := (h.sub (.cons_cons _ (.cons_cons _ (.cons_cons _ (.cons_cons _ (.cons _ (.cons_cons _ (List.Sublist.refl _))))))) : Sep _ _ _ [_, _, _, _, _]).nil_nums
          exact ⟨none, 0, h1.perm (by exact (List.perm_append_comm (l₁ := [_]) (l₂ := [_, _, _, _])).append_right [_])⟩
        rcases (by omega : d = 0 ∨ d = 1 ∨ d = 2 ∨ d = 3 ∨ d = 4 ∨ d = 5 ∨ (d ≠ 0 ∧ d ≠ 1 ∧ d ≠ 2 ∧ d ≠ 3 ∧ d ≠ 4 ∧ d ≠ 5)) with rfl | rfl | rfl | rfl | rfl | rfl | ⟨d0, d1, d2, d3, d4, d5⟩
        · have hE : Hid (askE s t = E) := KE.out
          have hB : Hid (goB s t = Bo) := KB.out
          have hS : Hid (goS s t = s2) := KS.out
          go_wp2_with fail
          refine (go_s S6.out t HBA.out).mono ?_
          rw [hE.out, hB.out, hS.out]
          rintro e w7 ⟨rfl, h7⟩
          have S7 := Lib.hid (HFN.out _ h7 (by omega))
          clear h7 HFN
          go_wp2
          go_meet
          exact ⟨rfl, rfl, S7.out⟩
        · have hE : Hid (0 = E) := KE.out
          have hB : Hid (tryB s = Bo) := KB.out
          have hS : Hid (tryS s = s2) := KS.out
          go_wp2_with fail
          refine (try_s S6.out HBA.out).mono ?_
          rw [hB.out, hS.out]
          rintro e w7 ⟨rfl, h7⟩
          have S7 := Lib.hid (HFN.out _ h7 (by omega))
          clear h7 HFN
          go_wp2
          go_meet
          exact ⟨rfl, by rw [← hE.out], S7.out⟩
        · have hE : Hid (endE s = E) := KE.out
          have hB : Hid (false = Bo) := KB.out
          have hR : Hid (endR s k = ⟨xc, xl, xf⟩) := KR.out
          have hS : Hid (endS s k = s2) := KS.out
          go_wp2_with fail
          refine (end_s S6.out k HK64.out (by have := HBA.out; omega)).mono ?_
          rw [hE.out, hR.out, hS.out]
          rintro e w7 ⟨A7, c7, rfl, h7⟩
          obtain ⟨⟨y0, y1, y2⟩, z0, z1, z2⟩ := cells3 (h7.blk_at 2 rfl)
          have h8 : Sep (fun _ => False) w w7 [blk (w5.heap.size + 1) (.cells #[.int .i64 0, .slice none 0 0, .bool false] 38), nums (.slice A7 xl.length c7) xl, rt p s2, blk w5.heap.size (.cells #[.int .i64 xc, .slice Ao xl.length co, .bool xf] 35), nums (.slice Ao xl.length co) xl, blk wr.heap.size (.cells #[.int .i64 2, .int .i64 t, .int .i64 k] 32), ob I.O (.pointer (some a)) s2] := h7.perm (by exact (List.perm_append_comm (l₁ := [_, _]) (l₂ := [_])).append_right _)
          have h9 : Sep (fun _ => False) w (((w7.setCell ⟨w5.heap.size + 1, 0, none⟩ (.int .i64 xc)).setCell ⟨w5.heap.size + 1, 1, none⟩ (.slice A7 xl.length c7)).setCell ⟨w5.heap.size + 1, 2, none⟩ (.bool xf)) [blk (w5.heap.size + 1) (.cells #[.int .i64 xc, .slice A7 xl.length c7, .bool xf] 38), nums (.slice A7 xl.length c7) xl, rt p s2, blk w5.heap.size (.cells #[.int .i64 xc, .slice Ao xl.length co, .bool xf] 35), nums (.slice Ao xl.length co) xl, blk wr.heap.size (.cells #[.int .i64 2, .int .i64 t, .int .i64 k] 32), ob I.O (.pointer (some a)) s2] := h8.put3 (.int .i64 xc) (.slice A7 xl.length c7) (.bool xf)
          have h10 : Sep (fun _ => False) w (((w7.setCell ⟨w5.heap.size + 1, 0, none⟩ (.int .i64 xc)).setCell ⟨w5.heap.size + 1, 1, none⟩ (.slice A7 xl.length c7)).setCell ⟨w5.heap.size + 1, 2, none⟩ (.bool xf)) [rt p s2, blk (w5.heap.size + 1) (.cells #[.int .i64 xc, .slice A7 xl.length c7, .bool xf] 38), nums (.slice A7 xl.length c7) xl, blk w5.heap.size (.cells #[.int .i64 xc, .slice Ao xl.length co, .bool xf] 35), nums (.slice Ao xl.length co) xl, blk wr.heap.size (.cells #[.int .i64 2, .int .i64 t, .int .i64 k] 32), ob I.O (.pointer (some a)) s2] := h9.perm (by exact (List.perm_append_comm (l₁ := [_, _]) (l₂ := [_])).append_right _)
          have h11 : Sep (fun _ => False) w (((w7.setCell ⟨w5.heap.size + 1, 0, none⟩ (.int .i64 xc)).setCell ⟨w5.heap.size + 1, 1, none⟩ (.slice A7 xl.length c7)).setCell ⟨w5.heap.size + 1, 2, none⟩ (.bool xf)) [rt p s2, blk (w5.heap.size + 1) (.cells #[.int .i64 xc, .slice A7 xl.length c7, .bool xf] 38), blk w5.heap.size (.cells #[.int .i64 xc, .slice Ao xl.length co, .bool xf] 35), nums (.slice Ao xl.length co) xl, nums (.slice A7 xl.length c7) xl, blk wr.heap.size (.cells #[.int .i64 2, .int .i64 t, .int .i64 k] 32), ob I.O (.pointer (some a)) s2] := h10.perm (by exact (((List.perm_append_comm (l₁ := [_]) (l₂ := [_, _])).append_right [_, _]).cons _).cons _)
          have S7 := Lib.hid (h11.sub (.cons_cons _ (.cons_cons _ (.cons_cons _ (.cons_cons _ (.cons_cons _ (.cons _ (List.Sublist.refl _))))))))
          clear h7 h8 h9 h10 h11 HFN
          go_wp2
          go_meet
          exact ⟨by rw [← hB.out], rfl, _, _, S7.out⟩
        · have hE : Hid (askE s t = E) := KE.out
          have hB : Hid (wtB s t = Bo) := KB.out
          have hS : Hid (wtS s t = s2) := KS.out
          go_wp2_with fail
          refine (wait_s S6.out t).mono ?_
          rw [hE.out, hB.out, hS.out]
          rintro e w7 ⟨rfl, h7⟩
          have S7 := Lib.hid (HFN.out _ h7 (by omega))
          clear h7 HFN
          go_wp2
          go_meet
          exact ⟨rfl, rfl, S7.out⟩
        · have hE : Hid (0 = E) := KE.out
          have hB : Hid (TeamP.waitsB s t = Bo) := KB.out
          have hS : Hid (lvS s t = s2) := KS.out
          go_wp2_with fail
          refine (leave_s S6.out t).mono ?_
          rw [hB.out, hS.out]
          rintro e w7 ⟨rfl, h7⟩
          have S7 := Lib.hid (HFN.out _ h7 (by omega))
          clear h7 HFN
          go_wp2
          go_meet
          exact ⟨rfl, by rw [← hE.out], S7.out⟩
        · have hE : Hid (limE s = E) := KE.out
          have hB : Hid (false = Bo) := KB.out
          have hS : Hid (limS s t = s2) := KS.out
          go_wp2_with fail
          refine (limit_s S6.out t HT64.out).mono ?_
          rw [hE.out, hS.out]
          rintro e w7 ⟨rfl, h7⟩
          have S7 := Lib.hid (HFN.out _ h7 (by omega))
          clear h7 HFN
          go_wp2
          go_meet
          exact ⟨by rw [← hB.out], rfl, S7.out⟩
        · have hR : Hid (0 = E ∧ false = Bo ∧ s = s2) := by
            obtain ⟨_, r2, r3, r4⟩ := act_no (s := s) (t := t) (k := k) d0 d1 d2 d3 d4 d5
            exact ⟨r3.symm.trans KE.out, r2.symm.trans KB.out, r4.symm.trans KS.out⟩
          have e0 : (d == 0) = false := by simpa using d0
          have e1 : (d == 1) = false := by simpa using d1
          have e2 : (d == 2) = false := by simpa using d2
          have e3 : (d == 3) = false := by simpa using d3
          have e4 : (d == 4) = false := by simpa using d4
          have e5 : (d == 5) = false := by simpa using d5
          have HD2 := Lib.hid d2
          clear d0 d1 d2 d3 d4 d5
          go_wp2
          go_meet
          obtain ⟨r0, r1, r2⟩ := hR.out
          refine ⟨by rw [← r1], by rw [← r0], HFN.out _ ?_ HD2.out⟩
          have h := S6.out
          rw [r2] at h
          exact h
      case rest => as_aux_lemma =>
        obtain ⟨rfl, rfl, hcut⟩ := hcut
        obtain ⟨A14, c14, h7⟩ := hcut.out
        have S7 := Lib.hid h7
        clear S6 a0 a1 a2 KE KB KR KS hcut h7
        go_wp2_with fail
        refine (m_waiting S7.out 5 rfl).mono ?_
        rintro e wq ⟨Ap, cp, Aq, cq, rfl, h9, hb9⟩
        have S9 : Hid (Sep (fun _ => False) w wq [nums2 (.slice Ap s2.C.length cp) (.slice Aq s2.W.length cq) s2.C s2.W, rt p s2, blk (w5.heap.size + 1) (.cells #[.int .i64 xc, .slice A14 xl.length c14, .bool xf] 38), blk w5.heap.size (.cells #[.int .i64 xc, .slice Ao xl.length co, .bool xf] 35), nums (.slice Ao xl.length co) xl, nums (.slice A14 xl.length c14) xl, ob I.O (.pointer (some a)) s2]) := h9
        clear h9 hb9 S7
        obtain ⟨A1, c1, A2, c2, hs, _, _⟩ := rt_open S9.out.tail
        obtain ⟨FA, hA⟩ := ob_at S9.out 6 rfl
        have HA : Hid (I.O.A wq (.pointer (some a)) FA s2) := hA
        obtain ⟨⟨x0, x1, x2, x3, x4, _⟩, _, hpl⟩ := rto_cs hs
        obtain ⟨⟨y0, y1, y2⟩, _⟩ := cells3 (S9.out.blk_at 2 rfl)
        obtain ⟨⟨z0, z1, z2⟩, _⟩ := cells3 (S9.out.blk_at 3 rfl)
        have hyl := lt_of_block (S9.out.blk_at 2 rfl)
        have hzl := lt_of_block (S9.out.blk_at 3 rfl)
        have RO : Hid (Rd wq (fun _ => True) (.slice Ao xl.length co) xl) := S9.out.rd 4 rfl
        have RL : Hid (Rd wq (fun _ => True) (.slice A14 xl.length c14) xl) := S9.out.rd 5 rfl
        have RP : Hid (Rd wq (fun _ => True) (.slice Ap s2.C.length cp) s2.C) := (S9.out.rd2 0 rfl).1
        have RQ : Hid (Rd wq (fun _ => True) (.slice Aq s2.W.length cq) s2.W) := (S9.out.rd2 0 rfl).2
        have RP' : Hid (Rd wq (fun _ => True) (.slice A1 s2.C.length c1) s2.C) := hs.rd 1 rfl
        have RQ' : Hid (Rd wq (fun _ => True) (.slice A2 s2.W.length c2) s2.W) := hs.rd 2 rfl
        have FK : Hid (∀ Q, Below wq.heap.size wq Q → (Q.cell? ⟨p, 0, none⟩ = some (.int .i64 s2.L) ∧ Q.cell? ⟨p, 1, none⟩ = some (.int .i64 s2.A) ∧ Q.cell? ⟨p, 2, none⟩ = some (.int .i64 s2.E) ∧ Q.cell? ⟨p, 3, none⟩ = some (.slice A1 s2.C.length c1) ∧ Q.cell? ⟨p, 4, none⟩ = some (.slice A2 s2.W.length c2) ∧ Q.cell? ⟨w5.heap.size + 1, 0, none⟩ = some (.int .i64 xc) ∧ Q.cell? ⟨w5.heap.size + 1, 1, none⟩ = some (.slice A14 xl.length c14) ∧ Q.cell? ⟨w5.heap.size + 1, 2, none⟩ = some (.bool xf) ∧ Q.cell? ⟨w5.heap.size, 0, none⟩ = some (.int .i64 xc) ∧ Q.cell? ⟨w5.heap.size, 1, none⟩ = some (.slice Ao xl.length co) ∧ Q.cell? ⟨w5.heap.size, 2, none⟩ = some (.bool xf))) := fun Q hb => ⟨(hb.cell (p := ⟨p, 0, none⟩) hpl).trans x0, (hb.cell (p := ⟨p, 1, none⟩) hpl).trans x1, (hb.cell (p := ⟨p, 2, none⟩) hpl).trans x2, (hb.cell (p := ⟨p, 3, none⟩) hpl).trans x3, (hb.cell (p := ⟨p, 4, none⟩) hpl).trans x4, (hb.cell (p := ⟨w5.heap.size + 1, 0, none⟩) hyl).trans y0, (hb.cell (p := ⟨w5.heap.size + 1, 1, none⟩) hyl).trans y1, (hb.cell (p := ⟨w5.heap.size + 1, 2, none⟩) hyl).trans y2, (hb.cell (p := ⟨w5.heap.size, 0, none⟩) hzl).trans z0, (hb.cell (p := ⟨w5.heap.size, 1, none⟩) hzl).trans z1, (hb.cell (p := ⟨w5.heap.size, 2, none⟩) hzl).trans z2⟩
        have hEE : (E != E) = false := by simp
        have hBB : (Bo != Bo) = false := by simp
        have hXX : (xc != xc) = false := by simp
        have hFF : (xf != xf) = false := by simp
        have hLL : (s2.L != s2.L) = false := by simp
        have hAA : (s2.A != s2.A) = false := by simp
        have hE2 : (s2.E != s2.E) = false := by simp
        clear hs hA x0 x1 x2 x3 x4 y0 y1 y2 z0 z1 z2 hpl hyl hzl
        go_upto_region 30 with (fail)
        have HB : Hid (Below wq.heap.size wq wq.drew) := (Below.refl _ _).drew
        go_cut [192] (fun s192 wx => s192 = .bool false ∧ Hid (Below wq.heap.size wq wx))
        case first => as_aux_lemma =>
          obtain ⟨k0, k1, k2, k3, k4, k5, k6, k7, k8, k9, k10⟩ := FK.out _ HB.out
          simp only [List.append_eq, List.cons_append, List.nil_append]
          go_region_held3 (fun Q => Q.cell? ⟨p, 0, none⟩ = some (.int .i64 s2.L) ∧ Q.cell? ⟨p, 1, none⟩ = some (.int .i64 s2.A) ∧ Q.cell? ⟨p, 2, none⟩ = some (.int .i64 s2.E) ∧ Q.cell? ⟨p, 3, none⟩ = some (.slice A1 s2.C.length c1) ∧ Q.cell? ⟨p, 4, none⟩ = some (.slice A2 s2.W.length c2) ∧ Q.cell? ⟨w5.heap.size + 1, 0, none⟩ = some (.int .i64 xc) ∧ Q.cell? ⟨w5.heap.size + 1, 1, none⟩ = some (.slice A14 xl.length c14) ∧ Q.cell? ⟨w5.heap.size + 1, 2, none⟩ = some (.bool xf) ∧ Q.cell? ⟨w5.heap.size, 0, none⟩ = some (.int .i64 xc) ∧ Q.cell? ⟨w5.heap.size, 1, none⟩ = some (.slice Ao xl.length co) ∧ Q.cell? ⟨w5.heap.size, 2, none⟩ = some (.bool xf)) (go_keep)
              (first
              | (go_at_call 17; (with_reducible refine (l_same2 RO.out RL.out HB.out).mono ?_); rintro e w11 ⟨rfl, hb11⟩; have HB := Lib.hid hb11; obtain ⟨k0, k1, k2, k3, k4, k5, k6, k7, k8, k9, k10⟩ := FK.out _ hb11; clear hb11)
              | (go_at_call 18; (with_reducible refine (l_lim HA.out HB.out).mono ?_); rintro e w11 ⟨rfl, hb11⟩; have HB := Lib.hid hb11; obtain ⟨k0, k1, k2, k3, k4, k5, k6, k7, k8, k9, k10⟩ := FK.out _ hb11; clear hb11)
              | (go_at_call 19; (with_reducible refine (l_active HA.out HB.out).mono ?_); rintro e w11 ⟨rfl, hb11⟩; have HB := Lib.hid hb11; obtain ⟨k0, k1, k2, k3, k4, k5, k6, k7, k8, k9, k10⟩ := FK.out _ hb11; clear hb11)
              | (go_at_call 20; (with_reducible refine (l_first HA.out HB.out).mono ?_); rintro e w11 ⟨rfl, hb11⟩; have HB := Lib.hid hb11; obtain ⟨k0, k1, k2, k3, k4, k5, k6, k7, k8, k9, k10⟩ := FK.out _ hb11; clear hb11)
              | (go_at_call 17; (with_reducible refine (l_same2 RP.out RP'.out HB.out).mono ?_); rintro e w11 ⟨rfl, hb11⟩; have HB := Lib.hid hb11; obtain ⟨k0, k1, k2, k3, k4, k5, k6, k7, k8, k9, k10⟩ := FK.out _ hb11; clear hb11)
              | (go_at_call 17; (with_reducible refine (l_same2 RQ.out RQ'.out HB.out).mono ?_); rintro e w11 ⟨rfl, hb11⟩; have HB := Lib.hid hb11; obtain ⟨k0, k1, k2, k3, k4, k5, k6, k7, k8, k9, k10⟩ := FK.out _ hb11; clear hb11))
          go_wp2_with fail
          go_meet
          exact ⟨rfl, HB⟩
        case rest => as_aux_lemma =>
          obtain ⟨rfl, HB9⟩ := hcut
          have SF : Hid (∃ s : St, s.A ≤ ((j + 1 : Nat) : Int) ∧ Sep (fun _ => False) w wc [rt p s, ob I.O (.pointer (some a)) s]) := ⟨s2, HAS.out, (S9.out.next HB9.out).sub (.cons _ (.cons_cons _ (.cons _ (.cons _ (.cons _ (.cons _ (.cons_cons _ (List.Sublist.refl _))))))))⟩
          clear S9 RL RO RP RQ RP' RQ' FK HB HA hEE hBB hXX hFF hLL hAA hE2 HB9
          go_wp2
          go_roundw
          case rel => exact ⟨j + 1, by omega, by go_num, SF⟩
          case measure => simp [intOf]; omega
    · have HB := Lib.hid SL.out.old
      go_wp2
      go_ret
      exact ⟨rfl, HB.out⟩

theorem does_walk (I : Tm) (n : Int) (A : Option Addr) (len cap : Nat) (zs : List Ac) (w : World) (hn : In64 n) (hlen : len ≤ 9223372036854775807) (hz : ZsIn w A len cap zs) :
    Calls Try.prog 3 #[.int .i64 n, .slice A len cap] w fun e w' => e = .returned (.bool true) ∧ Below w.heap.size w w' := by
  by_cases hno : 1 ≤ n ∧ n ≤ 20 ∧ len ≤ 100
  · exact does_main I n A len cap zs w hz hno.1 hno.2.1 hno.2.2
  · exact does_easy I n A len cap w hn hlen hno
end Go.Proofs.Ytkgmcifianhogaa.TeamI
