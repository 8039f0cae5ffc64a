/-
  The walk of the law TeamMisuse over any package that meets 'Tm': it returns true and leaves old memory as it was. Conditions: none but 'Tm'.
-/
import Derived.Test.YtkgmcifianhogaaTeamM
import Derived.Test.YtkgmcifianhogaaActs3
import Derived.Deep.RegionHeld3
import Derived.Deep.DeepCutAuto
import Derived.Deep.CutBlock
namespace Go.Proofs.Ytkgmcifianhogaa.TeamI
open Go.ChangeShapes Go.WideShapes Go.ChangeAt Go.RowKit Mem MutP TeamP Hand RefMut RefTeam Acts3

theorem l_keep {I : Tm} {wq Q : World} {v : Value} {F : Nat → Prop} {s : St} (hA : I.O.A wq v F s) (hb : Below wq.heap.size wq Q) : I.O.A Q v F s := I.O.keep hA hb.size fun k hk _ => hb.block k hk
theorem l_lim {I : Tm} {wq Q : World} {v : Value} {F : Nat → Prop} {s : St} (hA : I.O.A wq v F s) (hb : Below wq.heap.size wq Q) : Calls Try.prog 18 #[v] Q fun e w' => e = .returned (.int .i64 s.L) ∧ Below wq.heap.size wq w' := by
  refine (I.lim (l_keep hA hb)).mono ?_
  rintro e w' ⟨rfl, h'⟩
  exact ⟨rfl, hb.trans (h'.mono hb.size)⟩
theorem l_active {I : Tm} {wq Q : World} {v : Value} {F : Nat → Prop} {s : St} (hA : I.O.A wq v F s) (hb : Below wq.heap.size wq Q) : Calls Try.prog 19 #[v] Q fun e w' => e = .returned (.int .i64 s.A) ∧ Below wq.heap.size wq w' := by
  refine (I.active (l_keep hA hb)).mono ?_
  rintro e w' ⟨rfl, h'⟩
  exact ⟨rfl, hb.trans (h'.mono hb.size)⟩
theorem l_first {I : Tm} {wq Q : World} {v : Value} {F : Nat → Prop} {s : St} (hA : I.O.A wq v F s) (hb : Below wq.heap.size wq Q) : Calls Try.prog 20 #[v] Q fun e w' => e = .returned (.int .i64 s.E) ∧ Below wq.heap.size wq w' := by
  refine (I.first (l_keep hA hb)).mono ?_
  rintro e w' ⟨rfl, h'⟩
  exact ⟨rfl, hb.trans (h'.mono hb.size)⟩

/-- What has an error changes nothing; who tries never waits; what ends was at work; a limit is set where nobody is at work. -/
theorem misuse_plain (s : St) (d t k : Int) :
    (actE s d t ≠ 0 ∧ actR s d k = noEn ∧ actB s d t = false ∧ actS s d t k = s) ∨
    (actE s d t = 0 ∧ d = 1 ∧ (s.L < 0 ∨ s.A < s.L) ∧ actB s d t = true ∧ actS s d t k = { s with A := s.A + 1 }) ∨
    (actE s d t = 0 ∧ d = 1 ∧ (0 ≤ s.L ∧ s.L ≤ s.A) ∧ actB s d t = false ∧ actS s d t k = s) ∨
    (actE s d t = 0 ∧ d = 2 ∧ s.A ≠ 0 ∧ actB s d t = false) ∨
    (actE s d t = 0 ∧ d = 5 ∧ s.A = 0 ∧ s.C = [] ∧ actB s d t = false ∧ actS s d t k = { s with L := if t < 0 then -1 else t }) ∨
    (actE s d t = 0 ∧ d ≠ 1 ∧ d ≠ 2 ∧ d ≠ 5) := by
  rcases (by omega : d = 0 ∨ d = 1 ∨ d = 2 ∨ d = 3 ∨ d = 4 ∨ d = 5 ∨ (d ≠ 0 ∧ d ≠ 1 ∧ d ≠ 2 ∧ d ≠ 3 ∧ d ≠ 4 ∧ d ≠ 5)) with rfl | rfl | rfl | rfl | rfl | rfl | ⟨d0, d1, d2, d3, d4, d5⟩
  · have he : actE s 0 t = askE s t := rfl
    have hs : actS s 0 t k = goS s t := rfl
    have hb : actB s 0 t = goB s t := rfl
    rw [he, hs, hb]
    rcases go_cases s t with ⟨e1, e2, e3⟩ | ⟨e1, _⟩ | ⟨e1, _⟩
    · exact .inl ⟨e1, rfl, e2, e3⟩
    all_goals exact .inr (.inr (.inr (.inr (.inr ⟨e1, by omega, by omega, by omega⟩))))
  · have hs : actS s 1 t k = tryS s := rfl
    have hb : actB s 1 t = tryB s := rfl
    rw [hs, hb]
    rcases try_cases s with ⟨e1, e2, e3⟩ | ⟨e1, e2, e3⟩
    · exact .inr (.inl ⟨rfl, rfl, e1, e2, e3⟩)
    · exact .inr (.inr (.inl ⟨rfl, rfl, e1, e2, e3⟩))
  · have he : actE s 2 t = endE s := rfl
    have hs : actS s 2 t k = endS s k := rfl
    have hr : actR s 2 k = endR s k := rfl
    rw [he, hs, hr]
    rcases end_cases s k with ⟨_, e1, e2, e3⟩ | ⟨e0, e1, _⟩ | ⟨e0, e1, _⟩ | ⟨e0, _, e1, _⟩
    · exact .inl ⟨by omega, e2, rfl, e3⟩
    · exact .inr (.inr (.inr (.inl ⟨e1, rfl, e0, rfl⟩)))
    · exact .inr (.inr (.inr (.inl ⟨e1, rfl, by omega, rfl⟩)))
    · exact .inr (.inr (.inr (.inl ⟨e1, rfl, e0, rfl⟩)))
  · have he : actE s 3 t = askE s t := rfl
    have hs : actS s 3 t k = wtS s t := rfl
    have hb : actB s 3 t = wtB s t := rfl
    rw [he, hs, hb]
    rcases wt_cases s t with ⟨e1, e2, e3⟩ | ⟨e1, _⟩ | ⟨e1, _⟩
    · exact .inl ⟨e1, rfl, e2, e3⟩
    all_goals exact .inr (.inr (.inr (.inr (.inr ⟨e1, by omega, by omega, by omega⟩))))
  · exact .inr (.inr (.inr (.inr (.inr ⟨rfl, by omega, by omega, by omega⟩))))
  · have he : actE s 5 t = limE s := rfl
    have hs : actS s 5 t k = limS s t := rfl
    rw [he, hs]
    rcases lim_cases s t with ⟨_, e1, e2⟩ | ⟨e0, eC, e1, e2⟩
    · exact .inl ⟨by omega, rfl, rfl, e2⟩
    · exact .inr (.inr (.inr (.inr (.inl ⟨e1, rfl, e0, eC, rfl, e2⟩))))
  · exact .inr (.inr (.inr (.inr (.inr ⟨(act_no (s := s) (t := t) (k := k) d0 d1 d2 d3 d4 d5).2.2.1, d1, d2, d5⟩))))

set_option maxHeartbeats 1000000 in
set_option maxRecDepth 100000 in
theorem misuse_walk (I : Tm) (A : Option Addr) (len cap : Nat) (zs : List Ac) (d t k : Int) (w : World) (hlen : len ≤ 9223372036854775807) (hz : ZsIn w A len cap zs) (ht : In64 t) (hk : In64 k) :
    Calls Try.prog 5 #[.slice A len cap, .agg #[.int .i64 d, .int .i64 t, .int .i64 k]] w fun e w' => e = .returned (.bool true) ∧ Below w.heap.size w w' := by
  have HT := Lib.hid ht
  have HK := Lib.hid hk
  have HZ := Lib.hid hz
  have S0 := Lib.hid ((Sep.nil (fun _ => False) w).new (.cells #[.int .i64 d, .int .i64 t, .int .i64 k] 32))
  clear hz ht hk
  by_cases h60 : 100 < len
  · go_enter Try.func5, Try.ntmps5
    go_wp2_with fail
    refine (awake_any I _).mono ?_
    rintro e w1 ⟨rfl, hb1⟩
    have S1 := Lib.hid (S0.out.next hb1)
    clear hb1
    go_wp2
    go_ret
    exact ⟨rfl, S1.out.old⟩
  · obtain ⟨hzl, hzr, hzo⟩ := HZ.out (by omega)
    subst hzl
    have HZR := Lib.hid hzr
    have HZO := Lib.hid hzo
    clear hzr hzo HZ
    go_enter Try.func5, Try.ntmps5
    go_wp2_with fail
    refine (awake_any I _).mono ?_
    rintro e w1 ⟨rfl, hb1⟩
    have S1 := Lib.hid (S0.out.next hb1)
    clear hb1 S0
    go_wp2_with fail
    refine (m_new S1.out I 20 (by omega) (by omega)).mono ?_
    rintro e w2 ⟨a, rfl, h2'⟩
    have S2 := Lib.hid h2'
    clear h2' S1
    go_wp2
    go_loopw [34] (fun u wr => ∃ j : Nat, j ≤ zs.length ∧ u = .int .i64 j ∧ Hid (∃ s : St, s.A ≤ j ∧ Sep (fun _ => False) w wr [ob I.O (.pointer (some a)) s, blk w.heap.size (.cells #[.int .i64 d, .int .i64 t, .int .i64 k] 32)])) (fun u _ => zs.length - (intOf u).toNat)
    case atStart => exact ⟨0, Nat.zero_le _, rfl, newS 20, by show (0 : Int) ≤ 0; omega, S2.out⟩
    case round =>
      obtain ⟨j, hj, rfl, HS⟩ := hrel
      obtain ⟨s, hsA, hS⟩ := HS.out
      have SL := Lib.hid hS
      have HSA : Hid (s.A ≤ j) := hsA
      have HBA : Hid (s.A ≤ 1000000) := by show _ ≤ _; omega
      clear HS hS S2 hsA
      by_cases hlt : j < zs.length
      · have hx : zs[j]? = some zs[j] := List.getElem?_eq_getElem hlt
        generalize zs[j] = z at hx
        obtain ⟨hd64, ht64, hk64⟩ := HZO.out z (List.mem_of_getElem? hx)
        obtain ⟨bb, off, rfl, hbb, c0, c1, c2⟩ := ac_cells HZR.out hx
        have hb := SL.out.old
        have q0 := (hb.cell (p := ⟨bb, off + j * 3, none⟩) hbb).trans c0
        have q1 := (hb.cell (p := ⟨bb, off + j * 3 + 1, none⟩) hbb).trans c1
        have q2 := (hb.cell (p := ⟨bb, off + j * 3 + 2, none⟩) hbb).trans c2
        obtain ⟨zd, zt, zk⟩ := z
        simp only at q0 q1 q2 ht64 hk64
        have S4 := Lib.hid (SL.out.new (.cells #[.int .i64 zd, .int .i64 zt, .int .i64 zk] 32))
        have HT64 := Lib.hid ht64
        have HK64 := Lib.hid hk64
        have HAS : Hid ((actS s zd zt zk).A ≤ ((j + 1 : Nat) : Int)) := by show _ ≤ _; have := act_A (m_ok SL.out 0 rfl) zd zt zk; have := HSA.out; omega
        clear hx c0 c1 c2 hb SL hd64 ht64 hk64
        go_wp2_with fail
        refine (m_do S4.out 1 rfl HBA.out zd zt zk HT64.out HK64.out rfl rfl rfl rfl).mono ?_
        rintro e w5 ⟨A5, c5, rfl, h5⟩
        have SF : Hid (∃ s : St, s.A ≤ ((j + 1 : Nat) : Int) ∧ Sep (fun _ => False) w w5 [ob I.O (.pointer (some a)) s, blk w.heap.size (.cells #[.int .i64 d, .int .i64 t, .int .i64 k] 32)]) := ⟨actS s zd zt zk, HAS.out, h5.tail.tail⟩
        clear h5 S4 q0 q1 q2 HAS HSA
        go_wp2
        go_roundw
        case rel => exact ⟨j + 1, by omega, by go_num, SF⟩
        case measure => simp [intOf]; omega
      · have HOK := Lib.hid (m_ok SL.out 0 rfl)
        have HP := Lib.hid (misuse_plain s d t k)
        clear HZR HZO HSA
        go_wp2_with fail
        refine (m_lim SL.out 0 rfl).mono ?_
        rintro e w3 ⟨rfl, h3, _⟩
        have S3 := Lib.hid h3
        clear h3 SL
        go_wp2_with fail
        refine (m_active S3.out 0 rfl).mono ?_
        rintro e w4 ⟨rfl, h4, _⟩
        have S4 := Lib.hid h4
        clear h4 S3
        go_wp2_with fail
        refine (m_first S4.out 0 rfl).mono ?_
        rintro e w5 ⟨rfl, h5, _⟩
        have S5 := Lib.hid h5
        clear h5 S4
        go_wp2_with fail
        refine (m_waiting S5.out 0 rfl).mono ?_
        rintro e w6 ⟨A6, c6, A6', c6', rfl, h6, _⟩
        have S6 := Lib.hid h6
        have a0 : w6.cell? ⟨w.heap.size, 0, none⟩ = some (.int .i64 d) := (cell_block (S6.out.blk_at 2 rfl) 0).trans rfl
        have a1 : w6.cell? ⟨w.heap.size, 1, none⟩ = some (.int .i64 t) := (cell_block (S6.out.blk_at 2 rfl) 1).trans rfl
        have a2 : w6.cell? ⟨w.heap.size, 2, none⟩ = some (.int .i64 k) := (cell_block (S6.out.blk_at 2 rfl) 2).trans rfl
        clear h6 S5
        obtain ⟨E, hE⟩ : ∃ E, actE s d t = E := ⟨_, rfl⟩
        obtain ⟨Bo, hBo⟩ : ∃ Bo, actB s d t = Bo := ⟨_, rfl⟩
        obtain ⟨⟨xc, xl, xf⟩, hR⟩ : ∃ R, actR s d k = R := ⟨_, rfl⟩
        obtain ⟨s2, hs2⟩ : ∃ s2, actS s d t k = s2 := ⟨_, rfl⟩
        have KE := Lib.hid hE
        have KB := Lib.hid hBo
        have KR := Lib.hid hR
        have KS := Lib.hid hs2
        simp only [hE, hBo, hR, hs2] at HP
        clear hE hBo hR hs2
        go_wp2_with fail
        refine (m_do S6.out 1 rfl HBA.out d t k HT.out HK.out KR.out KB.out KE.out KS.out).mono ?_
        rintro e w7 ⟨A7, c7, rfl, h7⟩
        have S7 : Hid (Sep (fun _ => False) w (w7.alloc (.cells #[.int .i64 xc, .slice A7 xl.length c7, .bool xf] 35)) [blk w7.heap.size (.cells #[.int .i64 xc, .slice A7 xl.length c7, .bool xf] 35), nums2 (.slice A6 s.C.length c6) (.slice A6' s.W.length c6') s.C s.W, ob I.O (.pointer (some a)) s2, blk w.heap.size (.cells #[.int .i64 d, .int .i64 t, .int .i64 k] 32)]) := h7.tail.new _
        clear h7 S6 KE KB KR KS a0 a1 a2
        go_wp2_with fail
        refine (m_waiting S7.out 2 rfl).mono ?_
        rintro e w8 ⟨A8, c8, A8', c8', rfl, h8, _⟩
        have S8 : Hid (Sep (fun _ => False) w w8 [nums2 (.slice A8 s2.C.length c8) (.slice A8' s2.W.length c8') s2.C s2.W, blk w7.heap.size (.cells #[.int .i64 xc, .slice A7 xl.length c7, .bool xf] 35), nums2 (.slice A6 s.C.length c6) (.slice A6' s.W.length c6') s.C s.W, ob I.O (.pointer (some a)) s2, blk w.heap.size (.cells #[.int .i64 d, .int .i64 t, .int .i64 k] 32)]) := h8
        clear h8 S7
        obtain ⟨rB, hrB⟩ : ∃ rB, decide (s.C = s2.C ∧ s.W = s2.W) = rB := ⟨_, rfl⟩
        have HRB := Lib.hid hrB
        clear hrB
        go_upto_region 17 with (fail)
        go_cut [19] (fun s19 wx => s19 = .bool rB ∧ Hid (Sep (fun _ => False) w wx [nums2 (.slice A8 s2.C.length c8) (.slice A8' s2.W.length c8') s2.C s2.W, blk w7.heap.size (.cells #[.int .i64 xc, .slice A7 xl.length c7, .bool xf] 35), nums2 (.slice A6 s.C.length c6) (.slice A6' s.W.length c6') s.C s.W, ob I.O (.pointer (some a)) s2, blk w.heap.size (.cells #[.int .i64 d, .int .i64 t, .int .i64 k] 32)]))
        case first => as_aux_lemma =>
          have HR1 := Lib.hid (S8.out.rd2 0 rfl)
          have HR2 := Lib.hid (S8.out.rd2 2 rfl)
          clear HP HOK
          by_cases hw : s.C = s2.C
          · have HW := Lib.hid hw
            have HRBD : Hid (decide (s.W = s2.W) = rB) := by show _ = _; rw [← HRB.out]; simp [hw]
            clear hw HRB
            go_wp2_with fail
            refine (same_d HR2.out.1 HR1.out.1 HW.out).mono ?_
            rintro e w9 ⟨rfl, hb9⟩
            have S9 := Lib.hid (S8.out.next hb9)
            have HSB := Lib.hid (same_b (S9.out.rd2 2 rfl).2 (S9.out.rd2 0 rfl).2)
            rw [HRBD.out] at HSB
            clear hb9 S8 HR1 HR2 HW HRBD
            go_wp2_with fail
            refine HSB.out.mono ?_
            rintro e w10 ⟨rfl, hb10⟩
            have S10 := Lib.hid (S9.out.next hb10)
            clear hb10 S9 HSB
            go_wp2
            go_meet
            exact ⟨rfl, S10⟩
          · have hdw : decide (s.C = s2.C) = false := decide_eq_false hw
            have HRBF : Hid (rB = false) := by show _ = _; rw [← HRB.out]; exact decide_eq_false fun h => hw h.1
            have HSB := Lib.hid (same_b HR2.out.1 HR1.out.1)
            rw [hdw] at HSB
            clear hw hdw HRB HR1 HR2
            go_wp2_with fail
            refine HSB.out.mono ?_
            rintro e w9 ⟨rfl, hb9⟩
            have S9 := Lib.hid (S8.out.next hb9)
            clear hb9 S8
            go_wp2
            go_meet
            exact ⟨by rw [HRBF.out], S9⟩
        case rest => as_aux_lemma =>
          obtain ⟨rfl, S9⟩ := hcut
          clear S8
          have a0 : wc.cell? ⟨w.heap.size, 0, none⟩ = some (.int .i64 d) := (cell_block (S9.out.blk_at 4 rfl) 0).trans rfl
          have hI := HOK.out
          have ha := hI.a0
          have hAA := HBA.out
          rcases HP.out with ⟨hE, hr, rfl, rfl⟩ | ⟨rfl, rfl, hp, rfl, rfl⟩ | ⟨rfl, rfl, hp, rfl, rfl⟩ | ⟨rfl, rfl, hp, rfl⟩ | ⟨rfl, rfl, hp, hC, rfl, rfl⟩ | ⟨rfl, d1, d2, d5⟩
          · have e1 : (E != 0) = true := by simpa using hE
            have HR : Hid (rB = true) := by show _ = _; rw [← HRB.out]; simp
            obtain rfl := HR.out
            unfold noEn at hr
            injection hr with q1 q2 q3
            subst q1 q2 q3
            simp only [List.length_nil] at S9 ⊢
            have e2 : (s2.L == s2.L) = true := by simp
            have e3 : (s2.A == s2.A) = true := by simp
            have e4 : (s2.E == s2.E) = true := by simp
            clear hE HP hI ha hAA HOK HRB HR a0
            go_wp2_with fail
            refine (m_lim S9.out 3 rfl).mono ?_
            rintro e w10 ⟨rfl, h10, _⟩
            have S10 := Lib.hid h10
            clear h10 S9
            go_wp2_with fail
            refine (m_active S10.out 3 rfl).mono ?_
            rintro e w11 ⟨rfl, h11, _⟩
            have S11 := Lib.hid h11
            clear h11 S10
            go_wp2_with fail
            refine (m_first S11.out 3 rfl).mono ?_
            rintro e w12 ⟨rfl, h12, _⟩
            have S12 := Lib.hid h12
            obtain ⟨⟨y0, y1, y2⟩, _⟩ := cells3 (S12.out.blk_at 1 rfl)
            clear h12 S11
            go_wp2
            go_ret
            exact ⟨rfl, S12.out.old⟩
          · have HR : Hid (rB = true) := by show _ = _; rw [← HRB.out]; simp
            obtain rfl := HR.out
            obtain ⟨z, hz⟩ : ∃ z, z = s.A + 1 := ⟨_, rfl⟩
            have hw1 : IntKind.i64.wrap (s.A + 1) = z := by rw [hz]; exact IntWalk.i64_in _ (by omega)
            have h9 := S9.out
            rw [← hz] at h9
            have SA := Lib.hid h9
            have e3 : (z == z) = true := by simp
            have hps : s.L < 0 ∨ (0 ≤ s.L ∧ s.A < s.L) := by omega
            clear HP hI ha hAA HOK HRB HR S9 h9 hz hp
            have HAC : Hid (∀ x : Int, x = s.A → IntKind.i64.wrap (x + 1) = z) := fun x hx => by rw [hx]; exact hw1
            have HMA : Hid (Calls Try.prog 19 #[.pointer (some a)] wc fun e wn => e = .returned (.int .i64 z) ∧ Below w.heap.size w wn) := by
              refine (m_active SA.out 3 rfl).mono ?_
              rintro e wn ⟨rfl, h, _⟩
              exact ⟨rfl, h.old⟩
            clear hw1
            obtain ⟨y, hy⟩ : ∃ y, y = s.A := ⟨_, rfl⟩
            have hw1 := HAC.out y hy
            have hps2 : s.L < 0 ∨ (0 ≤ s.L ∧ y < s.L) := by rw [hy]; exact hps
            clear hps
            rcases hps2 with h | ⟨h, h2⟩
            all_goals
              have HBB : Hid ((decide (s.L < 0) || decide (s.A < s.L)) = true) := by show _ = _; simp; omega
              rw [← hy] at HBB
              clear HAC
              simp only [← hy]
              clear hy
              generalize s.L = l at *
              go_wp2_with fail
              refine HMA.out.mono ?_
              rintro e w10 ⟨rfl, h10⟩
              have S10 := Lib.hid h10
              clear h10 SA
              go_wp2
              go_ret
              exact ⟨by first | rfl | exact ret_bool HBB.out, S10.out⟩
          · have HR : Hid (rB = true) := by show _ = _; rw [← HRB.out]; simp
            obtain rfl := HR.out
            have e3 : (s2.A == s2.A) = true := by simp
            have d1 : decide (s2.L < 0) = false := decide_eq_false (by omega)
            have d2 : decide (s2.A < s2.L) = false := decide_eq_false (by omega)
            clear HP hI ha hAA HOK HRB HR
            have HMA : Hid (Calls Try.prog 19 #[.pointer (some a)] wc fun e wn => e = .returned (.int .i64 s2.A) ∧ Below w.heap.size w wn) := by
              refine (m_active S9.out 3 rfl).mono ?_
              rintro e wn ⟨rfl, h, _⟩
              exact ⟨rfl, h.old⟩
            clear S9 hp
            generalize s2.L = l at *
            generalize s2.A = y at *
            go_wp2_with fail
            refine HMA.out.mono ?_
            rintro e w10 ⟨rfl, h10⟩
            have S10 := Lib.hid h10
            clear h10
            go_wp2
            go_ret
            exact ⟨rfl, S10.out⟩
          · have d1 : decide (0 < s.A) = true := decide_eq_true (by omega)
            clear HP hI ha hAA HOK HRB hp
            generalize s.A = y at *
            go_wp2
            go_ret
            exact ⟨rfl, S9.out.old⟩
          · have a1 : wc.cell? ⟨w.heap.size, 1, none⟩ = some (.int .i64 t) := (cell_block (S9.out.blk_at 4 rfl) 1).trans rfl
            obtain ⟨z, hz⟩ : ∃ z, (if t < 0 then -1 else t) = z := ⟨_, rfl⟩
            have hzc : (t < -1 ∧ z = -1) ∨ (t = -1 ∧ z = -1) ∨ (0 ≤ t ∧ t = z) := by
              by_cases h : t < 0
              · rw [if_pos h] at hz; omega
              · rw [if_neg h] at hz; omega
            have h9 := S9.out
            rw [hz] at h9
            obtain ⟨FA, hA⟩ := ob_at h9 3 rfl
            have HA := Lib.hid hA
            have HOB := Lib.hid (Sep.old h9).size
            have HOL := Lib.hid (Sep.old h9)
            have hl0 : s.C.length = 0 := by rw [hC]; rfl
            have HLL : Hid (∀ Q, Below wc.heap.size wc Q → Calls Try.prog 18 #[.pointer (some a)] Q fun e w' => e = .returned (.int .i64 z) ∧ Below wc.heap.size wc w') := fun Q hb => l_lim HA.out hb
            have HBW := Lib.hid (lt_of_block (h9.blk_at 4 rfl))
            have HB : Hid (Below wc.heap.size wc wc.drew) := (Below.refl _ _).drew
            have HK : Hid (∀ Q, Below wc.heap.size wc Q → Q.cell? ⟨w.heap.size, 1, none⟩ = some (.int .i64 t)) := fun Q hb => (hb.cell (p := ⟨w.heap.size, 1, none⟩) HBW.out).trans a1
            rw [hp]
            simp only [hl0]
            clear HP hI ha hAA HOK HRB hp hC hA HA h9 S9 hl0 hz HOB
            rcases hzc with ⟨h1, rfl⟩ | ⟨rfl, rfl⟩ | ⟨h1, rfl⟩
            · go_upto_region 29 with (fail)
              go_region_held3 (fun Q => Q.cell? ⟨w.heap.size, 1, none⟩ = some (.int .i64 t)) (go_keep)
                (first
                  | (go_at_call 18; (with_reducible refine (HLL.out _ HB.out).mono ?_); rintro e w11 ⟨rfl, hb11⟩; have HB := Lib.hid hb11; have a1 := HK.out _ hb11; clear hb11))
              all_goals
                (try go_wp2)
                go_ret
                exact ⟨rfl, HOL.out.trans (HB.out.mono HOL.out.size)⟩
            · go_upto_region 29 with (fail)
              go_region_held3 (fun Q => Q.cell? ⟨w.heap.size, 1, none⟩ = some (.int .i64 (-1))) (go_keep)
                (first
                  | (go_at_call 18; (with_reducible refine (HLL.out _ HB.out).mono ?_); rintro e w11 ⟨rfl, hb11⟩; have HB := Lib.hid hb11; have a1 := HK.out _ hb11; clear hb11))
              all_goals
                (try go_wp2)
                go_ret
                exact ⟨rfl, HOL.out.trans (HB.out.mono HOL.out.size)⟩
            · go_upto_region 29 with (fail)
              go_region_held3 (fun Q => Q.cell? ⟨w.heap.size, 1, none⟩ = some (.int .i64 t)) (go_keep)
                (first
                  | (go_at_call 18; (with_reducible refine (HLL.out _ HB.out).mono ?_); rintro e w11 ⟨rfl, hb11⟩; have HB := Lib.hid hb11; have a1 := HK.out _ hb11; clear hb11))
              all_goals
                (try go_wp2)
                go_ret
                exact ⟨rfl, HOL.out.trans (HB.out.mono HOL.out.size)⟩
          · obtain ⟨z, hz⟩ : ∃ z, z = s.A + 1 := ⟨_, rfl⟩
            have hw1 : IntKind.i64.wrap (s.A + 1) = z := by rw [hz]; exact IntWalk.i64_in _ (by omega)
            have e1 : (d == 1) = false := by simpa using d1
            have e2 : (d == 2) = false := by simpa using d2
            have e5 : (d == 5) = false := by simpa using d5
            have HOL := Lib.hid S9.out.old
            clear HP hI ha hAA HOK HRB d1 d2 d5 hz S9
            generalize s.A = y at *
            cases Bo with
            | true =>
              go_wp2
              go_ret
              exact ⟨rfl, HOL.out⟩
            | false =>
              go_wp2
              go_ret
              exact ⟨rfl, HOL.out⟩
end Go.Proofs.Ytkgmcifianhogaa.TeamI
