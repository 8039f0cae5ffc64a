/-
  The walk of the law SemaMisuse over any package that meets 'Sg': it returns true and leaves old memory as it was. Conditions: none but 'Sg'.
-/
import Derived.Test.YtaplikopapnlpaaSemaM
import Derived.Test.YtaplikopapnlpaaActs3
import Derived.Deep.DeepCutAuto
import Derived.Deep.CutBlock
namespace Go.Proofs.Ytaplikopapnlpaa.SemaI
open Go.ChangeShapes Go.WideShapes Go.ChangeAt Go.RowKit Mem MutP SemaP Hand RefMut RefSema FitsC Acts3

theorem act_C (s : St) (d t k : Int) : (actS s d t k).C = s.C := by
  unfold actS
  split
  · rcases SemaP.ask_cases s t k true with ⟨_, _, e⟩ | ⟨_, _, _, _, _, e⟩ | ⟨_, _, _, _, _, e⟩ | ⟨_, _, _, _, _, e⟩ | ⟨_, _, _, _, _, _, e⟩ <;> rw [e]
  · split
    · rcases SemaP.ask_cases s t k false with ⟨_, _, e⟩ | ⟨_, _, _, _, _, e⟩ | ⟨_, _, _, _, _, e⟩ | ⟨_, _, _, _, _, e⟩ | ⟨_, _, _, _, _, _, e⟩ <;> rw [e]
    · split
      · unfold relS; split <;> rfl
      · split
        · unfold lvS; split <;> rfl
        · rfl
theorem act_N (s : St) (d t k : Int) : (actS s d t k).N = s.N := by
  unfold actS
  split
  · rcases SemaP.ask_cases s t k true with ⟨_, _, e⟩ | ⟨_, _, _, _, _, e⟩ | ⟨_, _, _, _, _, e⟩ | ⟨_, _, _, _, _, e⟩ | ⟨_, _, _, _, _, _, e⟩ <;> rw [e]
  · split
    · rcases SemaP.ask_cases s t k false with ⟨_, _, e⟩ | ⟨_, _, _, _, _, e⟩ | ⟨_, _, _, _, _, e⟩ | ⟨_, _, _, _, _, e⟩ | ⟨_, _, _, _, _, _, e⟩ <;> rw [e]
    · split
      · unfold relS; split <;> rfl
      · split
        · unfold lvS; split <;> rfl
        · rfl
/-- What has an error changes nothing; who tries never waits; what is released is held. -/
theorem misuse_plain (s : St) (d t k : Int) :
    (actE s d t k ≠ 0 ∧ actL s d t k = [] ∧ actB s d t k = false ∧ actS s d t k = s) ∨
    (actE s d t k = 0 ∧ d = 1 ∧ actB s d t k = true ∧ s.W = [] ∧ 0 ≤ k ∧ s.H + k ≤ s.C ∧ (actS s d t k).W = s.W ∧ (actS s d t k).D = s.D) ∨
    (actE s d t k = 0 ∧ d = 1 ∧ actB s d t k = false ∧ (s.W ≠ [] ∨ s.C < s.H + k) ∧ actS s d t k = s) ∨
    (actE s d t k = 0 ∧ d = 2 ∧ 0 ≤ k ∧ k ≤ s.H) ∨
    (actE s d t k = 0 ∧ d ≠ 1 ∧ d ≠ 2) := by
  rcases (by omega : d = 0 ∨ d = 1 ∨ d = 2 ∨ d = 3 ∨ (d ≠ 0 ∧ d ≠ 1 ∧ d ≠ 2 ∧ d ≠ 3)) with rfl | rfl | rfl | rfl | ⟨d0, d1, d2, d3⟩
  · have he : actE s 0 t k = askE s t k := rfl
    have hs : actS s 0 t k = askS s t k true := rfl
    have hb : actB s 0 t k = askB s t k := rfl
    rw [he, hs, hb]
    rcases SemaP.ask_cases s t k true with ⟨e1, e2, e3⟩ | ⟨e1, _⟩ | ⟨e1, _⟩ | ⟨e1, _⟩ | ⟨e1, _⟩
    · exact .inl ⟨e1, rfl, e2, e3⟩
    all_goals exact .inr (.inr (.inr (.inr ⟨e1, by omega, by omega⟩)))
  · have he : actE s 1 t k = askE s t k := rfl
    have hs : actS s 1 t k = askS s t k false := rfl
    have hb : actB s 1 t k = askB s t k := rfl
    rw [he, hs, hb]
    rcases SemaP.ask_cases s t k false with ⟨e1, e2, e3⟩ | ⟨e1, e2, e3, e4, e5, e6⟩ | ⟨e1, e2, e3, _, _, e4⟩ | ⟨_, _, _, e, _⟩ | ⟨_, _, _, e, _⟩
    · exact .inl ⟨e1, rfl, e2, e3⟩
    · exact .inr (.inl ⟨e1, rfl, e2, e3, e4, e5, by rw [e6], by rw [e6]⟩)
    · exact .inr (.inr (.inl ⟨e1, rfl, e2, e3, e4⟩))
    · cases e
    · cases e
  · have he : actE s 2 t k = relE s k := rfl
    have hs : actS s 2 t k = relS s k := rfl
    have hl : actL s 2 t k = relL s k := rfl
    rw [he, hs, hl]
    rcases rel_errs s k with ⟨e1, _⟩ | ⟨e1, _⟩ | ⟨e1, e2, e3⟩
    · exact .inl ⟨by omega, by unfold relL; rw [if_neg (by omega)], rfl, by unfold relS; rw [if_neg (by omega)]⟩
    · exact .inl ⟨by omega, by unfold relL; rw [if_neg (by omega)], rfl, by unfold relS; rw [if_neg (by omega)]⟩
    · exact .inr (.inr (.inr (.inl ⟨e1, rfl, e2, e3⟩)))
  · exact .inr (.inr (.inr (.inr ⟨rfl, by omega, by omega⟩)))
  · exact .inr (.inr (.inr (.inr ⟨(act_no (s := s) (t := t) (k := k) d0 d1 d2 d3).2.2.1, d1, d2⟩)))

set_option maxHeartbeats 1000000 in
set_option maxRecDepth 100000 in
theorem misuse_walk (I : Sg) (room : Int) (A : Option Addr) (len cap : Nat) (zs : List Ac) (d t k : Int) (w : World) (hroom : In64 room) (hlen : len ≤ 9223372036854775807) (hz : ZsIn w A len cap zs) (ht : In64 t) (hk : In64 k) :
    Calls Try.prog 6 #[.int .i64 room, .slice A len cap, .agg #[.int .i64 d, .int .i64 t, .int .i64 k]] w fun e w' => e = .returned (.bool true) ∧ Below w.heap.size w w' := by
  have HT := Lib.hid ht
  have HK := Lib.hid hk
  have HZ := Lib.hid hz
  have S0 := Lib.hid ((Sep.nil (fun _ => False) w).new (.cells #[.int .i64 d, .int .i64 t, .int .i64 k] 32))
  obtain ⟨r0, r1⟩ := hroom
  clear hz ht hk
  rcases (by omega : 100 < len ∨ (len ≤ 100 ∧ room < 0) ∨ (len ≤ 100 ∧ 0 ≤ room)) with h60 | ⟨h60, hr⟩ | ⟨h60, hr⟩
  · go_enter Try.func6, Try.ntmps6
    go_wp2_with fail
    refine (awake_any I _).mono ?_
    rintro e w1 ⟨rfl, hb1⟩
    have S1 := Lib.hid (S0.out.next hb1)
    clear hb1
    go_wp2
    go_ret
    exact ⟨rfl, S1.out.old⟩
  · go_enter Try.func6, Try.ntmps6
    go_wp2_with fail
    refine (awake_any I _).mono ?_
    rintro e w1 ⟨rfl, hb1⟩
    have S1 := Lib.hid (S0.out.next hb1)
    clear hb1
    go_wp2
    go_ret
    exact ⟨rfl, S1.out.old⟩
  · obtain ⟨hzl, hzr, hzo⟩ := HZ.out (by omega)
    subst hzl
    have HZR := Lib.hid hzr
    have HZO := Lib.hid hzo
    clear hzr hzo HZ
    go_enter Try.func6, Try.ntmps6
    go_wp2_with fail
    refine (awake_any I _).mono ?_
    rintro e w1 ⟨rfl, hb1⟩
    have S1 := Lib.hid (S0.out.next hb1)
    clear hb1 S0
    go_wp2_with fail
    refine (m_new S1.out I 20 room (by omega) (by omega) hr r1).mono ?_
    rintro e w2 ⟨a, rfl, h2'⟩
    have S2 := Lib.hid h2'
    clear h2' S1
    go_wp2
    go_loopw [38] (fun u wr => ∃ j : Nat, j ≤ zs.length ∧ u = .int .i64 j ∧ Hid (∃ s : St, s.C = room ∧ Sep (fun _ => False) w wr [ob I.O (.pointer (some a)) s, blk w.heap.size (.cells #[.int .i64 d, .int .i64 t, .int .i64 k] 32)])) (fun u _ => zs.length - (intOf u).toNat)
    case atStart => exact ⟨0, Nat.zero_le _, rfl, newS room 20, rfl, S2.out⟩
    case round =>
      obtain ⟨j, hj, rfl, HS⟩ := hrel
      obtain ⟨s, hsC, hS⟩ := HS.out
      have SL := Lib.hid hS
      have HSC := Lib.hid hsC
      clear HS hS S2 hsC
      by_cases hlt : j < zs.length
      · have hx : zs[j]? = some zs[j] := List.getElem?_eq_getElem hlt
        generalize zs[j] = z at hx
        obtain ⟨hd64, ht64, hk64⟩ := HZO.out z (List.mem_of_getElem? hx)
        obtain ⟨bb, off, rfl, hbb, c0, c1, c2⟩ := ac_cells HZR.out hx
        have hb := SL.out.old
        have q0 := (hb.cell (p := ⟨bb, off + j * 3, none⟩) hbb).trans c0
        have q1 := (hb.cell (p := ⟨bb, off + j * 3 + 1, none⟩) hbb).trans c1
        have q2 := (hb.cell (p := ⟨bb, off + j * 3 + 2, none⟩) hbb).trans c2
        obtain ⟨zd, zt, zk⟩ := z
        simp only at q0 q1 q2 ht64 hk64
        have S4 := Lib.hid (SL.out.new (.cells #[.int .i64 zd, .int .i64 zt, .int .i64 zk] 32))
        have HT64 := Lib.hid ht64
        have HK64 := Lib.hid hk64
        clear hx c0 c1 c2 hb SL hd64 ht64 hk64
        go_wp2_with fail
        refine (m_do S4.out 1 rfl zd zt zk HT64.out HK64.out rfl rfl rfl rfl).mono ?_
        rintro e w5 ⟨A5, c5, rfl, h5⟩
        have SF : Hid (∃ s : St, s.C = room ∧ Sep (fun _ => False) w w5 [ob I.O (.pointer (some a)) s, blk w.heap.size (.cells #[.int .i64 d, .int .i64 t, .int .i64 k] 32)]) := ⟨actS s zd zt zk, by rw [act_C]; exact HSC.out, h5.tail.tail⟩
        clear h5 S4 q0 q1 q2
        go_wp2
        go_roundw
        case rel => exact ⟨j + 1, by omega, by go_num, SF⟩
        case measure => simp [intOf]; omega
      · have HOK := Lib.hid (m_ok SL.out 0 rfl)
        have HP := Lib.hid (misuse_plain s d t k)
        have HAC := Lib.hid (act_C s d t k)
        clear HZR HZO
        go_wp2_with fail
        refine (m_held SL.out 0 rfl).mono ?_
        rintro e w4 ⟨rfl, h4, _⟩
        have S4 := Lib.hid h4
        clear h4 SL
        go_wp2_with fail
        refine (m_waiting S4.out 0 rfl).mono ?_
        rintro e w6 ⟨A6, c6, A6', c6', rfl, h6, _⟩
        have S6 := Lib.hid h6
        have a0 : w6.cell? ⟨w.heap.size, 0, none⟩ = some (.int .i64 d) := (cell_block (S6.out.blk_at 2 rfl) 0).trans rfl
        have a1 : w6.cell? ⟨w.heap.size, 1, none⟩ = some (.int .i64 t) := (cell_block (S6.out.blk_at 2 rfl) 1).trans rfl
        have a2 : w6.cell? ⟨w.heap.size, 2, none⟩ = some (.int .i64 k) := (cell_block (S6.out.blk_at 2 rfl) 2).trans rfl
        clear h6 S4
        obtain ⟨E, hE⟩ : ∃ E, actE s d t k = E := ⟨_, rfl⟩
        obtain ⟨Bo, hBo⟩ : ∃ Bo, actB s d t k = Bo := ⟨_, rfl⟩
        obtain ⟨L2, hL2⟩ : ∃ L2, actL s d t k = L2 := ⟨_, rfl⟩
        obtain ⟨s2, hs2⟩ : ∃ s2, actS s d t k = s2 := ⟨_, rfl⟩
        have KE := Lib.hid hE
        have KB := Lib.hid hBo
        have KL := Lib.hid hL2
        have KS := Lib.hid hs2
        simp only [hE, hBo, hL2, hs2] at HP HAC
        clear hE hBo hL2 hs2
        go_wp2_with fail
        refine (m_do S6.out 1 rfl d t k HT.out HK.out KL.out KB.out KE.out KS.out).mono ?_
        rintro e w7 ⟨A7, c7, rfl, h7⟩
        have S7 : Hid (Sep (fun _ => False) w w7 [nums (.slice A7 L2.length c7) L2, nums2 (.slice A6 s.W.length c6) (.slice A6' s.D.length c6') s.W s.D, ob I.O (.pointer (some a)) s2, blk w.heap.size (.cells #[.int .i64 d, .int .i64 t, .int .i64 k] 32)]) := h7
        clear h7 S6 KE KB KL KS a0 a1 a2
        go_wp2_with fail
        refine (m_waiting S7.out 2 rfl).mono ?_
        rintro e w8 ⟨A8, c8, A8', c8', rfl, h8, _⟩
        have S8 : Hid (Sep (fun _ => False) w w8 [nums2 (.slice A8 s2.W.length c8) (.slice A8' s2.D.length c8') s2.W s2.D, nums (.slice A7 L2.length c7) L2, nums2 (.slice A6 s.W.length c6) (.slice A6' s.D.length c6') s.W s.D, ob I.O (.pointer (some a)) s2, blk w.heap.size (.cells #[.int .i64 d, .int .i64 t, .int .i64 k] 32)]) := h8
        clear h8 S7
        obtain ⟨rB, hrB⟩ : ∃ rB, decide (s2.W = s.W ∧ s2.D = s.D) = rB := ⟨_, rfl⟩
        have HRB := Lib.hid hrB
        clear hrB
        go_upto_region 17 with (fail)
        go_cut [19] (fun s19 wx => s19 = .bool rB ∧ Hid (Sep (fun _ => False) w wx [nums2 (.slice A8 s2.W.length c8) (.slice A8' s2.D.length c8') s2.W s2.D, nums (.slice A7 L2.length c7) L2, nums2 (.slice A6 s.W.length c6) (.slice A6' s.D.length c6') s.W s.D, ob I.O (.pointer (some a)) s2, blk w.heap.size (.cells #[.int .i64 d, .int .i64 t, .int .i64 k] 32)]))
        case first => as_aux_lemma =>
          have HR1 := Lib.hid (S8.out.rd2 0 rfl)
          have HR2 := Lib.hid (S8.out.rd2 2 rfl)
          clear HP HAC HOK HSC
          by_cases hw : s2.W = s.W
          · have HW := Lib.hid hw
            have HRBD : Hid (decide (s2.D = s.D) = rB) := by show _ = _; rw [← HRB.out]; simp [hw]
            clear hw HRB
            go_wp2_with fail
            refine (same_d HR1.out.1 HR2.out.1 HW.out).mono ?_
            rintro e w9 ⟨rfl, hb9⟩
            have S9 := Lib.hid (S8.out.next hb9)
            have HSB := Lib.hid (same_b (S9.out.rd2 0 rfl).2 (S9.out.rd2 2 rfl).2)
            rw [HRBD.out] at HSB
            clear hb9 S8 HR1 HR2 HW HRBD
            go_wp2_with fail
            refine HSB.out.mono ?_
            rintro e w10 ⟨rfl, hb10⟩
            have S10 := Lib.hid (S9.out.next hb10)
            clear hb10 S9 HSB
            go_wp2
            go_meet
            exact ⟨rfl, S10⟩
          · have hdw : decide (s2.W = s.W) = false := decide_eq_false hw
            have HRBF : Hid (rB = false) := by show _ = _; rw [← HRB.out]; exact decide_eq_false fun h => hw h.1
            have HSB := Lib.hid (same_b HR1.out.1 HR2.out.1)
            rw [hdw] at HSB
            clear hw hdw HRB HR1 HR2
            go_wp2_with fail
            refine HSB.out.mono ?_
            rintro e w9 ⟨rfl, hb9⟩
            have S9 := Lib.hid (S8.out.next hb9)
            clear hb9 S8
            go_wp2
            go_meet
            exact ⟨by rw [HRBF.out], S9⟩
        case rest => as_aux_lemma =>
          obtain ⟨rfl, S9⟩ := hcut
          clear S8
          have a0 : wc.cell? ⟨w.heap.size, 0, none⟩ = some (.int .i64 d) := (cell_block (S9.out.blk_at 4 rfl) 0).trans rfl
          have a2 : wc.cell? ⟨w.heap.size, 2, none⟩ = some (.int .i64 k) := (cell_block (S9.out.blk_at 4 rfl) 2).trans rfl
          have hI := HOK.out.1
          have H0 := hI.h0
          have H1 := hI.h1
          have C1 := hI.c1
          have hC := HSC.out
          rcases HP.out with ⟨hE, hl, hb, hs⟩ | ⟨rfl, rfl, rfl, hW, k0, k1, hw, hd⟩ | ⟨rfl, rfl, rfl, hW, hs⟩ | ⟨rfl, rfl, k0, k1⟩ | ⟨rfl, d1, d2⟩
          · have e1 : (E != 0) = true := by simpa using hE
            have HR : Hid (rB = true) := by show _ = _; rw [← HRB.out, hs]; simp
            have HH : Hid (s2.H = s.H) := by show _ = _; rw [hs]
            obtain rfl := HR.out
            clear hE HP hs hI H0 H1 C1 hC a0 a2 HAC HOK HSC HRB HR
            subst hl hb
            simp only [List.length_nil]
            go_wp2_with fail
            refine (m_held S9.out 3 rfl).mono ?_
            rw [HH.out]
            rintro e w10 ⟨rfl, h10, _⟩
            have S10 := Lib.hid h10
            have e2 : (s.H == s.H) = true := by simp
            clear h10 S9
            go_wp2
            go_ret
            exact ⟨rfl, S10.out.old⟩
          · have HR : Hid (rB = true) := by show _ = _; rw [← HRB.out, hw, hd]; simp
            obtain rfl := HR.out
            have HFI : Hid (∀ v, Calls Try.prog 20 #[.int .i64 s.H, .int .i64 k, .int .i64 room] v fun e w' => e = .returned (.bool true) ∧ v = w') := fun v => fits_is ⟨by omega, by omega⟩ HK.out ⟨by omega, by omega⟩ (fits_yes ⟨H0, k0, by omega⟩)
            have hl0 : s.W.length = 0 := by rw [hW]; rfl
            clear HP HR HRB hw hd hW k0 k1 hI H0 H1 C1 hC HAC HOK HSC a0
            have a0 : wc.cell? ⟨w.heap.size, 0, none⟩ = some (.int .i64 1) := (cell_block (S9.out.blk_at 4 rfl) 0).trans rfl
            generalize s.H = H at *
            simp only [hl0]
            clear hl0
            go_wp2_with fail
            refine (HFI.out _).mono ?_
            rintro e w10 ⟨rfl, rfl⟩
            go_wp2
            go_ret
            exact ⟨rfl, S9.out.old⟩
          · have HR : Hid (rB = true) := by show _ = _; rw [← HRB.out, hs]; simp
            obtain rfl := HR.out
            have HH : Hid (s2.H = s.H) := by show _ = _; rw [hs]
            have HFI : Hid (s.W = [] → ∀ v, Calls Try.prog 20 #[.int .i64 s.H, .int .i64 k, .int .i64 room] v fun e w' => e = .returned (.bool false) ∧ v = w') := fun hw v => fits_is ⟨by omega, by omega⟩ HK.out ⟨by omega, by omega⟩ (fits_no (.inr (by
              rcases hW with h | h
              · exact absurd hw h
              · omega)))
            have e2 : (s.H == s.H) = true := by simp
            by_cases hwn : s.W = []
            · have HF2 := Lib.hid (HFI.out hwn)
              have hl0 : s.W.length = 0 := by rw [hwn]; rfl
              clear HP HR HRB hs hW hI H0 H1 C1 hC HAC HOK HSC HFI hwn
              simp only [hl0]
              clear hl0
              go_wp2_with fail
              refine (HF2.out _).mono ?_
              rintro e w10 ⟨rfl, rfl⟩
              go_wp2_with fail
              refine (m_held S9.out 3 rfl).mono ?_
              rw [HH.out]
              rintro e w11 ⟨rfl, h11, _⟩
              have S11 := Lib.hid h11
              clear h11 S9
              go_wp2
              go_ret
              exact ⟨rfl, S11.out.old⟩
            · have hl0 : s.W.length ≠ 0 := fun e => hwn (List.eq_nil_of_length_eq_zero e)
              have i1 : ((s.W.length : Int) == 0) = false := by rw [beq_eq_false_iff_ne]; omega
              clear HP HR HRB hs hW hI H0 H1 C1 hC HAC HOK HSC HFI hwn hl0
              go_wp2_with fail
              refine (m_held S9.out 3 rfl).mono ?_
              rw [HH.out]
              rintro e w11 ⟨rfl, h11, _⟩
              have S11 := Lib.hid h11
              clear h11 S9
              go_wp2
              go_ret
              exact ⟨rfl, S11.out.old⟩
          · clear HP HRB hI H0 H1 C1 hC HAC HOK HSC
            generalize s.H = H at *
            go_wp2
            go_ret
            exact ⟨rfl, S9.out.old⟩
          · have HC2 : Hid (s2.C = room) := HAC.out.trans hC
            have e1 : (d == 1) = false := by simpa using d1
            have e2 : (d == 2) = false := by simpa using d2
            have e3 : (room == room) = true := by simp
            clear HP HRB hI H0 H1 C1 hC HAC HOK HSC d1 d2
            go_wp2_with fail
            refine (m_cap S9.out 3 rfl).mono ?_
            rw [HC2.out]
            rintro e w10 ⟨rfl, h10, _⟩
            have S10 := Lib.hid h10
            clear h10 S9
            go_wp2
            go_ret
            exact ⟨rfl, S10.out.old⟩
end Go.Proofs.Ytaplikopapnlpaa.SemaI
