/-
  The walk of the law CodeBack over any package that meets 'Co': it returns true and leaves old memory as it was. Conditions: none but 'Co'.
-/
import Derived.Test.YtoblkoljaeobkaaDoorCodeN
namespace Go.Proofs.YtoblkoljaeobkaaDoor.CodeI
open Go.ChangeShapes Go.WideShapes Go.ChangeAt Go.RowKit Mem MutP CodeP Hand RefCode

theorem bytes_yes {l : List In} (h : mayB l = true) : bytesE l = 0 ∧ bytesR l = bytesL l := by unfold bytesE bytesR; rw [if_pos h, if_pos h]; exact ⟨rfl, rfl⟩
theorem bytes_no {l : List In} (h : mayB l = false) : bytesE l = 1 ∧ bytesR l = [] := by unfold bytesE bytesR; rw [h]; exact ⟨rfl, rfl⟩
theorem read_no {b : List Int} (h : readE b ≠ 0) : readR b = [] ∧ readN b = 0 := ⟨by unfold readR; rw [if_neg h], by unfold readN; rw [if_neg h]⟩

set_option maxRecDepth 100000 in
set_option maxHeartbeats 4000000 in
theorem back_walk {w : World} (I : Co w) (A0 A1 A2 : Option Addr) (n0 c0 n1 c1 n2 c2 : Nat) (l : List In) (b rest : List Int) (h0 : LsIn w A0 n0 c0 l) (h1 : BsIn w A1 n1 c1 b) (h2 : BsIn w A2 n2 c2 rest) :
    Calls Tryd.prog 4 #[.slice A0 n0 c0, .slice A1 n1 c1, .slice A2 n2 c2] w fun e w' => e = .returned (.bool true) ∧ Below w.heap.size w w' := by
  have H0 := Lib.hid h0
  have H1 := Lib.hid h1
  have H2 := Lib.hid h2
  clear h0 h1 h2
  have S0 : Hid (Sep (fun _ => False) w w []) := Sep.nil _ _
  rcases (by omega : 60 < n0 ∨ (n0 ≤ 60 ∧ 1000 < n1) ∨ (n0 ≤ 60 ∧ n1 ≤ 1000 ∧ 1000 < n2) ∨ (n0 ≤ 60 ∧ n1 ≤ 1000 ∧ n2 ≤ 1000)) with x0 | ⟨x0, x1⟩ | ⟨x0, x1, x2⟩ | ⟨x0, x1, x2⟩
  · have e0 : decide ((n0 : Int) > 60) = true := decide_eq_true (by omega)
    go_enter Tryd.func4, Tryd.ntmps4
    go_wp2_with fail
    refine (awake_any I w (Below.refl _ _)).mono ?_
    rintro e w1 ⟨rfl, hb1⟩
    have HB := Lib.hid hb1
    clear hb1
    go_wp2
    go_ret
    exact ⟨rfl, HB.out⟩
  · have e0 : decide ((n0 : Int) > 60) = false := decide_eq_false (by omega)
    have e1 : decide ((n1 : Int) > 1000) = true := decide_eq_true (by omega)
    go_enter Tryd.func4, Tryd.ntmps4
    go_wp2_with fail
    refine (awake_any I w (Below.refl _ _)).mono ?_
    rintro e w1 ⟨rfl, hb1⟩
    have HB := Lib.hid hb1
    clear hb1
    go_wp2
    go_ret
    exact ⟨rfl, HB.out⟩
  · have e0 : decide ((n0 : Int) > 60) = false := decide_eq_false (by omega)
    have e1 : decide ((n1 : Int) > 1000) = false := decide_eq_false (by omega)
    have e2 : decide ((n2 : Int) > 1000) = true := decide_eq_true (by omega)
    go_enter Tryd.func4, Tryd.ntmps4
    go_wp2_with fail
    refine (awake_any I w (Below.refl _ _)).mono ?_
    rintro e w1 ⟨rfl, hb1⟩
    have HB := Lib.hid hb1
    clear hb1
    go_wp2
    go_ret
    exact ⟨rfl, HB.out⟩
  · have e0 : decide ((n0 : Int) > 60) = false := decide_eq_false (by omega)
    have e1 : decide ((n1 : Int) > 1000) = false := decide_eq_false (by omega)
    have e2 : decide ((n2 : Int) > 1000) = false := decide_eq_false (by omega)
    obtain ⟨f0, g0⟩ := H0.out
    obtain ⟨f1, g1⟩ := H1.out
    obtain ⟨f2, g2⟩ := H2.out
    obtain ⟨l0, r0, i0⟩ := g0 (by omega)
    obtain ⟨l1, r1, i1⟩ := g1 (by omega)
    obtain ⟨l2, r2, i2⟩ := g2 (by omega)
    have R0 := Lib.hid r0
    have R1 := Lib.hid r1
    have R2 := Lib.hid r2
    have I0 := Lib.hid i0
    have I1 := Lib.hid i1
    have I2 := Lib.hid i2
    have L0 := Lib.hid l0
    have L1 := Lib.hid l1
    have L2 := Lib.hid l2
    clear g0 g1 g2 l0 l1 l2 r0 r1 r2 i0 i1 i2 H0 H1 H2
    obtain ⟨e5, he5⟩ : ∃ e, readE b = e := ⟨_, rfl⟩
    rcases (by omega : e5 = 0 ∨ e5 ≠ 0) with rfl | hne
    · have HFO := Lib.hid (forth he5 I1.out)
      have HE5 := Lib.hid he5
      clear he5
      obtain ⟨k, hk⟩ := Int.eq_ofNat_of_zero_le (by have := HFO.out.2.2.1.1; omega : 0 ≤ readN b)
      have HK := Lib.hid hk
      have hk1 : 1 ≤ k ∧ k ≤ n1 := by have := HFO.out.2.2.1; rw [hk, L1.out] at this; omega
      clear hk
      obtain ⟨x, hx⟩ : ∃ x, b[0]? = some x := ⟨_, List.getElem?_eq_getElem (by rw [L1.out]; omega)⟩
      obtain ⟨gb, ob, rfl, _⟩ := by_at R1.out hx
      clear hx
      have kd1 : decide ((k : Int) < 1) = false := decide_eq_false (by omega)
      have kd2 : decide ((k : Int) > (n1 : Int)) = false := decide_eq_false (by omega)
      have kd3 : decide (k < 1) = false := decide_eq_false (by omega)
      have kd4 : decide (n1 < k) = false := decide_eq_false (by omega)
      have HBY : Hid (bytesE (readR b) = 0 ∧ bytesR (readR b) = b.take k) := by
        obtain ⟨h1, h2⟩ := bytes_yes HFO.out.1
        refine ⟨h1, h2.trans ?_⟩
        rw [HFO.out.2.2.2, HK.out, Int.toNat_natCast]
      go_enter Tryd.func4, Tryd.ntmps4
      go_wp2_with fail
      refine (awake_any I w (Below.refl _ _)).mono ?_
      rintro e w1 ⟨rfl, hb1⟩
      have S1 := Lib.hid (S0.out.next hb1)
      clear hb1
      go_wp2_with fail
      refine (a_read I S1.out (R1.out.below S1.out.old) f1 I1.out HE5.out HK.out rfl rfl).mono ?_
      rintro e w2 ⟨A5, c5, f5, rfl, h5⟩
      have S2 := Lib.hid h5
      clear h5
      go_wp2_with fail
      refine (n_bytes I S2.out 0 rfl f5 HFO.out.2.1 HBY.out.1 HBY.out.2 (k := k) (by rw [List.length_take, L1.out]; exact Nat.min_eq_left hk1.2)).mono ?_
      rintro e w3 ⟨A6, c6, f6, rfl, h6⟩
      have S3 := Lib.hid h6
      clear h6
      have hkc : k ≤ c1 := by omega
      have k0 : (0 : Int) ≤ (k : Int) := by omega
      have k1 : (k : Int) ≤ (c1 : Int) := by omega
      go_wp2_with fail
      refine (a_sameB S3.out (S3.out.rdL 0 rfl) (rdL_take (R1.out.below S3.out.old) hk1.2) (r := true) (decide_eq_true rfl)).mono ?_
      rintro e w4 ⟨rfl, h7⟩
      have S4 := Lib.hid h7
      clear h7
      go_wp2_with fail
      refine (n_may I S4.out 1 rfl f5 HFO.out.2.1 HFO.out.1).mono ?_
      rintro e w5 ⟨rfl, h8⟩
      have S5 : Hid (Sep (fun _ => False) w w5 []) := h8.sub (List.nil_sublist _)
      clear h8 S1 S2 S3 S4 HFO
      go_wp2_with fail
      cases hm : mayB l with
      | false =>
        have HNB := Lib.hid (bytes_no hm)
        have HM := Lib.hid hm
        clear hm
        refine (a_bytes I S5.out R0.out f0 I0.out HNB.out.1 HNB.out.2 (k := 0) rfl).mono ?_
        rintro e wa ⟨Aa, ca, fa, rfl, ha⟩
        have Sa := Lib.hid ha
        clear ha
        go_wp2_with fail
        refine (a_may I Sa.out R0.out f0 I0.out HM.out).mono ?_
        rintro e wb ⟨rfl, hb⟩
        have Sb := Lib.hid hb
        clear hb
        go_wp2
        go_ret
        exact ⟨rfl, Sb.out.old⟩
      | true =>
        have HYB := Lib.hid (bytes_yes hm)
        have HM := Lib.hid hm
        have hl24 := (may_iff.1 hm).2
        rw [L0.out] at hl24
        clear hm
        obtain ⟨p, hp⟩ : ∃ p, (bytesL l).length = p := ⟨_, rfl⟩
        have HP := Lib.hid hp
        rw [bytes_len, L0.out] at hp
        obtain ⟨q, hq⟩ : ∃ q, q + 1 = p := ⟨11 * n0, by omega⟩
        have pz : ((p : Int) == 0) = false := by simp; omega
        have wq : IntKind.i64.wrap ((p : Int) - 1) = (q : Int) := by rw [IntWalk.i64_in _ (by omega)]; omega
        have pp : ((p : Int) == (p : Int)) = true := by simp
        have HQ : Hid (q + 1 = p ∧ p ≤ 300) := ⟨hq, by omega⟩
        refine (a_bytes I S5.out R0.out f0 I0.out HYB.out.1 HYB.out.2 HP.out).mono ?_
        rintro e wa ⟨Aa, ca, fa, rfl, ha⟩
        obtain ⟨ga, oa, rfl, _⟩ := by_at (ha.rdL 0 rfl) (i := 0) (x := (l.length : Int)) rfl
        have Sb : Hid (Sep (fun _ => False) w (wa.alloc (.cells #[] 5)) [grow byE 5 (.slice (some ⟨wa.heap.size, 0, none⟩) 0 0) [], told byE (.slice (some ⟨ga, oa, none⟩) p ca) (bytesL l)]) := ha.grow0 byE 5
        clear ha hp hq S5
        go_wp2_with (at_builtin; refine wpList_appS rfl _ _ byElem rfl rfl rfl Sb.out 0 rfl (Sb.out.rdL 1 rfl) (by have := HP.out; have := HQ.out; simp; omega) ?_)
        intro A3 c3 wc l3 HL3 h3
        obtain rfl : l3 = bytesL l := HL3.out
        have Sc := Lib.hid h3
        clear h3 HL3 Sb
        go_wp2_with (at_builtin; refine wpList_appS rfl _ _ byElem rfl rfl rfl Sc.out 0 rfl (R2.out.below Sc.out.old) (by have := HP.out; have := HQ.out; have := L2.out; omega) ?_)
        intro A4 c4 wd l4 HL4 h4
        have f4 : l4.length ≤ c4 := own_fits h4 0 rfl
        have Sd := Lib.hid (grow_told h4 (by have := HP.out; have := HQ.out; have := L2.out; rw [HL4.out, List.length_append]; omega))
        have HBK : Hid (readE l4 = 0 ∧ readR l4 = l ∧ readN l4 = (p : Int) ∧ ∀ y ∈ l4, Byte y) := by
          obtain ⟨h1, h2, h3⟩ := back HM.out (fun x hx => (I0.out x hx).2.2.2) rest
          show _ ∧ _
          rw [HL4.out]
          exact ⟨h1, h2, h3.trans (by rw [HP.out]), fun y hy => (List.mem_append.1 hy).elim (bytesL_byte HM.out y) (I2.out y)⟩
        clear h4 HL4 Sc
        go_wp2_with fail
        refine (n_read I Sd.out 0 rfl f4 HBK.out.2.2.2 HBK.out.1 HBK.out.2.2.1 HBK.out.2.1 L0.out).mono ?_
        rintro e we ⟨A7, c7, f7, rfl, h7⟩
        have Se : Hid (Sep (fun _ => False) w we [told inE (.slice A7 n0 c7) l, told byE (.slice (some ⟨ga, oa, none⟩) p ca) (bytesL l)]) := h7.sub (.cons_cons _ (.cons _ (List.Sublist.refl _)))
        clear h7 Sd HBK f4
        have hqc : q ≤ ca := by have := HQ.out; omega
        have q0 : (0 : Int) ≤ (q : Int) := by omega
        have q1 : (q : Int) ≤ (ca : Int) := by omega
        have HCUT : Hid (readE ((bytesL l).take q) = 8) := by
          have := cut_off HM.out
          rwa [HP.out, ← HQ.out.1, Nat.add_sub_cancel] at this
        have HCN := Lib.hid (read_no (b := (bytesL l).take q) (by rw [HCUT.out]; decide))
        go_wp2_with fail
        refine (a_read I Se.out (rdL_take (Se.out.rdL 1 rfl) (by have := HQ.out; omega)) hqc (fun y hy => bytesL_byte HM.out y (List.mem_of_mem_take hy)) HCUT.out HCN.out.2 HCN.out.1 rfl).mono ?_
        rintro e wf ⟨A8, c8, f8, rfl, h8⟩
        have Sf : Hid (Sep (fun _ => False) w wf [told inE (.slice A7 n0 c7) l]) := h8.sub (.cons _ (.cons_cons _ (.cons _ .slnil)))
        clear h8 Se HCUT HCN
        go_wp2_with fail
        refine (n_own Sf.out 0 rfl (by rw [L0.out]; omega) L0.out).mono ?_
        rintro e wg ⟨A9, c9, rfl, h9⟩
        have Sg := Lib.hid h9
        clear h9
        go_wp2_with fail
        refine (a_own Sg.out R0.out (by rw [L0.out]; omega)).mono ?_
        rintro e wh ⟨A10, c10, rfl, h10⟩
        have Sh := Lib.hid h10
        clear h10
        go_wp2_with fail
        refine (rn_same Sh.out 1 0 rfl rfl (r := true) (decide_eq_true rfl)).mono ?_
        rintro e wi ⟨rfl, h11⟩
        have Si := Lib.hid h11
        clear h11
        go_wp2
        go_ret
        exact ⟨rfl, Si.out.old⟩
    · have HNO := Lib.hid (read_no (by rw [he5]; exact hne))
      have HE5 := Lib.hid he5
      clear he5
      have be : (e5 == 0) = false := by simpa using hne
      go_enter Tryd.func4, Tryd.ntmps4
      go_wp2_with fail
      refine (awake_any I w (Below.refl _ _)).mono ?_
      rintro e w1 ⟨rfl, hb1⟩
      have S1 := Lib.hid (S0.out.next hb1)
      clear hb1
      go_wp2_with fail
      refine (a_read I S1.out (R1.out.below S1.out.old) f1 I1.out HE5.out HNO.out.2 HNO.out.1 rfl).mono ?_
      rintro e w2 ⟨A5, c5, f5, rfl, h5⟩
      have S5 : Hid (Sep (fun _ => False) w w2 []) := h5.sub (List.nil_sublist _)
      clear h5 S1
      go_wp2_with fail
      cases hm : mayB l with
      | false =>
        have HNB := Lib.hid (bytes_no hm)
        have HM := Lib.hid hm
        clear hm
        refine (a_bytes I S5.out R0.out f0 I0.out HNB.out.1 HNB.out.2 (k := 0) rfl).mono ?_
        rintro e wa ⟨Aa, ca, fa, rfl, ha⟩
        have Sa := Lib.hid ha
        clear ha
        go_wp2_with fail
        refine (a_may I Sa.out R0.out f0 I0.out HM.out).mono ?_
        rintro e wb ⟨rfl, hb⟩
        have Sb := Lib.hid hb
        clear hb
        go_wp2
        go_ret
        exact ⟨rfl, Sb.out.old⟩
      | true =>
        have HYB := Lib.hid (bytes_yes hm)
        have HM := Lib.hid hm
        have hl24 := (may_iff.1 hm).2
        rw [L0.out] at hl24
        clear hm
        obtain ⟨p, hp⟩ : ∃ p, (bytesL l).length = p := ⟨_, rfl⟩
        have HP := Lib.hid hp
        rw [bytes_len, L0.out] at hp
        obtain ⟨q, hq⟩ : ∃ q, q + 1 = p := ⟨11 * n0, by omega⟩
        have pz : ((p : Int) == 0) = false := by simp; omega
        have wq : IntKind.i64.wrap ((p : Int) - 1) = (q : Int) := by rw [IntWalk.i64_in _ (by omega)]; omega
        have pp : ((p : Int) == (p : Int)) = true := by simp
        have HQ : Hid (q + 1 = p ∧ p ≤ 300) := ⟨hq, by omega⟩
        refine (a_bytes I S5.out R0.out f0 I0.out HYB.out.1 HYB.out.2 HP.out).mono ?_
        rintro e wa ⟨Aa, ca, fa, rfl, ha⟩
        obtain ⟨ga, oa, rfl, _⟩ := by_at (ha.rdL 0 rfl) (i := 0) (x := (l.length : Int)) rfl
        have Sb : Hid (Sep (fun _ => False) w (wa.alloc (.cells #[] 5)) [grow byE 5 (.slice (some ⟨wa.heap.size, 0, none⟩) 0 0) [], told byE (.slice (some ⟨ga, oa, none⟩) p ca) (bytesL l)]) := ha.grow0 byE 5
        clear ha hp hq S5
        go_wp2_with (at_builtin; refine wpList_appS rfl _ _ byElem rfl rfl rfl Sb.out 0 rfl (Sb.out.rdL 1 rfl) (by have := HP.out; have := HQ.out; simp; omega) ?_)
        intro A3 c3 wc l3 HL3 h3
        obtain rfl : l3 = bytesL l := HL3.out
        have Sc := Lib.hid h3
        clear h3 HL3 Sb
        go_wp2_with (at_builtin; refine wpList_appS rfl _ _ byElem rfl rfl rfl Sc.out 0 rfl (R2.out.below Sc.out.old) (by have := HP.out; have := HQ.out; have := L2.out; omega) ?_)
        intro A4 c4 wd l4 HL4 h4
        have f4 : l4.length ≤ c4 := own_fits h4 0 rfl
        have Sd := Lib.hid (grow_told h4 (by have := HP.out; have := HQ.out; have := L2.out; rw [HL4.out, List.length_append]; omega))
        have HBK : Hid (readE l4 = 0 ∧ readR l4 = l ∧ readN l4 = (p : Int) ∧ ∀ y ∈ l4, Byte y) := by
          obtain ⟨h1, h2, h3⟩ := back HM.out (fun x hx => (I0.out x hx).2.2.2) rest
          show _ ∧ _
          rw [HL4.out]
          exact ⟨h1, h2, h3.trans (by rw [HP.out]), fun y hy => (List.mem_append.1 hy).elim (bytesL_byte HM.out y) (I2.out y)⟩
        clear h4 HL4 Sc
        go_wp2_with fail
        refine (n_read I Sd.out 0 rfl f4 HBK.out.2.2.2 HBK.out.1 HBK.out.2.2.1 HBK.out.2.1 L0.out).mono ?_
        rintro e we ⟨A7, c7, f7, rfl, h7⟩
        have Se : Hid (Sep (fun _ => False) w we [told inE (.slice A7 n0 c7) l, told byE (.slice (some ⟨ga, oa, none⟩) p ca) (bytesL l)]) := h7.sub (.cons_cons _ (.cons _ (List.Sublist.refl _)))
        clear h7 Sd HBK f4
        have hqc : q ≤ ca := by have := HQ.out; omega
        have q0 : (0 : Int) ≤ (q : Int) := by omega
        have q1 : (q : Int) ≤ (ca : Int) := by omega
        have HCUT : Hid (readE ((bytesL l).take q) = 8) := by
          have := cut_off HM.out
          rwa [HP.out, ← HQ.out.1, Nat.add_sub_cancel] at this
        have HCN := Lib.hid (read_no (b := (bytesL l).take q) (by rw [HCUT.out]; decide))
        go_wp2_with fail
        refine (a_read I Se.out (rdL_take (Se.out.rdL 1 rfl) (by have := HQ.out; omega)) hqc (fun y hy => bytesL_byte HM.out y (List.mem_of_mem_take hy)) HCUT.out HCN.out.2 HCN.out.1 rfl).mono ?_
        rintro e wf ⟨A8, c8, f8, rfl, h8⟩
        have Sf : Hid (Sep (fun _ => False) w wf [told inE (.slice A7 n0 c7) l]) := h8.sub (.cons _ (.cons_cons _ (.cons _ .slnil)))
        clear h8 Se HCUT HCN
        go_wp2_with fail
        refine (n_own Sf.out 0 rfl (by rw [L0.out]; omega) L0.out).mono ?_
        rintro e wg ⟨A9, c9, rfl, h9⟩
        have Sg := Lib.hid h9
        clear h9
        go_wp2_with fail
        refine (a_own Sg.out R0.out (by rw [L0.out]; omega)).mono ?_
        rintro e wh ⟨A10, c10, rfl, h10⟩
        have Sh := Lib.hid h10
        clear h10
        go_wp2_with fail
        refine (rn_same Sh.out 1 0 rfl rfl (r := true) (decide_eq_true rfl)).mono ?_
        rintro e wi ⟨rfl, h11⟩
        have Si := Lib.hid h11
        clear h11
        go_wp2
        go_ret
        exact ⟨rfl, Si.out.old⟩
end Go.Proofs.YtoblkoljaeobkaaDoor.CodeI
