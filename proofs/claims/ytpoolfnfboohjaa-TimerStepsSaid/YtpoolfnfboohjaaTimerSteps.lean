/-
  The walk of the law TimerSteps over any package that meets 'Clk': it returns true and leaves old memory as it was. Conditions: none but 'Clk'.
-/
import Derived.Test.YtpoolfnfboohjaaTimerM
namespace Go.Proofs.Ytpoolfnfboohjaa.TimerI
open Go.ChangeShapes Go.WideShapes Go.ChangeAt Go.RowKit Mem RefHeap RefTimer Hand

/-- An act, as it lies in a slice. -/
def actE : Enc (Int × Int × Int) := ⟨3, fun x => [.int .i64 x.1, .int .i64 x.2.1, .int .i64 x.2.2], fun _ => rfl, by intro a u hu; simp at hu; rcases hu with rfl | rfl | rfl <;> rfl, by omega⟩
def ActIn (z : Int × Int × Int) : Prop := In64 z.2.1 ∧ In64 z.2.2
theorem act_cells {w : World} {G : Nat → Prop} {A : Option Addr} {n c : Nat} {L : List (Int × Int × Int)} (h : RdL actE w G (.slice A n c) L) {i : Nat} {a : Int × Int × Int} (hi : L[i]? = some a) :
    ∃ b off, A = some ⟨b, off, none⟩ ∧ G b ∧ b < w.heap.size ∧ w.cell? ⟨b, off + i * 3, none⟩ = some (.int .i64 a.1) ∧ w.cell? ⟨b, off + i * 3 + 1, none⟩ = some (.int .i64 a.2.1) ∧ w.cell? ⟨b, off + i * 3 + 2, none⟩ = some (.int .i64 a.2.2) := by
  obtain ⟨b, off, hA, hg, hb, hc⟩ := h.at_ hi
  exact ⟨b, off, hA, hg, hb, hc 0 _ rfl, hc 1 _ rfl, hc 2 _ rfl⟩

/-- Alarms by their times: those till T1, then those till T2, are those till T2. -/
theorem two_steps {T1 T2 : Int} (h : T1 ≤ T2) : ∀ {L : List Ent}, L.Pairwise (fun a b => a.at_ < b.at_ ∨ (a.at_ = b.at_ ∧ a.seq < b.seq)) →
    L.filter (fun y => decide (y.at_ ≤ T1)) ++ (L.filter (fun y => decide (T1 < y.at_))).filter (fun y => decide (y.at_ ≤ T2)) = L.filter (fun y => decide (y.at_ ≤ T2))
  | [], _ => rfl
  | a :: L, ho => by
    have ho' := List.pairwise_cons.1 ho
    have ih := two_steps h ho'.2
    by_cases ha : a.at_ ≤ T1
    · have h1 : decide (a.at_ ≤ T1) = true := decide_eq_true ha
      have h2 : decide (T1 < a.at_) = false := decide_eq_false (by omega)
      have h3 : decide (a.at_ ≤ T2) = true := decide_eq_true (by omega)
      simp only [List.filter_cons, h1, h2, h3, if_true, Bool.false_eq_true, if_false, List.cons_append]
      rw [ih]
    · have he : (a :: L).filter (fun y => decide (y.at_ ≤ T1)) = [] := List.filter_eq_nil_iff.2 fun y hy => by
        rcases List.mem_cons.1 hy with rfl | hy
        · simpa using ha
        · have := ho'.1 y hy; simp; omega
      have hl : (a :: L).filter (fun y => decide (T1 < y.at_)) = a :: L := List.filter_eq_self.2 fun y hy => by
        rcases List.mem_cons.1 hy with rfl | hy
        · simp; omega
        · have := ho'.1 y hy; simp; omega
      rw [he, hl]
      rfl
theorem toT_two {T t1 t2 : Int} (h : t1 ≤ t2) : toT (toT T t1) t2 = toT T t2 := by
  by_cases a : T < t1
  · have e : toT T t1 = t1 := by unfold toT; rw [if_pos a]
    rw [e]
    unfold toT
    rw [if_pos (show T < t2 by omega)]
    split <;> omega
  · have e : toT T t1 = T := by unfold toT; rw [if_neg a]
    rw [e]
theorem two_left {T1 T2 : Int} (h : T1 ≤ T2) (L : List Ent) : (L.filter (fun y => decide (T1 < y.at_))).filter (fun y => decide (T2 < y.at_)) = L.filter (fun y => decide (T2 < y.at_)) := by
  rw [List.filter_filter]
  refine List.filter_congr fun y _ => ?_
  by_cases h1 : T2 < y.at_
  · simp [h1]; omega
  · simp [h1]

set_option maxHeartbeats 4000000 in
set_option maxRecDepth 100000 in
theorem steps_walk (I : Clk) (A : Option Addr) (len cap : Nat) (zs : List (Int × Int × Int)) (t1 t2 : Int) (w : World) (hlen : len ≤ 9223372036854775807) (ht1 : In64 t1) (ht2 : In64 t2)
    (hz : len ≤ 1000000 → zs.length = len ∧ RdL actE w (fun b => b < w.heap.size) (.slice A len cap) zs ∧ ∀ z ∈ zs, ActIn z) :
    Calls Try.prog 5 #[.slice A len cap, .int .i64 t1, .int .i64 t2] w fun e w' => e = .returned (.bool true) ∧ Below w.heap.size w w' := by
  have HZ := Lib.hid hz
  have HT1 := Lib.hid ht1
  have HT2 := Lib.hid ht2
  clear hz ht1 ht2
  by_cases h120 : len ≤ 120
  · by_cases h12 : t1 ≤ t2
    · obtain ⟨hzl, hzr, hzo⟩ := HZ.out (by omega)
      have HZL := Lib.hid hzl
      have HZR := Lib.hid hzr
      have HZO := Lib.hid hzo
      clear hzl hzr hzo HZ
      go_enter Try.func5, Try.ntmps5
      go_wp2_with fail
      refine (awake_any I _).mono ?_
      rintro e w1 ⟨rfl, hb1⟩
      have S1 := Lib.hid ((Sep.nil (fun _ => False) w).next hb1)
      clear hb1
      go_wp2_with fail
      refine (c_new S1.out I 40 (by omega) (by omega)).mono ?_
      rintro e w2 ⟨a, rfl, h2⟩
      have S2 := Lib.hid h2
      clear h2 S1
      go_wp2_with fail
      refine (c_new S2.out I 40 (by omega) (by omega)).mono ?_
      rintro e w3 ⟨b, rfl, h3⟩
      have S3 := Lib.hid h3
      clear h3 S2
      go_wp2
      go_loopw [40, 12] (fun u _ wr => ∃ j : Nat, j ≤ len ∧ u = .int .i64 j ∧ Hid (∃ (T C : Int) (L : List Ent), C ≤ (j : Int) ∧ Sep (fun _ => False) w wr [ck I (.pointer (some b)) T C L 40, ck I (.pointer (some a)) T C L 40])) (fun u _ _ => len - (intOf u).toNat)
      case atStart => exact ⟨0, Nat.zero_le _, rfl, 0, 0, [], by omega, S3.out⟩
      case round =>
        obtain ⟨j, hj, rfl, HS⟩ := hrel
        obtain ⟨T, C, L, hCj, hS⟩ := HS.out
        have SL := Lib.hid hS
        clear HS hS S3
        by_cases hlt : j < len
        · have hx : zs[j]? = some (zs[j]'(by rw [HZL.out]; exact hlt)) := List.getElem?_eq_getElem _
          generalize zs[j]'(by rw [HZL.out]; exact hlt) = z at hx
          have HE := Lib.hid (HZO.out z (List.mem_of_getElem? hx))
          obtain ⟨bb, off, rfl, _, hbb, c0, c1, c2⟩ := act_cells HZR.out hx
          have hb := SL.out.old
          have q0 := (hb.cell (p := ⟨bb, off + j * 3, none⟩) hbb).trans c0
          have q1 := (hb.cell (p := ⟨bb, off + j * 3 + 1, none⟩) hbb).trans c1
          have q2 := (hb.cell (p := ⟨bb, off + j * 3 + 2, none⟩) hbb).trans c2
          obtain ⟨d, key, n⟩ := z
          have S4 := Lib.hid (SL.out.new (.cells #[.int .i64 d, .int .i64 key, .int .i64 n] 32))
          clear hx c0 c1 c2 hb SL
          go_wp2_with fail
          refine (c_do S4.out 2 rfl (by omega) d key n HE.out.1 HE.out.2).mono ?_
          rintro e w5 ⟨A5, c5, rfl, h5⟩
          have S5 := Lib.hid h5.tail
          have hbk := h5.blk_at 1 rfl
          have g0 := (cell_block hbk 0).trans rfl
          have g1 := (cell_block hbk 1).trans rfl
          have g2 := (cell_block hbk 2).trans rfl
          clear h5 hbk S4
          go_wp2_with fail
          refine (c_do S5.out 1 rfl (by omega) d key n HE.out.1 HE.out.2).mono ?_
          rintro e w6 ⟨A6, c6, rfl, h6⟩
          have S6 : Hid (∃ (T C : Int) (L : List Ent), C ≤ ((j + 1 : Nat) : Int) ∧ Sep (fun _ => False) w w6 [ck I (.pointer (some b)) T C L 40, ck I (.pointer (some a)) T C L 40]) := ⟨_, _, _, by have := aC_le (L := L) (M := 40) (C := C) (d := d) (key := key); omega, h6.tail.tail⟩
          clear h6 S5 g0 g1 g2
          go_wp2
          go_roundw
          case rel => exact ⟨j + 1, by omega, by go_num, S6⟩
          case measure => simp [intOf]; omega
        · have hok := c_ok SL.out 0 rfl
          have HOK := Lib.hid hok
          clear hok
          obtain ⟨T1, hT1⟩ : ∃ T1, toT T t1 = T1 := ⟨_, rfl⟩
          obtain ⟨T2, hT2⟩ : ∃ T2, toT T1 t2 = T2 := ⟨_, rfl⟩
          have hT3 : toT T t2 = T2 := by
            rw [← hT2, ← hT1, toT_two h12]
          have h1le : T1 ≤ T2 := by
            rw [← hT2]
            unfold toT
            split <;> omega
          have KT1 := Lib.hid hT1
          have KT2 := Lib.hid hT2
          have KT3 := Lib.hid hT3
          have KS := Lib.hid (two_steps h1le HOK.out.order)
          have KL := Lib.hid (two_left h1le L)
          have hlL : L.length ≤ 1000 := HOK.out.len
          have hl1 := List.length_filter_le (fun y : Ent => decide (y.at_ ≤ T1)) L
          have hl2 := List.length_filter_le (fun y : Ent => decide (T1 < y.at_)) L
          have hl3 := List.length_filter_le (fun y : Ent => decide (y.at_ ≤ T2)) L
          have hl4 := List.length_filter_le (fun y : Ent => decide (T2 < y.at_)) L
          clear hT1 hT2 hT3
          generalize ho1 : L.filter (fun y => decide (y.at_ ≤ T1)) = o1 at *
          generalize hL1 : L.filter (fun y => decide (T1 < y.at_)) = L1 at *
          generalize ho3 : L.filter (fun y => decide (y.at_ ≤ T2)) = o3 at *
          generalize hL3 : L.filter (fun y => decide (T2 < y.at_)) = L3 at *
          have hl5 := List.length_filter_le (fun y : Ent => decide (y.at_ ≤ T2)) L1
          generalize ho2 : L1.filter (fun y => decide (y.at_ ≤ T2)) = o2 at *
          have Ko1 := Lib.hid ho1
          have KL1 := Lib.hid hL1
          have Ko3 := Lib.hid ho3
          have KL3 := Lib.hid hL3
          have Ko2 := Lib.hid ho2
          clear ho1 hL1 ho3 hL3 ho2
          go_wp2_with fail
          refine (c_to SL.out 1 rfl t1 HT1.out KT1.out Ko1.out KL1.out).mono ?_
          rintro e w5 ⟨A5, c5, rfl, h5⟩
          have S5 := Lib.hid h5
          have R5 := Lib.hid (h5.rdL 0 rfl)
          clear h5 SL
          go_wp2_with fail
          refine (c_own S5.out R5.out (by omega)).mono ?_
          rintro e w6 ⟨A6, c6, rfl, h6⟩
          have S6 := Lib.hid h6.swap.tail
          clear h6 S5 R5
          go_wp2_with fail
          refine (c_to S6.out 2 rfl t2 HT2.out KT2.out Ko2.out KL.out).mono ?_
          rintro e w7 ⟨A7, c7, rfl, h7⟩
          have S7 := Lib.hid h7
          have R7 := Lib.hid (h7.rdL 0 rfl)
          clear h7 S6
          go_wp2_with fail
          refine (c_own S7.out R7.out (by omega)).mono ?_
          rintro e w8 ⟨A8, c8, rfl, h8⟩
          have S8 := Lib.hid h8.swap.tail
          clear h8 S7 R7
          go_wp2_with (at_builtin; refine wpList_appS rfl _ _ entElem rfl rfl rfl S8.out 1 rfl ((S8.out.own 0 rfl).rd (G := fun _ => True) (by omega) fun _ _ => trivial) (by omega) ?_; intro A9 c9 w9 l9 HL9 h9)
          have S9 := Lib.hid h9
          have K9 : Hid (l9 = o3) := HL9.out.trans KS.out
          clear h9 S8 HL9
          go_wp2_with fail
          refine (c_to S9.out 2 rfl t2 HT2.out KT3.out Ko3.out KL3.out).mono ?_
          rintro e w10 ⟨A10, c10, rfl, h10⟩
          have S10 := Lib.hid h10
          have R10 := Lib.hid (h10.rdL 0 rfl)
          clear h10 S9
          go_wp2_with fail
          refine (c_own S10.out R10.out (by omega)).mono ?_
          rintro e w11 ⟨A11, c11, rfl, h11⟩
          have S11 := Lib.hid h11.swap.tail
          have hl9 : l9.length ≤ 1000 := by rw [K9.out]; omega
          clear h11 S10 R10
          go_wp2_with fail
          refine (same_any ((S11.out.own 2 rfl).rd (G := fun _ => True) (by omega) fun _ _ => trivial) ((S11.out.own 0 rfl).rd (G := fun _ => True) (by omega) fun _ _ => trivial)).mono ?_
          rintro e w12 ⟨rfl, n12, rfl⟩
          rw [show decide (l9 = o3) = true from decide_eq_true K9.out]
          have S12 := Lib.hid (S11.out.drewN n12)
          clear S11
          generalize w11.drewN n12 = w12 at *
          go_wp2_with fail
          refine (c_now S12.out 4 rfl).mono ?_
          rintro e w13 ⟨rfl, h13⟩
          have S13 := Lib.hid h13
          clear h13 S12
          go_wp2_with fail
          refine (c_now S13.out 3 rfl).mono ?_
          rintro e w14 ⟨rfl, h14⟩
          have S14 := Lib.hid h14
          clear h14 S13
          have hTT : (T2 == T2) = true := by simp
          go_wp2_with fail
          refine (c_alarms S14.out 4 rfl).mono ?_
          rintro e w15 ⟨A15, c15, rfl, h15, r15⟩
          have S15 := Lib.hid h15
          have R15 := Lib.hid r15
          clear h15 r15 S14
          go_wp2_with fail
          refine (c_own S15.out R15.out (by omega)).mono ?_
          rintro e w16 ⟨A16, c16, rfl, h16⟩
          have S16 := Lib.hid h16
          clear h16 S15 R15
          go_wp2_with fail
          refine (c_alarms S16.out 4 rfl).mono ?_
          rintro e w17 ⟨A17, c17, rfl, h17, r17⟩
          have S17 := Lib.hid h17
          have R17 := Lib.hid r17
          clear h17 r17 S16
          go_wp2_with fail
          refine (c_own S17.out R17.out (by omega)).mono ?_
          rintro e w18 ⟨A18, c18, rfl, h18⟩
          have S18 := Lib.hid h18
          clear h18 S17 R17
          go_wp2_with fail
          refine (same_any ((S18.out.own 1 rfl).rd (G := fun _ => True) (by omega) fun _ _ => trivial) ((S18.out.own 0 rfl).rd (G := fun _ => True) (by omega) fun _ _ => trivial)).mono ?_
          rintro e w19 ⟨rfl, n19, rfl⟩
          rw [show decide (L3 = L3) = true from by simp]
          have HB := Lib.hid (S18.out.drewN n19).old
          clear S18
          go_wp2
          go_ret
          exact ⟨rfl, HB.out⟩
    · go_enter Try.func5, Try.ntmps5
      go_wp2_with fail
      refine (awake_any I _).mono ?_
      rintro e w1 ⟨rfl, hb1⟩
      have HB := Lib.hid hb1
      clear hb1
      have h12' : t2 < t1 := by omega
      go_wp2
      go_ret
      exact ⟨rfl, HB.out⟩
  · go_enter Try.func5, Try.ntmps5
    go_wp2_with fail
    refine (awake_any I _).mono ?_
    rintro e w1 ⟨rfl, hb1⟩
    have HB := Lib.hid hb1
    clear hb1
    go_wp2
    go_ret
    exact ⟨rfl, HB.out⟩
end Go.Proofs.Ytpoolfnfboohjaa.TimerI
