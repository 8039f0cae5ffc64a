/-
  The walk of the law WaitsTold over any package that meets 'Wg'. Condition: what the arguments read as.
-/
import Derived.Test.YtjojpejhmengaaaWaitsM
import Derived.Test.YtjojpejhmengaaaActs3
import Derived.Test.YtjojpejhmengaaaSlide
import Derived.Deep.DeepCutAuto
import Derived.Deep.CutBlock
namespace Go.Proofs.Ytjojpejhmengaaa.WaitsI
open Go.ChangeShapes Go.WideShapes Go.ChangeAt Go.RowKit Mem MutP WaitsP Hand RefMut RefWaits Acts3

/-- What an act makes of the count and of who waits, as the law tells it. -/
theorem told_plain {C : Int} {W : List Int} {N : Int} (hok : WaitsP.Ok C W N) (d t k : Int) (hk : C + k ≤ 9223372036854775807) (h1 : d = 1 → k = -1) :
    ((d = 0 ∨ d = 1) ∧ C + k < 0 ∧ actE C W N d t k = 1 ∧ actL C W d k = [] ∧ actC C d k = C ∧ actW C W N d t k = W) ∨
    ((d = 0 ∨ d = 1) ∧ 0 < C + k ∧ actE C W N d t k = 0 ∧ actL C W d k = [] ∧ actC C d k = C + k ∧ actW C W N d t k = W) ∨
    ((d = 0 ∨ d = 1) ∧ C + k = 0 ∧ actE C W N d t k = 0 ∧ actL C W d k = W ∧ actC C d k = 0 ∧ actW C W N d t k = []) ∨
    (d = 2 ∧ actE C W N d t k ≠ 0 ∧ actB C W N d t = false ∧ actC C d k = C ∧ actW C W N d t k = W) ∨
    (d = 2 ∧ actE C W N d t k = 0 ∧ actB C W N d t = true ∧ C = 0 ∧ actC C d k = C ∧ actW C W N d t k = W) ∨
    (d = 2 ∧ actE C W N d t k = 0 ∧ actB C W N d t = false ∧ C ≠ 0 ∧ actC C d k = C ∧ actW C W N d t k = W ++ [t]) ∨
    (d = 3 ∧ actE C W N d t k = 0 ∧ actB C W N d t = true ∧ actC C d k = C ∧ actW C W N d t k = withoutL W t) ∨
    ((d = 3 ∨ (d ≠ 0 ∧ d ≠ 1 ∧ d ≠ 2 ∧ d ≠ 3)) ∧ actE C W N d t k = 0 ∧ actB C W N d t = false ∧ actC C d k = C ∧ actW C W N d t k = W) := by
  have hadd : (d = 0 ∨ d = 1) → actE C W N d t k = addE C k ∧ actL C W d k = addL C W k ∧ actC C d k = addC C k ∧ actW C W N d t k = addW C W k := by
    rintro (rfl | rfl)
    · exact ⟨rfl, rfl, rfl, rfl⟩
    · rw [h1 rfl]; exact ⟨rfl, rfl, rfl, rfl⟩
  rcases (by omega : (d = 0 ∨ d = 1) ∨ d = 2 ∨ d = 3 ∨ (d ≠ 0 ∧ d ≠ 1 ∧ d ≠ 2 ∧ d ≠ 3)) with h01 | rfl | rfl | ⟨d0, d1, d2, d3⟩
  · obtain ⟨e1, e2, e3, e4⟩ := hadd h01
    rw [e1, e2, e3, e4]
    rcases add_cases hok k with ⟨h0, g0, g1, g2, g3⟩ | ⟨h0, _⟩ | ⟨h0, _, g0, g1, g2, g3⟩ | ⟨h0, g0, g1, g2, g3⟩
    · exact .inl ⟨h01, h0, g0, g2, g1, g3⟩
    · omega
    · exact .inr (.inl ⟨h01, h0, g0, g2, g1, g3⟩)
    · exact .inr (.inr (.inl ⟨h01, h0, g0, g2, g1, g3⟩))
  · rcases wt_cases hok t with ⟨g0, g1, g2⟩ | ⟨g0, hC, hW, g1, g2, _⟩ | ⟨g0, hC, _, g1, g2, _⟩
    · exact .inr (.inr (.inr (.inl ⟨rfl, g0, g1, rfl, g2⟩)))
    · exact .inr (.inr (.inr (.inr (.inl ⟨rfl, g0, g1, hC, rfl, g2.trans hW.symm⟩))))
    · exact .inr (.inr (.inr (.inr (.inr (.inl ⟨rfl, g0, g1, by omega, rfl, g2⟩)))))
  · cases hb : inL W t with
    | true => exact .inr (.inr (.inr (.inr (.inr (.inr (.inl ⟨rfl, rfl, hb, rfl, rfl⟩))))))
    | false => exact .inr (.inr (.inr (.inr (.inr (.inr (.inr ⟨.inl rfl, rfl, hb, rfl, without_id hb⟩))))))
  · obtain ⟨_, g1, g2, g3, g4⟩ := act_no (C := C) (W := W) (N := N) (t := t) (k := k) d0 d1 d2 d3
    exact .inr (.inr (.inr (.inr (.inr (.inr (.inr ⟨.inr ⟨d0, d1, d2, d3⟩, g2, g1, g3, g4⟩))))))
theorem slide_nil {B : Nat → Prop} {w wk : World} {Rs : List Res} (h : Sep B w wk Rs) (e : TypeId) : Sep B w wk (slide e (.slice none 0 0) [] :: Rs) := (h.growN0 intE e).slide 0 rfl

set_option maxHeartbeats 8000000 in
set_option maxRecDepth 100000 in
theorem told_walk (I : Wg) (A : Option Addr) (len cap : Nat) (zs : List Ac) (w : World) (hlen : len ≤ 9223372036854775807) (hz : ZsIn w A len cap zs) :
    Calls Try.prog 4 #[.slice A len cap] w fun e w' => e = .returned (.bool true) ∧ Below w.heap.size w w' := by
  have HZ := Lib.hid hz
  clear hz
  by_cases h60 : 100 < len
  · go_enter Try.func4, Try.ntmps4
    go_wp2_with fail
    refine (awake_any I _).mono ?_
    rintro e w1 ⟨rfl, hb1⟩
    have HB := Lib.hid hb1
    clear hb1
    go_wp2
    go_ret
    exact ⟨rfl, HB.out⟩
  · obtain ⟨hzl, hzr, hzo⟩ := HZ.out (by omega)
    subst hzl
    have HZR := Lib.hid hzr
    have HZO := Lib.hid hzo
    clear hzr hzo HZ
    go_enter Try.func4, Try.ntmps4
    go_wp2_with fail
    refine (awake_any I _).mono ?_
    rintro e w1 ⟨rfl, hb1⟩
    have S1 := Lib.hid ((Sep.nil (fun _ => False) w).next hb1)
    clear hb1
    go_wp2_with fail
    refine (m_new S1.out I 20 (by omega) (by omega)).mono ?_
    rintro e w2 ⟨a, rfl, h2'⟩
    have S2 := Lib.hid ((h2'.grow0 intE 3).slide 0 rfl)
    clear h2' S1
    go_wp2
    go_loopw [5, 6, 26] (fun u5 u6 u wr => ∃ j : Nat, j ≤ zs.length ∧ u = .int .i64 j ∧ ∃ (C : Int) (W : List Int) (Ar : Option Addr) (cr : Nat), u5 = .int .i64 C ∧ u6 = .slice Ar W.length cr ∧ Hid (C ≤ j * 1099511627776) ∧ Hid (Sep (fun _ => False) w wr [slide 3 (.slice Ar W.length cr) W, ob I.O (.pointer (some a)) (C, W, 20)])) (fun _ _ u _ => zs.length - (intOf u).toNat)
    case atStart => exact ⟨0, Nat.zero_le _, rfl, 0, [], _, 0, rfl, rfl, by show _ ≤ _; omega, S2.out⟩
    case round =>
      obtain ⟨j, hj, rfl, C, W, Ar, cr, rfl, rfl, HCJ, SL⟩ := hrel
      clear S2
      by_cases hlt : j < zs.length
      · have hx : zs[j]? = some zs[j] := List.getElem?_eq_getElem hlt
        generalize zs[j] = z at hx
        obtain ⟨hd64, ht64, hk64⟩ := HZO.out z (List.mem_of_getElem? hx)
        obtain ⟨bb, off, rfl, hbb, c0, c1, c2⟩ := ac_cells HZR.out hx
        have hb := SL.out.old
        have q0 := (hb.cell (p := ⟨bb, off + j * 3, none⟩) hbb).trans c0
        have q1 := (hb.cell (p := ⟨bb, off + j * 3 + 1, none⟩) hbb).trans c1
        have q2 := (hb.cell (p := ⟨bb, off + j * 3 + 2, none⟩) hbb).trans c2
        obtain ⟨d, t, k⟩ := z
        simp only at q0 q1 q2 ht64 hk64
        have S4 := Lib.hid (SL.out.new (.cells #[.int .i64 d, .int .i64 t, .int .i64 k] 32))
        have HT64 := Lib.hid ht64
        have hok := m_ok SL.out 1 rfl
        have HOK := Lib.hid hok
        have hwl := hok.wlen
        clear hx c0 c1 c2 hb hd64 ht64 hk64 hok
        rcases (by omega : k < -1099511627776 ∨ (-1099511627776 ≤ k ∧ 1099511627776 < k) ∨ (-1099511627776 ≤ k ∧ k ≤ 1099511627776)) with hk1 | ⟨hk0, hk1⟩ | ⟨hk0, hk1⟩
        · have HB := Lib.hid SL.out.old.size
          go_wp2
          go_ret
          exact ⟨rfl, S4.out.old⟩
        · go_wp2
          go_ret
          exact ⟨rfl, S4.out.old⟩
        · obtain ⟨k2, hk2⟩ : ∃ k2, (if d = 1 then (-1 : Int) else k) = k2 := ⟨_, rfl⟩
          have K2 : Hid ((d = 1 → k2 = -1) ∧ (d ≠ 1 → k2 = k)) := ⟨fun h => by rw [← hk2, if_pos h], fun h => by rw [← hk2, if_neg h]⟩
          have KB : Hid (-1099511627776 ≤ k2 ∧ k2 ≤ 1099511627776) := by
            obtain ⟨h1, h2⟩ := K2.out
            by_cases h : d = 1
            · have := h1 h; exact ⟨by omega, by omega⟩
            · have := h2 h; exact ⟨by omega, by omega⟩
          clear hk2
          go_upto_if 40 with (fail)
          go_cut [] (fun wx => Hid (Sep (fun _ => False) w wx [blk wr.heap.size (.cells #[.int .i64 d, .int .i64 t, .int .i64 k2] 32), slide 3 (.slice Ar W.length cr) W, ob I.O (.pointer (some a)) (C, W, 20)]))
          case first => as_aux_lemma =>
            by_cases h1 : d = 1
            · have hk := K2.out.1 h1
              subst h1 hk
              have S5 := Lib.hid (SL.out.new (.cells #[.int .i64 1, .int .i64 t, .int .i64 (-1)] 32))
              clear K2 HCJ HOK
              go_wp2
              go_meet
              exact S5
            · have hk := K2.out.2 h1
              have e1 : (d == 1) = false := by simpa using h1
              subst hk
              clear K2 HCJ h1 HOK
              go_wp2
              go_meet
              exact S4
          case rest => as_aux_lemma =>
            have S5 := hcut
            clear S4 SL q0 q1 q2 hcut
            have a0 : wc.cell? ⟨wr.heap.size, 0, none⟩ = some (.int .i64 d) := (cell_block (S5.out.blk_at 0 rfl) 0).trans rfl
            have a1 : wc.cell? ⟨wr.heap.size, 1, none⟩ = some (.int .i64 t) := (cell_block (S5.out.blk_at 0 rfl) 1).trans rfl
            have a2 : wc.cell? ⟨wr.heap.size, 2, none⟩ = some (.int .i64 k2) := (cell_block (S5.out.blk_at 0 rfl) 2).trans rfl
            have HP := Lib.hid (told_plain HOK.out d t k2 (by have := KB.out; have := HCJ.out; omega) K2.out.1)
            have hk64 : Hid (In64 k2) := ⟨by have := KB.out; omega, by have := KB.out; omega⟩
            have C0 := HOK.out.c0
            obtain ⟨z, hz⟩ : ∃ z, z = C + k2 := ⟨_, rfl⟩
            rw [← hz] at HP
            have hw1 : IntKind.i64.wrap (C + k2) = z := by rw [hz]; exact IntWalk.i64_in _ (by have := KB.out; have := HCJ.out; omega)
            have HZ2 : Hid (z ≤ (j + 1) * 1099511627776) := by show _ ≤ _; have := KB.out; have := HCJ.out; omega
            have HC2 : Hid (C ≤ (j + 1) * 1099511627776) := by show _ ≤ _; have := HCJ.out; omega
            clear hz hk0 hk1 KB K2 HCJ
            obtain ⟨E, hE⟩ : ∃ E, actE C W 20 d t k2 = E := ⟨_, rfl⟩
            obtain ⟨Bo, hBo⟩ : ∃ Bo, actB C W 20 d t = Bo := ⟨_, rfl⟩
            obtain ⟨L2, hL2⟩ : ∃ L2, actL C W d k2 = L2 := ⟨_, rfl⟩
            obtain ⟨C2, hC2⟩ : ∃ C2, actC C d k2 = C2 := ⟨_, rfl⟩
            obtain ⟨W2, hW2⟩ : ∃ W2, actW C W 20 d t k2 = W2 := ⟨_, rfl⟩
            have KE := Lib.hid hE
            have KB := Lib.hid hBo
            have KL := Lib.hid hL2
            have KC := Lib.hid hC2
            have KW := Lib.hid hW2
            rw [hE, hBo, hL2, hC2, hW2] at HP
            clear hE hBo hL2 hC2 hW2
            have HCB : Hid (C2 ≤ (j + 1) * 1099511627776) := by
              show _ ≤ _
              have h1 := HZ2.out
              have h2 := HC2.out
              rcases HP.out with ⟨_, _, _, _, h, _⟩ | ⟨_, _, _, _, h, _⟩ | ⟨_, _, _, _, h, _⟩ | ⟨_, _, _, h, _⟩ | ⟨_, _, _, _, h, _⟩ | ⟨_, _, _, _, h, _⟩ | ⟨_, _, _, h, _⟩ | ⟨_, _, _, h, _⟩ <;> omega
            clear HZ2 HC2
            go_wp2_with fail
            refine (m_do S5.out 2 rfl d t k2 HT64.out hk64.out).mono ?_
            rw [KE.out, KB.out, KL.out, KC.out, KW.out]
            rintro e w5 ⟨Ao, co, rfl, h5⟩
            have S6 : Hid (Sep (fun _ => False) w w5 [slide 3 (.slice Ar W.length cr) W, nums (.slice Ao L2.length co) L2, blk wr.heap.size (.cells #[.int .i64 d, .int .i64 t, .int .i64 k2] 32), ob I.O (.pointer (some a)) (C2, W2, 20)]) := Sep.perm h5 (by exact (List.perm_append_comm (l₁ := [_, _]) (l₂ := [_])).append_right [_])
            clear h5 S5 a0 a1 a2 KE KB KL KC KW
            have a0 : w5.cell? ⟨wr.heap.size, 0, none⟩ = some (.int .i64 d) := (cell_block (S6.out.blk_at 2 rfl) 0).trans rfl
            have a2 : w5.cell? ⟨wr.heap.size, 2, none⟩ = some (.int .i64 k2) := (cell_block (S6.out.blk_at 2 rfl) 2).trans rfl
            obtain ⟨b01, hb01⟩ : ∃ b, decide (d = 0 ∨ d = 1) = b := ⟨_, rfl⟩
            have HB01 := Lib.hid hb01
            clear hb01
            go_upto_region 17 with (fail)
            go_cut [56] (fun s56 wx => s56 = .bool b01 ∧ wx = w5)
            case first => as_aux_lemma =>
              rcases (by omega : d = 0 ∨ d = 1 ∨ (d ≠ 0 ∧ d ≠ 1)) with rfl | rfl | ⟨h0, h1⟩
              · have hb : Hid (b01 = true) := by have := HB01.out; exact this.symm
                clear HB01 HP
                go_wp2
                go_meet
                exact ⟨by rw [hb.out], rfl⟩
              · have hb : Hid (b01 = true) := by have := HB01.out; exact this.symm
                clear HB01 HP
                go_wp2
                go_meet
                exact ⟨by rw [hb.out], rfl⟩
              · have hb : Hid (b01 = false) := by have := HB01.out; rw [decide_eq_false (by omega)] at this; exact this.symm
                have e0 : (d == 0) = false := by simpa using h0
                have e1 : (d == 1) = false := by simpa using h1
                clear HB01 HP h0 h1
                go_wp2
                go_meet
                exact ⟨by rw [hb.out], rfl⟩
            case rest => as_aux_lemma =>
            obtain ⟨rfl, rfl⟩ := hcut
            obtain ⟨W3, hW3⟩ : ∃ W3, (if d = 0 ∨ d = 1 then W2 else W) = W3 := ⟨_, rfl⟩
            have K3 : Hid (((d = 0 ∨ d = 1) → W3 = W2) ∧ (¬ (d = 0 ∨ d = 1) → W3 = W)) := ⟨fun h => by rw [← hW3, if_pos h], fun h => by rw [← hW3, if_neg h]⟩
            clear hW3
            go_upto_if 56 with (fail)
            go_cut [5, 6] (fun s5 s6 wx => s5 = .int .i64 C2 ∧ ∃ A7 c7, s6 = .slice A7 W3.length c7 ∧ Hid (Sep (fun _ => False) w wx [slide 3 (.slice A7 W3.length c7) W3, blk wr.heap.size (.cells #[.int .i64 d, .int .i64 t, .int .i64 k2] 32), ob I.O (.pointer (some a)) (C2, W2, 20)]))
            case first => as_aux_lemma =>
              cases hbb : b01 with
              | true =>
                have h01 : d = 0 ∨ d = 1 := of_decide_eq_true (HB01.out.trans hbb)
                have h3 := K3.out.1 h01
                subst h3
                rcases HP.out with ⟨_, hz, rfl, rfl, rfl, rfl⟩ | ⟨_, hz, rfl, rfl, rfl, rfl⟩ | ⟨_, rfl, rfl, rfl, rfl, rfl⟩ | ⟨h, _⟩ | ⟨h, _⟩ | ⟨h, _⟩ | ⟨h, _⟩ | ⟨h, _⟩
                · have S7 := Lib.hid (S6.out.sub (.cons_cons _ (.cons _ (List.Sublist.refl _))))
                  have dz : decide (z ≥ 0) = false := by simp; omega
                  simp only [List.length_nil]
                  clear K3 HP S6 HCB HB01 h01 hbb
                  go_wp2
                  go_meet
                  exact ⟨rfl, _, _, rfl, S7⟩
                · have S7 := Lib.hid (S6.out.sub (.cons_cons _ (.cons _ (List.Sublist.refl _))))
                  have dz : decide (C2 ≥ 0) = true := by simp; omega
                  have ez : (C2 == 0) = false := by simp; omega
                  simp only [List.length_nil]
                  clear K3 HP S6 HCB HB01 h01 hbb
                  go_wp2
                  go_meet
                  exact ⟨rfl, _, _, rfl, S7⟩
                · clear K3 HP HCB HB01 h01 hbb
                  go_wp2_with fail
                  refine (same_d (S6.out.rd 1 rfl) (S6.out.srd 0 rfl (by omega)) rfl).mono ?_
                  rintro e w6 ⟨rfl, hb6⟩
                  have S7 := Lib.hid (slide_nil (S6.out.next hb6).tail.tail 3)
                  clear hb6 S6
                  go_wp2
                  go_meet
                  exact ⟨rfl, _, _, rfl, S7⟩
                all_goals (exfalso; omega)
              | false =>
                have h01 : ¬ (d = 0 ∨ d = 1) := of_decide_eq_false (HB01.out.trans hbb)
                have h3 := K3.out.2 h01
                have hC : C = C2 := by
                  rcases HP.out with ⟨h, _⟩ | ⟨h, _⟩ | ⟨h, _⟩ | ⟨_, _, _, h, _⟩ | ⟨_, _, _, _, h, _⟩ | ⟨_, _, _, _, h, _⟩ | ⟨_, _, _, h, _⟩ | ⟨_, _, _, h, _⟩
                  · exact absurd h h01
                  · exact absurd h h01
                  · exact absurd h h01
                  all_goals exact h.symm
                subst h3 hC
                have S7 := Lib.hid (S6.out.sub (.cons_cons _ (.cons _ (List.Sublist.refl _))))
                clear K3 HP h01 S6 HCB HB01 hbb
                go_wp2
                go_meet
                exact ⟨rfl, _, _, rfl, S7⟩
            case rest => as_aux_lemma =>
            obtain ⟨rfl, A7, c7, rfl, S7⟩ := hcut
            clear S6 a0 a2 hw1 HB01
            have a0 : wc.cell? ⟨wr.heap.size, 0, none⟩ = some (.int .i64 d) := (cell_block (S7.out.blk_at 1 rfl) 0).trans rfl
            obtain ⟨b2, hb2⟩ : ∃ b, decide (d = 2 ∧ E = 0) = b := ⟨_, rfl⟩
            have HB2 := Lib.hid hb2
            clear hb2
            go_upto_region 28 with (fail)
            go_cut [90] (fun s90 wx => s90 = .bool b2 ∧ wc = wx)
            case first => as_aux_lemma =>
              by_cases h2 : d = 2
              · subst h2
                by_cases hE : E = 0
                · have hb : Hid (b2 = true) := by have := HB2.out; rw [decide_eq_true ⟨rfl, hE⟩] at this; exact this.symm
                  subst hE
                  clear HB2 HP
                  go_wp2
                  go_meet
                  exact ⟨by rw [hb.out], rfl⟩
                · have hb : Hid (b2 = false) := by have := HB2.out; rw [decide_eq_false (fun h => hE h.2)] at this; exact this.symm
                  have e1 : (E == 0) = false := by simpa using hE
                  clear HB2 HP hE
                  go_wp2
                  go_meet
                  exact ⟨by rw [hb.out], rfl⟩
              · have hb : Hid (b2 = false) := by have := HB2.out; rw [decide_eq_false (fun h => h2 h.1)] at this; exact this.symm
                have e1 : (d == 2) = false := by simpa using h2
                clear HB2 HP h2
                go_wp2
                go_meet
                exact ⟨by rw [hb.out], rfl⟩
            case rest => as_aux_lemma =>
            obtain ⟨rfl, rfl⟩ := hcut
            obtain ⟨W4, hW4⟩ : ∃ W4, (if d = 3 then W else W2) = W4 := ⟨_, rfl⟩
            have K4 : Hid ((d = 3 → W4 = W) ∧ (d ≠ 3 → W4 = W2)) := ⟨fun h => by rw [← hW4, if_pos h], fun h => by rw [← hW4, if_neg h]⟩
            clear hW4
            go_upto_if 90 with (fail)
            go_cut [6] (fun s6 wx => ∃ A8 c8, s6 = .slice A8 W4.length c8 ∧ Hid (Sep (fun _ => False) w wx [slide 3 (.slice A8 W4.length c8) W4, blk wr.heap.size (.cells #[.int .i64 d, .int .i64 t, .int .i64 k2] 32), ob I.O (.pointer (some a)) (C2, W2, 20)]))
            case first => as_aux_lemma =>
              have h34 : (d = 2 ∧ E = 0 ∧ Bo = true ∧ b2 = true ∧ C2 = 0 ∧ W4 = W3) ∨ (d = 2 ∧ E = 0 ∧ Bo = false ∧ b2 = true ∧ C2 ≠ 0 ∧ W4 = W3 ++ [t]) ∨ (b2 = false ∧ W4 = W3) := by
                have hb := HB2.out
                rcases HP.out with ⟨h, _⟩ | ⟨h, _⟩ | ⟨h, _⟩ | ⟨h, hE, _, hC, hW⟩ | ⟨h, hE, hB, hC0, hC, hW⟩ | ⟨h, hE, hB, hC0, hC, hW⟩ | ⟨h, _⟩ | ⟨h, _, _, _, hW⟩
                · exact .inr (.inr ⟨by rw [← hb]; exact decide_eq_false (by omega), by rw [K4.out.2 (by omega), K3.out.1 h]⟩)
                · exact .inr (.inr ⟨by rw [← hb]; exact decide_eq_false (by omega), by rw [K4.out.2 (by omega), K3.out.1 h]⟩)
                · exact .inr (.inr ⟨by rw [← hb]; exact decide_eq_false (by omega), by rw [K4.out.2 (by omega), K3.out.1 h]⟩)
                · exact .inr (.inr ⟨by rw [← hb]; exact decide_eq_false fun h => hE h.2, by rw [K4.out.2 (by omega), K3.out.2 (by omega), hW]⟩)
                · exact .inl ⟨h, hE, hB, by rw [← hb]; exact decide_eq_true ⟨h, hE⟩, by omega, by rw [K4.out.2 (by omega), K3.out.2 (by omega), hW]⟩
                · exact .inr (.inl ⟨h, hE, hB, by rw [← hb]; exact decide_eq_true ⟨h, hE⟩, by omega, by rw [K4.out.2 (by omega), K3.out.2 (by omega), hW]⟩)
                · exact .inr (.inr ⟨by rw [← hb]; exact decide_eq_false (by omega), by rw [K4.out.1 h, K3.out.2 (by omega)]⟩)
                · refine .inr (.inr ⟨by rw [← hb]; exact decide_eq_false (by omega), ?_⟩)
                  rw [K3.out.2 (by omega)]
                  by_cases h3 : d = 3
                  · exact K4.out.1 h3
                  · rw [K4.out.2 h3, hW]
              have hwl3 : W3.length ≤ 1000 := by
                by_cases h : d = 0 ∨ d = 1
                · rw [K3.out.1 h]; exact (m_ok S7.out 2 rfl).wlen
                · rw [K3.out.2 h]; exact hwl
              clear HP HB2 K3 K4
              rcases h34 with ⟨rfl, rfl, rfl, rfl, rfl, rfl⟩ | ⟨rfl, rfl, rfl, rfl, hC, h4⟩ | ⟨rfl, rfl⟩
              · go_wp2
                go_meet
                exact ⟨_, _, rfl, S7⟩
              · have ec : (C2 == 0) = false := by simpa using hC
                have H4 := Lib.hid h4
                have a1 : wc.cell? ⟨wr.heap.size, 1, none⟩ = some (.int .i64 t) := (cell_block (S7.out.blk_at 1 rfl) 1).trans rfl
                have HY : Hid ((wc.alloc (.cells #[.int .i64 t] 3)).cell? ⟨wc.heap.size, 0, none⟩ = some (.int .i64 t)) := by show _ = _; rw [cell_block (heap_alloc_new wc _)]; rfl
                clear hC h4
                go_wp2_with (at_builtin; refine wpList_appQ rfl _ _ intElemL rfl rfl rfl (S7.out.next (new_below0 _ _)) 0 rfl HY.out (by omega) ?_; intro A3 c3 w6 l3 HL3 h3)
                have hl3 : l3 = W4 := HL3.out.trans H4.out.symm
                have S8 := Lib.hid h3
                clear h3 HL3
                subst hl3
                go_wp2
                go_meet
                exact ⟨_, _, rfl, S8⟩
              · go_wp2
                go_meet
                exact ⟨_, _, rfl, S7⟩
            case rest => as_aux_lemma =>
            obtain ⟨A8, c8, rfl, S8⟩ := hcut
            clear S7 a0 HB2 K3
            have a0 : wc.cell? ⟨wr.heap.size, 0, none⟩ = some (.int .i64 d) := (cell_block (S8.out.blk_at 1 rfl) 0).trans rfl
            obtain ⟨b3, hb3⟩ : ∃ b, decide (d = 3 ∧ Bo = true) = b := ⟨_, rfl⟩
            have HB3 := Lib.hid hb3
            clear hb3
            go_upto_region 33 with (fail)
            go_cut [107] (fun s107 wx => s107 = .bool b3 ∧ wc = wx)
            case first => as_aux_lemma =>
              by_cases h3 : d = 3
              · subst h3
                have hb : Hid (b3 = Bo) := HB3.out.symm.trans (by cases Bo <;> simp : decide ((3 : Int) = 3 ∧ Bo = true) = Bo)
                clear HB3 HP K4
                go_wp2
                go_meet
                exact ⟨by rw [hb.out], rfl⟩
              · have hb : Hid (b3 = false) := by have := HB3.out; rw [decide_eq_false (fun h => h3 h.1)] at this; exact this.symm
                have e1 : (d == 3) = false := by simpa using h3
                clear HB3 HP h3 K4
                go_wp2
                go_meet
                exact ⟨by rw [hb.out], rfl⟩
            case rest => as_aux_lemma =>
            obtain ⟨rfl, rfl⟩ := hcut
            go_upto_if 107 with (fail)
            go_cut [6] (fun s6 wx => ∃ A9 c9, s6 = .slice A9 W2.length c9 ∧ Hid (Sep (fun _ => False) w wx [slide 3 (.slice A9 W2.length c9) W2, ob I.O (.pointer (some a)) (C2, W2, 20)]))
            case first => as_aux_lemma =>
              have h5 : (b3 = true ∧ W2 = withoutL W4 t ∧ W4 = W) ∨ (b3 = false ∧ W4 = W2) := by
                have hb := HB3.out
                rcases HP.out with ⟨h, _⟩ | ⟨h, _⟩ | ⟨h, _⟩ | ⟨h, _⟩ | ⟨h, _⟩ | ⟨h, _⟩ | ⟨h, _, hB, _, hW⟩ | ⟨h, _, hB, _, hW⟩
                · exact .inr ⟨by rw [← hb]; exact decide_eq_false (by omega), K4.out.2 (by omega)⟩
                · exact .inr ⟨by rw [← hb]; exact decide_eq_false (by omega), K4.out.2 (by omega)⟩
                · exact .inr ⟨by rw [← hb]; exact decide_eq_false (by omega), K4.out.2 (by omega)⟩
                · exact .inr ⟨by rw [← hb]; exact decide_eq_false (by omega), K4.out.2 (by omega)⟩
                · exact .inr ⟨by rw [← hb]; exact decide_eq_false (by omega), K4.out.2 (by omega)⟩
                · exact .inr ⟨by rw [← hb]; exact decide_eq_false (by omega), K4.out.2 (by omega)⟩
                · exact .inl ⟨by rw [← hb]; exact decide_eq_true ⟨h, hB⟩, by rw [K4.out.1 h, hW], K4.out.1 h⟩
                · refine .inr ⟨by rw [← hb]; exact decide_eq_false (fun h => by rw [hB] at h; cases h.2), ?_⟩
                  by_cases h3 : d = 3
                  · rw [K4.out.1 h3, hW]
                  · exact K4.out.2 h3
              clear HP HB3 K4
              rcases h5 with ⟨rfl, h6, rfl⟩ | ⟨rfl, rfl⟩
              · have a1 : wc.cell? ⟨wr.heap.size, 1, none⟩ = some (.int .i64 t) := (cell_block (S8.out.blk_at 1 rfl) 1).trans rfl
                have H6 := Lib.hid h6
                clear h6
                go_wp2_with fail
                refine (without_g S8.out (S8.out.srd 0 rfl (by omega)) t).mono ?_
                rw [← H6.out]
                rintro e w6 ⟨A6, c6, rfl, h6, _, _⟩
                have S9 := Lib.hid ((h6.slide 0 rfl).sub (.cons_cons _ (.cons _ (.cons _ (List.Sublist.refl _)))))
                clear h6 S8
                go_wp2
                go_meet
                exact ⟨_, _, rfl, S9⟩
              · have S9 := Lib.hid (S8.out.sub (.cons_cons _ (.cons _ (List.Sublist.refl _))))
                clear S8
                go_wp2
                go_meet
                exact ⟨_, _, rfl, S9⟩
            case rest => as_aux_lemma =>
            obtain ⟨A9, c9, rfl, S9⟩ := hcut
            clear S8 a0 HB3 K4 HP
            have hok := m_ok S9.out 1 rfl
            have hwl2 := hok.wlen
            have hcs : (C2 = 0 ∧ W2 = []) ∨ C2 ≠ 0 := by
              by_cases h : C2 = 0
              · exact .inl ⟨h, hok.idle h⟩
              · exact .inr h
            clear hok
            rcases hcs with ⟨rfl, rfl⟩ | hc
            · go_wp2_with fail
              refine (m_count S9.out 1 rfl).mono ?_
              rintro e w7 ⟨rfl, h7, _⟩
              have SA := Lib.hid h7
              clear h7 S9
              go_wp2_with fail
              refine (m_waiting SA.out 1 rfl).mono ?_
              rintro e w8 ⟨A10, c10, rfl, h8, _⟩
              have SB := Lib.hid h8
              clear h8 SA
              go_wp2_with fail
              refine (same_d (SB.out.rd 0 rfl) (SB.out.srd 1 rfl (by simp)) rfl).mono ?_
              rintro e w9 ⟨rfl, hb9⟩
              have SC := Lib.hid (SB.out.next hb9).tail
              clear hb9 SB
              go_wp2
              go_roundw
              case rel => exact ⟨j + 1, by omega, by go_num, _, [], _, _, rfl, rfl, HCB, SC⟩
              case measure => simp [intOf]; omega
            · have ec : (C2 == 0) = false := by simpa using hc
              clear hc
              go_wp2_with fail
              refine (m_count S9.out 1 rfl).mono ?_
              rintro e w7 ⟨rfl, h7, _⟩
              have SA := Lib.hid h7
              have en : (C2 != C2) = false := by simp
              clear h7 S9
              go_wp2_with fail
              refine (m_waiting SA.out 1 rfl).mono ?_
              rintro e w8 ⟨A10, c10, rfl, h8, _⟩
              have SB := Lib.hid h8
              clear h8 SA
              go_wp2_with fail
              refine (same_d (SB.out.rd 0 rfl) (SB.out.srd 1 rfl (by omega)) rfl).mono ?_
              rintro e w9 ⟨rfl, hb9⟩
              have SC := Lib.hid (SB.out.next hb9).tail
              clear hb9 SB
              go_wp2
              go_roundw
              case rel => exact ⟨j + 1, by omega, by go_num, _, _, _, _, rfl, rfl, HCB, SC⟩
              case measure => simp [intOf]; omega
      · have HB := Lib.hid SL.out.old
        go_wp2
        go_ret
        exact ⟨rfl, HB.out⟩
end Go.Proofs.Ytjojpejhmengaaa.WaitsI
