/-
  The walk of the law TreeReaches over any package that meets 'Tr': it returns true and leaves old memory as it was. Conditions: none but 'Tr'.
-/
import Derived.Test.YtgmbpknmjeegiaaTreeM
namespace Go.Proofs.Ytgmbpknmjeegiaa.TreeI
open Go.ChangeShapes Go.WideShapes Go.ChangeAt Go.RowKit Mem TreeP RefTree Hand

/-- An act, as it lies in a slice. -/
def actE : Enc (Bool × Bool × Int) := ⟨3, fun x => [.bool x.1, .bool x.2.1, .int .i64 x.2.2], fun _ => rfl, by intro a u hu; simp at hu; rcases hu with rfl | rfl | rfl <;> rfl, by omega⟩
theorem act_cells {w : World} {G : Nat → Prop} {A : Option Addr} {n c : Nat} {L : List (Bool × Bool × Int)} (h : RdL actE w G (.slice A n c) L) {i : Nat} {a : Bool × Bool × Int} (hi : L[i]? = some a) :
    ∃ b off, A = some ⟨b, off, none⟩ ∧ G b ∧ b < w.heap.size ∧ w.cell? ⟨b, off + i * 3, none⟩ = some (.bool a.1) ∧ w.cell? ⟨b, off + i * 3 + 1, none⟩ = some (.bool a.2.1) ∧ w.cell? ⟨b, off + i * 3 + 2, none⟩ = some (.int .i64 a.2.2) := by
  obtain ⟨b, off, hA, hg, hb, hc⟩ := h.at_ hi
  exact ⟨b, off, hA, hg, hb, hc 0 _ rfl, hc 1 _ rfl, hc 2 _ rfl⟩
theorem rd_below {w w' : World} {v : Value} {l : List Int} (h : Rd w (fun _ => True) v l) (hb : Below w.heap.size w w') : Rd w' (fun _ => True) v l := h.below hb

set_option maxHeartbeats 4000000 in
set_option maxRecDepth 100000 in
theorem reaches_walk (I : Tr) (A : Option Addr) (len cap : Nat) (zs : List (Bool × Bool × Int)) (a1 a2 : Int) (w : World) (hlen : len ≤ 9223372036854775807) (h10 : 0 ≤ a1) (h11 : a1 ≤ 255) (h20 : 0 ≤ a2) (h21 : a2 ≤ 255)
    (hz : len ≤ 1000000 → zs.length = len ∧ RdL actE w (fun b => b < w.heap.size) (.slice A len cap) zs ∧ ∀ z ∈ zs, In64 z.2.2) :
    Calls Try.prog 4 #[.slice A len cap, .int .u8 a1, .int .u8 a2] w fun e w' => e = .returned (.bool true) ∧ Below w.heap.size w w' := by
  have HZ := Lib.hid hz
  clear hz
  by_cases h40 : len ≤ 40
  · obtain ⟨hzl, hzr, hzo⟩ := HZ.out (by omega)
    have HZL := Lib.hid hzl
    have HZR := Lib.hid hzr
    have HZO := Lib.hid hzo
    clear hzl hzr hzo HZ
    go_enter Try.func4, Try.ntmps4
    go_wp2_with fail
    refine (awake_any I _).mono ?_
    rintro e w1 ⟨rfl, hb1⟩
    have S1 := Lib.hid ((Sep.nil (fun _ => False) w).next hb1)
    clear hb1
    go_wp2_with fail
    refine (t_new S1.out I 40 (by omega) (by omega)).mono ?_
    rintro e w2 ⟨a, rfl, h2⟩
    have S2 := Lib.hid h2
    clear h2 S1
    go_wp2
    go_loopw [30] (fun u wr => ∃ j : Nat, j ≤ len ∧ u = .int .i64 j ∧ Hid (∃ L, Sep (fun _ => False) w wr [tr I (.pointer (some a)) L 40])) (fun u _ => len - (intOf u).toNat)
    case atStart => exact ⟨0, Nat.zero_le _, rfl, _, S2.out⟩
    case round =>
      obtain ⟨j, hj, rfl, HS⟩ := hrel
      obtain ⟨L, hS⟩ := HS.out
      have SL := Lib.hid hS
      clear HS hS S2
      by_cases hlt : j < len
      · have hx : zs[j]? = some (zs[j]'(by rw [HZL.out]; exact hlt)) := List.getElem?_eq_getElem _
        generalize zs[j]'(by rw [HZL.out]; exact hlt) = z at hx
        have hze := HZO.out z (List.mem_of_getElem? hx)
        have HE := Lib.hid hze
        obtain ⟨bb, off, rfl, _, hbb, c0, c1, c2⟩ := act_cells HZR.out hx
        have hb := SL.out.old
        have q0 := (hb.cell (p := ⟨bb, off + j * 3, none⟩) hbb).trans c0
        have q1 := (hb.cell (p := ⟨bb, off + j * 3 + 1, none⟩) hbb).trans c1
        have q2 := (hb.cell (p := ⟨bb, off + j * 3 + 2, none⟩) hbb).trans c2
        obtain ⟨r, c, o⟩ := z
        have S4 := Lib.hid (SL.out.new (.cells #[.bool r, .bool c, .int .i64 o] 32))
        clear hx hze c0 c1 c2 hb SL
        go_wp2_with fail
        refine (t_do S4.out 1 rfl r c o HE.out rfl rfl rfl).mono ?_
        rintro e w6 ⟨rfl, h6⟩
        have S6 : Hid (∃ L, Sep (fun _ => False) w w6 [tr I (.pointer (some a)) L 40]) := ⟨_, h6.tail⟩
        clear h6 S4
        go_wp2
        go_roundw
        case rel => exact ⟨j + 1, by omega, by go_num, S6⟩
        case measure => simp [intOf]; omega
      · have hok := t_ok SL.out 0 rfl
        have HOK := Lib.hid hok
        have hm40 : (L.length : Int) ≤ 40 := hok.len
        clear hok
        go_wp2_with fail
        refine (t_len SL.out 0 rfl).mono ?_
        rintro e w5 ⟨rfl, h5⟩
        have S5 := Lib.hid h5
        clear h5 SL
        rcases Nat.eq_zero_or_pos L.length with hl | hl
        · have HL0 := Lib.hid hl
          rw [hl]
          clear hl
          go_wp2_with fail
          refine (t_len S5.out 0 rfl).mono ?_
          rintro e w6 ⟨rfl, h6⟩
          rw [HL0.out]
          have S6 := Lib.hid h6
          clear h6 S5
          go_wp2
          go_ret
          exact ⟨rfl, S6.out.old⟩
        · obtain ⟨m, hm⟩ : ∃ m, L.length = m := ⟨_, rfl⟩
          have HM := Lib.hid hm
          rw [hm] at hl hm40 ⊢
          obtain ⟨x, hx⟩ : ∃ x : Nat, a1.tmod (m : Int) = x := ⟨(a1.tmod m).toNat, by have := Int.tmod_nonneg (m : Int) h10; omega⟩
          obtain ⟨y, hy⟩ : ∃ y : Nat, a2.tmod (m : Int) = y := ⟨(a2.tmod m).toNat, by have := Int.tmod_nonneg (m : Int) h20; omega⟩
          have hxm : x < m := by have := Int.tmod_lt_of_pos a1 (show (0 : Int) < m by omega); omega
          have hym : y < m := by have := Int.tmod_lt_of_pos a2 (show (0 : Int) < m by omega); omega
          have htx : there L (x : Int) = true := there_iff.2 (by rw [HM.out]; omega)
          have hty : there L (y : Int) = true := there_iff.2 (by rw [HM.out]; omega)
          have hrc := reach_count HOK.out.wf htx hty
          have hrh := reach_head HOK.out.wf htx
          have hrl := reach_len HOK.out.wf (y : Int)
          have HRC := Lib.hid hrc
          have HRH := Lib.hid hrh
          have w1x : IntKind.i64.wrap a1 = a1 := IntWalk.i64_in _ (by omega)
          have w2x : IntKind.i64.wrap a2 = a2 := IntWalk.i64_in _ (by omega)
          have w3x : IntKind.i64.wrap (x : Int) = x := IntWalk.i64_in _ (by omega)
          have w4x : IntKind.i64.wrap (y : Int) = y := IntWalk.i64_in _ (by omega)
          have m0 : ((m : Int) == 0) = false := by simp; omega
          have hml : ¬ (m : Int) < 1 := by omega
          have inx : In64 (x : Int) := ⟨by omega, by omega⟩
          have iny : In64 (y : Int) := ⟨by omega, by omega⟩
          have INX := Lib.hid inx
          have INY := Lib.hid iny
          rw [HM.out] at hrl
          clear hm htx hty hrc hrh hxm hym inx iny
          go_wp2
          go_quiet ((go_at_call 12; exact quiet_len S5.out 0 rfl _ (by rw [HM.out])))
          obtain ⟨q, hq, hc1, hc2, hc3⟩ := HRC.out
          obtain ⟨l, hxl⟩ := HRH.out
          clear HRC HRH w1x w2x w3x w4x hx hy
          generalize hrx : reachT L (x : Int) = rx at *
          generalize hcy : chainT L (y : Int) = cy at *
          generalize hry : reachT L (y : Int) = ry at *
          have HRX := Lib.hid hrx
          have HCY := Lib.hid hcy
          have HRY := Lib.hid hry
          have HC1 := Lib.hid hc1
          have HC2 := Lib.hid hc2
          have HC3 := Lib.hid hc3
          have HXL := Lib.hid hxl
          have hrxl : 0 < rx.length := by rw [hxl]; simp
          have hrx0 : rx.getD 0 0 = x := by rw [hxl]; rfl
          have HX0 := Lib.hid hrx0
          clear hrx hcy hry hc1 hc2 hc3 hxl hrx0
          go_wp2_with fail
          refine (t_reach (S5.out.drewN _) 0 rfl x INX.out HRX.out).mono ?_
          rintro e w7 ⟨A7, c7, rfl, h7, r7, _, _⟩
          have S7 := Lib.hid h7
          have R7 := Lib.hid r7
          clear h7 r7 S5
          go_wp2_with fail
          refine (in_any R7.out y).mono ?_
          rintro e w8 ⟨rfl, rfl⟩
          rw [HC1.out]
          have e1 : ¬ (1 : Int) < (q : Int) := by omega
          have e1d : decide ((1 : Int) < (q : Int)) = false := by simpa using e1
          go_wp2_with fail
          refine (t_chain S7.out 0 rfl y INY.out HCY.out).mono ?_
          rintro e w9 ⟨A9, c9, rfl, h9, r9, b9, _⟩
          have S9 := Lib.hid h9
          have R9 := Lib.hid r9
          have R79 := Lib.hid (rd_below R7.out b9)
          clear h9 r9 b9 S7 R7
          go_wp2_with fail
          refine (in_any R9.out x).mono ?_
          rintro e w10 ⟨rfl, rfl⟩
          rw [HC2.out]
          have e2 : (((q : Int) == 1) != ((q : Int) == 1)) = false := by simp
          go_wp2_with fail
          refine (t_chain S9.out 0 rfl y INY.out HCY.out).mono ?_
          rintro e w11 ⟨A11, c11, rfl, h11, r11, b11, _⟩
          have S11 := Lib.hid h11
          have R11 := Lib.hid r11
          have R711 := Lib.hid (rd_below R79.out b11)
          clear h11 r11 b11 S9 R9 R79
          go_wp2_with fail
          refine (in_any R11.out x).mono ?_
          rintro e w12 ⟨rfl, rfl⟩
          rw [HC2.out]
          have e3 : ((rx.length : Int) == 0) = false := by simp; intro e; rw [e] at hrxl; simp at hrxl
          obtain ⟨b7, o7, e7, _, _, hc7⟩ := Rd.cells R711.out hrxl
          subst e7
          have q7 := hc7 0 hrxl
          rw [HX0.out, Nat.add_zero] at q7
          have i7 : (0 : Int) < (rx.length : Int) := by omega
          clear hc7
          go_wp2_with fail
          refine (t_reach S11.out 0 rfl y INY.out HRY.out).mono ?_
          rintro e w13 ⟨A13, c13, rfl, h13, r13, b13, _⟩
          have HB13 := Lib.hid h13.old
          have R13 := Lib.hid r13
          have R713 := Lib.hid (rd_below R711.out b13)
          clear h13 r13 b13 S11 R11 R711 q7 i7 e1 e1d e2 e3
          rcases (by omega : q = 0 ∨ q = 1) with rfl | rfl
          · go_wp2
            go_loop [97] (fun t => ∃ i : Nat, i ≤ ry.length ∧ t = .int .i64 i) (fun t => ry.length - (intOf t).toNat)
            case atStart => exact ⟨0, Nat.zero_le _, rfl⟩
            case round =>
              obtain ⟨i, hi, rfl⟩ := hrel
              by_cases hlt2 : i < ry.length
              · obtain ⟨b13, o13, rfl, _, _, hc13⟩ := Rd.cells R13.out (by omega)
                have q13 := hc13 i hlt2
                clear hc13
                go_wp2
                go_round
                case rel => exact ⟨i + 1, by omega, by go_num⟩
                case measure => simp [intOf]; omega
              · go_wp2
                go_ret
                exact ⟨rfl, HB13.out⟩
          · go_wp2
            go_loop [97] (fun t => ∃ i : Nat, i ≤ ry.length ∧ t = .int .i64 i) (fun t => ry.length - (intOf t).toNat)
            case atStart => exact ⟨0, Nat.zero_le _, rfl⟩
            case round =>
              obtain ⟨i, hi, rfl⟩ := hrel
              by_cases hlt2 : i < ry.length
              · obtain ⟨b13, o13, rfl, _, _, hc13⟩ := Rd.cells R13.out (by omega)
                have q13 := hc13 i hlt2
                have hmem : ry.getD i 0 ∈ ry := by rw [List.getD_eq_getElem?_getD, List.getElem?_eq_getElem hlt2]; exact List.getElem_mem hlt2
                have HCN := Lib.hid (HC3.out (by simp) _ hmem)
                generalize ry.getD i 0 = k at *
                clear hc13 hmem
                go_wp2_with fail
                refine (in_any R713.out k).mono ?_
                rintro e w14 ⟨rfl, rfl⟩
                rw [HCN.out]
                go_wp2
                go_round
                case rel => exact ⟨i + 1, by omega, by go_num⟩
                case measure => simp [intOf]; omega
              · go_wp2
                go_ret
                exact ⟨rfl, HB13.out⟩
  · go_enter Try.func4, Try.ntmps4
    go_wp2_with fail
    refine (awake_any I _).mono ?_
    rintro e w1 ⟨rfl, hb1⟩
    have HB := Lib.hid hb1
    clear hb1
    go_wp2
    go_ret
    exact ⟨rfl, HB.out⟩
end Go.Proofs.Ytgmbpknmjeegiaa.TreeI
