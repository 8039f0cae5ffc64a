/-
  The walk of the law CtxLate over any package that meets 'Cx': it returns true and leaves old memory as it was. Conditions: none but 'Cx'.
-/
import Derived.Test.YtidkppjhmgehoaaCtxDoes
import Derived.Test.YtidkppjhmgehoaaCtxR
namespace Go.Proofs.Ytidkppjhmgehoaa.CtxI
open Go.ChangeShapes Go.WideShapes Go.ChangeAt Go.RowKit Mem TreeP RefTree CtxP Hand TreeI RefCtx

theorem late_easy (I : Cx) (A : Option Addr) (len cap : Nat) (w : World) (_hlen : len ≤ 9223372036854775807) (hno : 60 < len) :
    Calls Try.prog 5 #[.slice A len cap] w fun e w' => e = .returned (.bool true) ∧ Below w.heap.size w w' := by
  go_enter Try.func5, Try.ntmps5
  go_wp2_with fail
  refine (awake_any I _).mono ?_
  rintro e w1 ⟨rfl, hb1⟩
  have HB := Lib.hid hb1
  clear hb1
  go_wp2
  go_ret
  exact ⟨rfl, HB.out⟩

set_option maxHeartbeats 8000000 in
set_option maxRecDepth 100000 in
theorem late_main (I : Cx) (A : Option Addr) (len cap : Nat) (zs : List Ac) (w : World) (h60 : len ≤ 60)
    (hz : len ≤ 1000000 → zs.length = len ∧ RdL acE w (fun b => b < w.heap.size) (.slice A len cap) zs ∧ ∀ z ∈ zs, AcIn z) :
    Calls Try.prog 5 #[.slice A len cap] w fun e w' => e = .returned (.bool true) ∧ Below w.heap.size w w' := by
  obtain ⟨hzl, hzr, hzo⟩ := hz (by omega)
  have HZL := Lib.hid hzl
  have HZR := Lib.hid hzr
  have HZO := Lib.hid hzo
  clear hzl hzr hzo hz
  go_enter Try.func5, Try.ntmps5
  go_wp2_with fail
  refine (awake_any I _).mono ?_
  rintro e w1 ⟨rfl, hb1⟩
  have S1 := Lib.hid ((Sep.nil (fun _ => False) w).next hb1)
  clear hb1
  go_wp2_with fail
  refine (x_new S1.out I 40 (by omega) (by omega)).mono ?_
  rintro e w2 ⟨a, rfl, h2'⟩
  have S2 := Lib.hid h2'
  clear h2' S1
  go_wp2
  go_loopw [24, 5, 8, 9, 10] (fun u t _ _ _ wr => ∃ j : Nat, j ≤ len ∧ u = .int .i64 j ∧ ∃ now : Int, t = .int .i64 now ∧ Hid (In64 now ∧ ∃ (T : List Nd) (X : List Cn), Sep (fun _ => False) w wr [cx I (.pointer (some a)) T X 40] ∧ Inv T X ∧ Late now T X)) (fun u _ _ _ _ _ => len - (intOf u).toNat)
  case atStart => exact ⟨0, Nat.zero_le _, rfl, 0, rfl, ⟨by omega, by omega⟩, _, _, S2.out, inv_new, late_new 0⟩
  case round =>
    obtain ⟨j, hj, rfl, now, rfl, HS⟩ := hrel
    obtain ⟨hnow, T, X, hS, hI, hL⟩ := HS.out
    have SL := Lib.hid hS
    have HI := Lib.hid hI
    have HL := Lib.hid hL
    have HN := Lib.hid hnow
    clear HS hS S2 hI hL hnow
    by_cases hlt : j < len
    · have hx : zs[j]? = some (zs[j]'(by rw [HZL.out]; exact hlt)) := List.getElem?_eq_getElem _
      generalize zs[j]'(by rw [HZL.out]; exact hlt) = z at hx
      have HE := Lib.hid (HZO.out z (List.mem_of_getElem? hx))
      obtain ⟨bb, off, rfl, hbb, c0, c1, c2, c3, c4⟩ := ac_cells HZR.out hx
      have hb := SL.out.old
      have q0 := (hb.cell (p := ⟨bb, off + j * 5, none⟩) hbb).trans c0
      have q1 := (hb.cell (p := ⟨bb, off + j * 5 + 1, none⟩) hbb).trans c1
      have q2 := (hb.cell (p := ⟨bb, off + j * 5 + 2, none⟩) hbb).trans c2
      have q3 := (hb.cell (p := ⟨bb, off + j * 5 + 3, none⟩) hbb).trans c3
      have q4 := (hb.cell (p := ⟨bb, off + j * 5 + 4, none⟩) hbb).trans c4
      obtain ⟨d, m, aa, ab, tz⟩ := z
      clear hx c0 c1 c2 c3 c4 hb
      go_upto_region 12 with (fail)
      go_cut [5] (fun s wx => ∃ t : Int, s = .int .i64 t ∧ now ≤ t ∧ Hid (In64 t) ∧ wx = wr.alloc (.cells #[.int .i64 d, .int .i64 m, .int .i64 aa, .int .i64 ab, .int .i64 tz] 32))
      case first => as_aux_lemma =>
        go_wp2
        all_goals
          go_meet
          first
          | exact ⟨_, rfl, by omega, HE.out.2.2.2, rfl⟩
          | exact ⟨_, rfl, by omega, HN.out, rfl⟩
      case rest => as_aux_lemma =>
        obtain ⟨t, rfl, hle, HT, rfl⟩ := hcut
        have HL2 := Lib.hid (HL.out.mono hle)
        have S4 := Lib.hid (SL.out.new (.cells #[.int .i64 d, .int .i64 m, .int .i64 aa, .int .i64 ab, .int .i64 t] 32))
        clear hle SL
        go_wp2_with fail
        refine (x_do S4.out 1 rfl d m aa ab t HE.out.1 HE.out.2.1 HE.out.2.2.1 HT.out).mono ?_
        rintro e w5 ⟨A5, c5, rfl, h5⟩
        have S5 := Lib.hid h5
        have HI2 := Lib.hid (inv_act HI.out 40 d m aa ab t)
        have HL3 := Lib.hid (late_act HI.out HL2.out 40 d m aa ab)
        clear h5 S4 HI HL2
        generalize actV T 40 d m = V at *
        generalize actE T 40 d m = E at *
        generalize actT T 40 d m = T2 at *
        generalize actX T X 40 d m aa ab t = X2 at *
        generalize actO T X d m t = O at *
        go_wp2_with fail
        refine (x_due S5.out 2 rfl t HT.out rfl rfl).mono ?_
        rintro e w6 ⟨A6, c6, rfl, h6⟩
        have S6 := Lib.hid (h6.sub (show List.Sublist [cx I (.pointer (some a)) T2 (dueX T2 X2 t) 40] _ from .cons _ (.cons _ (.cons _ (.cons_cons _ (List.Sublist.refl _))))))
        have HI3 := Lib.hid (inv_due t (liveN X2) HI2.out)
        have HS := Lib.hid (due_says HI2.out HL3.out)
        have HL4 := Lib.hid (late_due t (liveN X2) HI2.out HL3.out)
        clear h6 S5 HI2 HL3
        change Hid (Inv T2 (dueX T2 X2 t)) at HI3
        change Hid (Late t T2 (dueX T2 X2 t)) at HL4
        generalize dueX T2 X2 t = Y at *
        generalize dueO T2 X2 t = O2 at *
        have hlen : T2.length ≤ 200 := by have := (x_ok S6.out 0 rfl).tree; have h1 := this.len; have h2 := this.m1; omega
        go_wp2_with fail
        refine (x_len S6.out 0 rfl).mono ?_
        rintro e w7 ⟨rfl, h7⟩
        have S7 := Lib.hid h7
        clear h7 S6
        go_wp2
        go_loopw [42, 8, 9, 10] (fun u _ _ _ wr => ∃ q : Nat, q ≤ T2.length ∧ u = .int .i64 q ∧ Hid (Sep (fun _ => False) w wr [cx I (.pointer (some a)) T2 Y 40])) (fun u _ _ _ _ => T2.length - (intOf u).toNat)
        case atStart => exact ⟨0, Nat.zero_le _, rfl, S7⟩
        case round => as_aux_lemma =>
          obtain ⟨q, hq, rfl, S8⟩ := hrel
          clear S7
          by_cases hqn : q < T2.length
          · have hqi : Hid (In64 (q : Int)) := ⟨by omega, by omega⟩
            obtain ⟨D1, D2, hD⟩ : ∃ D1 D2, dlX T2 Y q = (D1, D2) := ⟨_, _, rfl⟩
            have HD := Lib.hid hD
            obtain ⟨G, hG⟩ : ∃ G, getX T2 Y q = G := ⟨_, rfl⟩
            have HG := Lib.hid hG
            have k1 := HS.out.1 q
            have k2 := HS.out.2.1 q
            rw [← (get_cn HI3.out q).1, hG] at k1 k2
            rw [hD] at k1 k2
            have K : (D2 = true ∧ D1 ≤ t ∧ G.e ≠ 0) ∨ (D2 = true ∧ t < D1 ∧ G.e ≠ 11) ∨ (D2 = false ∧ G.e ≠ 11) := by
              cases D2 with
              | true =>
                by_cases h1 : D1 ≤ t
                · exact .inl ⟨rfl, h1, k1 rfl h1⟩
                · refine .inr (.inl ⟨rfl, by omega, fun h => h1 (k2 h).2⟩)
              | false => exact .inr (.inr ⟨rfl, fun h => by cases (k2 h).1⟩)
            clear hD hG k1 k2
            go_wp2_with fail
            refine (x_dl S8.out 0 rfl q hqi.out HD.out).mono ?_
            rintro e w9 ⟨rfl, h9⟩
            have S9 := Lib.hid h9
            clear h9 S8
            go_upto_region 20 with (fail)
            go_cut [77] (fun s wx => s = .bool false ∧ Hid (Sep (fun _ => False) w wx [cx I (.pointer (some a)) T2 Y 40]))
            case first => as_aux_lemma =>
              rcases K with ⟨rfl, h1, h2⟩ | ⟨rfl, h1, h2⟩ | ⟨rfl, h2⟩
              · have r1 : decide (D1 ≤ t) = true := decide_eq_true h1
                have r2 : decide (t < D1) = false := decide_eq_false (by omega)
                have HDN : Hid (decide ((getX T2 Y q).e ≠ 0) = true) := by show _ = _; rw [HG.out]; exact decide_eq_true h2
                have HE2 : Hid ((getX T2 Y q).e = G.e) := by show _ = _; rw [HG.out]
                clear h1 h2
                go_wp2_with fail
                refine (x_done S9.out 0 rfl q hqi.out HDN.out).mono ?_
                rintro e w10 ⟨rfl, h10⟩
                have S10 := Lib.hid h10
                clear h10 S9
                go_wp2_with fail
                refine (x_err S10.out 0 rfl q hqi.out HE2.out).mono ?_
                rintro e w11 ⟨rfl, h11⟩
                have S11 := Lib.hid h11
                clear h11 S10
                by_cases h3 : G.e = 11
                · have h4 : (G.e == 11) = true := by simpa using h3
                  go_wp2
                  go_meet
                  exact ⟨rfl, S11⟩
                · have h4 : (G.e == 11) = false := by simpa using h3
                  go_wp2
                  go_meet
                  exact ⟨rfl, S11⟩
              · have r1 : decide (D1 ≤ t) = false := decide_eq_false (by omega)
                have HE2 : Hid ((getX T2 Y q).e = G.e) := by show _ = _; rw [HG.out]
                have h4 : (G.e == 11) = false := by simpa using h2
                clear h1 h2
                go_wp2_with fail
                refine (x_err S9.out 0 rfl q hqi.out HE2.out).mono ?_
                rintro e w11 ⟨rfl, h11⟩
                have S11 := Lib.hid h11
                clear h11 S9
                go_wp2
                go_meet
                exact ⟨rfl, S11⟩
              · have HE2 : Hid ((getX T2 Y q).e = G.e) := by show _ = _; rw [HG.out]
                have h4 : (G.e == 11) = false := by simpa using h2
                clear h2
                go_wp2_with fail
                refine (x_err S9.out 0 rfl q hqi.out HE2.out).mono ?_
                rintro e w11 ⟨rfl, h11⟩
                have S11 := Lib.hid h11
                clear h11 S9
                go_wp2
                go_meet
                exact ⟨rfl, S11⟩
            case rest => as_aux_lemma =>
              obtain ⟨rfl, S10⟩ := hcut
              clear S9
              go_wp2
              go_roundw
              case rel => exact ⟨q + 1, by omega, by go_num, S10⟩
              case measure => simp [intOf]; omega
          · have k3 := HS.out.2.2
            obtain ⟨nx, hnx⟩ : ∃ nx, nextX Y = nx := ⟨_, rfl⟩
            have HNX := Lib.hid hnx
            rw [hnx] at k3
            clear hnx
            go_wp2_with fail
            refine (x_next S8.out 0 rfl HNX.out).mono ?_
            rintro e w9 ⟨rfl, h9⟩
            have SF : Hid (In64 t ∧ ∃ (T : List Nd) (X : List Cn), Sep (fun _ => False) w w9 [cx I (.pointer (some a)) T X 40] ∧ Inv T X ∧ Late t T X) := ⟨HT.out, _, _, h9, HI3.out, HL4.out⟩
            clear h9 S8
            by_cases h1 : t < 9223372036854775807
            · have r1 : decide (nx ≤ t) = false := decide_eq_false (by have := k3 h1; omega)
              clear k3
              go_wp2
              go_roundw
              case rel => exact ⟨j + 1, by omega, by go_num, t, rfl, SF⟩
              case measure => simp [intOf]; omega
            · have r2 : decide (t < 9223372036854775807) = false := decide_eq_false h1
              clear k3 h1
              go_wp2
              all_goals
                go_roundw
                case rel => exact ⟨j + 1, by omega, by go_num, t, rfl, SF⟩
                case measure => simp [intOf]; omega
    · have HB := Lib.hid SL.out.old
      go_wp2
      go_ret
      exact ⟨rfl, HB.out⟩

theorem late_walk (I : Cx) (A : Option Addr) (len cap : Nat) (zs : List Ac) (w : World) (hlen : len ≤ 9223372036854775807)
    (hz : len ≤ 1000000 → zs.length = len ∧ RdL acE w (fun b => b < w.heap.size) (.slice A len cap) zs ∧ ∀ z ∈ zs, AcIn z) :
    Calls Try.prog 5 #[.slice A len cap] w fun e w' => e = .returned (.bool true) ∧ Below w.heap.size w w' := by
  by_cases hno : 60 < len
  · exact late_easy I A len cap w hlen hno
  · exact late_main I A len cap zs w (by omega) hz
end Go.Proofs.Ytidkppjhmgehoaa.CtxI
