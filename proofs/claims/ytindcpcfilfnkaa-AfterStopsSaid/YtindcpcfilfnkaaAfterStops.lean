/-
  The walk of the law AfterStops over any package that meets 'Af': it returns true and leaves old memory as it was. Conditions: none but 'Af'.
-/
import Derived.Test.YtindcpcfilfnkaaAfterDoes
namespace Go.Proofs.Ytindcpcfilfnkaa.AfterI
open Go.ChangeShapes Go.WideShapes Go.ChangeAt Go.RowKit Mem AfterP Hand RefAfter

/-- Whether acts are too large: the law asks this first. -/
theorem large_k {w : World} {A : Option Addr} {len cap : Nat} {zs : List Ac} (hlen : len ≤ 9223372036854775807) (hz : ZsIn w A len cap zs) (W : World) (hb : Below w.heap.size w W) :
    ∃ b, Calls Try.prog 7 #[.slice A len cap] W (fun e w' => e = .returned (.bool b) ∧ Below w.heap.size w w') ∧ (b = false → len ≤ 60 ∧ zs.any (fun z => decide (60 < z.on)) = false) := by
  by_cases h60 : 60 < len
  · exact ⟨true, (large_len W A len cap h60 hlen).mono fun e w' ⟨he, h⟩ => ⟨he, h ▸ hb⟩, fun h => by cases h⟩
  · obtain ⟨h1, h2, h3⟩ := hz (by omega)
    subst h1
    exact ⟨_, (large_any (h2.below hb) (by omega) fun z hz => (h3 z hz).2).mono fun e w' ⟨he, h⟩ => ⟨he, hb.trans (h.mono hb.size)⟩, fun h => ⟨by omega, h⟩⟩

set_option maxHeartbeats 8000000 in
set_option maxRecDepth 100000 in
theorem stops_walk (I : Af) (A : Option Addr) (len cap : Nat) (zs : List Ac) (n : Int) (Au : Option Addr) (lu cu : Nat) (w : World) (hlen : len ≤ 9223372036854775807) (hz : ZsIn w A len cap zs) (h10 : 0 ≤ n) (h11 : n ≤ 255) (hlu : lu ≤ 9223372036854775807)
    (hu : lu ≤ 1000000 → ∃ l : List Int, l.length = lu ∧ Rd w (fun b => b < w.heap.size) (.slice Au lu cu) l ∧ ∀ y ∈ l, In64 y) :
    Calls Try.prog 5 #[.slice A len cap, .int .u8 n, .slice Au lu cu] w fun e w' => e = .returned (.bool true) ∧ Below w.heap.size w w' := by
  have HK := Lib.hid (large_k hlen hz)
  have HZ := Lib.hid hz
  have HU := Lib.hid hu
  clear hz hu
  go_enter Try.func5, Try.ntmps5
  go_wp2_with fail
  refine (awake_any I _).mono ?_
  rintro e w1 ⟨rfl, hb1⟩
  have HB := Lib.hid hb1
  obtain ⟨b, hc, hbb⟩ := HK.out w1 hb1
  have HC := Lib.hid hc
  have HBB := Lib.hid hbb
  clear hb1 hc hbb HK
  go_wp2_with fail
  refine HC.out.mono ?_
  rintro e w2 ⟨rfl, hb2⟩
  have HB2 := Lib.hid hb2
  clear hb2 HC HB
  cases b with
  | true =>
    go_wp2
    go_ret
    exact ⟨rfl, HB2.out⟩
  | false =>
    by_cases hu60 : 60 < lu
    · go_wp2
      go_ret
      exact ⟨rfl, HB2.out⟩
    · obtain ⟨h60, hno⟩ := HBB.out rfl
      obtain ⟨hzl, hzr, hzo⟩ := HZ.out (by omega)
      subst hzl
      obtain ⟨on, hon, hor, hoi⟩ := HU.out (by omega)
      subst hon
      have HZR := Lib.hid hzr
      have HZO : Hid (∀ z ∈ zs, AcIn w z ∧ z.on ≤ 60) := fun z h => ⟨(hzo z h).1, by
        have := List.any_eq_false.1 hno z h
        simp at this
        exact this⟩
      have HON : Hid (∀ W, Below w.heap.size w W → Rd W (fun k => k < w.heap.size ∧ ¬ False) (.slice Au on.length cu) on) := fun W hW => (hor.below hW).mono fun k _ h => ⟨h, fun f => f⟩
      have HOI := Lib.hid hoi
      have S1 := Lib.hid ((Sep.nil (fun _ => False) w).next HB2.out)
      clear hzr hzo hno hor hoi HZ HU HBB HB2
      go_wp2_with fail
      refine (f_new S1.out I 40 (by omega) (by omega)).mono ?_
      rintro e w3 ⟨a, rfl, h2'⟩
      have S2 := Lib.hid h2'
      clear h2' S1
      go_wp2_with fail
      refine (f_new S2.out I 40 (by omega) (by omega)).mono ?_
      rintro e w4 ⟨b, rfl, h3⟩
      have S3 := Lib.hid h3
      clear h3 S2
      go_wp2
      go_loopw [43] (fun u wr => ∃ j : Nat, j ≤ zs.length ∧ u = .int .i64 j ∧ Hid (∃ L : List Rg, Sep (fun _ => False) w wr [ob I.O (.pointer (some b)) (L, 40), ob I.O (.pointer (some a)) (L, 40)])) (fun u _ => zs.length - (intOf u).toNat)
      case atStart => exact ⟨0, Nat.zero_le _, rfl, _, S3.out⟩
      case round =>
        obtain ⟨j, hj, rfl, HS⟩ := hrel
        obtain ⟨L, hS⟩ := HS.out
        have SL := Lib.hid hS
        clear HS hS S3
        by_cases hlt : j < zs.length
        · have hx : zs[j]? = some zs[j] := List.getElem?_eq_getElem hlt
          generalize zs[j] = z at hx
          obtain ⟨⟨hd64, ha64, hb64, hl⟩, hon⟩ := HZO.out z (List.mem_of_getElem? hx)
          obtain ⟨l, hll, hlr, hli⟩ := hl (by omega)
          obtain ⟨bb, off, rfl, hbb, c0, c1, c2, c3⟩ := ac_cells HZR.out hx
          have hb := SL.out.old
          have q0 := (hb.cell (p := ⟨bb, off + j * 4, none⟩) hbb).trans c0
          have q1 := (hb.cell (p := ⟨bb, off + j * 4 + 1, none⟩) hbb).trans c1
          have q2 := (hb.cell (p := ⟨bb, off + j * 4 + 2, none⟩) hbb).trans c2
          have q3 := (hb.cell (p := ⟨bb, off + j * 4 + 3, none⟩) hbb).trans c3
          obtain ⟨d, aa, ab, oa, on', oc⟩ := z
          simp only at hll hlr hon q0 q1 q2 q3 ha64 hb64
          subst hll
          have S4 := Lib.hid (SL.out.new (.cells #[.int .i64 d, .int .i64 aa, .int .i64 ab, .slice oa l.length oc] 34))
          have HUL : Hid (∀ W, Below w.heap.size w W → Rd W (fun k => k < w.heap.size ∧ ¬ False) (.slice oa l.length oc) l) := fun W hW => (hlr.below hW).mono fun k _ h => ⟨h, fun f => f⟩
          have HA64 := Lib.hid ha64
          have HB64 := Lib.hid hb64
          have HLI := Lib.hid hli
          clear hx c0 c1 c2 c3 hb SL hd64 ha64 hb64 hl hlr hli
          go_wp2_with fail
          refine (f_do S4.out 2 rfl d aa ab oa oc l HA64.out HB64.out (by omega) (HUL.out _ S4.out.old) HLI.out).mono ?_
          rintro e w5 ⟨A5, c5, rfl, h5⟩
          have S5 := Lib.hid h5
          have a0 := (cell_block (S5.out.blk_at 1 rfl) 0).trans rfl
          have a1 := (cell_block (S5.out.blk_at 1 rfl) 1).trans rfl
          have a2 := (cell_block (S5.out.blk_at 1 rfl) 2).trans rfl
          have a3 := (cell_block (S5.out.blk_at 1 rfl) 3).trans rfl
          clear h5 S4 q0 q1 q2 q3
          generalize (actO L d l).length = ol at *
          go_wp2_with fail
          refine (f_do S5.out 2 rfl d aa ab oa oc l HA64.out HB64.out (by omega) (HUL.out _ S5.out.old) HLI.out).mono ?_
          rintro e w6 ⟨A6, c6, rfl, h6⟩
          have S6 : Hid (∃ L : List Rg, Sep (fun _ => False) w w6 [ob I.O (.pointer (some b)) (L, 40), ob I.O (.pointer (some a)) (L, 40)]) := ⟨_, h6.sub (.cons _ (.cons _ (.cons _ (List.Sublist.refl _))))⟩
          clear h6 S5 a0 a1 a2 a3
          go_wp2
          go_roundw
          case rel => exact ⟨j + 1, by omega, by go_num, S6⟩
          case measure => simp [intOf]; omega
        · have HOK := Lib.hid (f_ok SL.out 0 rfl)
          have hl40 : L.length ≤ 40 := by have := HOK.out.len; omega
          have HOF := Lib.hid (stop_off L n)
          have hofl := fireO_len L on
          have hofl2 : (fireO L on).length ≤ 4000 := by
            have := Nat.mul_le_mul hl40 (show on.length ≤ 60 by omega)
            omega
          have w1x : IntKind.i64.wrap n = n := IntWalk.i64_in _ (by omega)
          have hn64 : In64 n := ⟨by omega, by omega⟩
          have HN64 := Lib.hid hn64
          clear hofl hn64
          go_wp2_with fail
          refine (f_rows SL.out 1 rfl).mono ?_
          rintro e w5 ⟨A5, c5, rfl, h5, _⟩
          have S5 := Lib.hid h5
          have HR := Lib.hid (h5.rdL 0 rfl)
          obtain ⟨bs, hbs⟩ : ∃ bs, stopB L n = bs := ⟨_, rfl⟩
          have HBS := Lib.hid hbs
          have HFO : Hid (fireO (stopL L n) on = (fireO L on).filter (fun k => decide (k ≠ n))) := HOF.out.fire on
          obtain ⟨L2, hL2⟩ : ∃ L2, stopL L n = L2 := ⟨_, rfl⟩
          have HL2 := Lib.hid hL2
          rw [hL2] at HFO
          clear h5 SL hL2 HOF
          go_upto_region 16 with (fail)
          go_cut [14] (fun s14 wx => s14 = .bool bs ∧ wx = w5)
          case first =>
            by_cases hln : n < L.length
            · obtain ⟨q, rfl⟩ := Int.eq_ofNat_of_zero_le h10
              have hq : q < L.length := by omega
              obtain ⟨b5, o5, rfl, _, _, _, r2⟩ := rg_cells HR.out (rg_at hq)
              have hb5 : ((rg L q).st == 1) = bs := by
                rw [← HBS.out]
                unfold stopB
                rw [thereR_iff.2 (by omega), Bool.true_and]
                by_cases h : (rg L q).st = 1 <;> simp [h]
              generalize (rg L q).st = st at *
              clear HBS
              go_wp2_with fail
              go_meet
              exact ⟨rfl, rfl⟩
            · have hb5 : bs = false := by
                rw [← HBS.out]
                unfold stopB
                rw [show thereR L n = false from by rw [Bool.eq_false_iff]; intro h; exact hln (thereR_iff.1 h).2]
                rfl
              clear HBS
              go_wp2_with fail
              go_meet
              exact ⟨by rw [hb5], rfl⟩
          case rest =>
            obtain ⟨rfl, hwc⟩ := hcut
            subst hwc
            have S6 := Lib.hid S5.out.tail
            have hbb : (bs != bs) = false := by simp
            clear S5 HR
            go_wp2_with fail
            refine (f_stop S6.out 1 rfl n HN64.out HBS.out HL2.out).mono ?_
            rintro e w7 ⟨rfl, h7⟩
            have S7 := Lib.hid (h7.grow0 intE 3)
            clear h7 S6 HBS HL2
            simp only [List.set_cons_zero, List.set_cons_succ] at S7
            obtain ⟨O, hO⟩ : ∃ O, fireO L on = O := ⟨_, rfl⟩
            have HO := Lib.hid hO
            rw [hO] at hofl2 HFO
            clear hO
            go_wp2_with fail
            refine (ob_tells3 S7.out 1 rfl fun F hA hF => I.fire hA _ _ on (HON.out _ S7.out.old) (fun k hk hf => by rcases hF k hf with h | h; exact hk.2 h; have := hk.1; omega) (by omega) HOI.out).mono ?_
            rintro e w8 ⟨A8, c8, rfl, h8⟩
            rw [HO.out] at h8 ⊢
            have S8 := Lib.hid h8
            clear h8 S7
            simp only [List.set_cons_zero, List.set_cons_succ] at S8
            go_wp2
            go_loopw [15, 80] (fun u t wr => ∃ j : Nat, j ≤ O.length ∧ t = .int .i64 j ∧ Hid (∃ A c, u = .slice A ((O.take j).filter (fun k => decide (k ≠ n))).length c ∧ ∃ L3, Sep (fun _ => False) w wr [nums (.slice A8 O.length c8) O, grow intE 3 (.slice A ((O.take j).filter (fun k => decide (k ≠ n))).length c) ((O.take j).filter (fun k => decide (k ≠ n))), ob I.O (.pointer (some b)) (L3, 40), ob I.O (.pointer (some a)) (L2, 40)])) (fun _ t _ => O.length - (intOf t).toNat)
            case atStart => exact ⟨0, Nat.zero_le _, rfl, _, _, rfl, _, S8.out⟩
            case round =>
              obtain ⟨j, hj, rfl, HS⟩ := hrel
              obtain ⟨Aw, cw, rfl, L3, hS⟩ := HS.out
              have SL := Lib.hid hS
              clear HS S8
              have hfl : ((O.take j).filter (fun k => decide (k ≠ n))).length ≤ 4000 := Nat.le_trans (List.length_filter_le _ _) (by rw [List.length_take]; omega)
              generalize hP : (O.take j).filter (fun k => decide (k ≠ n)) = P at *
              have HP := Lib.hid hP
              clear hP
              by_cases hlt2 : j < O.length
              · obtain ⟨b5, o5, rfl, _, _, hc5⟩ := Rd.cells7 (hS.rd 0 rfl) (by omega)
                have q5 := hc5 j hlt2
                have hx : O[j]? = some (O.getD j 0) := by rw [List.getD_eq_getElem?_getD, List.getElem?_eq_getElem hlt2]; rfl
                have HT : Hid (O.take (j + 1) = O.take j ++ [O.getD j 0]) := by show _ = _; rw [List.take_add_one, hx]; rfl
                generalize O.getD j 0 = k at *
                clear hc5 hx hS
                by_cases hkn : k = n
                · have HF : Hid ((O.take (j + 1)).filter (fun k => decide (k ≠ n)) = P) := by show _ = _; rw [HT.out, List.filter_append, HP.out]; simp [hkn]
                  have e1 : (k != n) = false := by simpa using hkn
                  clear hkn
                  go_wp2
                  go_roundw
                  case rel => exact ⟨j + 1, by omega, by go_num, Aw, cw, by rw [HF.out], L3, by rw [HF.out]; exact SL.out⟩
                  case measure => simp [intOf]; omega
                · have HF : Hid ((O.take (j + 1)).filter (fun k => decide (k ≠ n)) = P ++ [k]) := by show _ = _; rw [HT.out, List.filter_append, HP.out]; simp [hkn]
                  have e1 : (k != n) = true := by simpa using hkn
                  have S9 := Lib.hid (SL.out.new (.cells #[.int .i64 k] 3))
                  have HRL : Hid (RdL intE (wr.alloc (.cells #[.int .i64 k] 3)) (fun _ => True) (.slice (some ⟨wr.heap.size, 0, none⟩) 1 1) [k]) := RdL.lit1 (E := intE) wr _ _ rfl _ trivial
                  clear hkn SL
                  go_wp2_with (at_builtin; refine wpList_appS rfl _ _ intElemL rfl rfl rfl S9.out 2 rfl HRL.out (by simp; omega) ?_)
                  intro A7 c7 w9 l7 hl7 h9
                  have e7 : Hid (l7 = (O.take (j + 1)).filter (fun k => decide (k ≠ n))) := by show _ = _; rw [HF.out]; exact hl7.out
                  have S10 := Lib.hid h9.tail
                  clear h9 S9 HRL hl7
                  go_wp2
                  go_roundw
                  case rel => exact ⟨j + 1, by omega, by go_num, A7, c7, by rw [e7.out], L3, by have h := S10.out; rw [e7.out] at h; exact h⟩
                  case measure => simp [intOf]; omega
              · have HF : Hid (O.filter (fun k => decide (k ≠ n)) = P) := by have := HP.out; rwa [List.take_of_length_le (by omega)] at this
                rw [HF.out] at HFO
                clear hS
                go_wp2_with fail
                refine (ob_tells3 SL.out 3 rfl fun F hA hF => I.fire hA _ _ on (HON.out _ SL.out.old) (fun k hk hf => by rcases hF k hf with h | h; exact hk.2 h; have := hk.1; omega) (by omega) HOI.out).mono ?_
                rintro e w10 ⟨A10, c10, rfl, h10⟩
                rw [HFO.out] at h10 ⊢
                have S11 := Lib.hid h10
                have R11 := Lib.hid (rd_of ((h10.own 2 rfl).rd (G := fun _ => True) (by omega) fun _ _ => trivial))
                clear h10 SL
                go_wp2_with fail
                refine (same_d (S11.out.rd 0 rfl) R11.out rfl).mono ?_
                rintro e w12 ⟨rfl, hb12⟩
                have HBF := Lib.hid (S11.out.next hb12).old
                clear hb12 S11 R11
                go_wp2
                go_ret
                exact ⟨rfl, HBF.out⟩
end Go.Proofs.Ytindcpcfilfnkaa.AfterI
