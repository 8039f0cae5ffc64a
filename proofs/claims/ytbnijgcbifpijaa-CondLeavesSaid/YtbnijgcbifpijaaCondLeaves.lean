/-
  The walk of the law CondLeaves over any package that meets 'Cd'. Condition: what the arguments read as.
-/
import Derived.Test.YtbnijgcbifpijaaCondM
import Derived.Test.YtbnijgcbifpijaaActs3
namespace Go.Proofs.Ytbnijgcbifpijaa.CondI
open Go.ChangeShapes Go.WideShapes Go.ChangeAt Go.RowKit Mem MutP CondP Hand RefCond Acts3

set_option maxHeartbeats 8000000 in
set_option maxRecDepth 100000 in
theorem leaves_main (I : Cd) (A : Option Addr) (len cap : Nat) (zs : List Ac) (q : Nat) (w : World) (hq : q ≤ 255) (hz : ZsIn w A len cap zs) (h60 : len ≤ 100) :
    Calls Try.prog 5 #[.slice A len cap, .int .u8 q] w fun e w' => e = .returned (.bool true) ∧ Below w.heap.size w w' := by
  obtain ⟨hzl, hzr, hzo⟩ := hz (by omega)
  subst hzl
  have HZR := Lib.hid hzr
  have HZO := Lib.hid hzo
  clear hzr hzo hz
  go_enter Try.func5, Try.ntmps5
  go_wp2_with fail
  refine (awake_any I _).mono ?_
  rintro e w1 ⟨rfl, hb1⟩
  have S1 := Lib.hid ((Sep.nil (fun _ => False) w).next hb1)
  clear hb1
  go_wp2_with fail
  refine (m_new S1.out I 20 (by omega) (by omega)).mono ?_
  rintro e w2 ⟨a, rfl, h2'⟩
  have S2 := Lib.hid h2'
  clear h2' S1
  go_wp2
  go_loopw [29] (fun u wr => ∃ j : Nat, j ≤ zs.length ∧ u = .int .i64 j ∧ Hid (∃ (W : List Tl), Sep (fun _ => False) w wr [ob I.O (.pointer (some a)) (W, 20)])) (fun u _ => zs.length - (intOf u).toNat)
  case atStart => exact ⟨0, Nat.zero_le _, rfl, _, S2.out⟩
  case round =>
    obtain ⟨j, hj, rfl, HS⟩ := hrel
    obtain ⟨W, hS⟩ := HS.out
    have SL := Lib.hid hS
    clear HS hS S2
    by_cases hlt : j < zs.length
    · have hx : zs[j]? = some zs[j] := List.getElem?_eq_getElem hlt
      generalize zs[j] = z at hx
      obtain ⟨hd64, ht64, hk64⟩ := HZO.out z (List.mem_of_getElem? hx)
      obtain ⟨bb, off, rfl, hbb, c0, c1, c2⟩ := ac_cells HZR.out hx
      have hb := SL.out.old
      have q0 := (hb.cell (p := ⟨bb, off + j * 3, none⟩) hbb).trans c0
      have q1 := (hb.cell (p := ⟨bb, off + j * 3 + 1, none⟩) hbb).trans c1
      have q2 := (hb.cell (p := ⟨bb, off + j * 3 + 2, none⟩) hbb).trans c2
      obtain ⟨d, t, k⟩ := z
      simp only at q0 q1 q2 ht64 hk64
      have S4 := Lib.hid (SL.out.next (new_below0 wr (.cells #[.int .i64 d, .int .i64 t, .int .i64 k] 32)))
      have HT64 := Lib.hid ht64
      have HK64 := Lib.hid hk64
      clear hx c0 c1 c2 hb SL hd64 ht64 hk64
      go_wp2_with fail
      refine (m_do S4.out 0 rfl d t k HT64.out HK64.out).mono ?_
      rintro e w5 ⟨Ao, co, rfl, h5⟩
      have S5 := Lib.hid h5.tail
      clear h5 S4 q0 q1 q2
      have SF : Hid (∃ (W : List Tl), Sep (fun _ => False) w w5 [ob I.O (.pointer (some a)) (W, 20)]) := ⟨_, S5.out⟩
      go_wp2
      go_roundw
      case rel => exact ⟨j + 1, by omega, by go_num, SF⟩
      case measure => simp [intOf]; omega
    · have hwl := (m_ok SL.out 0 rfl).wlen
      have hwho : 0 ≤ (q : Int) % 20 ∧ (q : Int) % 20 < 20 := by omega
      have S3 := Lib.hid (SL.out.grow0 tlE 40)
      clear SL
      go_wp2_with fail
      generalize (q : Int) % 20 = who at *
      have HW64 : Hid (In64 who) := ⟨by omega, by omega⟩
      refine (m_waiting S3.out 1 rfl).mono ?_
      rintro e w4 ⟨A4, c4, rfl, h4, _⟩
      have S4 := Lib.hid (Sep.swap h4)
      have H4 : Hid (RdL tlE w4 (fun _ => True) (.slice A4 W.length c4) W) := S4.out.rdL 1 rfl
      clear h4 S3 hwho
      go_wp2
      go_loopw [10, 11, 44] (fun o y u wr => ∃ i : Nat, i ≤ W.length ∧ u = .int .i64 i ∧ y = .bool (hasT (W.take i) who) ∧ Hid (∃ A c, o = .slice A (outT (W.take i) who).length c ∧ Sep (fun _ => False) w wr [grow tlE 40 (.slice A (outT (W.take i) who).length c) (outT (W.take i) who), told tlE (.slice A4 W.length c4) W, ob I.O (.pointer (some a)) (W, 20)])) (fun _ _ u _ => W.length - (intOf u).toNat)
      case atStart => exact ⟨0, Nat.zero_le _, rfl, rfl, _, _, rfl, S4.out⟩
      case round =>
        obtain ⟨i, hi, rfl, rfl, HS⟩ := hrel
        obtain ⟨A6, c6, rfl, hS⟩ := HS.out
        have SL := Lib.hid hS
        have hol : (outT (W.take i) who).length ≤ i := Nat.le_trans (out_len _ _) (List.length_take_le _ _)
        have HR : Hid (RdL tlE wr (fun _ => True) (.slice A4 W.length c4) W) := hS.rdL 1 rfl
        clear HS hS S4
        by_cases hlti : i < W.length
        · have hx : W[i]? = some W[i] := List.getElem?_eq_getElem hlti
          generalize W[i] = x at hx
          obtain ⟨b, off, rfl, _, hbl, q0, q1⟩ := tl_cells HR.out hx
          have HT : Hid (W.take (i + 1) = W.take i ++ [x]) := take_snocT W i x hx
          have i0 : (0 : Int) ≤ (i : Int) := by omega
          have i1 : (i : Int) < (W.length : Int) := by omega
          obtain ⟨xt, xk⟩ := x
          simp only at q0 q1
          generalize hg : W.take i = lt at *
          clear hx hg
          by_cases hxt : xt = who
          · subst hxt
            have HU : Hid (outT (W.take (i + 1)) xt = outT lt xt ∧ hasT (W.take (i + 1)) xt = true) := by
              rw [HT.out]
              exact ⟨out_snoc_no rfl, by rw [has_snoc]; simp⟩
            have SN := Lib.hid (SL.out.next (new_below0 wr (.cells #[.int .i64 xt, .int .i64 xk] 50)))
            go_wp2
            go_roundw
            case rel => exact ⟨i + 1, by omega, by go_num, by rw [HU.out.2], by rw [HU.out.1]; exact ⟨_, _, rfl, SN.out⟩⟩
            case measure => simp [intOf]; omega
          · have e1 : (xt == who) = false := by simpa using hxt
            have HU : Hid (outT (W.take (i + 1)) who = outT lt who ++ [⟨xt, xk⟩] ∧ hasT (W.take (i + 1)) who = hasT lt who) := by
              rw [HT.out]
              exact ⟨out_snoc_yes hxt, by rw [has_snoc]; simpa using fun e => absurd e.symm hxt⟩
            have SN := Lib.hid (SL.out.next (new_below0 wr (.cells #[.int .i64 xt, .int .i64 xk] 50)))
            have HX1 : Hid (RdL tlE ((wr.alloc (.cells #[.int .i64 xt, .int .i64 xk] 50)).alloc (.cells #[.int .i64 xt, .int .i64 xk] 40)) (fun _ => True) (.slice (some ⟨wr.heap.size + 1, 0, none⟩) 1 1) [⟨xt, xk⟩]) := by
              have h := RdL.lit1 (E := tlE) (wr.alloc (.cells #[.int .i64 xt, .int .i64 xk] 50)) 40 ⟨xt, xk⟩ (cs := #[.int .i64 xt, .int .i64 xk]) rfl (fun _ => True) trivial
              rw [World.size_alloc] at h
              exact h
            clear hxt
            go_wp2_with (at_builtin; refine wpList_appS rfl _ _ tlElem rfl rfl rfl (SN.out.next (new_below0 _ _)) 0 rfl HX1.out (by simp; omega) ?_; intro A9 c9 w9 l9 HL9 h9)
            have S9 := Lib.hid h9
            clear h9 SN HX1 SL
            go_wp2
            go_roundw
            case rel => exact ⟨i + 1, by omega, by go_num, by rw [HU.out.2], by rw [HU.out.1, ← HL9.out]; exact ⟨_, _, rfl, S9.out⟩⟩
            case measure => simp [intOf]; omega
        · have hT : W.take i = W := List.take_of_length_le (by omega)
          have hs := SL.out
          rw [hT] at hs
          rw [hT]
          have S9 := Lib.hid (grow_told hs (Nat.le_trans (out_len _ _) (by omega)))
          have HOL : Hid ((outT W who).length ≤ 1000) := Nat.le_trans (out_len _ _) hwl
          clear hs SL hol hT HR
          cases hb : hasT W who with
          | false =>
            have hg : getT W who = ⟨0, 0⟩ := get_no hb
            have ho := out_id hb
            have HB := Lib.hid hb
            have HG := Lib.hid hg
            clear hb hg ho
            go_wp2_with fail
            refine (n_leave S9.out 2 rfl who HW64.out (xt := 0) (xk := 0) (b := false) HG.out HB.out rfl).mono ?_
            rintro e w10 ⟨rfl, h10⟩
            have S10 := Lib.hid (h10.next (new_below0 w10 (.cells #[.int .i64 0, .int .i64 0] 50)))
            clear h10 S9
            simp only [List.set_cons_zero, List.set_cons_succ] at S10
            go_wp2_with fail
            refine (m_broadcast S10.out 2 rfl).mono ?_
            rintro e w11 ⟨A11, c11, rfl, h11⟩
            have S11 := Lib.hid h11
            clear h11 S10
            go_wp2_with fail
            refine (n_own S11.out (S11.out.rdL 0 rfl) (by have := HOL.out; omega)).mono ?_
            rintro e w12 ⟨A12, c12, rfl, h12, _⟩
            have S12 := Lib.hid h12
            clear h12 S11
            go_wp2_with fail
            refine (same_d (S12.out.rdL 0 rfl) (S12.out.rdL 2 rfl) rfl).mono ?_
            rintro e w13 ⟨rfl, hb⟩
            have S13 := Lib.hid (S12.out.next hb)
            clear hb S12
            go_wp2
            go_ret
            exact ⟨rfl, S13.out.old⟩
          | true =>
            obtain ⟨_, ht⟩ := get_mem hb
            generalize hg : getT W who = x at *
            obtain ⟨xt, xk⟩ := x
            simp only at ht
            subst ht
            have HB := Lib.hid hb
            have HG := Lib.hid hg
            clear hb hg
            go_wp2_with fail
            refine (n_leave S9.out 2 rfl xt HW64.out (xt := xt) (xk := xk) (b := true) HG.out HB.out rfl).mono ?_
            rintro e w10 ⟨rfl, h10⟩
            have S10 := Lib.hid (h10.new (.cells #[.int .i64 xt, .int .i64 xk] 50))
            clear h10 S9
            simp only [List.set_cons_zero, List.set_cons_succ] at S10
            go_wp2_with fail
            refine (m_broadcast S10.out 3 rfl).mono ?_
            rintro e w11 ⟨A11, c11, rfl, h11⟩
            have S11 := Lib.hid h11
            clear h11 S10
            go_wp2_with fail
            refine (n_own S11.out (S11.out.rdL 0 rfl) (by have := HOL.out; omega)).mono ?_
            rintro e w12 ⟨A12, c12, rfl, h12, _⟩
            have S12 := Lib.hid h12
            clear h12 S11
            go_wp2_with fail
            refine (same_d (S12.out.rdL 0 rfl) (S12.out.rdL 3 rfl) rfl).mono ?_
            rintro e w13 ⟨rfl, hb⟩
            have S13 := Lib.hid (S12.out.next hb)
            clear hb S12
            go_wp2
            go_ret
            exact ⟨rfl, S13.out.old⟩

set_option maxHeartbeats 4000000 in
set_option maxRecDepth 100000 in
theorem leaves_walk (I : Cd) (A : Option Addr) (len cap : Nat) (zs : List Ac) (q : Int) (w : World) (hq : (Lit.int .u8 q).wf = true) (hlen : len ≤ 9223372036854775807) (hz : ZsIn w A len cap zs) :
    Calls Try.prog 5 #[.slice A len cap, .int .u8 q] w fun e w' => e = .returned (.bool true) ∧ Below w.heap.size w w' := by
  have hq2 : 0 ≤ q ∧ q ≤ 255 := by
    have h1 : IntKind.u8.min = 0 := rfl
    have h2 : IntKind.u8.max = 255 := rfl
    simp only [Lit.wf, Bool.and_eq_true, decide_eq_true_eq] at hq
    omega
  obtain ⟨q, rfl⟩ := Int.eq_ofNat_of_zero_le hq2.1
  by_cases h : len ≤ 100
  · exact leaves_main I A len cap zs q w (by omega) hz h
  · clear hz hq hq2
    go_enter Try.func5, Try.ntmps5
    go_wp2_with fail
    refine (awake_any I _).mono ?_
    rintro e w1 ⟨rfl, hb1⟩
    have HB := Lib.hid hb1
    clear hb1
    go_wp2
    go_ret
    exact ⟨rfl, HB.out⟩
end Go.Proofs.Ytbnijgcbifpijaa.CondI
