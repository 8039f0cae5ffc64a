/-
  The walk of the law OnceLeaves over any package that meets 'On'. Condition: what the arguments read as.
-/
import Derived.Test.YtlepedhfnkamkaaOnceM
import Derived.Test.YtlepedhfnkamkaaActs
namespace Go.Proofs.Ytlepedhfnkamkaa.OnceI
open Go.ChangeShapes Go.WideShapes Go.ChangeAt Go.RowKit Mem MutP OnceP Hand RefMut RefOnce Acts

/-- What End tells, behind a Leave. -/
theorem fin_plain {S D : Int} {W : List Int} (h : OnceP.Ok S D W 20) :
    (D = -1 ∧ endE D 20 D = 3 ∧ endL D W 20 D = []) ∨ (0 ≤ D ∧ endE D 20 D = 0 ∧ endL D W 20 D = W ∧ endS S D 20 D = 2 ∧ endD D 20 D = -1 ∧ endW D W 20 D = []) := by
  rcases h.is with ⟨_, hD⟩ | ⟨_, rfl, rfl⟩
  · have hE : endE D 20 D = 0 := by unfold endE; rw [if_neg (by rw [h.name hD]; simp), if_pos rfl]
    unfold endL endS endD endW
    rw [if_pos hE, if_pos hE, if_pos hE, if_pos hE]
    exact .inr ⟨hD, hE, rfl, rfl, rfl, rfl⟩
  · exact .inl ⟨rfl, by decide, by decide⟩

set_option maxHeartbeats 8000000 in
set_option maxRecDepth 100000 in
theorem leaves_main (I : On) (A : Option Addr) (len cap : Nat) (zs : List Ac) (q : Nat) (w : World) (hq : q ≤ 255) (hz : ZsIn w A len cap zs) (h60 : len ≤ 80) :
    Calls Try.prog 5 #[.slice A len cap, .int .u8 q] w fun e w' => e = .returned (.bool true) ∧ Below w.heap.size w w' := by
  obtain ⟨hzl, hzr, hzo⟩ := hz (by omega)
  subst hzl
  have HZR := Lib.hid hzr
  have HZO := Lib.hid hzo
  clear hzr hzo hz
  go_enter Try.func5, Try.ntmps5
  go_wp2_with fail
  refine (awake_any I _).mono ?_
  rintro e w1 ⟨rfl, hb1⟩
  have S1 := Lib.hid ((Sep.nil (fun _ => False) w).next hb1)
  clear hb1
  go_wp2_with fail
  refine (m_new S1.out I 20 (by omega) (by omega)).mono ?_
  rintro e w2 ⟨a, rfl, h2'⟩
  have S2 := Lib.hid h2'
  clear h2' S1
  go_wp2
  go_loopw [28] (fun u wr => ∃ j : Nat, j ≤ zs.length ∧ u = .int .i64 j ∧ Hid (∃ (S D : Int) (W : List Int), Sep (fun _ => False) w wr [ob I.O (.pointer (some a)) (S, D, W, 20)])) (fun u _ => zs.length - (intOf u).toNat)
  case atStart => exact ⟨0, Nat.zero_le _, rfl, _, _, _, S2.out⟩
  case round =>
    obtain ⟨j, hj, rfl, HS⟩ := hrel
    obtain ⟨S, D, W, hS⟩ := HS.out
    have SL := Lib.hid hS
    clear HS hS S2
    by_cases hlt : j < zs.length
    · have hx : zs[j]? = some zs[j] := List.getElem?_eq_getElem hlt
      generalize zs[j] = z at hx
      obtain ⟨hd64, ht64⟩ := HZO.out z (List.mem_of_getElem? hx)
      obtain ⟨bb, off, rfl, hbb, c0, c1⟩ := ac_cells HZR.out hx
      have hb := SL.out.old
      have q0 := (hb.cell (p := ⟨bb, off + j * 2, none⟩) hbb).trans c0
      have q1 := (hb.cell (p := ⟨bb, off + j * 2 + 1, none⟩) hbb).trans c1
      obtain ⟨d, t⟩ := z
      simp only at q0 q1 ht64
      have S4 := Lib.hid (SL.out.next (new_below0 wr (.cells #[.int .i64 d, .int .i64 t] 32)))
      have HT64 := Lib.hid ht64
      clear hx c0 c1 hb SL hd64 ht64
      go_wp2_with fail
      refine (m_do S4.out 0 rfl d t HT64.out).mono ?_
      rintro e w5 ⟨Ao, co, rfl, h5⟩
      have S5 := Lib.hid h5.tail
      clear h5 S4 q0 q1
      have SF : Hid (∃ (S D : Int) (W : List Int), Sep (fun _ => False) w w5 [ob I.O (.pointer (some a)) (S, D, W, 20)]) := ⟨_, _, _, S5.out⟩
      go_wp2
      go_roundw
      case rel => exact ⟨j + 1, by omega, by go_num, SF⟩
      case measure => simp [intOf]; omega
    · have hok := m_ok SL.out 0 rfl
      have hwl := hok.wlen
      have HO := Lib.hid hok
      have hwho : 0 ≤ (q : Int) % 20 ∧ (q : Int) % 20 < 20 := by omega
      clear hok
      go_wp2_with fail
      generalize (q : Int) % 20 = who at *
      have HW64 : Hid (In64 who) := ⟨by omega, by omega⟩
      have HP := Lib.hid (fin_plain (HO.out.leave who))
      have HD64 : Hid (In64 D) := by
        rcases HO.out.is with ⟨_, hD⟩ | ⟨_, rfl, _⟩
        · have h1 := name_iff.1 (HO.out.name hD)
          exact ⟨by omega, by omega⟩
        · exact ⟨by omega, by omega⟩
      clear hwho HO
      refine (m_by SL.out 0 rfl).mono ?_
      rintro e w3 ⟨rfl, h3, _⟩
      have S3 := Lib.hid h3
      clear h3 SL
      go_wp2_with fail
      refine (m_waiting S3.out 0 rfl).mono ?_
      rintro e w4 ⟨A4, c4, rfl, h4, _⟩
      have S4 := Lib.hid h4
      clear h4 S3
      obtain ⟨b, hb⟩ : ∃ b, inL W who = b := ⟨_, rfl⟩
      have HBo := Lib.hid hb
      clear hb
      go_wp2_with fail
      refine (m_leave S4.out 1 rfl who HW64.out).mono ?_
      rw [HBo.out]
      rintro e w5 ⟨rfl, h5⟩
      have S5 := Lib.hid h5
      clear h5 S4
      simp only [List.set_cons_zero, List.set_cons_succ] at S5
      go_wp2_with fail
      refine (in_any (S5.out.rd 0 rfl) who).mono ?_
      rw [HBo.out]
      rintro e w6 ⟨rfl, rfl⟩
      have hbb : (b != b) = false := by simp
      have hDD : (D != D) = false := by simp
      go_wp2_with fail
      refine (m_by S5.out 1 rfl).mono ?_
      rintro e w6 ⟨rfl, h6, _⟩
      have S6 := Lib.hid h6
      clear h6 S5
      go_wp2_with fail
      refine (without_g S6.out (S6.out.rd 0 rfl) who).mono ?_
      rintro e w7 ⟨A7, c7, rfl, h7, _, _⟩
      have HLW : Hid ((withoutL W who).length ≤ 1000) := Nat.le_trans (List.length_filter_le _ _) hwl
      have S7 := Lib.hid (grow_nums h7 (by have := HLW.out; omega))
      clear h7 S6 HBo hbb
      generalize withoutL W who = W2 at *
      go_wp2_with fail
      refine (m_waiting S7.out 2 rfl).mono ?_
      rintro e w8 ⟨A8, c8, rfl, h8, _⟩
      have S8 := Lib.hid h8
      clear h8 S7
      go_wp2_with fail
      refine (same_d (S8.out.rd 0 rfl) (S8.out.rd 1 rfl) rfl).mono ?_
      rintro e w9 ⟨rfl, hb9⟩
      have S9 := Lib.hid (S8.out.next hb9).tail
      clear hb9 S8
      rcases HP.out with ⟨rfl, h1, h2⟩ | ⟨hD, h1, h2, h3, h4, h5⟩
      · have H1 := Lib.hid h1
        have H2 := Lib.hid h2
        clear h1 h2 HP
        go_wp2_with fail
        refine (n_end S9.out 2 rfl (-1) HD64.out (n := 0) H1.out rfl rfl rfl H2.out rfl).mono ?_
        rintro e w10 ⟨A10, c10, rfl, h10⟩
        have S10 := Lib.hid h10
        clear h10 S9
        go_wp2
        go_ret
        exact ⟨rfl, S10.out.old⟩
      · have H1 := Lib.hid h1
        have H2 := Lib.hid h2
        have H3 := Lib.hid h3
        have H4 := Lib.hid h4
        have H5 := Lib.hid h5
        have dD : decide (D ≥ 0) = true := by simpa using hD
        have dD2 : decide (D < 0) = false := by simp; omega
        clear h1 h2 h3 h4 h5 HP
        go_wp2_with fail
        refine (n_end S9.out 2 rfl D HD64.out (n := W2.length) H1.out H3.out H4.out H5.out H2.out rfl).mono ?_
        rintro e w10 ⟨A10, c10, rfl, h10⟩
        have S10 := Lib.hid h10
        clear h10 S9
        simp only [List.set_cons_zero, List.set_cons_succ] at S10
        go_wp2_with fail
        refine (same_d (S10.out.rd 0 rfl) (S10.out.rd 1 rfl) rfl).mono ?_
        rintro e w11 ⟨rfl, hb11⟩
        have S11 := Lib.hid (S10.out.next hb11)
        clear hb11 S10
        go_wp2_with fail
        refine (m_state S11.out 3 rfl).mono ?_
        rintro e w12 ⟨rfl, h12, _⟩
        have S12 := Lib.hid h12
        clear h12 S11
        go_wp2
        go_ret
        exact ⟨rfl, S12.out.old⟩

set_option maxHeartbeats 4000000 in
set_option maxRecDepth 100000 in
theorem leaves_walk (I : On) (A : Option Addr) (len cap : Nat) (zs : List Ac) (q : Int) (w : World) (hq : (Lit.int .u8 q).wf = true) (hlen : len ≤ 9223372036854775807) (hz : ZsIn w A len cap zs) :
    Calls Try.prog 5 #[.slice A len cap, .int .u8 q] w fun e w' => e = .returned (.bool true) ∧ Below w.heap.size w w' := by
  have hq2 : 0 ≤ q ∧ q ≤ 255 := by
    have h1 : IntKind.u8.min = 0 := rfl
    have h2 : IntKind.u8.max = 255 := rfl
    simp only [Lit.wf, Bool.and_eq_true, decide_eq_true_eq] at hq
    omega
  obtain ⟨q, rfl⟩ := Int.eq_ofNat_of_zero_le hq2.1
  by_cases h : len ≤ 80
  · exact leaves_main I A len cap zs q w (by omega) hz h
  · clear hz hq hq2
    go_enter Try.func5, Try.ntmps5
    go_wp2_with fail
    refine (awake_any I _).mono ?_
    rintro e w1 ⟨rfl, hb1⟩
    have HB := Lib.hid hb1
    clear hb1
    go_wp2
    go_ret
    exact ⟨rfl, HB.out⟩
end Go.Proofs.Ytlepedhfnkamkaa.OnceI
