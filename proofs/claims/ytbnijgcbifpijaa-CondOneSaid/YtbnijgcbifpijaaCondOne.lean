/-
  The walk of the law CondOne over any package that meets 'Cd'. Condition: what the arguments read as.
-/
import Derived.Test.YtbnijgcbifpijaaCondM
import Derived.Test.YtbnijgcbifpijaaActs3
namespace Go.Proofs.Ytbnijgcbifpijaa.CondI
open Go.ChangeShapes Go.WideShapes Go.ChangeAt Go.RowKit Mem MutP CondP Hand RefCond Acts3

theorem drop_at {W : List Tl} {i : Nat} {x : Tl} (hx : W[i]? = some x) : oneT (W.drop i) = [x] ∧ restT (W.drop i) = W.drop (i + 1) := by
  obtain ⟨hl, rfl⟩ := List.getElem?_eq_some_iff.1 hx
  unfold oneT restT
  rw [List.drop_eq_getElem_cons hl]
  exact ⟨rfl, rfl⟩

set_option maxHeartbeats 8000000 in
set_option maxRecDepth 100000 in
theorem one_main (I : Cd) (A : Option Addr) (len cap : Nat) (zs : List Ac) (w : World) (hz : ZsIn w A len cap zs) (h60 : len ≤ 100) :
    Calls Try.prog 4 #[.slice A len cap] w fun e w' => e = .returned (.bool true) ∧ Below w.heap.size w w' := by
  obtain ⟨hzl, hzr, hzo⟩ := hz (by omega)
  subst hzl
  have HZR := Lib.hid hzr
  have HZO := Lib.hid hzo
  clear hzr hzo hz
  go_enter Try.func4, Try.ntmps4
  go_wp2_with fail
  refine (awake_any I _).mono ?_
  rintro e w1 ⟨rfl, hb1⟩
  have S1 := Lib.hid ((Sep.nil (fun _ => False) w).next hb1)
  clear hb1
  go_wp2_with fail
  refine (m_new S1.out I 20 (by omega) (by omega)).mono ?_
  rintro e w2 ⟨a, rfl, h2'⟩
  have S2 := Lib.hid h2'
  clear h2' S1
  go_wp2_with fail
  refine (m_new S2.out I 20 (by omega) (by omega)).mono ?_
  rintro e w3 ⟨b, rfl, h3⟩
  have S3 := Lib.hid h3
  clear h3 S2
  go_wp2
  go_loopw [32] (fun u wr => ∃ j : Nat, j ≤ zs.length ∧ u = .int .i64 j ∧ Hid (∃ (W : List Tl), Sep (fun _ => False) w wr [ob I.O (.pointer (some b)) (W, 20), ob I.O (.pointer (some a)) (W, 20)])) (fun u _ => zs.length - (intOf u).toNat)
  case atStart => exact ⟨0, Nat.zero_le _, rfl, _, S3.out⟩
  case round =>
    obtain ⟨j, hj, rfl, HS⟩ := hrel
    obtain ⟨W, hS⟩ := HS.out
    have SL := Lib.hid hS
    clear HS hS S3
    by_cases hlt : j < zs.length
    · have hx : zs[j]? = some zs[j] := List.getElem?_eq_getElem hlt
      generalize zs[j] = z at hx
      obtain ⟨hd64, ht64, hk64⟩ := HZO.out z (List.mem_of_getElem? hx)
      obtain ⟨bb, off, rfl, hbb, c0, c1, c2⟩ := ac_cells HZR.out hx
      have hb := SL.out.old
      have q0 := (hb.cell (p := ⟨bb, off + j * 3, none⟩) hbb).trans c0
      have q1 := (hb.cell (p := ⟨bb, off + j * 3 + 1, none⟩) hbb).trans c1
      have q2 := (hb.cell (p := ⟨bb, off + j * 3 + 2, none⟩) hbb).trans c2
      obtain ⟨d, t, k⟩ := z
      simp only at q0 q1 q2 ht64 hk64
      have S4 := Lib.hid (SL.out.new (.cells #[.int .i64 d, .int .i64 t, .int .i64 k] 32))
      have HT64 := Lib.hid ht64
      have HK64 := Lib.hid hk64
      clear hx c0 c1 c2 hb SL hd64 ht64 hk64
      go_wp2_with fail
      refine (m_do S4.out 2 rfl d t k HT64.out HK64.out).mono ?_
      rintro e w5 ⟨Ao, co, rfl, h5⟩
      have S5 := Lib.hid h5.tail
      clear h5 S4 q0 q1 q2
      simp only [List.set_cons_zero, List.set_cons_succ] at S5
      have a0 : w5.cell? ⟨wr.heap.size, 0, none⟩ = some (.int .i64 d) := (cell_block (S5.out.blk_at 0 rfl) 0).trans rfl
      have a1 : w5.cell? ⟨wr.heap.size, 1, none⟩ = some (.int .i64 t) := (cell_block (S5.out.blk_at 0 rfl) 1).trans rfl
      have a2 : w5.cell? ⟨wr.heap.size, 2, none⟩ = some (.int .i64 k) := (cell_block (S5.out.blk_at 0 rfl) 2).trans rfl
      go_wp2_with fail
      refine (m_do S5.out 1 rfl d t k HT64.out HK64.out).mono ?_
      rintro e w6 ⟨Ap, cp, rfl, h6⟩
      have S6 := Lib.hid h6.tail.tail
      clear h6 S5 a0 a1 a2
      have SF : Hid (∃ (W : List Tl), Sep (fun _ => False) w w6 [ob I.O (.pointer (some b)) (W, 20), ob I.O (.pointer (some a)) (W, 20)]) := ⟨_, S6.out⟩
      go_wp2
      go_roundw
      case rel => exact ⟨j + 1, by omega, by go_num, SF⟩
      case measure => simp [intOf]; omega
    · have hwl := (m_ok SL.out 1 rfl).wlen
      go_wp2_with fail
      refine (m_waiting SL.out 1 rfl).mono ?_
      rintro e w4 ⟨A4, c4, rfl, h4, _⟩
      have S4 := Lib.hid h4
      clear h4 SL
      go_wp2_with fail
      refine (n_own S4.out (S4.out.rdL 0 rfl) (by omega)).mono ?_
      rintro e w5 ⟨A5, c5, rfl, h5, _⟩
      have S5 := Lib.hid ((h5.sub (.cons_cons _ (.cons _ (List.Sublist.refl _)))).grow0 tlE 40)
      clear h5 S4
      go_wp2
      go_loopw [10, 49] (fun o u wx => ∃ i : Nat, i ≤ W.length ∧ u = .int .i64 i ∧ Hid (∃ A c, o = .slice A (W.take i).length c ∧ Sep (fun _ => False) w wx [grow tlE 40 (.slice A (W.take i).length c) (W.take i), told tlE (.slice A5 W.length c5) W, ob I.O (.pointer (some b)) (W, 20), ob I.O (.pointer (some a)) (W.drop i, 20)])) (fun _ u _ => W.length - (intOf u).toNat)
      case atStart => exact ⟨0, Nat.zero_le _, rfl, _, _, rfl, S5.out⟩
      case round =>
        obtain ⟨i, hi, rfl, HS⟩ := hrel
        obtain ⟨A6, c6, rfl, hS⟩ := HS.out
        have SL := Lib.hid hS
        have hol : (W.take i).length ≤ i := List.length_take_le _ _
        clear HS hS S5
        by_cases hlti : i < W.length
        · have hx : W[i]? = some W[i] := List.getElem?_eq_getElem hlti
          generalize W[i] = x at hx
          have HT : Hid (W.take (i + 1) = W.take i ++ [x]) := take_snocT W i x hx
          have HD := Lib.hid (drop_at hx)
          generalize hg : W.take i = lt at *
          clear hx hg
          go_wp2_with fail
          refine (n_signal SL.out 3 rfl (l := [x]) (W' := W.drop (i + 1)) (n := 1) HD.out.1 HD.out.2 rfl).mono ?_
          rintro e w7 ⟨A7, c7, rfl, h7⟩
          have S7 := Lib.hid h7
          clear h7 SL
          go_wp2_with fail
          refine (n_own S7.out (S7.out.rdL 0 rfl) (by simp)).mono ?_
          rintro e w8 ⟨A8, c8, rfl, h8, _⟩
          have S8 := Lib.hid h8
          clear h8 S7
          simp only [List.length_cons, List.length_nil, Nat.zero_add] at S8 ⊢
          go_wp2_with (at_builtin; refine wpList_appS rfl _ _ tlElem rfl rfl rfl S8.out 2 rfl (S8.out.rdL 0 rfl) (by simp; omega) ?_; intro A9 c9 w9 l9 HL9 h9)
          have S9 := Lib.hid (h9.tail.tail)
          clear h9 S8
          simp only [List.set_cons_zero, List.set_cons_succ] at S9
          go_wp2
          go_roundw
          case rel => exact ⟨i + 1, by omega, by go_num, by rw [HT.out, ← HL9.out]; exact ⟨_, _, rfl, S9.out⟩⟩
          case measure => simp [intOf]; omega
        · have hT : W.take i = W := List.take_of_length_le (by omega)
          have hD : W.drop i = [] := List.drop_of_length_le (by omega)
          have hs := SL.out
          rw [hT, hD] at hs
          rw [hT]
          have S9 := Lib.hid (grow_told hs (by omega))
          clear hs SL hol hT hD
          go_wp2_with fail
          refine (same_d (S9.out.rdL 0 rfl) (S9.out.rdL 1 rfl) rfl).mono ?_
          rintro e w10 ⟨rfl, hb⟩
          have S10 := Lib.hid (S9.out.next hb).tail
          clear hb S9
          go_wp2_with fail
          refine (m_broadcast S10.out 1 rfl).mono ?_
          rintro e w11 ⟨A11, c11, rfl, h11⟩
          have S11 := Lib.hid h11
          clear h11 S10
          go_wp2_with fail
          refine (n_own S11.out (S11.out.rdL 0 rfl) (by omega)).mono ?_
          rintro e w12 ⟨A12, c12, rfl, h12, _⟩
          have S12 := Lib.hid h12
          clear h12 S11
          go_wp2_with fail
          refine (same_d (S12.out.rdL 0 rfl) (S12.out.rdL 2 rfl) rfl).mono ?_
          rintro e w13 ⟨rfl, hb⟩
          have S13 := Lib.hid (S12.out.next hb).tail.tail.tail
          clear hb S12
          simp only [List.set_cons_zero] at S13
          go_wp2_with fail
          refine (n_signal S13.out 1 rfl (l := []) (W' := []) (n := 0) (by decide) (by decide) rfl).mono ?_
          rintro e w14 ⟨A14, c14, rfl, h14⟩
          have S14 := Lib.hid h14.tail
          clear h14 S13
          simp only [List.set_cons_zero, List.set_cons_succ] at S14
          go_wp2_with fail
          refine (n_broadcast S14.out 0 rfl (n := 0) rfl).mono ?_
          rintro e w15 ⟨A15, c15, rfl, h15⟩
          have S15 := Lib.hid h15.tail
          clear h15 S14
          simp only [List.set_cons_zero] at S15
          go_wp2_with fail
          refine (m_waiting S15.out 1 rfl).mono ?_
          rintro e w16 ⟨A16, c16, rfl, h16, _⟩
          have S16 := Lib.hid h16.tail
          clear h16 S15
          simp only [List.length_nil] at ⊢
          go_wp2_with fail
          refine (m_waiting S16.out 0 rfl).mono ?_
          rintro e w17 ⟨A17, c17, rfl, h17, _⟩
          have S17 := Lib.hid h17.tail
          clear h17 S16
          simp only [List.length_nil] at ⊢
          go_wp2
          go_ret
          exact ⟨rfl, S17.out.old⟩

set_option maxHeartbeats 4000000 in
set_option maxRecDepth 100000 in
theorem one_walk (I : Cd) (A : Option Addr) (len cap : Nat) (zs : List Ac) (w : World) (hlen : len ≤ 9223372036854775807) (hz : ZsIn w A len cap zs) :
    Calls Try.prog 4 #[.slice A len cap] w fun e w' => e = .returned (.bool true) ∧ Below w.heap.size w w' := by
  by_cases h : len ≤ 100
  · exact one_main I A len cap zs w hz h
  · clear hz
    go_enter Try.func4, Try.ntmps4
    go_wp2_with fail
    refine (awake_any I _).mono ?_
    rintro e w1 ⟨rfl, hb1⟩
    have HB := Lib.hid hb1
    clear hb1
    go_wp2
    go_ret
    exact ⟨rfl, HB.out⟩
end Go.Proofs.Ytbnijgcbifpijaa.CondI
