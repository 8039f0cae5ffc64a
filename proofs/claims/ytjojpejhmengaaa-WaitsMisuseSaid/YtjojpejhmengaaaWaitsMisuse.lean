/-
  The walk of the law WaitsMisuse over any package that meets 'Wg': it returns true and leaves old memory as it was. Conditions: none but 'Wg'.
-/
import Derived.Test.YtjojpejhmengaaaWaitsM
import Derived.Test.YtjojpejhmengaaaActs3
import Derived.Deep.DeepCutAuto
import Derived.Deep.CutBlock
namespace Go.Proofs.Ytjojpejhmengaaa.WaitsI
open Go.ChangeShapes Go.WideShapes Go.ChangeAt Go.RowKit Mem MutP WaitsP Hand RefMut RefWaits Acts3

/-- What has an error changes nothing; who waits is told so just where the count isn't 0. -/
theorem misuse_plain {C : Int} {W : List Int} {N : Int} (hok : WaitsP.Ok C W N) (d t k : Int) :
    (actE C W N d t k ≠ 0 ∧ actL C W d k = [] ∧ actB C W N d t = false ∧ actC C d k = C ∧ actW C W N d t k = W) ∨
    (actE C W N d t k = 0 ∧ d ≠ 2) ∨
    (actE C W N d t k = 0 ∧ d = 2 ∧ C = 0 ∧ actB C W N d t = true ∧ 0 ≤ t ∧ t < N ∧ inL W t = false) ∨
    (actE C W N d t k = 0 ∧ d = 2 ∧ C ≠ 0 ∧ actB C W N d t = false ∧ 0 ≤ t ∧ t < N ∧ inL W t = false) := by
  have hadd : ∀ n, (addE C n ≠ 0 ∧ addL C W n = [] ∧ addC C n = C ∧ addW C W n = W) ∨ addE C n = 0 := fun n => by
    rcases add_cases hok n with ⟨_, g0, g1, g2, g3⟩ | ⟨_, g0, g1, g2, g3⟩ | ⟨_, _, g0, _⟩ | ⟨_, g0, _⟩
    · exact .inl ⟨by omega, g2, g1, g3⟩
    · exact .inl ⟨by omega, g2, g1, g3⟩
    · exact .inr g0
    · exact .inr g0
  rcases (by omega : d = 0 ∨ d = 1 ∨ d = 2 ∨ d = 3 ∨ (d ≠ 0 ∧ d ≠ 1 ∧ d ≠ 2 ∧ d ≠ 3)) with rfl | rfl | rfl | rfl | ⟨d0, d1, d2, d3⟩
  · rcases hadd k with ⟨g0, g1, g2, g3⟩ | g0
    · exact .inl ⟨g0, g1, rfl, g2, g3⟩
    · exact .inr (.inl ⟨g0, by omega⟩)
  · rcases hadd (-1) with ⟨g0, g1, g2, g3⟩ | g0
    · exact .inl ⟨g0, g1, rfl, g2, g3⟩
    · exact .inr (.inl ⟨g0, by omega⟩)
  · rcases wt_cases hok t with ⟨g0, g1, g2⟩ | ⟨g0, hC, _, g1, _, t0, t1⟩ | ⟨g0, hC, _, g1, _, t0, t1⟩
    · exact .inl ⟨g0, rfl, g1, rfl, g2⟩
    · exact .inr (.inr (.inl ⟨g0, rfl, hC, g1, t0, t1, (wt_zero g0).2⟩))
    · exact .inr (.inr (.inr ⟨g0, rfl, by omega, g1, t0, t1, (wt_zero g0).2⟩))
  · exact .inr (.inl ⟨rfl, by omega⟩)
  · exact .inr (.inl ⟨(act_no (C := C) (W := W) (N := N) (t := t) (k := k) d0 d1 d2 d3).2.2.1, d2⟩)

set_option maxHeartbeats 8000000 in
set_option maxRecDepth 100000 in
theorem misuse_walk (I : Wg) (A : Option Addr) (len cap : Nat) (zs : List Ac) (d t k : Int) (w : World) (hlen : len ≤ 9223372036854775807) (hz : ZsIn w A len cap zs) (ht : In64 t) (hk : In64 k) :
    Calls Try.prog 5 #[.slice A len cap, .agg #[.int .i64 d, .int .i64 t, .int .i64 k]] w fun e w' => e = .returned (.bool true) ∧ Below w.heap.size w w' := by
  have HT := Lib.hid ht
  have HK := Lib.hid hk
  have HZ := Lib.hid hz
  have S0 := Lib.hid ((Sep.nil (fun _ => False) w).new (.cells #[.int .i64 d, .int .i64 t, .int .i64 k] 32))
  clear hz ht hk
  by_cases h60 : 100 < len
  · go_enter Try.func5, Try.ntmps5
    go_wp2_with fail
    refine (awake_any I _).mono ?_
    rintro e w1 ⟨rfl, hb1⟩
    have S1 := Lib.hid (S0.out.next hb1)
    clear hb1
    go_wp2
    go_ret
    exact ⟨rfl, S1.out.old⟩
  · obtain ⟨hzl, hzr, hzo⟩ := HZ.out (by omega)
    subst hzl
    have HZR := Lib.hid hzr
    have HZO := Lib.hid hzo
    clear hzr hzo HZ
    go_enter Try.func5, Try.ntmps5
    go_wp2_with fail
    refine (awake_any I _).mono ?_
    rintro e w1 ⟨rfl, hb1⟩
    have S1 := Lib.hid (S0.out.next hb1)
    clear hb1 S0
    go_wp2_with fail
    refine (m_new S1.out I 20 (by omega) (by omega)).mono ?_
    rintro e w2 ⟨a, rfl, h2'⟩
    have S2 := Lib.hid h2'
    clear h2' S1
    go_wp2
    go_loopw [27] (fun u wr => ∃ j : Nat, j ≤ zs.length ∧ u = .int .i64 j ∧ Hid (∃ (C : Int) (W : List Int), Sep (fun _ => False) w wr [ob I.O (.pointer (some a)) (C, W, 20), blk w.heap.size (.cells #[.int .i64 d, .int .i64 t, .int .i64 k] 32)])) (fun u _ => zs.length - (intOf u).toNat)
    case atStart => exact ⟨0, Nat.zero_le _, rfl, _, _, S2.out⟩
    case round =>
      obtain ⟨j, hj, rfl, HS⟩ := hrel
      obtain ⟨C, W, hS⟩ := HS.out
      have SL := Lib.hid hS
      clear HS hS S2
      by_cases hlt : j < zs.length
      · have hx : zs[j]? = some zs[j] := List.getElem?_eq_getElem hlt
        generalize zs[j] = z at hx
        obtain ⟨hd64, ht64, hk64⟩ := HZO.out z (List.mem_of_getElem? hx)
        obtain ⟨bb, off, rfl, hbb, c0, c1, c2⟩ := ac_cells HZR.out hx
        have hb := SL.out.old
        have q0 := (hb.cell (p := ⟨bb, off + j * 3, none⟩) hbb).trans c0
        have q1 := (hb.cell (p := ⟨bb, off + j * 3 + 1, none⟩) hbb).trans c1
        have q2 := (hb.cell (p := ⟨bb, off + j * 3 + 2, none⟩) hbb).trans c2
        obtain ⟨zd, zt, zk⟩ := z
        simp only at q0 q1 q2 ht64 hk64
        have S4 := Lib.hid (SL.out.new (.cells #[.int .i64 zd, .int .i64 zt, .int .i64 zk] 32))
        have HT64 := Lib.hid ht64
        have HK64 := Lib.hid hk64
        clear hx c0 c1 c2 hb SL hd64 ht64 hk64
        go_wp2_with fail
        refine (m_do S4.out 1 rfl zd zt zk HT64.out HK64.out).mono ?_
        rintro e w5 ⟨A5, c5, rfl, h5⟩
        have SF : Hid (∃ (C : Int) (W : List Int), Sep (fun _ => False) w w5 [ob I.O (.pointer (some a)) (C, W, 20), blk w.heap.size (.cells #[.int .i64 d, .int .i64 t, .int .i64 k] 32)]) := ⟨_, _, h5.tail.tail⟩
        clear h5 S4 q0 q1 q2
        go_wp2
        go_roundw
        case rel => exact ⟨j + 1, by omega, by go_num, SF⟩
        case measure => simp [intOf]; omega
      · have hok := m_ok SL.out 0 rfl
        have HP := Lib.hid (misuse_plain hok d t k)
        clear HZR HZO hok
        go_wp2_with fail
        refine (m_count SL.out 0 rfl).mono ?_
        rintro e w4 ⟨rfl, h4, _⟩
        have S4 := Lib.hid h4
        clear h4 SL
        go_wp2_with fail
        refine (m_waiting S4.out 0 rfl).mono ?_
        rintro e w6 ⟨A6, c6, rfl, h6, _⟩
        have S6 := Lib.hid h6
        have a0 : w6.cell? ⟨w.heap.size, 0, none⟩ = some (.int .i64 d) := (cell_block (S6.out.blk_at 2 rfl) 0).trans rfl
        have a1 : w6.cell? ⟨w.heap.size, 1, none⟩ = some (.int .i64 t) := (cell_block (S6.out.blk_at 2 rfl) 1).trans rfl
        have a2 : w6.cell? ⟨w.heap.size, 2, none⟩ = some (.int .i64 k) := (cell_block (S6.out.blk_at 2 rfl) 2).trans rfl
        clear h6 S4
        obtain ⟨E, hE⟩ : ∃ E, actE C W 20 d t k = E := ⟨_, rfl⟩
        obtain ⟨Bo, hBo⟩ : ∃ Bo, actB C W 20 d t = Bo := ⟨_, rfl⟩
        obtain ⟨L2, hL2⟩ : ∃ L2, actL C W d k = L2 := ⟨_, rfl⟩
        obtain ⟨C2, hC2⟩ : ∃ C2, actC C d k = C2 := ⟨_, rfl⟩
        obtain ⟨W2, hW2⟩ : ∃ W2, actW C W 20 d t k = W2 := ⟨_, rfl⟩
        have KE := Lib.hid hE
        have KB := Lib.hid hBo
        have KL := Lib.hid hL2
        have KC := Lib.hid hC2
        have KW := Lib.hid hW2
        rw [hE, hBo, hL2, hC2, hW2] at HP
        clear hE hBo hL2 hC2 hW2
        go_wp2_with fail
        refine (m_do S6.out 1 rfl d t k HT.out HK.out).mono ?_
        rw [KE.out, KB.out, KL.out, KC.out, KW.out]
        rintro e w7 ⟨A7, c7, rfl, h7⟩
        have S7 : Hid (Sep (fun _ => False) w w7 [nums (.slice A7 L2.length c7) L2, nums (.slice A6 W.length c6) W, ob I.O (.pointer (some a)) (C2, W2, 20), blk w.heap.size (.cells #[.int .i64 d, .int .i64 t, .int .i64 k] 32)]) := h7
        clear h7 S6 KE KB KL KC KW a0 a1 a2
        have a0 : w7.cell? ⟨w.heap.size, 0, none⟩ = some (.int .i64 d) := (cell_block (S7.out.blk_at 3 rfl) 0).trans rfl
        have a1 : w7.cell? ⟨w.heap.size, 1, none⟩ = some (.int .i64 t) := (cell_block (S7.out.blk_at 3 rfl) 1).trans rfl
        rcases HP.out with ⟨hE, rfl, rfl, rfl, rfl⟩ | ⟨rfl, hd⟩ | ⟨rfl, rfl, rfl, rfl, t0, t1, hi⟩ | ⟨rfl, rfl, hC, rfl, t0, t1, hi⟩
        · have e1 : (E != 0) = true := by simpa using hE
          simp only [List.length_nil]
          clear hE HP a0 a1
          go_wp2_with fail
          refine (m_count S7.out 2 rfl).mono ?_
          rintro e w8 ⟨rfl, h8, _⟩
          have S8 := Lib.hid h8
          have e2 : (C2 == C2) = true := by simp
          clear h8 S7
          go_wp2_with fail
          refine (m_waiting S8.out 2 rfl).mono ?_
          rintro e w9 ⟨A9, c9, rfl, h9, _⟩
          have S9 := Lib.hid h9
          clear h9 S8
          go_wp2_with fail
          refine (same_d (S9.out.rd 0 rfl) (S9.out.rd 2 rfl) rfl).mono ?_
          rintro e w10 ⟨rfl, hb10⟩
          have S10 := Lib.hid (S9.out.next hb10)
          clear hb10 S9
          go_wp2
          go_ret
          exact ⟨rfl, S10.out.old⟩
        · have e1 : (d != 2) = true := by simpa using hd
          clear hd HP
          go_wp2
          go_ret
          exact ⟨rfl, S7.out.old⟩
        · have HI := Lib.hid (in_any (S7.out.rd 1 rfl) t)
          rw [hi] at HI
          clear HP hi
          go_wp2_with fail
          refine HI.out.mono ?_
          rintro e w8 ⟨rfl, rfl⟩
          go_wp2
          go_ret
          exact ⟨rfl, S7.out.old⟩
        · have HI := Lib.hid (in_any (S7.out.rd 1 rfl) t)
          rw [hi] at HI
          have e1 : (C == 0) = false := by simpa using hC
          clear HP hi hC
          go_wp2_with fail
          refine HI.out.mono ?_
          rintro e w8 ⟨rfl, rfl⟩
          go_wp2
          go_ret
          exact ⟨rfl, S7.out.old⟩
end Go.Proofs.Ytjojpejhmengaaa.WaitsI
