/-
  The walk of the law FlightApart over any package that meets 'Fl': it returns true and leaves old memory as it was. Conditions: none but 'Fl'.
-/
import Derived.Test.YtbkeodjebfkkdaaFlightM
import Derived.Test.YtbkeodjebfkkdaaFlightQ
import Derived.Test.YtbkeodjebfkkdaaActs3
import Derived.Deep.DeepCutAuto
import Derived.Deep.CutBlock
namespace Go.Proofs.Ytbkeodjebfkkdaa.FlightI
open Go.ChangeShapes Go.WideShapes Go.ChangeAt Go.RowKit Mem MutP FlightP Hand RefMut RefFlight Acts3

set_option maxHeartbeats 2000000 in
set_option maxRecDepth 100000 in
theorem apart_walk (I : Fl) (A : Option Addr) (len cap : Nat) (zs : List Ac) (d t k key : Int) (w : World) (hlen : len ≤ 9223372036854775807) (hz : ZsIn w A len cap zs) (ht : In64 t) (hk : In64 k) (hkey : In64 key) :
    Calls Try.prog 5 #[.slice A len cap, .agg #[.int .i64 d, .int .i64 t, .int .i64 k], .int .i64 key] w fun e w' => e = .returned (.bool true) ∧ Below w.heap.size w w' := by
  have HT := Lib.hid ht
  have HK := Lib.hid hk
  have HKEY := Lib.hid hkey
  have HZ := Lib.hid hz
  have S0 := Lib.hid ((Sep.nil (fun _ => False) w).new (.cells #[.int .i64 d, .int .i64 t, .int .i64 k] 32))
  clear hz ht hk hkey
  by_cases h60 : 100 < len
  · go_enter Try.func5, Try.ntmps5
    go_wp2_with fail
    refine (awake_any I _).mono ?_
    rintro e w1 ⟨rfl, hb1⟩
    have S1 := Lib.hid (S0.out.next hb1)
    clear hb1
    go_wp2
    go_ret
    exact ⟨rfl, S1.out.old⟩
  · obtain ⟨hzl, hzr, hzo⟩ := HZ.out (by omega)
    subst hzl
    have HZR := Lib.hid hzr
    have HZO := Lib.hid hzo
    clear hzr hzo HZ
    go_enter Try.func5, Try.ntmps5
    go_wp2_with fail
    refine (awake_any I _).mono ?_
    rintro e w1 ⟨rfl, hb1⟩
    have S1 := Lib.hid (S0.out.next hb1)
    clear hb1 S0
    go_wp2_with fail
    refine (m_new S1.out I 12 (by omega) (by omega)).mono ?_
    rintro e w2 ⟨a, rfl, h2'⟩
    have S2 := Lib.hid h2'
    clear h2' S1
    go_wp2
    go_loopw [29] (fun u wr => ∃ j : Nat, j ≤ zs.length ∧ u = .int .i64 j ∧ Hid (∃ s : St, Sep (fun _ => False) w wr [ob I.O (.pointer (some a)) s, blk w.heap.size (.cells #[.int .i64 d, .int .i64 t, .int .i64 k] 32)])) (fun u _ => zs.length - (intOf u).toNat)
    case atStart => exact ⟨0, Nat.zero_le _, rfl, _, S2.out⟩
    case round =>
      obtain ⟨j, hj, rfl, HS⟩ := hrel
      obtain ⟨s, hS⟩ := HS.out
      have SL := Lib.hid hS
      clear HS hS S2
      by_cases hlt : j < zs.length
      · have hx : zs[j]? = some zs[j] := List.getElem?_eq_getElem hlt
        generalize zs[j] = z at hx
        obtain ⟨hd64, ht64, hk64⟩ := HZO.out z (List.mem_of_getElem? hx)
        obtain ⟨bb, off, rfl, hbb, c0, c1, c2⟩ := ac_cells HZR.out hx
        have hb := SL.out.old
        have q0 := (hb.cell (p := ⟨bb, off + j * 3, none⟩) hbb).trans c0
        have q1 := (hb.cell (p := ⟨bb, off + j * 3 + 1, none⟩) hbb).trans c1
        have q2 := (hb.cell (p := ⟨bb, off + j * 3 + 2, none⟩) hbb).trans c2
        obtain ⟨zd, zt, zk⟩ := z
        simp only at q0 q1 q2 ht64 hk64
        have S4 := Lib.hid (SL.out.new (.cells #[.int .i64 zd, .int .i64 zt, .int .i64 zk] 32))
        have HT64 := Lib.hid ht64
        have HK64 := Lib.hid hk64
        clear hx c0 c1 c2 hb SL hd64 ht64 hk64
        go_wp2_with fail
        refine (m_do S4.out 1 rfl zd zt zk HT64.out HK64.out rfl rfl rfl rfl rfl rfl).mono ?_
        rintro e w5 ⟨A5, c5, rfl, h5⟩
        have SF : Hid (∃ s : St, Sep (fun _ => False) w w5 [ob I.O (.pointer (some a)) s, blk w.heap.size (.cells #[.int .i64 d, .int .i64 t, .int .i64 k] 32)]) := ⟨actS s zd zt zk, h5.tail.tail⟩
        clear h5 S4 q0 q1 q2
        go_wp2
        go_roundw
        case rel => exact ⟨j + 1, by omega, by go_num, SF⟩
        case measure => simp [intOf]; omega
      · have HOK := Lib.hid (m_ok SL.out 0 rfl)
        obtain ⟨LK, hLK⟩ : ∃ LK, leaderK s.L key = LK := ⟨_, rfl⟩
        have hL64 : Hid (In64 LK) := by
          have h1 := HOK.out.leader_in key
          have h2 := HOK.out.n1
          rw [hLK] at h1
          exact ⟨by omega, by omega⟩
        obtain ⟨row, hrow⟩ : ∃ row, joinedL s.L LK = row := ⟨_, rfl⟩
        obtain ⟨own, hown⟩ : ∃ own, leadsK s.L t = own := ⟨_, rfl⟩
        obtain ⟨lb, hlb⟩ : ∃ lb, leadsB s.L t = lb := ⟨_, rfl⟩
        obtain ⟨jv, hjv⟩ : ∃ jv, joinsT s.L t = jv := ⟨_, rfl⟩
        have KLK := Lib.hid hLK
        have KR := Lib.hid hrow
        have KO := Lib.hid hown
        have KB := Lib.hid hlb
        have KJ := Lib.hid hjv
        clear hLK hrow hown hlb hjv
        go_wp2_with fail
        refine (m_leader SL.out 0 rfl key HKEY.out KLK.out).mono ?_
        rintro e w5 ⟨rfl, h5, _⟩
        have S5 := Lib.hid h5
        clear h5 SL
        go_wp2_with fail
        refine (m_joined S5.out 0 rfl LK hL64.out KR.out).mono ?_
        rintro e w6 ⟨A6, c6, rfl, h6, _⟩
        have S6 : Hid (Sep (fun _ => False) w w6 [nums (.slice A6 row.length c6) row, ob I.O (.pointer (some a)) s, blk w.heap.size (.cells #[.int .i64 d, .int .i64 t, .int .i64 k] 32)]) := h6
        clear h6 S5
        have a1 : w6.cell? ⟨w.heap.size, 1, none⟩ = some (.int .i64 t) := (cell_block (S6.out.blk_at 2 rfl) 1).trans rfl
        go_wp2_with fail
        refine (m_leads S6.out 1 rfl t HT.out KO.out KB.out).mono ?_
        rintro e w7 ⟨rfl, h7, _⟩
        have S7 := Lib.hid h7
        clear h7 S6 a1
        have a0 : w7.cell? ⟨w.heap.size, 0, none⟩ = some (.int .i64 d) := (cell_block (S7.out.blk_at 2 rfl) 0).trans rfl
        have a1 : w7.cell? ⟨w.heap.size, 1, none⟩ = some (.int .i64 t) := (cell_block (S7.out.blk_at 2 rfl) 1).trans rfl
        have a2 : w7.cell? ⟨w.heap.size, 2, none⟩ = some (.int .i64 k) := (cell_block (S7.out.blk_at 2 rfl) 2).trans rfl
        go_upto_region 16 with (fail)
        go_cut [15] (fun s15 wx => ∃ o : Bool, s15 = .bool o ∧ Hid ((o = true → leaderK (actS s d t k).L key = LK ∧ joinedL (actS s d t k).L LK = row) ∧ Sep (fun _ => False) w wx [nums (.slice A6 row.length c6) row, ob I.O (.pointer (some a)) s, blk w.heap.size (.cells #[.int .i64 d, .int .i64 t, .int .i64 k] 32)]))
        case first => as_aux_lemma =>
          rcases (by omega : d = 0 ∨ d = 1 ∨ d = 2 ∨ d = 3 ∨ (d ≠ 0 ∧ d ≠ 1 ∧ d ≠ 2 ∧ d ≠ 3)) with rfl | rfl | rfl | rfl | ⟨d0, d1, d2, d3⟩
          · skip
            by_cases hkk : k = key
            · have e1 : (k != key) = false := by simpa using hkk
              clear hkk
              go_wp2
              go_meet
              exact ⟨false, rfl, fun h => (by cases h), S7.out⟩
            · have e1 : (k != key) = true := by simpa using hkk
              have HP : Hid (leaderK (actS s 0 t k).L key = LK ∧ joinedL (actS s 0 t k).L LK = row) := by
                have h1 := apart_do HOK.out hkk t
                rw [KLK.out] at h1
                exact ⟨h1.1, h1.2.trans KR.out⟩
              clear hkk
              go_wp2
              go_meet
              exact ⟨true, rfl, fun _ => HP.out, S7.out⟩
          · skip
            cases lb with
            | false =>
              have HP : Hid (leaderK (actS s 1 t k).L key = LK ∧ joinedL (actS s 1 t k).L LK = row) := by
                have h1 := apart_fin (key := key) HOK.out (.inl KB.out)
                rw [KLK.out] at h1
                exact ⟨h1.1, h1.2.trans KR.out⟩
              by_cases hkk : k = key
              · have e1 : (k != key) = false := by simpa using hkk
                clear hkk
                go_wp2
                go_meet
                exact ⟨true, rfl, fun _ => HP.out, S7.out⟩
              · have e1 : (k != key) = true := by simpa using hkk
                clear hkk
                go_wp2
                go_meet
                exact ⟨true, rfl, fun _ => HP.out, S7.out⟩
            | true =>
              by_cases ho : own = key
              · have e2 : (own != key) = false := by simpa using ho
                clear ho
                by_cases hkk : k = key
                · have e1 : (k != key) = false := by simpa using hkk
                  clear hkk
                  go_wp2
                  go_meet
                  exact ⟨false, rfl, fun h => (by cases h), S7.out⟩
                · have e1 : (k != key) = true := by simpa using hkk
                  clear hkk
                  go_wp2
                  go_meet
                  exact ⟨false, rfl, fun h => (by cases h), S7.out⟩
              · have e2 : (own != key) = true := by simpa using ho
                have HP : Hid (leaderK (actS s 1 t k).L key = LK ∧ joinedL (actS s 1 t k).L LK = row) := by
                  have h1 := apart_fin (key := key) HOK.out (.inr (by rw [KO.out]; exact ho))
                  rw [KLK.out] at h1
                  exact ⟨h1.1, h1.2.trans KR.out⟩
                clear ho
                by_cases hkk : k = key
                · have e1 : (k != key) = false := by simpa using hkk
                  clear hkk
                  go_wp2
                  go_meet
                  exact ⟨true, rfl, fun _ => HP.out, S7.out⟩
                · have e1 : (k != key) = true := by simpa using hkk
                  clear hkk
                  go_wp2
                  go_meet
                  exact ⟨true, rfl, fun _ => HP.out, S7.out⟩
          · skip
            by_cases hkk : k = key
            · have e1 : (k != key) = false := by simpa using hkk
              clear hkk
              go_wp2
              go_meet
              exact ⟨false, rfl, fun h => (by cases h), S7.out⟩
            · have e1 : (k != key) = true := by simpa using hkk
              have HP : Hid (leaderK (actS s 2 t k).L key = LK ∧ joinedL (actS s 2 t k).L LK = row) := by
                have h1 := apart_forget hkk s
                rw [KLK.out] at h1
                exact ⟨h1.1, h1.2.trans KR.out⟩
              clear hkk
              go_wp2
              go_meet
              exact ⟨true, rfl, fun _ => HP.out, S7.out⟩
          · skip
            by_cases hl0 : LK < 0
            · skip
              have HP : Hid (leaderK (actS s 3 t k).L key = LK ∧ joinedL (actS s 3 t k).L LK = row) := by
                have h1 := apart_leave (t := t) (key := key) HOK.out (.inl (by rw [KLK.out]; exact hl0))
                rw [KLK.out] at h1
                exact ⟨h1.1, h1.2.trans KR.out⟩
              by_cases hkk : k = key
              · have e1 : (k != key) = false := by simpa using hkk
                clear hkk
                go_wp2
                go_meet
                exact ⟨true, rfl, fun _ => HP.out, S7.out⟩
              · have e1 : (k != key) = true := by simpa using hkk
                clear hkk
                go_wp2
                go_meet
                exact ⟨true, rfl, fun _ => HP.out, S7.out⟩
            · have e3 : decide (LK < 0) = false := decide_eq_false hl0
              by_cases hj : jv = LK
              · have e4 : (jv != LK) = false := by simpa using hj
                clear hj hl0
                by_cases hkk : k = key
                · have e1 : (k != key) = false := by simpa using hkk
                  clear hkk
                  go_wp2_with fail
                  refine (m_joins S7.out 1 rfl t HT.out KJ.out).mono ?_
                  rintro e w8 ⟨rfl, h8, _⟩
                  have S8 := Lib.hid h8
                  clear h8
                  go_wp2
                  go_meet
                  exact ⟨false, rfl, fun h => (by cases h), S8.out⟩
                · have e1 : (k != key) = true := by simpa using hkk
                  clear hkk
                  go_wp2_with fail
                  refine (m_joins S7.out 1 rfl t HT.out KJ.out).mono ?_
                  rintro e w8 ⟨rfl, h8, _⟩
                  have S8 := Lib.hid h8
                  clear h8
                  go_wp2
                  go_meet
                  exact ⟨false, rfl, fun h => (by cases h), S8.out⟩
              · have e4 : (jv != LK) = true := by simpa using hj
                have HP : Hid (leaderK (actS s 3 t k).L key = LK ∧ joinedL (actS s 3 t k).L LK = row) := by
                  have h1 := apart_leave (t := t) (key := key) HOK.out (.inr (by rw [KLK.out, KJ.out]; exact hj))
                  rw [KLK.out] at h1
                  exact ⟨h1.1, h1.2.trans KR.out⟩
                clear hj hl0
                by_cases hkk : k = key
                · have e1 : (k != key) = false := by simpa using hkk
                  clear hkk
                  go_wp2_with fail
                  refine (m_joins S7.out 1 rfl t HT.out KJ.out).mono ?_
                  rintro e w8 ⟨rfl, h8, _⟩
                  have S8 := Lib.hid h8
                  clear h8
                  go_wp2
                  go_meet
                  exact ⟨true, rfl, fun _ => HP.out, S8.out⟩
                · have e1 : (k != key) = true := by simpa using hkk
                  clear hkk
                  go_wp2_with fail
                  refine (m_joins S7.out 1 rfl t HT.out KJ.out).mono ?_
                  rintro e w8 ⟨rfl, h8, _⟩
                  have S8 := Lib.hid h8
                  clear h8
                  go_wp2
                  go_meet
                  exact ⟨true, rfl, fun _ => HP.out, S8.out⟩
          · have g0 : (d == 0) = false := by simpa using d0
            have g1 : (d == 1) = false := by simpa using d1
            have g2 : (d == 2) = false := by simpa using d2
            have g3 : (d == 3) = false := by simpa using d3
            clear d0 d1 d2 d3
            by_cases hkk : k = key
            · have e1 : (k != key) = false := by simpa using hkk
              clear hkk
              go_wp2
              go_meet
              exact ⟨false, rfl, fun h => (by cases h), S7.out⟩
            · have e1 : (k != key) = true := by simpa using hkk
              clear hkk
              go_wp2
              go_meet
              exact ⟨false, rfl, fun h => (by cases h), S7.out⟩
        case rest => as_aux_lemma =>
          obtain ⟨o, rfl, hcut⟩ := hcut
          obtain ⟨ho, h8⟩ := hcut.out
          have HO := Lib.hid ho
          have S8 := Lib.hid h8
          clear hcut ho h8 S7 a0 a1 a2
          have b0 : wc.cell? ⟨w.heap.size, 0, none⟩ = some (.int .i64 d) := (cell_block (S8.out.blk_at 2 rfl) 0).trans rfl
          have b1 : wc.cell? ⟨w.heap.size, 1, none⟩ = some (.int .i64 t) := (cell_block (S8.out.blk_at 2 rfl) 1).trans rfl
          have b2 : wc.cell? ⟨w.heap.size, 2, none⟩ = some (.int .i64 k) := (cell_block (S8.out.blk_at 2 rfl) 2).trans rfl
          obtain ⟨s2, hs2⟩ : ∃ s2, actS s d t k = s2 := ⟨_, rfl⟩
          have KS := Lib.hid hs2
          rw [hs2] at HO
          clear hs2
          go_wp2_with fail
          refine (m_do S8.out 1 rfl d t k HT.out HK.out rfl rfl rfl rfl rfl KS.out).mono ?_
          rintro e w9 ⟨A9, c9, rfl, h9⟩
          have S9 : Hid (Sep (fun _ => False) w w9 [nums (.slice A6 row.length c6) row, ob I.O (.pointer (some a)) s2, blk w.heap.size (.cells #[.int .i64 d, .int .i64 t, .int .i64 k] 32)]) := h9.tail
          clear h9 S8 b0 b1 b2 KS
          cases o with
          | false =>
            have HB := Lib.hid S9.out.old
            go_wp2
            go_ret
            exact ⟨rfl, HB.out⟩
          | true =>
            have HL2 : Hid (leaderK s2.L key = LK) := (HO.out rfl).1
            have HR2 : Hid (joinedL s2.L LK = row) := (HO.out rfl).2
            have ell : (LK == LK) = true := by simp
            clear HO
            go_wp2_with fail
            refine (m_leader S9.out 1 rfl key HKEY.out HL2.out).mono ?_
            rintro e w10 ⟨rfl, h10, _⟩
            have S10 := Lib.hid h10
            clear h10 S9
            go_wp2_with fail
            refine (m_joined S10.out 1 rfl LK hL64.out HR2.out).mono ?_
            rintro e w11 ⟨A11, c11, rfl, h11, _⟩
            have S11 := Lib.hid h11
            clear h11 S10
            go_wp2_with fail
            refine (same_d (S11.out.rd 0 rfl) (S11.out.rd 1 rfl) rfl).mono ?_
            rintro e w12 ⟨rfl, hb12⟩
            have HB := Lib.hid (S11.out.next hb12).old
            clear hb12 S11
            go_wp2
            go_ret
            exact ⟨rfl, HB.out⟩
end Go.Proofs.Ytbkeodjebfkkdaa.FlightI
