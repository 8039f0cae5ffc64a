/-
  The walk of the law WaitsDoes over any package that meets 'Wg'. Condition: what the arguments read as.
-/
import Derived.Test.YtjojpejhmengaaaWaitsM
import Derived.Test.YtjojpejhmengaaaActs3
import Derived.Deep.RegionHeld3
import Derived.Deep.DeepCutAuto
import Derived.Deep.CutBlock
namespace Go.Proofs.Ytjojpejhmengaaa.WaitsI
open Go.ChangeShapes Go.WideShapes Go.ChangeAt Go.RowKit Mem MutP WaitsP Hand RefMut RefWaits Acts3

section
variable {I : Wg} {wq Q : World} {v : Value} {F : Nat → Prop} {C : Int} {W : List Int} {N : Int}
theorem l_keep (hA : I.O.A wq v F (C, W, N)) (hb : Below wq.heap.size wq Q) : I.O.A Q v F (C, W, N) := I.O.keep hA hb.size fun k hk _ => hb.block k hk
theorem l_count (hA : I.O.A wq v F (C, W, N)) (hb : Below wq.heap.size wq Q) : Calls Try.prog 14 #[v] Q fun e w' => e = .returned (.int .i64 C) ∧ Below wq.heap.size wq w' := by
  refine (I.count (l_keep hA hb)).mono ?_
  rintro e w' ⟨rfl, h'⟩
  exact ⟨rfl, hb.trans (h'.mono hb.size)⟩
theorem l_waiting (hA : I.O.A wq v F (C, W, N)) (hb : Below wq.heap.size wq Q) : Calls Try.prog 15 #[v] Q fun e w' => ∃ A c, e = .returned (.slice A W.length c) ∧ Rd w' (fun _ => True) (.slice A W.length c) W ∧ Below wq.heap.size wq w' := by
  refine (I.waiting (l_keep hA hb)).mono ?_
  rintro e w' ⟨u, rfl, hr, h'⟩
  obtain ⟨A, c, rfl⟩ := rd_form hr
  exact ⟨A, c, rfl, hr.mono fun _ _ _ => trivial, hb.trans (h'.mono hb.size)⟩
theorem l_same {u u' : Value} {l : List Int} (hu : Rd Q (fun _ => True) u l) (hu' : Rd wq (fun _ => True) u' l) (hb : Below wq.heap.size wq Q) :
    Calls Try.prog 13 #[u, u'] Q fun e w' => e = .returned (.bool true) ∧ Below wq.heap.size wq w' := by
  refine (SameI.same_any hu (hu'.below hb)).mono ?_
  rintro e w' ⟨rfl, n, rfl⟩
  exact ⟨by simp, below_drewN hb n⟩
end
theorem addL_len {C : Int} {W : List Int} {n : Int} (h : W.length ≤ 1000) : (addL C W n).length ≤ 1000 := by
  unfold addL
  split
  · exact h
  · simp
theorem actL_len {C : Int} {W : List Int} {d k : Int} (h : W.length ≤ 1000) : (actL C W d k).length ≤ 1000 := by
  unfold actL
  split
  · exact addL_len h
  · split
    · exact addL_len h
    · simp

set_option maxHeartbeats 4000000 in
set_option maxRecDepth 100000 in
/-- What is too large, or no size that may be. -/
theorem does_easy (I : Wg) (n : Int) (A : Option Addr) (len cap : Nat) (w : World) (hn : In64 n) (hlen : len ≤ 9223372036854775807) (hno : ¬ (1 ≤ n ∧ n ≤ 20 ∧ len ≤ 100)) :
    Calls Try.prog 3 #[.int .i64 n, .slice A len cap] w fun e w' => e = .returned (.bool true) ∧ Below w.heap.size w w' := by
  have HN := Lib.hid hn
  clear hn
  rcases (by omega : (20 < n ∧ n ≤ 1000) ∨ ((n ≤ 20 ∨ 1000 < n) ∧ 100 < len) ∨ (n < 1 ∧ len ≤ 100) ∨ (1000 < n ∧ len ≤ 100)) with ⟨h1, h2⟩ | ⟨h1 | h1, h2⟩ | ⟨h1, h2⟩ | ⟨h1, h2⟩
  · go_enter Try.func3, Try.ntmps3
    go_wp2_with fail
    refine (awake_any I _).mono ?_
    rintro e w1 ⟨rfl, hb1⟩
    have HB := Lib.hid hb1
    clear hb1
    go_wp2
    go_ret
    exact ⟨rfl, HB.out⟩
  · go_enter Try.func3, Try.ntmps3
    go_wp2_with fail
    refine (awake_any I _).mono ?_
    rintro e w1 ⟨rfl, hb1⟩
    have HB := Lib.hid hb1
    clear hb1
    go_wp2
    go_ret
    exact ⟨rfl, HB.out⟩
  · go_enter Try.func3, Try.ntmps3
    go_wp2_with fail
    refine (awake_any I _).mono ?_
    rintro e w1 ⟨rfl, hb1⟩
    have HB := Lib.hid hb1
    clear hb1
    go_wp2
    go_ret
    exact ⟨rfl, HB.out⟩
  all_goals
    have hq : n < 1 ∨ 1000 < n := by omega
    have HQ := Lib.hid hq
    clear hq hno
    go_enter Try.func3, Try.ntmps3
    go_wp2_with fail
    refine (awake_any I _).mono ?_
    rintro e w1 ⟨rfl, hb1⟩
    have HB := Lib.hid hb1
    clear hb1
    go_wp2_with fail
    refine (I.new_no n _ HN.out HQ.out).mono ?_
    rintro e w3 ⟨rfl, hb3⟩
    have HB3 : Hid (Below w.heap.size w w3) := HB.out.trans (hb3.mono HB.out.size)
    clear hb3
    go_wp2_with fail
    refine (newG_no n _ HQ.out).mono ?_
    rintro e w4 ⟨rfl, rfl⟩
    go_wp2
    go_ret
    exact ⟨rfl, HB3.out⟩

set_option maxHeartbeats 8000000 in
set_option maxRecDepth 100000 in
theorem does_main (I : Wg) (n : Int) (A : Option Addr) (len cap : Nat) (zs : List Ac) (w : World) (hz : ZsIn w A len cap zs) (h1 : 1 ≤ n) (h2 : n ≤ 20) (h60 : len ≤ 100) :
    Calls Try.prog 3 #[.int .i64 n, .slice A len cap] w fun e w' => e = .returned (.bool true) ∧ Below w.heap.size w w' := by
  obtain ⟨hzl, hzr, hzo⟩ := hz (by omega)
  subst hzl
  have HZR := Lib.hid hzr
  have HZO := Lib.hid hzo
  clear hzr hzo hz
  go_enter Try.func3, Try.ntmps3
  go_wp2_with fail
  refine (awake_any I _).mono ?_
  rintro e w1 ⟨rfl, hb1⟩
  have S1 := Lib.hid ((Sep.nil (fun _ => False) w).next hb1)
  clear hb1
  go_wp2_with fail
  refine (m_new S1.out I n (by omega) (by omega)).mono ?_
  rintro e w2 ⟨a, rfl, h2'⟩
  have S2 := Lib.hid h2'
  clear h2' S1
  go_wp2_with fail
  refine (newG_s S2.out n (by omega) (by omega)).mono ?_
  rintro e w3 ⟨p, rfl, h3⟩
  have S3 := Lib.hid h3
  clear h3 S2
  go_wp2
  go_loopw [54] (fun u wr => ∃ j : Nat, j ≤ zs.length ∧ u = .int .i64 j ∧ Hid (∃ (C : Int) (W : List Int), Sep (fun _ => False) w wr [rg p C W n, ob I.O (.pointer (some a)) (C, W, n)])) (fun u _ => zs.length - (intOf u).toNat)
  case atStart => exact ⟨0, Nat.zero_le _, rfl, _, _, S3.out⟩
  case round =>
    obtain ⟨j, hj, rfl, HS⟩ := hrel
    obtain ⟨C, W, hS⟩ := HS.out
    have SL := Lib.hid hS
    have hwl := (rg_ok hS).wlen
    clear HS hS S3
    by_cases hlt : j < zs.length
    · have hx : zs[j]? = some zs[j] := List.getElem?_eq_getElem hlt
      generalize zs[j] = z at hx
      obtain ⟨hd64, ht64, hk64⟩ := HZO.out z (List.mem_of_getElem? hx)
      obtain ⟨bb, off, rfl, hbb, c0, c1, c2⟩ := ac_cells HZR.out hx
      have hb := SL.out.old
      have q0 := (hb.cell (p := ⟨bb, off + j * 3, none⟩) hbb).trans c0
      have q1 := (hb.cell (p := ⟨bb, off + j * 3 + 1, none⟩) hbb).trans c1
      have q2 := (hb.cell (p := ⟨bb, off + j * 3 + 2, none⟩) hbb).trans c2
      obtain ⟨d, t, k⟩ := z
      simp only at q0 q1 q2 ht64 hk64
      have S4 := Lib.hid (SL.out.new (.cells #[.int .i64 d, .int .i64 t, .int .i64 k] 32))
      have HT64 := Lib.hid ht64
      have HK64 := Lib.hid hk64
      clear hx c0 c1 c2 hb SL hd64 ht64 hk64
      obtain ⟨E, hE⟩ : ∃ E, actE C W n d t k = E := ⟨_, rfl⟩
      obtain ⟨Bo, hBo⟩ : ∃ Bo, actB C W n d t = Bo := ⟨_, rfl⟩
      obtain ⟨L2, hL2⟩ : ∃ L2, actL C W d k = L2 := ⟨_, rfl⟩
      obtain ⟨C2, hC2⟩ : ∃ C2, actC C d k = C2 := ⟨_, rfl⟩
      obtain ⟨W2, hW2⟩ : ∃ W2, actW C W n d t k = W2 := ⟨_, rfl⟩
      have hl1 : L2.length ≤ 1000 := hL2 ▸ actL_len hwl
      have HL1 := Lib.hid hl1
      have KE := Lib.hid hE
      have KB := Lib.hid hBo
      have KL := Lib.hid hL2
      have KC := Lib.hid hC2
      have KW := Lib.hid hW2
      clear hE hBo hL2 hC2 hW2 hl1 hwl
      go_wp2_with fail
      refine (m_do S4.out 2 rfl d t k HT64.out HK64.out).mono ?_
      rw [KE.out, KB.out, KL.out, KC.out, KW.out]
      rintro e w5 ⟨Ao, co, rfl, h5⟩
      have S6 : Hid (Sep (fun _ => False) w (w5.alloc (.cells #[] 3)) [rg p C W n, nums (.slice Ao L2.length co) L2, blk wr.heap.size (.cells #[.int .i64 d, .int .i64 t, .int .i64 k] 32), ob I.O (.pointer (some a)) (C2, W2, n)]) := Sep.next (Sep.perm h5 (by exact (List.perm_append_comm (l₁ := [_, _]) (l₂ := [_])).append_right [_])) (new_below0 _ _)
      have a0 : (w5.alloc (.cells #[] 3)).cell? ⟨wr.heap.size, 0, none⟩ = some (.int .i64 d) := (cell_block (S6.out.blk_at 2 rfl) 0).trans rfl
      have a1 : (w5.alloc (.cells #[] 3)).cell? ⟨wr.heap.size, 1, none⟩ = some (.int .i64 t) := (cell_block (S6.out.blk_at 2 rfl) 1).trans rfl
      have a2 : (w5.alloc (.cells #[] 3)).cell? ⟨wr.heap.size, 2, none⟩ = some (.int .i64 k) := (cell_block (S6.out.blk_at 2 rfl) 2).trans rfl
      clear h5 S4 q0 q1 q2
      go_upto_block 2 with (fail)
      go_cut [14, 15, 16] (fun s14 s15 s16 wx => s15 = .bool Bo ∧ s16 = .int .i64 E ∧ Hid (∃ A14 c14, s14 = .slice A14 L2.length c14 ∧ Rd wx (fun _ => True) (.slice A14 L2.length c14) L2 ∧ Sep (fun _ => False) w wx [rg p C2 W2 n, nums (.slice Ao L2.length co) L2, ob I.O (.pointer (some a)) (C2, W2, n)]))
      case first => as_aux_lemma =>
        rcases (by omega : d = 0 ∨ d = 1 ∨ d = 2 ∨ d = 3 ∨ (d ≠ 0 ∧ d ≠ 1 ∧ d ≠ 2 ∧ d ≠ 3)) with rfl | rfl | rfl | rfl | ⟨d0, d1, d2, d3⟩
        · have hE : Hid (addE C k = E) := KE.out
          have hB : Hid (false = Bo) := KB.out
          have hL : Hid (addL C W k = L2) := KL.out
          have hC : Hid (addC C k = C2) := KC.out
          have hW : Hid (addW C W k = W2) := KW.out
          go_wp2_with fail
          refine (add_s S6.out k HK64.out).mono ?_
          rw [hE.out, hL.out, hC.out, hW.out]
          rintro e w7 ⟨A7, c7, rfl, h7⟩
          have S7 := Lib.hid h7
          clear h7
          go_wp2
          go_meet
          refine ⟨by rw [← hB.out], rfl, ?_⟩
          exact ⟨_, _, rfl, S7.out.rd 0 rfl, S7.out.sub (.cons _ (.cons_cons _ (.cons_cons _ (.cons _ (List.Sublist.refl _)))))⟩
        · have hE : Hid (addE C (-1) = E) := KE.out
          have hB : Hid (false = Bo) := KB.out
          have hL : Hid (addL C W (-1) = L2) := KL.out
          have hC : Hid (addC C (-1) = C2) := KC.out
          have hW : Hid (addW C W (-1) = W2) := KW.out
          go_wp2_with fail
          refine (add_s S6.out (-1) (in64s _ (by omega))).mono ?_
          rw [hE.out, hL.out, hC.out, hW.out]
          rintro e w7 ⟨A7, c7, rfl, h7⟩
          have S7 := Lib.hid h7
          clear h7
          go_wp2
          go_meet
          refine ⟨by rw [← hB.out], rfl, ?_⟩
          exact ⟨_, _, rfl, S7.out.rd 0 rfl, S7.out.sub (.cons _ (.cons_cons _ (.cons_cons _ (.cons _ (List.Sublist.refl _)))))⟩
        · have hE : Hid (wtE W n t = E) := KE.out
          have hB : Hid (wtB C W n t = Bo) := KB.out
          have hL : Hid ([] = L2) := KL.out
          have hC : Hid (C = C2) := KC.out
          have hW : Hid (wtW C W n t = W2) := KW.out
          go_wp2_with fail
          refine (wait_s S6.out t).mono ?_
          rw [hB.out, hE.out, hW.out]
          rintro e w7 ⟨rfl, h7⟩
          have S7 := Lib.hid h7
          clear h7
          go_wp2
          go_meet
          refine ⟨rfl, rfl, ?_⟩
          have h := S7.out.sub (.cons_cons _ (.cons_cons _ (.cons _ (List.Sublist.refl _))))
          obtain rfl := hL.out
          rw [hC.out] at h
          exact ⟨_, _, rfl, Rd.nil _ _ _ _, h⟩
        · have hE : Hid (0 = E) := KE.out
          have hB : Hid (inL W t = Bo) := KB.out
          have hL : Hid ([] = L2) := KL.out
          have hC : Hid (C = C2) := KC.out
          have hW : Hid (withoutL W t = W2) := KW.out
          go_wp2_with fail
          refine (leave_s S6.out t).mono ?_
          rw [hB.out, hW.out]
          rintro e w7 ⟨rfl, h7⟩
          have S7 := Lib.hid h7
          clear h7
          go_wp2
          go_meet
          refine ⟨rfl, by rw [← hE.out], ?_⟩
          have h := S7.out.sub (.cons_cons _ (.cons_cons _ (.cons _ (List.Sublist.refl _))))
          obtain rfl := hL.out
          rw [hC.out] at h
          exact ⟨_, _, rfl, Rd.nil _ _ _ _, h⟩
        · have hR : Hid (0 = E ∧ false = Bo ∧ [] = L2 ∧ C = C2 ∧ W = W2) := by
            obtain ⟨r1, r2, r3, r4, r5⟩ := act_no (C := C) (W := W) (N := n) (t := t) (k := k) d0 d1 d2 d3
            exact ⟨r3.symm.trans KE.out, r2.symm.trans KB.out, r1.symm.trans KL.out, r4.symm.trans KC.out, r5.symm.trans KW.out⟩
          have e0 : (d == 0) = false := by simpa using d0
          have e1 : (d == 1) = false := by simpa using d1
          have e2 : (d == 2) = false := by simpa using d2
          have e3 : (d == 3) = false := by simpa using d3
          clear d0 d1 d2 d3
          go_wp2
          go_meet
          obtain ⟨r0, r1, r2, r3, r4⟩ := hR.out
          refine ⟨by rw [← r1], by rw [← r0], ?_⟩
          have h := S6.out.sub (.cons_cons _ (.cons_cons _ (.cons _ (List.Sublist.refl _))))
          rw [← r2, ← r3, ← r4] at h ⊢
          exact ⟨_, _, rfl, Rd.nil _ _ _ _, h⟩
      case rest => as_aux_lemma =>
        obtain ⟨rfl, rfl, hcut⟩ := hcut
        obtain ⟨A14, c14, rfl, h14, h7⟩ := hcut.out
        have R14 := Lib.hid h14
        have S7 := Lib.hid h7
        clear S6 a0 a1 a2 KE KB KL KC KW hcut h14 h7
        obtain ⟨AL, cL, hs, hok, _⟩ := rg_open S7.out
        obtain ⟨FA, hA⟩ := ob_at S7.out 2 rfl
        have HA : Hid (I.O.A wc (.pointer (some a)) FA (C2, W2, n)) := hA
        have hpl := lt_of_block (hs.blk_at 0 rfl)
        have x0 : wc.cell? ⟨p, 0, none⟩ = some (.int .i64 C2) := (cell_block (hs.blk_at 0 rfl) 0).trans rfl
        have x1 : wc.cell? ⟨p, 1, none⟩ = some (.slice AL W2.length cL) := (cell_block (hs.blk_at 0 rfl) 1).trans rfl
        have RL : Hid (Rd wc (fun _ => True) (.slice AL W2.length cL) W2) := hs.rd 1 rfl
        have FK : Hid (∀ Q, Below wc.heap.size wc Q → (Q.cell? ⟨p, 0, none⟩ = some (.int .i64 C2) ∧ Q.cell? ⟨p, 1, none⟩ = some (.slice AL W2.length cL))) := fun Q hb => ⟨(hb.cell (p := ⟨p, 0, none⟩) hpl).trans x0, (hb.cell (p := ⟨p, 1, none⟩) hpl).trans x1⟩
        have HB : Hid (Below wc.heap.size wc wc.drew) := (Below.refl _ _).drew
        have RO : Hid (Rd wc.drew (fun _ => True) (.slice Ao L2.length co) L2) := S7.out.rd 1 rfl
        have hEE : (E != E) = false := by simp
        have hBB : (Bo != Bo) = false := by simp
        have hCC : (C2 != C2) = false := by simp
        clear hs hok hA x0 x1
        go_upto_region 25 with (fail)
        go_cut [131] (fun s131 wx => s131 = .bool false ∧ Hid (Below wc.heap.size wc wx))
        case first => as_aux_lemma =>
          obtain ⟨k0, k1⟩ := FK.out _ HB.out
          go_region_held3 (fun Q => Q.cell? ⟨p, 0, none⟩ = some (.int .i64 C2) ∧ Q.cell? ⟨p, 1, none⟩ = some (.slice AL W2.length cL)) (go_keep)
            (first
              | (go_at_call 13; (with_reducible refine (l_same RO.out R14.out HB.out).mono ?_); rintro e w12 ⟨rfl, hb11⟩; have HB := Lib.hid hb11; obtain ⟨k0, k1⟩ := FK.out _ hb11; clear hb11)
              | (go_at_call 14; (with_reducible refine (l_count HA.out HB.out).mono ?_); rintro e w13 ⟨rfl, hb11⟩; have HB := Lib.hid hb11; obtain ⟨k0, k1⟩ := FK.out _ hb11; clear hb11)
              | (go_at_call 15; (with_reducible refine (l_waiting HA.out HB.out).mono ?_); rintro e w15 ⟨A2, c2, rfl, r11, hb11⟩; have R2 := Lib.hid r11; clear r11; have HB := Lib.hid hb11; obtain ⟨k0, k1⟩ := FK.out _ hb11; clear hb11)
              | (go_at_call 13; (with_reducible refine (l_same R2.out RL.out HB.out).mono ?_); rintro e w16 ⟨rfl, hb11⟩; have HB := Lib.hid hb11; obtain ⟨k0, k1⟩ := FK.out _ hb11; clear hb11))
          go_wp2_with fail
          go_meet
          exact ⟨rfl, HB⟩
        case rest => as_aux_lemma =>
          obtain ⟨rfl, HB9⟩ := hcut
          have SF : Hid (∃ (C : Int) (W : List Int), Sep (fun _ => False) w wc [rg p C W n, ob I.O (.pointer (some a)) (C, W, n)]) := ⟨C2, W2, (S7.out.next HB9.out).sub (.cons_cons _ (.cons _ (List.Sublist.refl _)))⟩
          go_wp2
          go_roundw
          case rel => exact ⟨j + 1, by omega, by go_num, SF⟩
          case measure => simp [intOf]; omega
    · have HB := Lib.hid SL.out.old
      go_wp2
      go_ret
      exact ⟨rfl, HB.out⟩

theorem does_walk (I : Wg) (n : Int) (A : Option Addr) (len cap : Nat) (zs : List Ac) (w : World) (hn : In64 n) (hlen : len ≤ 9223372036854775807) (hz : ZsIn w A len cap zs) :
    Calls Try.prog 3 #[.int .i64 n, .slice A len cap] w fun e w' => e = .returned (.bool true) ∧ Below w.heap.size w w' := by
  by_cases hno : 1 ≤ n ∧ n ≤ 20 ∧ len ≤ 100
  · exact does_main I n A len cap zs w hz hno.1 hno.2.1 hno.2.2
  · exact does_easy I n A len cap w hn hlen hno
end Go.Proofs.Ytjojpejhmengaaa.WaitsI
