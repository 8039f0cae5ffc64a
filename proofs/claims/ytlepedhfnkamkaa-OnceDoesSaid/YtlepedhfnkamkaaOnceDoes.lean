/-
  The walk of the law OnceDoes over any package that meets 'On'. Condition: what the arguments read as.
-/
import Derived.Test.YtlepedhfnkamkaaOnceM
import Derived.Test.YtlepedhfnkamkaaActs
import Derived.Deep.RegionHeld3
import Derived.Deep.DeepCutAuto
import Derived.Deep.CutBlock
namespace Go.Proofs.Ytlepedhfnkamkaa.OnceI
open Go.ChangeShapes Go.WideShapes Go.ChangeAt Go.RowKit Mem MutP OnceP Hand RefMut RefOnce Acts

section
variable {I : On} {wq Q : World} {v : Value} {F : Nat → Prop} {S D : Int} {W : List Int} {N : Int}
theorem l_keep (hA : I.O.A wq v F (S, D, W, N)) (hb : Below wq.heap.size wq Q) : I.O.A Q v F (S, D, W, N) := I.O.keep hA hb.size fun k hk _ => hb.block k hk
theorem l_state (hA : I.O.A wq v F (S, D, W, N)) (hb : Below wq.heap.size wq Q) : Calls Try.prog 14 #[v] Q fun e w' => e = .returned (.int .i64 S) ∧ Below wq.heap.size wq w' := by
  refine (I.state (l_keep hA hb)).mono ?_
  rintro e w' ⟨rfl, h'⟩
  exact ⟨rfl, hb.trans (h'.mono hb.size)⟩
theorem l_by (hA : I.O.A wq v F (S, D, W, N)) (hb : Below wq.heap.size wq Q) : Calls Try.prog 15 #[v] Q fun e w' => e = .returned (.int .i64 D) ∧ Below wq.heap.size wq w' := by
  refine (I.by_ (l_keep hA hb)).mono ?_
  rintro e w' ⟨rfl, h'⟩
  exact ⟨rfl, hb.trans (h'.mono hb.size)⟩
theorem l_waiting (hA : I.O.A wq v F (S, D, W, N)) (hb : Below wq.heap.size wq Q) : Calls Try.prog 16 #[v] Q fun e w' => ∃ A c, e = .returned (.slice A W.length c) ∧ Rd w' (fun _ => True) (.slice A W.length c) W ∧ Below wq.heap.size wq w' := by
  refine (I.waiting (l_keep hA hb)).mono ?_
  rintro e w' ⟨u, rfl, hr, h'⟩
  obtain ⟨A, c, rfl⟩ := rd_form hr
  exact ⟨A, c, rfl, hr.mono fun _ _ _ => trivial, hb.trans (h'.mono hb.size)⟩
theorem l_same {u u' : Value} {l : List Int} (hu : Rd Q (fun _ => True) u l) (hu' : Rd wq (fun _ => True) u' l) (hb : Below wq.heap.size wq Q) :
    Calls Try.prog 13 #[u, u'] Q fun e w' => e = .returned (.bool true) ∧ Below wq.heap.size wq w' := by
  refine (SameI.same_any hu (hu'.below hb)).mono ?_
  rintro e w' ⟨rfl, n, rfl⟩
  exact ⟨by simp, below_drewN hb n⟩
end
theorem actL_len {D : Int} {W : List Int} {N d t : Int} (h : W.length ≤ 1000) : (actL D W N d t).length ≤ 1000 := by
  unfold actL endL
  split
  · split
    · exact h
    · simp
  · simp

set_option maxHeartbeats 4000000 in
set_option maxRecDepth 100000 in
/-- What is too large, or no size that may be. -/
theorem does_easy (I : On) (n : Int) (A : Option Addr) (len cap : Nat) (w : World) (hn : In64 n) (hlen : len ≤ 9223372036854775807) (hno : ¬ (1 ≤ n ∧ n ≤ 20 ∧ len ≤ 80)) :
    Calls Try.prog 3 #[.int .i64 n, .slice A len cap] w fun e w' => e = .returned (.bool true) ∧ Below w.heap.size w w' := by
  have HN := Lib.hid hn
  clear hn
  rcases (by omega : (20 < n ∧ n ≤ 1000) ∨ ((n ≤ 20 ∨ 1000 < n) ∧ 80 < len) ∨ (n < 1 ∧ len ≤ 80) ∨ (1000 < n ∧ len ≤ 80)) with ⟨h1, h2⟩ | ⟨h1 | h1, h2⟩ | ⟨h1, h2⟩ | ⟨h1, h2⟩
  · go_enter Try.func3, Try.ntmps3
    go_wp2_with fail
    refine (awake_any I _).mono ?_
    rintro e w1 ⟨rfl, hb1⟩
    have HB := Lib.hid hb1
    clear hb1
    go_wp2
    go_ret
    exact ⟨rfl, HB.out⟩
  · go_enter Try.func3, Try.ntmps3
    go_wp2_with fail
    refine (awake_any I _).mono ?_
    rintro e w1 ⟨rfl, hb1⟩
    have HB := Lib.hid hb1
    clear hb1
    go_wp2
    go_ret
    exact ⟨rfl, HB.out⟩
  · go_enter Try.func3, Try.ntmps3
    go_wp2_with fail
    refine (awake_any I _).mono ?_
    rintro e w1 ⟨rfl, hb1⟩
    have HB := Lib.hid hb1
    clear hb1
    go_wp2
    go_ret
    exact ⟨rfl, HB.out⟩
  all_goals
    have hq : n < 1 ∨ 1000 < n := by omega
    have HQ := Lib.hid hq
    clear hq hno
    go_enter Try.func3, Try.ntmps3
    go_wp2_with fail
    refine (awake_any I _).mono ?_
    rintro e w1 ⟨rfl, hb1⟩
    have HB := Lib.hid hb1
    clear hb1
    go_wp2_with fail
    refine (I.new_no n _ HN.out HQ.out).mono ?_
    rintro e w3 ⟨rfl, hb3⟩
    have HB3 : Hid (Below w.heap.size w w3) := HB.out.trans (hb3.mono HB.out.size)
    clear hb3
    go_wp2_with fail
    refine (newO_no n _ HQ.out).mono ?_
    rintro e w4 ⟨rfl, rfl⟩
    go_wp2
    go_ret
    exact ⟨rfl, HB3.out⟩

set_option maxHeartbeats 8000000 in
set_option maxRecDepth 100000 in
theorem does_main (I : On) (n : Int) (A : Option Addr) (len cap : Nat) (zs : List Ac) (w : World) (hz : ZsIn w A len cap zs) (h1 : 1 ≤ n) (h2 : n ≤ 20) (h60 : len ≤ 80) :
    Calls Try.prog 3 #[.int .i64 n, .slice A len cap] w fun e w' => e = .returned (.bool true) ∧ Below w.heap.size w w' := by
  obtain ⟨hzl, hzr, hzo⟩ := hz (by omega)
  subst hzl
  have HZR := Lib.hid hzr
  have HZO := Lib.hid hzo
  clear hzr hzo hz
  go_enter Try.func3, Try.ntmps3
  go_wp2_with fail
  refine (awake_any I _).mono ?_
  rintro e w1 ⟨rfl, hb1⟩
  have S1 := Lib.hid ((Sep.nil (fun _ => False) w).next hb1)
  clear hb1
  go_wp2_with fail
  refine (m_new S1.out I n (by omega) (by omega)).mono ?_
  rintro e w2 ⟨a, rfl, h2'⟩
  have S2 := Lib.hid h2'
  clear h2' S1
  go_wp2_with fail
  refine (newO_s S2.out n (by omega) (by omega)).mono ?_
  rintro e w3 ⟨p, rfl, h3⟩
  have S3 := Lib.hid h3
  clear h3 S2
  go_wp2
  go_loopw [56] (fun u wr => ∃ j : Nat, j ≤ zs.length ∧ u = .int .i64 j ∧ Hid (∃ (S D : Int) (W : List Int), Sep (fun _ => False) w wr [ro p S D W n, ob I.O (.pointer (some a)) (S, D, W, n)])) (fun u _ => zs.length - (intOf u).toNat)
  case atStart => exact ⟨0, Nat.zero_le _, rfl, _, _, _, S3.out⟩
  case round =>
    obtain ⟨j, hj, rfl, HS⟩ := hrel
    obtain ⟨S, D, W, hS⟩ := HS.out
    have SL := Lib.hid hS
    have hwl := (ro_ok hS).wlen
    clear HS hS S3
    by_cases hlt : j < zs.length
    · have hx : zs[j]? = some zs[j] := List.getElem?_eq_getElem hlt
      generalize zs[j] = z at hx
      obtain ⟨hd64, ht64⟩ := HZO.out z (List.mem_of_getElem? hx)
      obtain ⟨bb, off, rfl, hbb, c0, c1⟩ := ac_cells HZR.out hx
      have hb := SL.out.old
      have q0 := (hb.cell (p := ⟨bb, off + j * 2, none⟩) hbb).trans c0
      have q1 := (hb.cell (p := ⟨bb, off + j * 2 + 1, none⟩) hbb).trans c1
      obtain ⟨d, t⟩ := z
      simp only at q0 q1 ht64
      have S4 := Lib.hid (SL.out.new (.cells #[.int .i64 d, .int .i64 t] 32))
      have HT64 := Lib.hid ht64
      clear hx c0 c1 hb SL hd64 ht64
      obtain ⟨K, hK⟩ : ∃ K, actK S D W n d t = K := ⟨_, rfl⟩
      obtain ⟨E, hE⟩ : ∃ E, actE D W n d t = E := ⟨_, rfl⟩
      obtain ⟨Bo, hBo⟩ : ∃ Bo, actB W d t = Bo := ⟨_, rfl⟩
      obtain ⟨L2, hL2⟩ : ∃ L2, actL D W n d t = L2 := ⟨_, rfl⟩
      obtain ⟨S2, hS2⟩ : ∃ S2, actS S D W n d t = S2 := ⟨_, rfl⟩
      obtain ⟨D2, hD2⟩ : ∃ D2, actD S D W n d t = D2 := ⟨_, rfl⟩
      obtain ⟨W2, hW2⟩ : ∃ W2, actW S D W n d t = W2 := ⟨_, rfl⟩
      have hl1 : L2.length ≤ 1000 := hL2 ▸ actL_len hwl
      have HL1 := Lib.hid hl1
      have KK := Lib.hid hK
      have KE := Lib.hid hE
      have KB := Lib.hid hBo
      have KL := Lib.hid hL2
      have KS := Lib.hid hS2
      have KD := Lib.hid hD2
      have KW := Lib.hid hW2
      clear hK hE hBo hL2 hS2 hD2 hW2 hl1 hwl
      go_wp2_with fail
      refine (m_do S4.out 2 rfl d t HT64.out).mono ?_
      rw [KK.out, KE.out, KB.out, KL.out, KS.out, KD.out, KW.out]
      rintro e w5 ⟨Ao, co, rfl, h5⟩
      have S6 : Hid (Sep (fun _ => False) w (w5.alloc (.cells #[] 3)) [ro p S D W n, nums (.slice Ao L2.length co) L2, blk wr.heap.size (.cells #[.int .i64 d, .int .i64 t] 32), ob I.O (.pointer (some a)) (S2, D2, W2, n)]) := Sep.next (Sep.perm h5 (by exact (List.perm_append_comm (l₁ := [_, _]) (l₂ := [_])).append_right [_])) (new_below0 _ _)
      have a0 : (w5.alloc (.cells #[] 3)).cell? ⟨wr.heap.size, 0, none⟩ = some (.int .i64 d) := (cell_block (S6.out.blk_at 2 rfl) 0).trans rfl
      have a1 : (w5.alloc (.cells #[] 3)).cell? ⟨wr.heap.size, 1, none⟩ = some (.int .i64 t) := (cell_block (S6.out.blk_at 2 rfl) 1).trans rfl
      clear h5 S4 q0 q1
      go_upto_block 2 with (fail)
      go_cut [15, 16, 17, 18] (fun s15 s16 s17 s18 wx => s15 = .int .i64 K ∧ s16 = .bool Bo ∧ s18 = .int .i64 E ∧ Hid (∃ A17 c17, s17 = .slice A17 L2.length c17 ∧ Rd wx (fun _ => True) (.slice A17 L2.length c17) L2 ∧ Sep (fun _ => False) w wx [ro p S2 D2 W2 n, nums (.slice Ao L2.length co) L2, ob I.O (.pointer (some a)) (S2, D2, W2, n)]))
      case first => as_aux_lemma =>
        rcases (by omega : d = 0 ∨ d = 1 ∨ d = 2 ∨ (d ≠ 0 ∧ d ≠ 1 ∧ d ≠ 2)) with rfl | rfl | rfl | ⟨d0, d1, d2⟩
        · have hK : Hid (begK S D W n t = K) := KK.out
          have hE : Hid (begE D W n t = E) := KE.out
          have hB : Hid (false = Bo) := KB.out
          have hL : Hid ([] = L2) := KL.out
          have hS : Hid (begS S D W n t = S2) := KS.out
          have hD : Hid (begD S D W n t = D2) := KD.out
          have hW : Hid (begW S D W n t = W2) := KW.out
          go_wp2_with fail
          refine (beg_s S6.out t).mono ?_
          rw [hK.out, hE.out, hS.out, hD.out, hW.out]
          rintro e w7 ⟨rfl, h7⟩
          have S7 := Lib.hid h7
          clear h7
          go_wp2
          go_meet
          refine ⟨rfl, by rw [← hB.out], rfl, ?_⟩
          have h := S7.out.sub (.cons_cons _ (.cons_cons _ (.cons _ (List.Sublist.refl _))))
          obtain rfl := hL.out
          exact ⟨_, _, rfl, Rd.nil _ _ _ _, h⟩
        · have hK : Hid (0 = K) := KK.out
          have hE : Hid (endE D n t = E) := KE.out
          have hB : Hid (false = Bo) := KB.out
          have hL : Hid (endL D W n t = L2) := KL.out
          have hS : Hid (endS S D n t = S2) := KS.out
          have hD : Hid (endD D n t = D2) := KD.out
          have hW : Hid (endW D W n t = W2) := KW.out
          go_wp2_with fail
          refine (end_s S6.out t).mono ?_
          rw [hE.out, hL.out, hS.out, hD.out, hW.out]
          rintro e w7 ⟨A7, c7, rfl, h7⟩
          have S7 := Lib.hid h7
          clear h7
          go_wp2
          go_meet
          refine ⟨by rw [← hK.out], by rw [← hB.out], rfl, ?_⟩
          exact ⟨_, _, rfl, S7.out.rd 0 rfl, S7.out.sub (.cons _ (.cons_cons _ (.cons_cons _ (.cons _ (List.Sublist.refl _)))))⟩
        · have hK : Hid (0 = K) := KK.out
          have hE : Hid (0 = E) := KE.out
          have hB : Hid (inL W t = Bo) := KB.out
          have hL : Hid ([] = L2) := KL.out
          have hS : Hid (S = S2) := KS.out
          have hD : Hid (D = D2) := KD.out
          have hW : Hid (withoutL W t = W2) := KW.out
          go_wp2_with fail
          refine (leave_s S6.out t).mono ?_
          rw [hB.out, hS.out, hD.out, hW.out]
          rintro e w7 ⟨rfl, h7⟩
          have S7 := Lib.hid h7
          clear h7
          go_wp2
          go_meet
          refine ⟨by rw [← hK.out], rfl, by rw [← hE.out], ?_⟩
          have h := S7.out.sub (.cons_cons _ (.cons_cons _ (.cons _ (List.Sublist.refl _))))
          obtain rfl := hL.out
          exact ⟨_, _, rfl, Rd.nil _ _ _ _, h⟩
        · have hR : Hid (0 = K ∧ 0 = E ∧ false = Bo ∧ [] = L2 ∧ S = S2 ∧ D = D2 ∧ W = W2) := by
            obtain ⟨r1, r2, r3, r4, r5, r6, r7⟩ := act_no (S := S) (D := D) (W := W) (N := n) (t := t) d0 d1 d2
            exact ⟨r1.symm.trans KK.out, r4.symm.trans KE.out, r2.symm.trans KB.out, r3.symm.trans KL.out, r5.symm.trans KS.out, r6.symm.trans KD.out, r7.symm.trans KW.out⟩
          have e0 : (d == 0) = false := by simpa using d0
          have e1 : (d == 1) = false := by simpa using d1
          have e2 : (d == 2) = false := by simpa using d2
          clear d0 d1 d2
          go_wp2
          go_meet
          obtain ⟨r0, r1, r2, r3, r4, r5, r6⟩ := hR.out
          refine ⟨by rw [← r0], by rw [← r2], by rw [← r1], ?_⟩
          have h := S6.out.sub (.cons_cons _ (.cons_cons _ (.cons _ (List.Sublist.refl _))))
          rw [← r3, ← r4, ← r5, ← r6] at h ⊢
          exact ⟨_, _, rfl, Rd.nil _ _ _ _, h⟩
      case rest => as_aux_lemma =>
        obtain ⟨rfl, rfl, rfl, hcut⟩ := hcut
        obtain ⟨A17, c17, rfl, h17, h7⟩ := hcut.out
        have R17 := Lib.hid h17
        have S7 := Lib.hid h7
        clear S6 a0 a1 KK KE KB KL KS KD KW hcut h17 h7
        obtain ⟨AL, cL, hs, hok, _⟩ := ro_open S7.out
        obtain ⟨FA, hA⟩ := ob_at S7.out 2 rfl
        have HA : Hid (I.O.A wc (.pointer (some a)) FA (S2, D2, W2, n)) := hA
        have hpl := lt_of_block (hs.blk_at 0 rfl)
        have x0 : wc.cell? ⟨p, 0, none⟩ = some (.int .i64 S2) := (cell_block (hs.blk_at 0 rfl) 0).trans rfl
        have x1 : wc.cell? ⟨p, 1, none⟩ = some (.int .i64 D2) := (cell_block (hs.blk_at 0 rfl) 1).trans rfl
        have x3 : wc.cell? ⟨p, 3, none⟩ = some (.slice AL W2.length cL) := (cell_block (hs.blk_at 0 rfl) 3).trans rfl
        have RL : Hid (Rd wc (fun _ => True) (.slice AL W2.length cL) W2) := hs.rd 1 rfl
        have FK : Hid (∀ Q, Below wc.heap.size wc Q → (Q.cell? ⟨p, 0, none⟩ = some (.int .i64 S2) ∧ Q.cell? ⟨p, 1, none⟩ = some (.int .i64 D2) ∧ Q.cell? ⟨p, 3, none⟩ = some (.slice AL W2.length cL))) := fun Q hb => ⟨(hb.cell (p := ⟨p, 0, none⟩) hpl).trans x0, (hb.cell (p := ⟨p, 1, none⟩) hpl).trans x1, (hb.cell (p := ⟨p, 3, none⟩) hpl).trans x3⟩
        have HB : Hid (Below wc.heap.size wc wc.drew) := (Below.refl _ _).drew
        have RO : Hid (Rd wc.drew (fun _ => True) (.slice Ao L2.length co) L2) := S7.out.rd 1 rfl
        have hKK : (K != K) = false := by simp
        have hEE : (E != E) = false := by simp
        have hBB : (Bo != Bo) = false := by simp
        have hSS : (S2 != S2) = false := by simp
        have hDD : (D2 != D2) = false := by simp
        clear hs hok hA x0 x1 x3
        go_upto_region 23 with (fail)
        go_cut [141] (fun s141 wx => s141 = .bool false ∧ Hid (Below wc.heap.size wc wx))
        case first => as_aux_lemma =>
          obtain ⟨k0, k1, k3⟩ := FK.out _ HB.out
          go_region_held3 (fun Q => Q.cell? ⟨p, 0, none⟩ = some (.int .i64 S2) ∧ Q.cell? ⟨p, 1, none⟩ = some (.int .i64 D2) ∧ Q.cell? ⟨p, 3, none⟩ = some (.slice AL W2.length cL)) (go_keep)
            (first
              | (go_at_call 13; (with_reducible refine (l_same RO.out R17.out HB.out).mono ?_); rintro e w12 ⟨rfl, hb11⟩; have HB := Lib.hid hb11; obtain ⟨k0, k1, k3⟩ := FK.out _ hb11; clear hb11)
              | (go_at_call 14; (with_reducible refine (l_state HA.out HB.out).mono ?_); rintro e w13 ⟨rfl, hb11⟩; have HB := Lib.hid hb11; obtain ⟨k0, k1, k3⟩ := FK.out _ hb11; clear hb11)
              | (go_at_call 15; (with_reducible refine (l_by HA.out HB.out).mono ?_); rintro e w14 ⟨rfl, hb11⟩; have HB := Lib.hid hb11; obtain ⟨k0, k1, k3⟩ := FK.out _ hb11; clear hb11)
              | (go_at_call 16; (with_reducible refine (l_waiting HA.out HB.out).mono ?_); rintro e w15 ⟨A2, c2, rfl, r11, hb11⟩; have R2 := Lib.hid r11; clear r11; have HB := Lib.hid hb11; obtain ⟨k0, k1, k3⟩ := FK.out _ hb11; clear hb11)
              | (go_at_call 13; (with_reducible refine (l_same R2.out RL.out HB.out).mono ?_); rintro e w16 ⟨rfl, hb11⟩; have HB := Lib.hid hb11; obtain ⟨k0, k1, k3⟩ := FK.out _ hb11; clear hb11))
          go_wp2_with fail
          go_meet
          exact ⟨rfl, HB⟩
        case rest => as_aux_lemma =>
          obtain ⟨rfl, HB9⟩ := hcut
          have SF : Hid (∃ (S D : Int) (W : List Int), Sep (fun _ => False) w wc [ro p S D W n, ob I.O (.pointer (some a)) (S, D, W, n)]) := ⟨S2, D2, W2, (S7.out.next HB9.out).sub (.cons_cons _ (.cons _ (List.Sublist.refl _)))⟩
          go_wp2
          go_roundw
          case rel => exact ⟨j + 1, by omega, by go_num, SF⟩
          case measure => simp [intOf]; omega
    · have HB := Lib.hid SL.out.old
      go_wp2
      go_ret
      exact ⟨rfl, HB.out⟩

theorem does_walk (I : On) (n : Int) (A : Option Addr) (len cap : Nat) (zs : List Ac) (w : World) (hn : In64 n) (hlen : len ≤ 9223372036854775807) (hz : ZsIn w A len cap zs) :
    Calls Try.prog 3 #[.int .i64 n, .slice A len cap] w fun e w' => e = .returned (.bool true) ∧ Below w.heap.size w w' := by
  by_cases hno : 1 ≤ n ∧ n ≤ 20 ∧ len ≤ 80
  · exact does_main I n A len cap zs w hz hno.1 hno.2.1 hno.2.2
  · exact does_easy I n A len cap w hn hlen hno
end Go.Proofs.Ytlepedhfnkamkaa.OnceI
