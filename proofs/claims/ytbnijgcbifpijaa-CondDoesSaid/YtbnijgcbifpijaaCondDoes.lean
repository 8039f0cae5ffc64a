/-
  The walk of the law CondDoes over any package that meets 'Cd'. Condition: what the arguments read as.
-/
import Derived.Test.YtbnijgcbifpijaaCondM
import Derived.Test.YtbnijgcbifpijaaActs3
import Derived.Deep.RegionHeld3
import Derived.Deep.DeepCutAuto
import Derived.Deep.CutBlock
namespace Go.Proofs.Ytbnijgcbifpijaa.CondI
open Go.ChangeShapes Go.WideShapes Go.ChangeAt Go.RowKit Mem MutP CondP Hand RefCond Acts3

section
variable {I : Cd} {wq Q : World} {v : Value} {F : Nat → Prop} {W : List Tl} {N : Int}
theorem l_waiting (hA : I.O.A wq v F (W, N)) (hb : Below wq.heap.size wq Q) : Calls Try.prog 15 #[v] Q fun e w' => ∃ A c, e = .returned (.slice A W.length c) ∧ RdL tlE w' (fun _ => True) (.slice A W.length c) W ∧ Below wq.heap.size wq w' := by
  refine (I.waiting (I.O.keep hA hb.size fun k hk _ => hb.block k hk)).mono ?_
  rintro e w' ⟨u, rfl, hs⟩
  obtain ⟨A, c, rfl⟩ := hs.1.form
  exact ⟨A, c, rfl, anyL hs.1, hb.trans (hs.2.mono hb.size)⟩
theorem l_own {u : Value} {l : List Tl} (hu : RdL tlE Q (fun _ => True) u l) (hl : l.length ≤ 1000) (hb : Below wq.heap.size wq Q) : Calls Try.prog 14 #[u] Q fun e w' => ∃ A c, e = .returned (.slice A l.length c) ∧ RdL tlE w' (fun _ => True) (.slice A l.length c) l ∧ Below wq.heap.size wq w' := by
  refine (own_any hu (by omega)).mono ?_
  rintro e w' ⟨u, rfl, hs⟩
  obtain ⟨A, c, rfl⟩ := hs.1.form
  exact ⟨A, c, rfl, anyL hs.1, hb.trans (hs.2.mono hb.size)⟩
theorem l_same {u u' : Value} {l : List Tl} (hu : RdL tlE Q (fun _ => True) u l) (hu' : RdL tlE wq (fun _ => True) u' l) (hb : Below wq.heap.size wq Q) :
    Calls Try.prog 13 #[u, u'] Q fun e w' => e = .returned (.bool true) ∧ Below wq.heap.size wq w' := by
  refine (same_any hu (hu'.below hb)).mono ?_
  rintro e w' ⟨rfl, n, rfl⟩
  exact ⟨by simp, below_drewN hb n⟩
end
theorem actL_len (W : List Tl) (d t : Int) (h : W.length ≤ 1000) : (actL W d t).length ≤ 1000 := by
  unfold actL oneT
  split
  · rw [List.length_take]; omega
  · split
    · exact h
    · split
      · split <;> simp
      · simp

set_option maxHeartbeats 4000000 in
set_option maxRecDepth 100000 in
/-- What is too large, or no size that may be. -/
theorem does_easy (I : Cd) (n : Int) (A : Option Addr) (len cap : Nat) (w : World) (hn : In64 n) (hlen : len ≤ 9223372036854775807) (hno : ¬ (1 ≤ n ∧ n ≤ 20 ∧ len ≤ 100)) :
    Calls Try.prog 3 #[.int .i64 n, .slice A len cap] w fun e w' => e = .returned (.bool true) ∧ Below w.heap.size w w' := by
  have HN := Lib.hid hn
  clear hn
  rcases (by omega : (20 < n ∧ n ≤ 1000) ∨ ((n ≤ 20 ∨ 1000 < n) ∧ 100 < len) ∨ (n < 1 ∧ len ≤ 100) ∨ (1000 < n ∧ len ≤ 100)) with ⟨h1, h2⟩ | ⟨h1 | h1, h2⟩ | ⟨h1, h2⟩ | ⟨h1, h2⟩
  · go_enter Try.func3, Try.ntmps3
    go_wp2_with fail
    refine (awake_any I _).mono ?_
    rintro e w1 ⟨rfl, hb1⟩
    have HB := Lib.hid hb1
    clear hb1
    go_wp2
    go_ret
    exact ⟨rfl, HB.out⟩
  · go_enter Try.func3, Try.ntmps3
    go_wp2_with fail
    refine (awake_any I _).mono ?_
    rintro e w1 ⟨rfl, hb1⟩
    have HB := Lib.hid hb1
    clear hb1
    go_wp2
    go_ret
    exact ⟨rfl, HB.out⟩
  · go_enter Try.func3, Try.ntmps3
    go_wp2_with fail
    refine (awake_any I _).mono ?_
    rintro e w1 ⟨rfl, hb1⟩
    have HB := Lib.hid hb1
    clear hb1
    go_wp2
    go_ret
    exact ⟨rfl, HB.out⟩
  all_goals
    have hq : n < 1 ∨ 1000 < n := by omega
    have HQ := Lib.hid hq
    clear hq hno
    go_enter Try.func3, Try.ntmps3
    go_wp2_with fail
    refine (awake_any I _).mono ?_
    rintro e w1 ⟨rfl, hb1⟩
    have HB := Lib.hid hb1
    clear hb1
    go_wp2_with fail
    refine (I.new_no n _ HN.out HQ.out).mono ?_
    rintro e w3 ⟨rfl, hb3⟩
    have HB3 : Hid (Below w.heap.size w w3) := HB.out.trans (hb3.mono HB.out.size)
    clear hb3
    go_wp2_with fail
    refine (newC_no n _ HQ.out).mono ?_
    rintro e w4 ⟨rfl, rfl⟩
    go_wp2
    go_ret
    exact ⟨rfl, HB3.out⟩

set_option maxHeartbeats 8000000 in
set_option maxRecDepth 100000 in
theorem does_main (I : Cd) (n : Int) (A : Option Addr) (len cap : Nat) (zs : List Ac) (w : World) (hz : ZsIn w A len cap zs) (h1 : 1 ≤ n) (h2 : n ≤ 20) (h60 : len ≤ 100) :
    Calls Try.prog 3 #[.int .i64 n, .slice A len cap] w fun e w' => e = .returned (.bool true) ∧ Below w.heap.size w w' := by
  obtain ⟨hzl, hzr, hzo⟩ := hz (by omega)
  subst hzl
  have HZR := Lib.hid hzr
  have HZO := Lib.hid hzo
  clear hzr hzo hz
  go_enter Try.func3, Try.ntmps3
  go_wp2_with fail
  refine (awake_any I _).mono ?_
  rintro e w1 ⟨rfl, hb1⟩
  have S1 := Lib.hid ((Sep.nil (fun _ => False) w).next hb1)
  clear hb1
  go_wp2_with fail
  refine (m_new S1.out I n (by omega) (by omega)).mono ?_
  rintro e w2 ⟨a, rfl, h2'⟩
  have S2 := Lib.hid h2'
  clear h2' S1
  go_wp2_with fail
  refine (newC_s S2.out n (by omega) (by omega)).mono ?_
  rintro e w3 ⟨p, rfl, h3⟩
  have S3 := Lib.hid h3
  clear h3 S2
  go_wp2
  go_loopw [56] (fun u wr => ∃ j : Nat, j ≤ zs.length ∧ u = .int .i64 j ∧ Hid (∃ (W : List Tl), Sep (fun _ => False) w wr [rc p W n, ob I.O (.pointer (some a)) (W, n)])) (fun u _ => zs.length - (intOf u).toNat)
  case atStart => exact ⟨0, Nat.zero_le _, rfl, _, S3.out⟩
  case round =>
    obtain ⟨j, hj, rfl, HS⟩ := hrel
    obtain ⟨W, hS⟩ := HS.out
    have SL := Lib.hid hS
    have hwn := (rc_ok hS).len
    have hw20 : W.length ≤ 20 := by omega
    have HWN := Lib.hid hw20
    clear HS hS S3 hwn hw20
    by_cases hlt : j < zs.length
    · have hx : zs[j]? = some zs[j] := List.getElem?_eq_getElem hlt
      generalize zs[j] = z at hx
      obtain ⟨hd64, ht64, hk64⟩ := HZO.out z (List.mem_of_getElem? hx)
      obtain ⟨bb, off, rfl, hbb, c0, c1, c2⟩ := ac_cells HZR.out hx
      have hb := SL.out.old
      have q0 := (hb.cell (p := ⟨bb, off + j * 3, none⟩) hbb).trans c0
      have q1 := (hb.cell (p := ⟨bb, off + j * 3 + 1, none⟩) hbb).trans c1
      have q2 := (hb.cell (p := ⟨bb, off + j * 3 + 2, none⟩) hbb).trans c2
      obtain ⟨d, t, k⟩ := z
      simp only at q0 q1 q2 ht64 hk64
      have S4 := Lib.hid (SL.out.new (.cells #[.int .i64 d, .int .i64 t, .int .i64 k] 32))
      have HT64 := Lib.hid ht64
      have HK64 := Lib.hid hk64
      clear hx c0 c1 c2 hb SL hd64 ht64 hk64
      obtain ⟨E, hE⟩ : ∃ E, actE W n d t = E := ⟨_, rfl⟩
      obtain ⟨Bo, hBo⟩ : ∃ Bo, actB W d t = Bo := ⟨_, rfl⟩
      obtain ⟨L2, hL2⟩ : ∃ L2, actL W d t = L2 := ⟨_, rfl⟩
      obtain ⟨W2, hW2⟩ : ∃ W2, actW W n d t k = W2 := ⟨_, rfl⟩
      have hl1 : L2.length ≤ 1000 := hL2 ▸ actL_len W d t (by have := HWN.out; omega)
      have HL1 := Lib.hid hl1
      have KE := Lib.hid hE
      have KB := Lib.hid hBo
      have KL := Lib.hid hL2
      have KW := Lib.hid hW2
      clear hE hBo hL2 hW2 hl1
      go_wp2_with fail
      refine (m_do S4.out 2 rfl d t k HT64.out HK64.out).mono ?_
      rw [KE.out, KB.out, KL.out, KW.out]
      rintro e w5 ⟨Ao, co, rfl, h5⟩
      have S6 : Hid (Sep (fun _ => False) w (w5.alloc (.cells #[] 40)) [rc p W n, told tlE (.slice Ao L2.length co) L2, blk wr.heap.size (.cells #[.int .i64 d, .int .i64 t, .int .i64 k] 32), ob I.O (.pointer (some a)) (W2, n)]) := Sep.next (Sep.perm h5 (by exact (List.perm_append_comm (l₁ := [_, _]) (l₂ := [_])).append_right [_])) (new_below0 _ _)
      have a0 : (w5.alloc (.cells #[] 40)).cell? ⟨wr.heap.size, 0, none⟩ = some (.int .i64 d) := (cell_block (S6.out.blk_at 2 rfl) 0).trans rfl
      have a1 : (w5.alloc (.cells #[] 40)).cell? ⟨wr.heap.size, 1, none⟩ = some (.int .i64 t) := (cell_block (S6.out.blk_at 2 rfl) 1).trans rfl
      have a2 : (w5.alloc (.cells #[] 40)).cell? ⟨wr.heap.size, 2, none⟩ = some (.int .i64 k) := (cell_block (S6.out.blk_at 2 rfl) 2).trans rfl
      clear h5 S4 q0 q1 q2
      go_upto_block 2 with (fail)
      go_cut [14, 15, 16] (fun s14 s15 s16 wx => s14 = .int .i64 E ∧ s15 = .bool Bo ∧ Hid (∃ A16 c16, s16 = .slice A16 L2.length c16 ∧ RdL tlE wx (fun _ => True) (.slice A16 L2.length c16) L2 ∧ Sep (fun _ => False) w wx [rc p W2 n, told tlE (.slice Ao L2.length co) L2, ob I.O (.pointer (some a)) (W2, n)]))
      case first => as_aux_lemma =>
        rcases (by omega : d = 0 ∨ d = 1 ∨ d = 2 ∨ d = 3 ∨ (d ≠ 0 ∧ d ≠ 1 ∧ d ≠ 2 ∧ d ≠ 3)) with rfl | rfl | rfl | rfl | ⟨d0, d1, d2, d3⟩
        · have hE : Hid (waitE W n t = E) := KE.out
          have hB : Hid (false = Bo) := KB.out
          have hL : Hid ([] = L2) := KL.out
          have hW : Hid (waitW W n t k = W2) := KW.out
          go_wp2_with fail
          refine (wait_s S6.out t k).mono ?_
          rintro e w7 ⟨rfl, h7⟩
          rw [hE.out]
          rw [hW.out] at h7
          have S7 := Lib.hid h7
          clear h7
          go_wp2
          go_meet
          refine ⟨rfl, by rw [← hB.out], ?_⟩
          have h := S7.out.sub (.cons_cons _ (.cons_cons _ (.cons _ (List.Sublist.refl _))))
          obtain rfl := hL.out
          exact ⟨_, _, rfl, RdL.nil _ _ _ _, h⟩
        · have hE : Hid (0 = E) := KE.out
          have hB : Hid (false = Bo) := KB.out
          have hL : Hid (oneT W = L2) := KL.out
          have hW : Hid (restT W = W2) := KW.out
          go_wp2_with fail
          refine (take_one S6.out).mono ?_
          rw [hL.out, hW.out]
          rintro e w7 ⟨A7, c7, rfl, hr, h7⟩
          have S7 := Lib.hid h7
          have R7 := Lib.hid hr
          clear h7 hr
          go_wp2
          go_meet
          refine ⟨by rw [← hE.out], by rw [← hB.out], ?_⟩
          exact ⟨_, _, rfl, R7.out, S7.out.sub (.cons_cons _ (.cons_cons _ (.cons _ (List.Sublist.refl _))))⟩
        · have hE : Hid (0 = E) := KE.out
          have hB : Hid (false = Bo) := KB.out
          have hL : Hid (W = L2) := KL.out
          have hW : Hid ([] = W2) := KW.out
          go_wp2_with fail
          refine (take_all S6.out HWN.out).mono ?_
          rw [hL.out, hW.out]
          rintro e w7 ⟨A7, c7, rfl, hr, h7⟩
          have S7 := Lib.hid h7
          have R7 := Lib.hid hr
          clear h7 hr
          go_wp2
          go_meet
          refine ⟨by rw [← hE.out], by rw [← hB.out], ?_⟩
          exact ⟨_, _, rfl, R7.out, S7.out.sub (.cons_cons _ (.cons_cons _ (.cons _ (List.Sublist.refl _))))⟩
        · have hE : Hid (0 = E) := KE.out
          have hB : Hid (hasT W t = Bo) := KB.out
          have hL : Hid ((if hasT W t = true then [getT W t] else []) = L2) := KL.out
          have hW : Hid (outT W t = W2) := KW.out
          rw [hB.out] at hL
          go_wp2_with fail
          refine (leave_s S6.out t).mono ?_
          rw [hB.out, hW.out]
          rintro e w7 ⟨rfl, h7⟩
          have S7 := Lib.hid h7
          clear h7
          generalize getT W t = g at *
          simp only [Tl.val]
          cases Bo with
          | true =>
            have S8 : Hid (Sep (fun _ => False) w ((w7.alloc (.cells #[.int .i64 g.t, .int .i64 g.k] 40)).alloc (.cells #[.int .i64 g.t, .int .i64 g.k] 40)).drew [rc p W2 n, told tlE (.slice Ao L2.length co) L2, ob I.O (.pointer (some a)) (W2, n)]) := (((S7.out.next (new_below0 _ _)).next (new_below0 _ _)).drew).sub (.cons_cons _ (.cons_cons _ (.cons _ (List.Sublist.refl _))))
            have R8 : Hid (RdL tlE ((w7.alloc (.cells #[.int .i64 g.t, .int .i64 g.k] 40)).alloc (.cells #[.int .i64 g.t, .int .i64 g.k] 40)).drew (fun _ => True) (.slice (some ⟨w7.heap.size + 1, 0, none⟩) 1 1) [g]) := by
              have h := RdL.lit1 (E := tlE) (w7.alloc (.cells #[.int .i64 g.t, .int .i64 g.k] 40)) 40 g (cs := #[.int .i64 g.t, .int .i64 g.k]) rfl (fun _ => True) trivial
              rw [World.size_alloc] at h
              exact h.drew
            have hL : Hid ([g] = L2) := hL
            go_wp2
            go_region
            go_wp2
            go_meet
            refine ⟨by rw [← hE.out], rfl, ?_⟩
            have h := S8.out
            rw [← hL.out] at h ⊢
            exact ⟨_, _, rfl, R8.out, h⟩
          | false =>
            have S8 : Hid (Sep (fun _ => False) w (w7.alloc (.cells #[.int .i64 g.t, .int .i64 g.k] 40)) [rc p W2 n, told tlE (.slice Ao L2.length co) L2, ob I.O (.pointer (some a)) (W2, n)]) := (S7.out.next (new_below0 _ _)).sub (.cons_cons _ (.cons_cons _ (.cons _ (List.Sublist.refl _))))
            have hL : Hid ([] = L2) := hL
            go_wp2
            go_meet
            refine ⟨by rw [← hE.out], rfl, ?_⟩
            have h := S8.out
            rw [← hL.out] at h ⊢
            exact ⟨_, _, rfl, RdL.nil _ _ _ _, h⟩
        · have hR : Hid (0 = E ∧ false = Bo ∧ [] = L2 ∧ W = W2) := by
            have h2 := KE.out; have h3 := KB.out; have h4 := KL.out; have h5 := KW.out
            unfold actE at h2; unfold actB at h3; unfold actL at h4; unfold actW at h5
            rw [if_neg d0] at h2; rw [if_neg d3] at h3; rw [if_neg d1, if_neg d2, if_neg d3] at h4; rw [if_neg d0, if_neg d1, if_neg d2, if_neg d3] at h5
            exact ⟨h2, h3, h4, h5⟩
          have e0 : (d == 0) = false := by simpa using d0
          have e1 : (d == 1) = false := by simpa using d1
          have e2 : (d == 2) = false := by simpa using d2
          have e3 : (d == 3) = false := by simpa using d3
          clear d0 d1 d2 d3
          go_wp2
          go_meet
          obtain ⟨r1, r2, r3, r4⟩ := hR.out
          refine ⟨by rw [← r1], by rw [← r2], ?_⟩
          have h := S6.out.sub (.cons_cons _ (.cons_cons _ (.cons _ (List.Sublist.refl _))))
          rw [← r3, ← r4] at h ⊢
          exact ⟨_, _, rfl, RdL.nil _ _ _ _, h⟩
      case rest => as_aux_lemma =>
        obtain ⟨rfl, rfl, hcut⟩ := hcut
        obtain ⟨A16, c16, rfl, h16, h7⟩ := hcut.out
        have R16 := Lib.hid h16
        have S7 := Lib.hid h7
        clear S6 a0 a1 a2 KE KB KL KW hcut h16 h7
        obtain ⟨AL, cL, hs, hok, _⟩ := rc_open S7.out
        obtain ⟨FA, hA⟩ := ob_at S7.out 2 rfl
        have HA : Hid (I.O.A wc (.pointer (some a)) FA (W2, n)) := hA
        have RO : Hid (RdL tlE wc (fun _ => True) (.slice Ao L2.length co) L2) := S7.out.rdL 1 rfl
        have hl2 : W2.length ≤ 1000 := hok.wlen
        have HL2 := Lib.hid hl2
        have hpl := lt_of_block (hs.blk_at 0 rfl)
        have x0 : wc.cell? ⟨p, 0, none⟩ = some (.slice AL W2.length cL) := (cell_block (hs.blk_at 0 rfl) 0).trans rfl
        have RL : Hid (RdL tlE wc (fun _ => True) (.slice AL W2.length cL) W2) := hs.rdL 1 rfl
        have FK : Hid (∀ Q, Below wc.heap.size wc Q → (Q.cell? ⟨p, 0, none⟩ = some (.slice AL W2.length cL))) := fun Q hb => (hb.cell (p := ⟨p, 0, none⟩) hpl).trans x0
        have HB : Hid (Below wc.heap.size wc wc.drew) := (Below.refl _ _).drew
        have RO : Hid (RdL tlE wc.drew (fun _ => True) (.slice Ao L2.length co) L2) := RO.out
        have hEE : (E != E) = false := by simp
        have hBB : (Bo != Bo) = false := by simp
        clear hs hok hA x0 hl2
        go_upto_region 27 with (fail)
        go_cut [123] (fun s123 wx => s123 = .bool false ∧ Hid (Below wc.heap.size wc wx))
        case first => as_aux_lemma =>
          have k0 := FK.out _ HB.out
          go_region_held3 (fun Q => Q.cell? ⟨p, 0, none⟩ = some (.slice AL W2.length cL)) (go_keep)
            (first
              | (go_at_call 14; (with_reducible refine (l_own RO.out HL1.out HB.out).mono ?_); rintro e w11 ⟨A1, c1, rfl, r11, hb11⟩; have R1 := Lib.hid r11; clear r11; have HB := Lib.hid hb11; have k0 := FK.out _ hb11; clear hb11)
              | (go_at_call 13; (with_reducible refine (l_same R1.out R16.out HB.out).mono ?_); rintro e w12 ⟨rfl, hb11⟩; have HB := Lib.hid hb11; have k0 := FK.out _ hb11; clear hb11)
              | (go_at_call 15; (with_reducible refine (l_waiting HA.out HB.out).mono ?_); rintro e w13 ⟨A2, c2, rfl, r11, hb11⟩; have R2 := Lib.hid r11; clear r11; have HB := Lib.hid hb11; have k0 := FK.out _ hb11; clear hb11)
              | (go_at_call 14; (with_reducible refine (l_own R2.out HL2.out HB.out).mono ?_); rintro e w14 ⟨A3, c3, rfl, r11, hb11⟩; have R3 := Lib.hid r11; clear r11; have HB := Lib.hid hb11; have k0 := FK.out _ hb11; clear hb11)
              | (go_at_call 13; (with_reducible refine (l_same R3.out RL.out HB.out).mono ?_); rintro e w15 ⟨rfl, hb11⟩; have HB := Lib.hid hb11; have k0 := FK.out _ hb11; clear hb11))
          go_wp2_with fail
          go_meet
          exact ⟨rfl, HB⟩
        case rest => as_aux_lemma =>
          obtain ⟨rfl, HB9⟩ := hcut
          have SF : Hid (∃ (W : List Tl), Sep (fun _ => False) w wc [rc p W n, ob I.O (.pointer (some a)) (W, n)]) := ⟨W2, (S7.out.next HB9.out).sub (.cons_cons _ (.cons _ (List.Sublist.refl _)))⟩
          go_wp2
          go_roundw
          case rel => exact ⟨j + 1, by omega, by go_num, SF⟩
          case measure => simp [intOf]; omega
    · have HB := Lib.hid SL.out.old
      go_wp2
      go_ret
      exact ⟨rfl, HB.out⟩

theorem does_walk (I : Cd) (n : Int) (A : Option Addr) (len cap : Nat) (zs : List Ac) (w : World) (hn : In64 n) (hlen : len ≤ 9223372036854775807) (hz : ZsIn w A len cap zs) :
    Calls Try.prog 3 #[.int .i64 n, .slice A len cap] w fun e w' => e = .returned (.bool true) ∧ Below w.heap.size w w' := by
  by_cases hno : 1 ≤ n ∧ n ≤ 20 ∧ len ≤ 100
  · exact does_main I n A len cap zs w hz hno.1 hno.2.1 hno.2.2
  · exact does_easy I n A len cap w hn hlen hno
end Go.Proofs.Ytbnijgcbifpijaa.CondI
