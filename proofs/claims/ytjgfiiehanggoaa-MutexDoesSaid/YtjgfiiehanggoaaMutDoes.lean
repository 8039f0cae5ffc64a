/-
  The walk of the law MutexDoes over any package that meets 'Mu': it returns true and leaves old memory as it was. Conditions: none but 'Mu'.
-/
import Derived.Test.YtjgfiiehanggoaaMutM
import Derived.Deep.RegionHeld3
import Derived.Deep.DeepCutAuto
import Derived.Deep.CutBlock
namespace Go.Proofs.Ytjgfiiehanggoaa.MutI
open Go.ChangeShapes Go.WideShapes Go.ChangeAt Go.RowKit Mem MutP Hand RefMut

/-- An act, as it lies in a slice. -/
structure Ac where
  d : Int
  t : Int
def acE : Enc Ac := ⟨2, fun x => [.int .i64 x.d, .int .i64 x.t], fun _ => rfl, by intro a u hu; simp at hu; rcases hu with rfl | rfl <;> rfl, by omega⟩
theorem ac_cells {w : World} {G : Nat → Prop} {A : Option Addr} {n c : Nat} {L : List Ac} (h : RdL acE w G (.slice A n c) L) {i : Nat} {x : Ac} (hi : L[i]? = some x) :
    ∃ b off, A = some ⟨b, off, none⟩ ∧ b < w.heap.size ∧ w.cell? ⟨b, off + i * 2, none⟩ = some (.int .i64 x.d) ∧ w.cell? ⟨b, off + i * 2 + 1, none⟩ = some (.int .i64 x.t) := by
  obtain ⟨b, off, hA, _, hb, hc⟩ := h.at_ hi
  exact ⟨b, off, hA, hb, hc 0 _ rfl, hc 1 _ rfl⟩
/-- What the laws are asked of: numbers that may be. -/
def ZsIn (w : World) (A : Option Addr) (len cap : Nat) (zs : List Ac) : Prop := len ≤ 1000000 → zs.length = len ∧ RdL acE w (fun b => b < w.heap.size) (.slice A len cap) zs ∧ ∀ z ∈ zs, In64 z.d ∧ In64 z.t

section
variable {I : Mu} {wq Q : World} {v : Value} {F : Nat → Prop} {H : Int} {W : List Int} {N : Int}
theorem l_keep (hA : I.O.A wq v F (H, W, N)) (hb : Below wq.heap.size wq Q) : I.O.A Q v F (H, W, N) := I.O.keep hA hb.size fun k hk _ => hb.block k hk
theorem l_holder (hA : I.O.A wq v F (H, W, N)) (hb : Below wq.heap.size wq Q) : Calls Try.prog 13 #[v] Q fun e w' => e = .returned (.int .i64 H) ∧ Below wq.heap.size wq w' := by
  refine (I.holder (l_keep hA hb)).mono ?_
  rintro e w' ⟨rfl, h'⟩
  exact ⟨rfl, hb.trans (h'.mono hb.size)⟩
theorem l_waiting (hA : I.O.A wq v F (H, W, N)) (hb : Below wq.heap.size wq Q) : Calls Try.prog 15 #[v] Q fun e w' => ∃ A c, e = .returned (.slice A W.length c) ∧ Rd w' (fun _ => True) (.slice A W.length c) W ∧ Below wq.heap.size wq w' := by
  refine (I.waiting (l_keep hA hb)).mono ?_
  rintro e w' ⟨u, rfl, hr, h'⟩
  obtain ⟨A, c, rfl⟩ := rd_form hr
  exact ⟨A, c, rfl, hr.mono fun _ _ _ => trivial, hb.trans (h'.mono hb.size)⟩
theorem l_same {u u' : Value} {l : List Int} (hu : Rd Q (fun _ => True) u l) (hu' : Rd wq (fun _ => True) u' l) (hb : Below wq.heap.size wq Q) :
    Calls Try.prog 14 #[u, u'] Q fun e w' => e = .returned (.bool true) ∧ Below wq.heap.size wq w' := by
  refine (SameI.same_any hu (hu'.below hb)).mono ?_
  rintro e w' ⟨rfl, n, rfl⟩
  exact ⟨by simp, below_drewN hb n⟩
end

set_option maxHeartbeats 4000000 in
set_option maxRecDepth 100000 in
/-- What is too large, or no size that may be. -/
theorem does_easy (I : Mu) (n : Int) (A : Option Addr) (len cap : Nat) (w : World) (hn : In64 n) (hlen : len ≤ 9223372036854775807) (hno : ¬ (1 ≤ n ∧ n ≤ 20 ∧ len ≤ 120)) :
    Calls Try.prog 3 #[.int .i64 n, .slice A len cap] w fun e w' => e = .returned (.bool true) ∧ Below w.heap.size w w' := by
  have HN := Lib.hid hn
  clear hn
  rcases (by omega : (20 < n ∧ n ≤ 1000) ∨ ((n ≤ 20 ∨ 1000 < n) ∧ 120 < len) ∨ (n < 1 ∧ len ≤ 120) ∨ (1000 < n ∧ len ≤ 120)) with ⟨h1, h2⟩ | ⟨h1 | h1, h2⟩ | ⟨h1, h2⟩ | ⟨h1, h2⟩
  · go_enter Try.func3, Try.ntmps3
    go_wp2_with fail
    refine (awake_any I _).mono ?_
    rintro e w1 ⟨rfl, hb1⟩
    have HB := Lib.hid hb1
    clear hb1
    go_wp2
    go_ret
    exact ⟨rfl, HB.out⟩
  · go_enter Try.func3, Try.ntmps3
    go_wp2_with fail
    refine (awake_any I _).mono ?_
    rintro e w1 ⟨rfl, hb1⟩
    have HB := Lib.hid hb1
    clear hb1
    go_wp2
    go_ret
    exact ⟨rfl, HB.out⟩
  · go_enter Try.func3, Try.ntmps3
    go_wp2_with fail
    refine (awake_any I _).mono ?_
    rintro e w1 ⟨rfl, hb1⟩
    have HB := Lib.hid hb1
    clear hb1
    go_wp2
    go_ret
    exact ⟨rfl, HB.out⟩
  all_goals
    have hq : n < 1 ∨ 1000 < n := by omega
    have HQ := Lib.hid hq
    clear hq hno
    go_enter Try.func3, Try.ntmps3
    go_wp2_with fail
    refine (awake_any I _).mono ?_
    rintro e w1 ⟨rfl, hb1⟩
    have HB := Lib.hid hb1
    clear hb1
    go_wp2_with fail
    refine (I.new_no n _ HN.out HQ.out).mono ?_
    rintro e w3 ⟨rfl, hb3⟩
    have HB3 : Hid (Below w.heap.size w w3) := HB.out.trans (hb3.mono HB.out.size)
    clear hb3
    go_wp2_with fail
    refine (newM_no n _ HQ.out).mono ?_
    rintro e w4 ⟨rfl, rfl⟩
    go_wp2
    go_ret
    exact ⟨rfl, HB3.out⟩

set_option maxHeartbeats 8000000 in
set_option maxRecDepth 100000 in
theorem does_main (I : Mu) (n : Int) (A : Option Addr) (len cap : Nat) (zs : List Ac) (w : World) (hz : ZsIn w A len cap zs) (h1 : 1 ≤ n) (h2 : n ≤ 20) (h60 : len ≤ 120) :
    Calls Try.prog 3 #[.int .i64 n, .slice A len cap] w fun e w' => e = .returned (.bool true) ∧ Below w.heap.size w w' := by
  obtain ⟨hzl, hzr, hzo⟩ := hz (by omega)
  subst hzl
  have HZR := Lib.hid hzr
  have HZO := Lib.hid hzo
  clear hzr hzo hz
  go_enter Try.func3, Try.ntmps3
  go_wp2_with fail
  refine (awake_any I _).mono ?_
  rintro e w1 ⟨rfl, hb1⟩
  have S1 := Lib.hid ((Sep.nil (fun _ => False) w).next hb1)
  clear hb1
  go_wp2_with fail
  refine (m_new S1.out I n (by omega) (by omega)).mono ?_
  rintro e w2 ⟨a, rfl, h2'⟩
  have S2 := Lib.hid h2'
  clear h2' S1
  go_wp2_with fail
  refine (newM_s S2.out n (by omega) (by omega)).mono ?_
  rintro e w3 ⟨p, rfl, h3⟩
  have S3 := Lib.hid h3
  clear h3 S2
  go_wp2
  go_loopw [54] (fun u wr => ∃ j : Nat, j ≤ zs.length ∧ u = .int .i64 j ∧ Hid (∃ (H : Int) (W : List Int), Sep (fun _ => False) w wr [rm p H W n, ob I.O (.pointer (some a)) (H, W, n)])) (fun u _ => zs.length - (intOf u).toNat)
  case atStart => exact ⟨0, Nat.zero_le _, rfl, _, _, S3.out⟩
  case round =>
    obtain ⟨j, hj, rfl, HS⟩ := hrel
    obtain ⟨H, W, hS⟩ := HS.out
    have SL := Lib.hid hS
    clear HS hS S3
    by_cases hlt : j < zs.length
    · have hx : zs[j]? = some zs[j] := List.getElem?_eq_getElem hlt
      generalize zs[j] = z at hx
      obtain ⟨hd64, ht64⟩ := HZO.out z (List.mem_of_getElem? hx)
      obtain ⟨bb, off, rfl, hbb, c0, c1⟩ := ac_cells HZR.out hx
      have hb := SL.out.old
      have q0 := (hb.cell (p := ⟨bb, off + j * 2, none⟩) hbb).trans c0
      have q1 := (hb.cell (p := ⟨bb, off + j * 2 + 1, none⟩) hbb).trans c1
      obtain ⟨d, t⟩ := z
      simp only at q0 q1 ht64
      have S4 := Lib.hid (SL.out.new (.cells #[.int .i64 d, .int .i64 t] 32))
      have HT64 := Lib.hid ht64
      clear hx c0 c1 hb SL hd64 ht64
      obtain ⟨V, hV⟩ : ∃ V, actK H W n d t = V := ⟨_, rfl⟩
      obtain ⟨E, hE⟩ : ∃ E, actE H W n d t = E := ⟨_, rfl⟩
      obtain ⟨Bo, hBo⟩ : ∃ Bo, actB H W n d t = Bo := ⟨_, rfl⟩
      obtain ⟨H2, hH2⟩ : ∃ H2, actH H W n d t = H2 := ⟨_, rfl⟩
      obtain ⟨W2, hW2⟩ : ∃ W2, actW H W n d t = W2 := ⟨_, rfl⟩
      have KV := Lib.hid hV
      have KE := Lib.hid hE
      have KB := Lib.hid hBo
      have KH := Lib.hid hH2
      have KW := Lib.hid hW2
      clear hV hE hBo hH2 hW2
      go_wp2_with fail
      refine (m_do S4.out 2 rfl d t HT64.out).mono ?_
      rintro e w5 ⟨rfl, h5⟩
      rw [KV.out, KE.out, KB.out]
      rw [KH.out, KW.out] at h5
      have S6 : Hid (Sep (fun _ => False) w w5 [rm p H W n, blk wr.heap.size (.cells #[.int .i64 d, .int .i64 t] 32), ob I.O (.pointer (some a)) (H2, W2, n)]) := Sep.swap h5
      have a0 : w5.cell? ⟨wr.heap.size, 0, none⟩ = some (.int .i64 d) := (cell_block (S6.out.blk_at 1 rfl) 0).trans rfl
      have a1 : w5.cell? ⟨wr.heap.size, 1, none⟩ = some (.int .i64 t) := (cell_block (S6.out.blk_at 1 rfl) 1).trans rfl
      clear h5 S4 q0 q1
      go_upto_block 2 with (fail)
      go_cut [14, 15, 16] (fun s14 s15 s16 wx => s14 = .int .i64 V ∧ s15 = .bool Bo ∧ s16 = .int .i64 E ∧ Hid (Sep (fun _ => False) w wx [rm p H2 W2 n, ob I.O (.pointer (some a)) (H2, W2, n)]))
      case first => as_aux_lemma =>
        rcases (by omega : d = 0 ∨ d = 1 ∨ d = 2 ∨ d = 3 ∨ (d ≠ 0 ∧ d ≠ 1 ∧ d ≠ 2 ∧ d ≠ 3)) with rfl | rfl | rfl | rfl | ⟨d0, d1, d2, d3⟩
        · have hV : Hid (0 = V) := KV.out
          have hE : Hid (lockE W n t = E) := KE.out
          have hB : Hid (lockB H W n t = Bo) := KB.out
          have hH : Hid (lockH H W n t = H2) := KH.out
          have hW : Hid (lockW H W n t true = W2) := KW.out
          go_wp2_with fail
          refine (lock_s S6.out t true).mono ?_
          rintro e w7 ⟨rfl, h7⟩
          rw [hE.out, hB.out]
          rw [hH.out, hW.out] at h7
          have S7 := Lib.hid h7
          clear h7
          go_wp2
          go_meet
          exact ⟨by rw [← hV.out], rfl, rfl, S7.out.sub (.cons_cons _ (.cons _ (List.Sublist.refl _)))⟩
        · have hV : Hid (0 = V) := KV.out
          have hE : Hid (lockE W n t = E) := KE.out
          have hB : Hid (lockB H W n t = Bo) := KB.out
          have hH : Hid (lockH H W n t = H2) := KH.out
          have hW : Hid (lockW H W n t false = W2) := (lockW_no H W n t).trans KW.out
          go_wp2_with fail
          refine (lock_s S6.out t false).mono ?_
          rintro e w7 ⟨rfl, h7⟩
          rw [hE.out, hB.out]
          rw [hH.out, hW.out] at h7
          have S7 := Lib.hid h7
          clear h7
          go_wp2
          go_meet
          exact ⟨by rw [← hV.out], rfl, rfl, S7.out.sub (.cons_cons _ (.cons _ (List.Sublist.refl _)))⟩
        · have hV : Hid (unlV H W n t = V) := KV.out
          have hE : Hid (unlE H n t = E) := KE.out
          have hB : Hid (false = Bo) := KB.out
          have hH : Hid (unlH H W n t = H2) := KH.out
          have hW : Hid (unlW H W n t = W2) := KW.out
          go_wp2_with fail
          refine (unlock_s S6.out t).mono ?_
          rintro e w7 ⟨rfl, h7⟩
          rw [hV.out, hE.out]
          rw [hH.out, hW.out] at h7
          have S7 := Lib.hid h7
          clear h7
          go_wp2
          go_meet
          exact ⟨rfl, by rw [← hB.out], rfl, S7.out.sub (.cons_cons _ (.cons _ (List.Sublist.refl _)))⟩
        · have hV : Hid (0 = V) := KV.out
          have hE : Hid (0 = E) := KE.out
          have hB : Hid (inL W t = Bo) := KB.out
          have hH : Hid (H = H2) := KH.out
          have hW : Hid (withoutL W t = W2) := KW.out
          go_wp2_with fail
          refine (leave_s S6.out t).mono ?_
          rintro e w7 ⟨rfl, h7⟩
          rw [hB.out]
          rw [hH.out, hW.out] at h7
          have S7 := Lib.hid h7
          clear h7
          go_wp2
          go_meet
          exact ⟨by rw [← hV.out], rfl, by rw [← hE.out], S7.out.sub (.cons_cons _ (.cons _ (List.Sublist.refl _)))⟩
        · have hR : Hid (0 = V ∧ 0 = E ∧ false = Bo ∧ H = H2 ∧ W = W2) := by
            have d01 : ¬ (d = 0 ∨ d = 1) := by omega
            have h1 := KV.out; have h2 := KE.out; have h3 := KB.out; have h4 := KH.out; have h5 := KW.out
            unfold actK at h1; unfold actE at h2; unfold actB at h3; unfold actH at h4; unfold actW at h5
            rw [if_neg d2] at h1; rw [if_neg d01, if_neg d2] at h2; rw [if_neg d01, if_neg d3] at h3; rw [if_neg d01, if_neg d2] at h4; rw [if_neg d0, if_neg d2, if_neg d3] at h5
            exact ⟨h1, h2, h3, h4, h5⟩
          have e0 : (d == 0) = false := by simpa using d0
          have e1 : (d == 1) = false := by simpa using d1
          have e2 : (d == 2) = false := by simpa using d2
          have e3 : (d == 3) = false := by simpa using d3
          clear d0 d1 d2 d3
          go_wp2
          go_meet
          obtain ⟨r1, r2, r3, r4, r5⟩ := hR.out
          refine ⟨by rw [← r1], by rw [← r3], by rw [← r2], ?_⟩
          have h := S6.out
          rw [← r4, ← r5] at h ⊢
          exact h.sub (.cons_cons _ (.cons _ (List.Sublist.refl _)))
      case rest => as_aux_lemma =>
        obtain ⟨rfl, rfl, rfl, S7⟩ := hcut
        clear S6 a0 a1 KV KE KB KH KW
        obtain ⟨AL, cL, hs, hok, _⟩ := rm_open S7.out
        obtain ⟨FA, hA⟩ := ob_at S7.out 1 rfl
        have HA : Hid (I.O.A wc (.pointer (some a)) FA (H2, W2, n)) := hA
        have hl2 : W2.length ≤ 1000 := hok.wlen
        have hpl := lt_of_block (hs.blk_at 0 rfl)
        have x0 : wc.cell? ⟨p, 0, none⟩ = some (.int .i64 H2) := (cell_block (hs.blk_at 0 rfl) 0).trans rfl
        have x2 : wc.cell? ⟨p, 2, none⟩ = some (.slice AL W2.length cL) := (cell_block (hs.blk_at 0 rfl) 2).trans rfl
        have RL : Hid (Rd wc (fun _ => True) (.slice AL W2.length cL) W2) := hs.rd 1 rfl
        have FK : Hid (∀ Q, Below wc.heap.size wc Q → (Q.cell? ⟨p, 0, none⟩ = some (.int .i64 H2) ∧ Q.cell? ⟨p, 2, none⟩ = some (.slice AL W2.length cL))) := fun Q hb => ⟨(hb.cell (p := ⟨p, 0, none⟩) hpl).trans x0, (hb.cell (p := ⟨p, 2, none⟩) hpl).trans x2⟩
        have HB : Hid (Below wc.heap.size wc wc.drew) := (Below.refl _ _).drew
        have hVV : (V != V) = false := by simp
        have hEE : (E != E) = false := by simp
        have hBB : (Bo != Bo) = false := by simp
        have hHH : (H2 != H2) = false := by simp
        clear hs hok hA x0 x2
        go_upto_region 25 with (fail)
        go_cut [131] (fun s131 wx => s131 = .bool false ∧ Hid (Below wc.heap.size wc wx))
        case first => as_aux_lemma =>
          obtain ⟨k0, k1⟩ := FK.out _ HB.out
          go_region_held3 (fun Q => Q.cell? ⟨p, 0, none⟩ = some (.int .i64 H2) ∧ Q.cell? ⟨p, 2, none⟩ = some (.slice AL W2.length cL)) (go_keep)
            (first
              | (go_at_call 13; (with_reducible refine (l_holder HA.out HB.out).mono ?_); rintro e w11 ⟨rfl, hb11⟩; have HB := Lib.hid hb11; obtain ⟨k0, k1⟩ := FK.out _ hb11; clear hb11)
              | (go_at_call 15; (with_reducible refine (l_waiting HA.out HB.out).mono ?_); rintro e w11 ⟨A1, c1, rfl, r11, hb11⟩; have R1 := Lib.hid r11; clear r11; have HB := Lib.hid hb11; obtain ⟨k0, k1⟩ := FK.out _ hb11; clear hb11)
              | (go_at_call 14; (with_reducible refine (l_same R1.out RL.out HB.out).mono ?_); rintro e w11 ⟨rfl, hb11⟩; have HB := Lib.hid hb11; obtain ⟨k0, k1⟩ := FK.out _ hb11; clear hb11))
          go_wp2_with fail
          go_meet
          exact ⟨rfl, HB⟩
        case rest => as_aux_lemma =>
          obtain ⟨rfl, HB9⟩ := hcut
          have SF : Hid (∃ (H : Int) (W : List Int), Sep (fun _ => False) w wc [rm p H W n, ob I.O (.pointer (some a)) (H, W, n)]) := ⟨H2, W2, S7.out.next HB9.out⟩
          go_wp2
          go_roundw
          case rel => exact ⟨j + 1, by omega, by go_num, SF⟩
          case measure => simp [intOf]; omega
    · have HB := Lib.hid SL.out.old
      go_wp2
      go_ret
      exact ⟨rfl, HB.out⟩

theorem does_walk (I : Mu) (n : Int) (A : Option Addr) (len cap : Nat) (zs : List Ac) (w : World) (hn : In64 n) (hlen : len ≤ 9223372036854775807) (hz : ZsIn w A len cap zs) :
    Calls Try.prog 3 #[.int .i64 n, .slice A len cap] w fun e w' => e = .returned (.bool true) ∧ Below w.heap.size w w' := by
  by_cases hno : 1 ≤ n ∧ n ≤ 20 ∧ len ≤ 120
  · exact does_main I n A len cap zs w hz hno.1 hno.2.1 hno.2.2
  · exact does_easy I n A len cap w hn hlen hno
end Go.Proofs.Ytjgfiiehanggoaa.MutI
