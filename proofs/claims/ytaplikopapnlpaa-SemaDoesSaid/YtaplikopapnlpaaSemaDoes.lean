/-
  The walk of the law SemaDoes over any package that meets 'Sg'. Condition: what the arguments read as.
-/
import Derived.Test.YtaplikopapnlpaaSemaM
import Derived.Test.YtaplikopapnlpaaActs3
import Derived.Deep.RegionHeld3
import Derived.Deep.DeepCutAuto
import Derived.Deep.CutBlock
namespace Go.Proofs.Ytaplikopapnlpaa.SemaI
open Go.ChangeShapes Go.WideShapes Go.ChangeAt Go.RowKit Mem MutP SemaP Hand RefMut RefSema FitsC Acts3

section
variable {I : Sg} {wq Q : World} {v : Value} {F : Nat → Prop} {s : St}
theorem l_keep (hA : I.O.A wq v F s) (hb : Below wq.heap.size wq Q) : I.O.A Q v F s := I.O.keep hA hb.size fun k hk _ => hb.block k hk
theorem l_held (hA : I.O.A wq v F s) (hb : Below wq.heap.size wq Q) : Calls Try.prog 16 #[v] Q fun e w' => e = .returned (.int .i64 s.H) ∧ Below wq.heap.size wq w' := by
  refine (I.held (l_keep hA hb)).mono ?_
  rintro e w' ⟨rfl, h'⟩
  exact ⟨rfl, hb.trans (h'.mono hb.size)⟩
theorem l_cap (hA : I.O.A wq v F s) (hb : Below wq.heap.size wq Q) : Calls Try.prog 17 #[v] Q fun e w' => e = .returned (.int .i64 s.C) ∧ Below wq.heap.size wq w' := by
  refine (I.cap (l_keep hA hb)).mono ?_
  rintro e w' ⟨rfl, h'⟩
  exact ⟨rfl, hb.trans (h'.mono hb.size)⟩
theorem l_same2 {u u' : Value} {l : List Int} (hu : Rd wq (fun _ => True) u l) (hu' : Rd wq (fun _ => True) u' l) (hb : Below wq.heap.size wq Q) :
    Calls Try.prog 15 #[u, u'] Q fun e w' => e = .returned (.bool true) ∧ Below wq.heap.size wq w' := by
  refine (SameI.same_any (hu.below hb) (hu'.below hb)).mono ?_
  rintro e w' ⟨rfl, n, rfl⟩
  exact ⟨by simp, below_drewN hb n⟩
end

set_option maxHeartbeats 1000000 in
set_option maxRecDepth 100000 in
/-- What is too large, or no size that may be. -/
theorem does_easy (I : Sg) (n room : Int) (A : Option Addr) (len cap : Nat) (w : World) (hn : In64 n) (hroom : In64 room) (hlen : len ≤ 9223372036854775807) (hno : ¬ (1 ≤ n ∧ n ≤ 20 ∧ len ≤ 100 ∧ 0 ≤ room)) :
    Calls Try.prog 3 #[.int .i64 n, .int .i64 room, .slice A len cap] w fun e w' => e = .returned (.bool true) ∧ Below w.heap.size w w' := by
  have HN := Lib.hid hn
  have HR := Lib.hid hroom
  clear hn hroom
  rcases (by omega : (20 < n ∧ n ≤ 1000) ∨ ((n ≤ 20 ∨ 1000 < n) ∧ 100 < len) ∨ (n < 1 ∧ len ≤ 100) ∨ (1000 < n ∧ len ≤ 100) ∨ (1 ≤ n ∧ n ≤ 20 ∧ len ≤ 100 ∧ room < 0)) with ⟨h1, h2⟩ | ⟨h1 | h1, h2⟩ | ⟨h1, h2⟩ | ⟨h1, h2⟩ | ⟨h1, h3, h2, h4⟩
  · go_enter Try.func3, Try.ntmps3
    go_wp2_with fail
    refine (awake_any I _).mono ?_
    rintro e w1 ⟨rfl, hb1⟩
    have HB := Lib.hid hb1
    clear hb1
    go_wp2
    go_ret
    exact ⟨rfl, HB.out⟩
  · go_enter Try.func3, Try.ntmps3
    go_wp2_with fail
    refine (awake_any I _).mono ?_
    rintro e w1 ⟨rfl, hb1⟩
    have HB := Lib.hid hb1
    clear hb1
    go_wp2
    go_ret
    exact ⟨rfl, HB.out⟩
  · go_enter Try.func3, Try.ntmps3
    go_wp2_with fail
    refine (awake_any I _).mono ?_
    rintro e w1 ⟨rfl, hb1⟩
    have HB := Lib.hid hb1
    clear hb1
    go_wp2
    go_ret
    exact ⟨rfl, HB.out⟩
  all_goals
    have hq : n < 1 ∨ 1000 < n ∨ room < 0 := by omega
    have HQ := Lib.hid hq
    clear hq hno
    go_enter Try.func3, Try.ntmps3
    go_wp2_with fail
    refine (awake_any I _).mono ?_
    rintro e w1 ⟨rfl, hb1⟩
    have HB := Lib.hid hb1
    clear hb1
    go_wp2_with fail
    refine (I.new_no n room _ HN.out HR.out HQ.out).mono ?_
    rintro e w3 ⟨rfl, hb3⟩
    have HB3 : Hid (Below w.heap.size w w3) := HB.out.trans (hb3.mono HB.out.size)
    clear hb3
    go_wp2_with fail
    refine (newG_no n room _ HQ.out).mono ?_
    rintro e w4 ⟨rfl, rfl⟩
    go_wp2
    go_ret
    exact ⟨rfl, HB3.out⟩

set_option maxHeartbeats 2000000 in
set_option maxRecDepth 100000 in
theorem does_main (I : Sg) (n room : Int) (A : Option Addr) (len cap : Nat) (zs : List Ac) (w : World) (hz : ZsIn w A len cap zs) (h1 : 1 ≤ n) (h2 : n ≤ 20) (h60 : len ≤ 100) (hr : 0 ≤ room) (hr1 : room ≤ 9223372036854775807) :
    Calls Try.prog 3 #[.int .i64 n, .int .i64 room, .slice A len cap] w fun e w' => e = .returned (.bool true) ∧ Below w.heap.size w w' := by
  obtain ⟨hzl, hzr, hzo⟩ := hz (by omega)
  subst hzl
  have HZR := Lib.hid hzr
  have HZO := Lib.hid hzo
  clear hzr hzo hz
  go_enter Try.func3, Try.ntmps3
  go_wp2_with fail
  refine (awake_any I _).mono ?_
  rintro e w1 ⟨rfl, hb1⟩
  have S1 := Lib.hid ((Sep.nil (fun _ => False) w).next hb1)
  clear hb1
  go_wp2_with fail
  refine (m_new S1.out I n room (by omega) (by omega) hr hr1).mono ?_
  rintro e w2 ⟨a, rfl, h2'⟩
  have S2 := Lib.hid h2'
  clear h2' S1
  go_wp2_with fail
  refine (newG_s S2.out n room (by omega) (by omega) hr hr1).mono ?_
  rintro e w3 ⟨p, rfl, h3⟩
  have S3 := Lib.hid h3
  clear h3 S2
  go_wp2
  go_loopw [65] (fun u wr => ∃ j : Nat, j ≤ zs.length ∧ u = .int .i64 j ∧ Hid (∃ s : St, Sep (fun _ => False) w wr [rg p s, ob I.O (.pointer (some a)) s])) (fun u _ => zs.length - (intOf u).toNat)
  case atStart => exact ⟨0, Nat.zero_le _, rfl, _, S3.out⟩
  case round =>
    obtain ⟨j, hj, rfl, HS⟩ := hrel
    obtain ⟨s, hS⟩ := HS.out
    have SL := Lib.hid hS
    have HF := Lib.hid (rg_good hS)
    clear HS hS S3
    by_cases hlt : j < zs.length
    · have hx : zs[j]? = some zs[j] := List.getElem?_eq_getElem hlt
      generalize zs[j] = z at hx
      obtain ⟨hd64, ht64, hk64⟩ := HZO.out z (List.mem_of_getElem? hx)
      obtain ⟨bb, off, rfl, hbb, c0, c1, c2⟩ := ac_cells HZR.out hx
      have hb := SL.out.old
      have q0 := (hb.cell (p := ⟨bb, off + j * 3, none⟩) hbb).trans c0
      have q1 := (hb.cell (p := ⟨bb, off + j * 3 + 1, none⟩) hbb).trans c1
      have q2 := (hb.cell (p := ⟨bb, off + j * 3 + 2, none⟩) hbb).trans c2
      obtain ⟨d, t, k⟩ := z
      simp only at q0 q1 q2 ht64 hk64
      have S4 := Lib.hid (SL.out.new (.cells #[.int .i64 d, .int .i64 t, .int .i64 k] 32))
      have HT64 := Lib.hid ht64
      have HK64 := Lib.hid hk64
      clear hx c0 c1 c2 hb SL hd64 ht64 hk64
      obtain ⟨E, hE⟩ : ∃ E, actE s d t k = E := ⟨_, rfl⟩
      obtain ⟨Bo, hBo⟩ : ∃ Bo, actB s d t k = Bo := ⟨_, rfl⟩
      obtain ⟨L2, hL2⟩ : ∃ L2, actL s d t k = L2 := ⟨_, rfl⟩
      obtain ⟨s2, hs2⟩ : ∃ s2, actS s d t k = s2 := ⟨_, rfl⟩
      have KE := Lib.hid hE
      have KB := Lib.hid hBo
      have KL := Lib.hid hL2
      have KS := Lib.hid hs2
      clear hE hBo hL2 hs2
      go_wp2_with fail
      refine (m_do S4.out 2 rfl d t k HT64.out HK64.out KL.out KB.out KE.out KS.out).mono ?_
      rintro e w5 ⟨Ao, co, rfl, h5⟩
      have S6 : Hid (Sep (fun _ => False) w (w5.alloc (.cells #[] 3)) [rg p s, nums (.slice Ao L2.length co) L2, blk wr.heap.size (.cells #[.int .i64 d, .int .i64 t, .int .i64 k] 32), ob I.O (.pointer (some a)) s2]) := Sep.next (Sep.perm h5 (by exact (List.perm_append_comm (l₁ := [_, _]) (l₂ := [_])).append_right [_])) (new_below0 _ _)
      have a0 : (w5.alloc (.cells #[] 3)).cell? ⟨wr.heap.size, 0, none⟩ = some (.int .i64 d) := (cell_block (S6.out.blk_at 2 rfl) 0).trans rfl
      have a1 : (w5.alloc (.cells #[] 3)).cell? ⟨wr.heap.size, 1, none⟩ = some (.int .i64 t) := (cell_block (S6.out.blk_at 2 rfl) 1).trans rfl
      have a2 : (w5.alloc (.cells #[] 3)).cell? ⟨wr.heap.size, 2, none⟩ = some (.int .i64 k) := (cell_block (S6.out.blk_at 2 rfl) 2).trans rfl
      clear h5 S4 q0 q1 q2
      go_upto_block 2 with (fail)
      go_cut [16, 17, 18] (fun s16 s17 s18 wx => s17 = .bool Bo ∧ s18 = .int .i64 E ∧ Hid (∃ A16 c16, s16 = .slice A16 L2.length c16 ∧ Rd wx (fun _ => True) (.slice A16 L2.length c16) L2 ∧ Sep (fun _ => False) w wx [rg p s2, nums (.slice Ao L2.length co) L2, ob I.O (.pointer (some a)) s2]))
      case first => as_aux_lemma =>
        rcases (by omega : d = 0 ∨ d = 1 ∨ d = 2 ∨ d = 3 ∨ (d ≠ 0 ∧ d ≠ 1 ∧ d ≠ 2 ∧ d ≠ 3)) with rfl | rfl | rfl | rfl | ⟨d0, d1, d2, d3⟩
        · have hE : Hid (askE s t k = E) := KE.out
          have hB : Hid (askB s t k = Bo) := KB.out
          have hL : Hid ([] = L2) := KL.out
          have hS : Hid (askS s t k true = s2) := KS.out
          go_wp2_with fail
          refine (acquire_s S6.out t k HK64.out true).mono ?_
          rw [hE.out, hB.out, hS.out]
          rintro e w7 ⟨rfl, h7⟩
          have S7 := Lib.hid h7
          clear h7
          go_wp2
          go_meet
          refine ⟨rfl, rfl, ?_⟩
          have h := S7.out.sub (.cons_cons _ (.cons_cons _ (.cons _ (List.Sublist.refl _))))
          obtain rfl := hL.out
          exact ⟨_, _, rfl, Rd.nil _ _ _ _, h⟩
        · have hE : Hid (askE s t k = E) := KE.out
          have hB : Hid (askB s t k = Bo) := KB.out
          have hL : Hid ([] = L2) := KL.out
          have hS : Hid (askS s t k false = s2) := KS.out
          go_wp2_with fail
          refine (acquire_s S6.out t k HK64.out false).mono ?_
          rw [hE.out, hB.out, hS.out]
          rintro e w7 ⟨rfl, h7⟩
          have S7 := Lib.hid h7
          clear h7
          go_wp2
          go_meet
          refine ⟨rfl, rfl, ?_⟩
          have h := S7.out.sub (.cons_cons _ (.cons_cons _ (.cons _ (List.Sublist.refl _))))
          obtain rfl := hL.out
          exact ⟨_, _, rfl, Rd.nil _ _ _ _, h⟩
        · have hE : Hid (relE s k = E) := KE.out
          have hB : Hid (false = Bo) := KB.out
          have hL : Hid (relL s k = L2) := KL.out
          have hS : Hid (relS s k = s2) := KS.out
          go_wp2_with fail
          refine (release_s S6.out k).mono ?_
          rw [hE.out, hL.out, hS.out]
          rintro e w7 ⟨A7, c7, rfl, h7⟩
          have S7 := Lib.hid h7
          clear h7
          go_wp2
          go_meet
          refine ⟨by rw [← hB.out], rfl, ?_⟩
          exact ⟨_, _, rfl, S7.out.rd 0 rfl, S7.out.sub (.cons _ (.cons_cons _ (.cons_cons _ (.cons _ (List.Sublist.refl _)))))⟩
        · have hE : Hid (0 = E) := KE.out
          have hB : Hid (SemaP.waitsB s t = Bo) := KB.out
          have hL : Hid (lvL s t = L2) := KL.out
          have hS : Hid (lvS s t = s2) := KS.out
          go_wp2_with fail
          refine (leave_s S6.out t).mono ?_
          rw [hB.out, hL.out, hS.out]
          rintro e w7 ⟨A7, c7, rfl, h7⟩
          have S7 := Lib.hid h7
          clear h7
          go_wp2
          go_meet
          refine ⟨rfl, by rw [← hE.out], ?_⟩
          exact ⟨_, _, rfl, S7.out.rd 0 rfl, S7.out.sub (.cons _ (.cons_cons _ (.cons_cons _ (.cons _ (List.Sublist.refl _)))))⟩
        · have hR : Hid (0 = E ∧ false = Bo ∧ [] = L2 ∧ s = s2) := by
            obtain ⟨r1, r2, r3, r4⟩ := act_no (s := s) (t := t) (k := k) d0 d1 d2 d3
            exact ⟨r3.symm.trans KE.out, r2.symm.trans KB.out, r1.symm.trans KL.out, r4.symm.trans KS.out⟩
          have e0 : (d == 0) = false := by simpa using d0
          have e1 : (d == 1) = false := by simpa using d1
          have e2 : (d == 2) = false := by simpa using d2
          have e3 : (d == 3) = false := by simpa using d3
          clear d0 d1 d2 d3
          go_wp2
          go_meet
          obtain ⟨r0, r1, r2, r3⟩ := hR.out
          refine ⟨by rw [← r1], by rw [← r0], ?_⟩
          have h := S6.out.sub (.cons_cons _ (.cons_cons _ (.cons _ (List.Sublist.refl _))))
          rw [← r2, ← r3] at h ⊢
          exact ⟨_, _, rfl, Rd.nil _ _ _ _, h⟩
      case rest => as_aux_lemma =>
        obtain ⟨rfl, rfl, hcut⟩ := hcut
        obtain ⟨A14, c14, rfl, h14, h7⟩ := hcut.out
        have R14 := Lib.hid h14
        have S7 := Lib.hid h7
        clear S6 a0 a1 a2 KE KB KL KS hcut h14 h7 HF
        go_wp2_with fail
        refine (m_waiting S7.out 2 rfl).mono ?_
        rintro e wq ⟨Ap, cp, Aq, cq, rfl, h9, hb9⟩
        have S9 : Hid (Sep (fun _ => False) w wq [nums2 (.slice Ap s2.W.length cp) (.slice Aq s2.D.length cq) s2.W s2.D, rg p s2, nums (.slice Ao L2.length co) L2, ob I.O (.pointer (some a)) s2]) := h9
        have RL : Hid (Rd wq (fun _ => True) (.slice A14 L2.length c14) L2) := R14.out.below hb9
        clear h9 hb9 S7 R14
        obtain ⟨A1, c1, A2, c2, A3, c3, A4, c4, hs, _, _, _⟩ := rg_open S9.out.tail
        obtain ⟨FA, hA⟩ := ob_at S9.out 3 rfl
        have HA : Hid (I.O.A wq (.pointer (some a)) FA s2) := hA
        obtain ⟨x0, x1, x2, x3, _, _, _, _, hpl⟩ := rgo_cs hs
        have RO : Hid (Rd wq (fun _ => True) (.slice Ao L2.length co) L2) := S9.out.rd 2 rfl
        have RP : Hid (Rd wq (fun _ => True) (.slice Ap s2.W.length cp) s2.W) := (S9.out.rd2 0 rfl).1
        have RQ : Hid (Rd wq (fun _ => True) (.slice Aq s2.D.length cq) s2.D) := (S9.out.rd2 0 rfl).2
        have RP' : Hid (Rd wq (fun _ => True) (.slice A1 s2.W.length c1) s2.W) := hs.rd 1 rfl
        have RQ' : Hid (Rd wq (fun _ => True) (.slice A2 s2.D.length c2) s2.D) := hs.rd 2 rfl
        have FK : Hid (∀ Q, Below wq.heap.size wq Q → (Q.cell? ⟨p, 0, none⟩ = some (.int .i64 s2.H) ∧ Q.cell? ⟨p, 1, none⟩ = some (.int .i64 s2.C) ∧ Q.cell? ⟨p, 2, none⟩ = some (.slice A1 s2.W.length c1) ∧ Q.cell? ⟨p, 3, none⟩ = some (.slice A2 s2.D.length c2))) := fun Q hb => ⟨(hb.cell (p := ⟨p, 0, none⟩) hpl).trans x0, (hb.cell (p := ⟨p, 1, none⟩) hpl).trans x1, (hb.cell (p := ⟨p, 2, none⟩) hpl).trans x2, (hb.cell (p := ⟨p, 3, none⟩) hpl).trans x3⟩
        have HB : Hid (Below wq.heap.size wq wq.drew) := (Below.refl _ _).drew
        have hEE : (E != E) = false := by simp
        have hBB : (Bo != Bo) = false := by simp
        have hHH : (s2.H != s2.H) = false := by simp
        have hCC : (s2.C != s2.C) = false := by simp
        clear hs hA x0 x1 x2 x3 hpl
        go_upto_region 25 with (fail)
        go_cut [166] (fun s166 wx => s166 = .bool false ∧ Hid (Below wq.heap.size wq wx))
        case first => as_aux_lemma =>
          obtain ⟨k0, k1, k2, k3⟩ := FK.out _ HB.out
          go_region_held3 (fun Q => Q.cell? ⟨p, 0, none⟩ = some (.int .i64 s2.H) ∧ Q.cell? ⟨p, 1, none⟩ = some (.int .i64 s2.C) ∧ Q.cell? ⟨p, 2, none⟩ = some (.slice A1 s2.W.length c1) ∧ Q.cell? ⟨p, 3, none⟩ = some (.slice A2 s2.D.length c2)) (go_keep)
            (first
              | (go_at_call 15; (with_reducible refine (l_same2 RO.out RL.out HB.out).mono ?_); rintro e w11 ⟨rfl, hb11⟩; have HB := Lib.hid hb11; obtain ⟨k0, k1, k2, k3⟩ := FK.out _ hb11; clear hb11)
              | (go_at_call 16; (with_reducible refine (l_held HA.out HB.out).mono ?_); rintro e w11 ⟨rfl, hb11⟩; have HB := Lib.hid hb11; obtain ⟨k0, k1, k2, k3⟩ := FK.out _ hb11; clear hb11)
              | (go_at_call 17; (with_reducible refine (l_cap HA.out HB.out).mono ?_); rintro e w11 ⟨rfl, hb11⟩; have HB := Lib.hid hb11; obtain ⟨k0, k1, k2, k3⟩ := FK.out _ hb11; clear hb11)
              | (go_at_call 15; (with_reducible refine (l_same2 RP.out RP'.out HB.out).mono ?_); rintro e w11 ⟨rfl, hb11⟩; have HB := Lib.hid hb11; obtain ⟨k0, k1, k2, k3⟩ := FK.out _ hb11; clear hb11)
              | (go_at_call 15; (with_reducible refine (l_same2 RQ.out RQ'.out HB.out).mono ?_); rintro e w11 ⟨rfl, hb11⟩; have HB := Lib.hid hb11; obtain ⟨k0, k1, k2, k3⟩ := FK.out _ hb11; clear hb11))
          go_wp2_with fail
          go_meet
          exact ⟨rfl, HB⟩
        case rest => as_aux_lemma =>
          obtain ⟨rfl, HB9⟩ := hcut
          have SF : Hid (Sep (fun _ => False) w wc [rg p s2, ob I.O (.pointer (some a)) s2]) := (S9.out.next HB9.out).sub (.cons _ (.cons_cons _ (.cons _ (List.Sublist.refl _))))
          clear S9 RL RO RP RQ RP' RQ' FK HB HA hEE hBB hHH hCC HB9
          go_wp2
          go_loopw [21] (fun u wr => ∃ x : Int, -1 ≤ x ∧ x ≤ n + 1 ∧ u = .int .i64 x ∧ Hid (Sep (fun _ => False) w wr [rg p s2, ob I.O (.pointer (some a)) s2])) (fun u _ => (n + 1 - intOf u).toNat)
          case atStart => exact ⟨-1, by omega, by omega, rfl, SF⟩
          case round =>
            obtain ⟨x, x0, x1, rfl, ST⟩ := hrel
            clear SF
            by_cases hxn : x ≤ n
            · have hx64 : Hid (In64 x) := ⟨by omega, by omega⟩
              have hnn : (wantN s2 x != wantN s2 x) = false := by simp
              have hbb : (SemaP.waitsB s2 x != SemaP.waitsB s2 x) = false := by simp
              go_wp2_with fail
              refine (m_wants ST.out 1 rfl x hx64.out).mono ?_
              rintro e w12 ⟨rfl, h12, _⟩
              have S12 := Lib.hid h12
              clear h12 ST
              go_wp2_with fail
              refine (wants_s S12.out x).mono ?_
              rintro e w13 ⟨rfl, rfl⟩
              go_wp2
              go_roundw
              case rel => exact ⟨x + 1, by omega, by omega, by go_num, S12⟩
              case measure => simp [intOf]; omega
            · have SF2 : Hid (∃ s : St, Sep (fun _ => False) w wr [rg p s, ob I.O (.pointer (some a)) s]) := ⟨s2, ST.out⟩
              clear ST
              go_wp2
              go_roundw
              case rel => exact ⟨j + 1, by omega, by go_num, SF2⟩
              case measure => simp [intOf]; omega
    · have HB := Lib.hid SL.out.old
      go_wp2
      go_ret
      exact ⟨rfl, HB.out⟩

theorem does_walk (I : Sg) (n room : Int) (A : Option Addr) (len cap : Nat) (zs : List Ac) (w : World) (hn : In64 n) (hr : In64 room) (hlen : len ≤ 9223372036854775807) (hz : ZsIn w A len cap zs) :
    Calls Try.prog 3 #[.int .i64 n, .int .i64 room, .slice A len cap] w fun e w' => e = .returned (.bool true) ∧ Below w.heap.size w w' := by
  by_cases hno : 1 ≤ n ∧ n ≤ 20 ∧ len ≤ 100 ∧ 0 ≤ room
  · exact does_main I n room A len cap zs w hz hno.1 hno.2.1 hno.2.2.1 hno.2.2.2 hr.2
  · exact does_easy I n room A len cap w hn hr hlen hno
end Go.Proofs.Ytaplikopapnlpaa.SemaI
