/-
  The walk of the law RWDoes over any package that meets 'Rw': it returns true and leaves old memory as it was. Conditions: none but 'Rw'.
-/
import Derived.Test.YtmlicljoadcoeaaRwM
import Derived.Test.YtmlicljoadcoeaaActs
import Derived.Deep.RegionHeld3
import Derived.Deep.DeepCutAuto
import Derived.Deep.CutBlock
namespace Go.Proofs.Ytmlicljoadcoeaa.RwI
open Go.ChangeShapes Go.WideShapes Go.ChangeAt Go.RowKit Mem MutP RwP Hand RefMut RefRw Acts

section
variable {I : Rw} {wq Q : World} {v : Value} {F : Nat → Prop} {s : St}
theorem l_keep (hA : I.O.A wq v F s) (hb : Below wq.heap.size wq Q) : I.O.A Q v F s := I.O.keep hA hb.size fun k hk _ => hb.block k hk
theorem l_writer (hA : I.O.A wq v F s) (hb : Below wq.heap.size wq Q) : Calls Try.prog 16 #[v] Q fun e w' => e = .returned (.int .i64 s.w) ∧ Below wq.heap.size wq w' := by
  refine (I.writer (l_keep hA hb)).mono ?_
  rintro e w' ⟨rfl, h'⟩
  exact ⟨rfl, hb.trans (h'.mono hb.size)⟩
theorem l_readers (hA : I.O.A wq v F s) (hb : Below wq.heap.size wq Q) : Calls Try.prog 17 #[v] Q fun e w' => ∃ A c, e = .returned (.slice A s.r.length c) ∧ Rd w' (fun _ => True) (.slice A s.r.length c) s.r ∧ Below wq.heap.size wq w' := by
  refine (I.readers (l_keep hA hb)).mono ?_
  rintro e w' ⟨u, rfl, hr, h'⟩
  obtain ⟨A, c, rfl⟩ := rd_form hr
  exact ⟨A, c, rfl, hr.mono fun _ _ _ => trivial, hb.trans (h'.mono hb.size)⟩
theorem l_same {u u' : Value} {l : List Int} (hu : Rd Q (fun _ => True) u l) (hu' : Rd wq (fun _ => True) u' l) (hb : Below wq.heap.size wq Q) :
    Calls Try.prog 15 #[u, u'] Q fun e w' => e = .returned (.bool true) ∧ Below wq.heap.size wq w' := by
  refine (SameI.same_any hu (hu'.below hb)).mono ?_
  rintro e w' ⟨rfl, n, rfl⟩
  exact ⟨by simp, below_drewN hb n⟩
theorem l_same2 {u u' : Value} {l : List Int} (hu : Rd wq (fun _ => True) u l) (hu' : Rd wq (fun _ => True) u' l) (hb : Below wq.heap.size wq Q) :
    Calls Try.prog 15 #[u, u'] Q fun e w' => e = .returned (.bool true) ∧ Below wq.heap.size wq w' := l_same (hu.below hb) hu' hb
end

set_option maxHeartbeats 4000000 in
set_option maxRecDepth 100000 in
/-- What is too large, or no size that may be. -/
theorem does_easy (I : Rw) (n : Int) (A : Option Addr) (len cap : Nat) (w : World) (hn : In64 n) (hlen : len ≤ 9223372036854775807) (hno : ¬ (1 ≤ n ∧ n ≤ 20 ∧ len ≤ 120)) :
    Calls Try.prog 3 #[.int .i64 n, .slice A len cap] w fun e w' => e = .returned (.bool true) ∧ Below w.heap.size w w' := by
  have HN := Lib.hid hn
  clear hn
  rcases (by omega : (20 < n ∧ n ≤ 1000) ∨ ((n ≤ 20 ∨ 1000 < n) ∧ 120 < len) ∨ (n < 1 ∧ len ≤ 120) ∨ (1000 < n ∧ len ≤ 120)) with ⟨h1, h2⟩ | ⟨h1 | h1, h2⟩ | ⟨h1, h2⟩ | ⟨h1, h2⟩
  · go_enter Try.func3, Try.ntmps3
    go_wp2_with fail
    refine (awake_any I _).mono ?_
    rintro e w1 ⟨rfl, hb1⟩
    have HB := Lib.hid hb1
    clear hb1
    go_wp2
    go_ret
    exact ⟨rfl, HB.out⟩
  · go_enter Try.func3, Try.ntmps3
    go_wp2_with fail
    refine (awake_any I _).mono ?_
    rintro e w1 ⟨rfl, hb1⟩
    have HB := Lib.hid hb1
    clear hb1
    go_wp2
    go_ret
    exact ⟨rfl, HB.out⟩
  · go_enter Try.func3, Try.ntmps3
    go_wp2_with fail
    refine (awake_any I _).mono ?_
    rintro e w1 ⟨rfl, hb1⟩
    have HB := Lib.hid hb1
    clear hb1
    go_wp2
    go_ret
    exact ⟨rfl, HB.out⟩
  all_goals
    have hq : n < 1 ∨ 1000 < n := by omega
    have HQ := Lib.hid hq
    clear hq hno
    go_enter Try.func3, Try.ntmps3
    go_wp2_with fail
    refine (awake_any I _).mono ?_
    rintro e w1 ⟨rfl, hb1⟩
    have HB := Lib.hid hb1
    clear hb1
    go_wp2_with fail
    refine (I.new_no n _ HN.out HQ.out).mono ?_
    rintro e w3 ⟨rfl, hb3⟩
    have HB3 : Hid (Below w.heap.size w w3) := HB.out.trans (hb3.mono HB.out.size)
    clear hb3
    go_wp2_with fail
    refine (newR_no n _ HQ.out).mono ?_
    rintro e w4 ⟨rfl, rfl⟩
    go_wp2
    go_ret
    exact ⟨rfl, HB3.out⟩

set_option maxHeartbeats 8000000 in
set_option maxRecDepth 100000 in
theorem does_main (I : Rw) (n : Int) (A : Option Addr) (len cap : Nat) (zs : List Ac) (w : World) (hz : ZsIn w A len cap zs) (h1 : 1 ≤ n) (h2 : n ≤ 20) (h60 : len ≤ 120) :
    Calls Try.prog 3 #[.int .i64 n, .slice A len cap] w fun e w' => e = .returned (.bool true) ∧ Below w.heap.size w w' := by
  obtain ⟨hzl, hzr, hzo⟩ := hz (by omega)
  subst hzl
  have HZR := Lib.hid hzr
  have HZO := Lib.hid hzo
  clear hzr hzo hz
  go_enter Try.func3, Try.ntmps3
  go_wp2_with fail
  refine (awake_any I _).mono ?_
  rintro e w1 ⟨rfl, hb1⟩
  have S1 := Lib.hid ((Sep.nil (fun _ => False) w).next hb1)
  clear hb1
  go_wp2_with fail
  refine (m_new S1.out I n (by omega) (by omega)).mono ?_
  rintro e w2 ⟨a, rfl, h2'⟩
  have S2 := Lib.hid h2'
  clear h2' S1
  go_wp2_with fail
  refine (newR_s S2.out n (by omega) (by omega)).mono ?_
  rintro e w3 ⟨p, rfl, h3⟩
  have S3 := Lib.hid h3
  clear h3 S2
  go_wp2
  go_loopw [56] (fun u wr => ∃ j : Nat, j ≤ zs.length ∧ u = .int .i64 j ∧ Hid (∃ (s : St), Sep (fun _ => False) w wr [rr p s, ob I.O (.pointer (some a)) s])) (fun u _ => zs.length - (intOf u).toNat)
  case atStart => exact ⟨0, Nat.zero_le _, rfl, _, S3.out⟩
  case round =>
    obtain ⟨j, hj, rfl, HS⟩ := hrel
    obtain ⟨s, hS⟩ := HS.out
    have SL := Lib.hid hS
    clear HS hS S3
    by_cases hlt : j < zs.length
    · have hx : zs[j]? = some zs[j] := List.getElem?_eq_getElem hlt
      generalize zs[j] = z at hx
      obtain ⟨hd64, ht64⟩ := HZO.out z (List.mem_of_getElem? hx)
      obtain ⟨bb, off, rfl, hbb, c0, c1⟩ := ac_cells HZR.out hx
      have hb := SL.out.old
      have q0 := (hb.cell (p := ⟨bb, off + j * 2, none⟩) hbb).trans c0
      have q1 := (hb.cell (p := ⟨bb, off + j * 2 + 1, none⟩) hbb).trans c1
      obtain ⟨d, t⟩ := z
      simp only at q0 q1 ht64
      have S4 := Lib.hid (SL.out.new (.cells #[.int .i64 d, .int .i64 t] 32))
      have HT64 := Lib.hid ht64
      have HOK := Lib.hid (m_ok SL.out 1 rfl)
      clear hx c0 c1 hb SL hd64 ht64
      obtain ⟨V, hV⟩ : ∃ V, actV s d t = V := ⟨_, rfl⟩
      obtain ⟨E, hE⟩ : ∃ E, actE s d t = E := ⟨_, rfl⟩
      obtain ⟨Bo, hBo⟩ : ∃ Bo, actB s d t = Bo := ⟨_, rfl⟩
      obtain ⟨s2, hs2⟩ : ∃ s2, actS s d t = s2 := ⟨_, rfl⟩
      have KV := Lib.hid hV
      have KE := Lib.hid hE
      have KB := Lib.hid hBo
      have KS := Lib.hid hs2
      clear hV hE hBo hs2
      go_wp2_with fail
      refine (m_do S4.out 2 rfl d t HT64.out).mono ?_
      rintro e w5 ⟨Ao, co, rfl, h5⟩
      rw [KB.out, KE.out]
      rw [KV.out] at h5 ⊢
      rw [KS.out] at h5
      have S6 : Hid (Sep (fun _ => False) w w5 [rr p s, blk wr.heap.size (.cells #[.int .i64 d, .int .i64 t] 32), nums (.slice Ao V.length co) V, ob I.O (.pointer (some a)) s2]) := h5.perm (by
        refine (List.Perm.swap ..).trans ?_
        refine ((List.Perm.swap ..).cons _).trans ?_
        exact List.Perm.trans (List.Perm.swap ..) ((List.Perm.refl _)))
      have S7 : Hid (Sep (fun _ => False) w (w5.alloc (.cells #[] 3)) (nums (.slice (some ⟨w5.heap.size, 0, none⟩) 0 0) [] :: [rr p s, blk wr.heap.size (.cells #[.int .i64 d, .int .i64 t] 32), nums (.slice Ao V.length co) V, ob I.O (.pointer (some a)) s2])) := S6.out.add (new_below0 w5 _) (R := nums _ []) (F := fun k => k = w5.heap.size) ⟨litI w5 _ [] rfl (by decide) rfl, fun k hk => by rw [hk]; simp⟩ fun k hk => by rw [hk]; exact Nat.le_refl _
      have a0 : (w5.alloc (.cells #[] 3)).cell? ⟨wr.heap.size, 0, none⟩ = some (.int .i64 d) := (cell_block (S7.out.blk_at 2 rfl) 0).trans rfl
      have a1 : (w5.alloc (.cells #[] 3)).cell? ⟨wr.heap.size, 1, none⟩ = some (.int .i64 t) := (cell_block (S7.out.blk_at 2 rfl) 1).trans rfl
      have HLT : Hid (wr.heap.size < (w5.alloc (.cells #[] 3)).heap.size) := lt_of_block (S7.out.blk_at 2 rfl)
      clear h5 S4 S6 q0 q1
      go_upto_block 2 with (fail)
      go_cut [14, 15, 16] (fun s14 s15 s16 wx => ∃ Aw cw, s14 = .slice Aw V.length cw ∧ s15 = .bool Bo ∧ s16 = .int .i64 E ∧ Hid (Sep (fun _ => False) w wx [nums (.slice Aw V.length cw) V, rr p s2, nums (.slice Ao V.length co) V, ob I.O (.pointer (some a)) s2]))
      case first => as_aux_lemma =>
        rcases (by omega : d = 0 ∨ d = 1 ∨ d = 2 ∨ d = 3 ∨ (d ≠ 0 ∧ d ≠ 1 ∧ d ≠ 2 ∧ d ≠ 3)) with rfl | rfl | rfl | rfl | ⟨d0, d1, d2, d3⟩
        · have hV : Hid ([] = V) := KV.out
          have hE : Hid (askE s t = E) := KE.out
          have hB : Hid (askB s t false = Bo) := KB.out
          have hS : Hid (askS s t false = s2) := KS.out
          have S8 : Hid (Sep (fun _ => False) w (w5.alloc (.cells #[] 3)) (rr p s :: [nums (.slice (some ⟨w5.heap.size, 0, none⟩) 0 0) [], blk wr.heap.size (.cells #[.int .i64 0, .int .i64 t] 32), nums (.slice Ao V.length co) V, ob I.O (.pointer (some a)) s2])) := S7.out.swap
          clear S7
          go_wp2_with fail
          refine (ask_s S8.out HOK.out t false).mono ?_
          rintro e w7 ⟨rfl, h7⟩
          rw [hE.out, hB.out]
          rw [hS.out] at h7
          have S9 : Hid (Sep (fun _ => False) w w7 [nums (.slice (some ⟨w5.heap.size, 0, none⟩) 0 0) [], rr p s2, nums (.slice Ao V.length co) V, ob I.O (.pointer (some a)) s2]) := h7.swap.sub (.cons_cons _ (.cons_cons _ (.cons _ (List.Sublist.refl _))))
          clear h7 S8
          go_wp2
          go_meet
          obtain rfl := hV.out
          exact ⟨_, _, rfl, rfl, rfl, S9⟩
        · have hV : Hid ([] = V) := KV.out
          have hE : Hid (askE s t = E) := KE.out
          have hB : Hid (askB s t true = Bo) := KB.out
          have hS : Hid (askS s t true = s2) := KS.out
          have S8 : Hid (Sep (fun _ => False) w (w5.alloc (.cells #[] 3)) (rr p s :: [nums (.slice (some ⟨w5.heap.size, 0, none⟩) 0 0) [], blk wr.heap.size (.cells #[.int .i64 1, .int .i64 t] 32), nums (.slice Ao V.length co) V, ob I.O (.pointer (some a)) s2])) := S7.out.swap
          clear S7
          go_wp2_with fail
          refine (ask_s S8.out HOK.out t true).mono ?_
          rintro e w7 ⟨rfl, h7⟩
          rw [hE.out, hB.out]
          rw [hS.out] at h7
          have S9 : Hid (Sep (fun _ => False) w w7 [nums (.slice (some ⟨w5.heap.size, 0, none⟩) 0 0) [], rr p s2, nums (.slice Ao V.length co) V, ob I.O (.pointer (some a)) s2]) := h7.swap.sub (.cons_cons _ (.cons_cons _ (.cons _ (List.Sublist.refl _))))
          clear h7 S8
          go_wp2
          go_meet
          obtain rfl := hV.out
          exact ⟨_, _, rfl, rfl, rfl, S9⟩
        · have hV : Hid (relV s t = V) := KV.out
          have hE : Hid (relE s t = E) := KE.out
          have hB : Hid (false = Bo) := KB.out
          have hS : Hid (unlS s t = s2) := KS.out
          have S8 := Lib.hid S7.out.tail
          clear S7
          go_wp2_with fail
          refine (unlock_s S8.out HOK.out t).mono ?_
          rintro e w7 ⟨A7, c7, rfl, h7⟩
          rw [hE.out]
          rw [hV.out] at h7 ⊢
          rw [hS.out] at h7
          have S9 : Hid (Sep (fun _ => False) w w7 [nums (.slice A7 V.length c7) V, rr p s2, nums (.slice Ao V.length co) V, ob I.O (.pointer (some a)) s2]) := h7.sub (.cons_cons _ (.cons_cons _ (.cons _ (List.Sublist.refl _))))
          clear h7 S8
          go_wp2
          go_meet
          exact ⟨_, _, rfl, by rw [← hB.out], rfl, S9⟩
        · have hV : Hid (leaveV s t = V) := KV.out
          have hE : Hid (0 = E) := KE.out
          have hB : Hid (waitsR s t = Bo) := KB.out
          have hS : Hid (leaveS s t = s2) := KS.out
          have S8 := Lib.hid S7.out.tail
          clear S7
          go_wp2_with fail
          refine (leave_s S8.out HOK.out t).mono ?_
          rintro e w7 ⟨A7, c7, rfl, h7⟩
          rw [hB.out]
          rw [hV.out] at h7 ⊢
          rw [hS.out] at h7
          have S9 : Hid (Sep (fun _ => False) w w7 [nums (.slice A7 V.length c7) V, rr p s2, nums (.slice Ao V.length co) V, ob I.O (.pointer (some a)) s2]) := h7.sub (.cons_cons _ (.cons_cons _ (.cons _ (List.Sublist.refl _))))
          clear h7 S8
          go_wp2
          go_meet
          exact ⟨_, _, rfl, rfl, by rw [← hE.out], S9⟩
        · have hR : Hid ([] = V ∧ 0 = E ∧ false = Bo ∧ s = s2) := by
            have d01 : ¬ (d = 0 ∨ d = 1) := by omega
            have h1 := KV.out; have h2 := KE.out; have h3 := KB.out; have h4 := KS.out
            unfold actV at h1; unfold actE at h2; unfold actB at h3; unfold actS at h4
            rw [if_neg d2, if_neg d3] at h1; rw [if_neg d01, if_neg d2] at h2; rw [if_neg d0, if_neg d1, if_neg d3] at h3; rw [if_neg d0, if_neg d1, if_neg d2, if_neg d3] at h4
            exact ⟨h1, h2, h3, h4⟩
          have e0 : (d == 0) = false := by simpa using d0
          have e1 : (d == 1) = false := by simpa using d1
          have e2 : (d == 2) = false := by simpa using d2
          have e3 : (d == 3) = false := by simpa using d3
          clear d0 d1 d2 d3
          go_wp2
          go_meet
          obtain ⟨rfl, rfl, rfl, rfl⟩ := hR.out
          exact ⟨_, _, rfl, rfl, rfl, S7.out.sub (.cons_cons _ (.cons_cons _ (.cons _ (List.Sublist.refl _))))⟩
      case rest => as_aux_lemma =>
        obtain ⟨Aw, cw, rfl, rfl, rfl, S8⟩ := hcut
        clear S7 a0 a1 KV KE KB KS HLT
        go_wp2_with fail
        refine (m_waiting S8.out 3 rfl).mono ?_
        rintro e wq ⟨Ap, cp, Aq, cq, rfl, h9, _⟩
        have S9 := Lib.hid h9
        clear h9 S8
        obtain ⟨Ar', cr', Ap', cp', Aq', cq', hs, _⟩ := rr_open (S9.out.front 2 rfl)
        obtain ⟨FA, hA⟩ := ob_at S9.out 4 rfl
        have HA : Hid (I.O.A wq (.pointer (some a)) FA s2) := hA
        have hpl := lt_of_block (hs.blk_at 0 rfl)
        have x0 : wq.cell? ⟨p, 0, none⟩ = some (.int .i64 s2.w) := (cell_block (hs.blk_at 0 rfl) 0).trans rfl
        have x2 : wq.cell? ⟨p, 2, none⟩ = some (.slice Ar' s2.r.length cr') := (cell_block (hs.blk_at 0 rfl) 2).trans rfl
        have x3 : wq.cell? ⟨p, 3, none⟩ = some (.slice Ap' s2.p.length cp') := (cell_block (hs.blk_at 0 rfl) 3).trans rfl
        have x4 : wq.cell? ⟨p, 4, none⟩ = some (.slice Aq' s2.q.length cq') := (cell_block (hs.blk_at 0 rfl) 4).trans rfl
        have RO : Hid (Rd wq (fun _ => True) (.slice Ao V.length co) V) := S9.out.rd 3 rfl
        have RW : Hid (Rd wq (fun _ => True) (.slice Aw V.length cw) V) := S9.out.rd 1 rfl
        have RP : Hid (Rd wq (fun _ => True) (.slice Ap s2.p.length cp) s2.p) := (S9.out.rd2 0 rfl).1
        have RQ : Hid (Rd wq (fun _ => True) (.slice Aq s2.q.length cq) s2.q) := (S9.out.rd2 0 rfl).2
        have RR' : Hid (Rd wq (fun _ => True) (.slice Ar' s2.r.length cr') s2.r) := hs.rd 1 rfl
        have RP' : Hid (Rd wq (fun _ => True) (.slice Ap' s2.p.length cp') s2.p) := hs.rd 2 rfl
        have RQ' : Hid (Rd wq (fun _ => True) (.slice Aq' s2.q.length cq') s2.q) := hs.rd 3 rfl
        have FK : Hid (∀ Q, Below wq.heap.size wq Q → (Q.cell? ⟨p, 0, none⟩ = some (.int .i64 s2.w) ∧ Q.cell? ⟨p, 2, none⟩ = some (.slice Ar' s2.r.length cr') ∧ Q.cell? ⟨p, 3, none⟩ = some (.slice Ap' s2.p.length cp') ∧ Q.cell? ⟨p, 4, none⟩ = some (.slice Aq' s2.q.length cq'))) := fun Q hb => ⟨(hb.cell (p := ⟨p, 0, none⟩) hpl).trans x0, (hb.cell (p := ⟨p, 2, none⟩) hpl).trans x2, (hb.cell (p := ⟨p, 3, none⟩) hpl).trans x3, (hb.cell (p := ⟨p, 4, none⟩) hpl).trans x4⟩
        have HB : Hid (Below wq.heap.size wq wq.drew) := (Below.refl _ _).drew
        have hEE : (E != E) = false := by simp
        have hBB : (Bo != Bo) = false := by simp
        have hHH : (s2.w != s2.w) = false := by simp
        clear hs hA x0 x2 x3 x4
        go_upto_region 25 with (fail)
        go_cut [156] (fun s156 wx => s156 = .bool false ∧ Hid (Below wq.heap.size wq wx))
        case first => as_aux_lemma =>
          obtain ⟨k0, k2, k3, k4⟩ := FK.out _ HB.out
          go_region_held3 (fun Q => Q.cell? ⟨p, 0, none⟩ = some (.int .i64 s2.w) ∧ Q.cell? ⟨p, 2, none⟩ = some (.slice Ar' s2.r.length cr') ∧ Q.cell? ⟨p, 3, none⟩ = some (.slice Ap' s2.p.length cp') ∧ Q.cell? ⟨p, 4, none⟩ = some (.slice Aq' s2.q.length cq')) (go_keep)
            (first
              | (go_at_call 15; (with_reducible refine (l_same2 RO.out RW.out HB.out).mono ?_); rintro e w11 ⟨rfl, hb11⟩; have HB := Lib.hid hb11; obtain ⟨k0, k2, k3, k4⟩ := FK.out _ hb11; clear hb11)
              | (go_at_call 16; (with_reducible refine (l_writer HA.out HB.out).mono ?_); rintro e w11 ⟨rfl, hb11⟩; have HB := Lib.hid hb11; obtain ⟨k0, k2, k3, k4⟩ := FK.out _ hb11; clear hb11)
              | (go_at_call 17; (with_reducible refine (l_readers HA.out HB.out).mono ?_); rintro e w11 ⟨A1, c1, rfl, r11, hb11⟩; have R1 := Lib.hid r11; clear r11; have HB := Lib.hid hb11; obtain ⟨k0, k2, k3, k4⟩ := FK.out _ hb11; clear hb11)
              | (go_at_call 15; (with_reducible refine (l_same R1.out RR'.out HB.out).mono ?_); rintro e w11 ⟨rfl, hb11⟩; have HB := Lib.hid hb11; obtain ⟨k0, k2, k3, k4⟩ := FK.out _ hb11; clear hb11)
              | (go_at_call 15; (with_reducible refine (l_same2 RP.out RP'.out HB.out).mono ?_); rintro e w11 ⟨rfl, hb11⟩; have HB := Lib.hid hb11; obtain ⟨k0, k2, k3, k4⟩ := FK.out _ hb11; clear hb11)
              | (go_at_call 15; (with_reducible refine (l_same2 RQ.out RQ'.out HB.out).mono ?_); rintro e w11 ⟨rfl, hb11⟩; have HB := Lib.hid hb11; obtain ⟨k0, k2, k3, k4⟩ := FK.out _ hb11; clear hb11))
          go_wp2_with fail
          go_meet
          exact ⟨rfl, HB⟩
        case rest => as_aux_lemma =>
          obtain ⟨rfl, HB9⟩ := hcut
          have SF : Hid (∃ (s : St), Sep (fun _ => False) w wc [rr p s, ob I.O (.pointer (some a)) s]) := ⟨s2, (S9.out.next HB9.out).sub (.cons _ (.cons _ (.cons_cons _ (.cons _ (List.Sublist.refl _)))))⟩
          go_wp2
          go_roundw
          case rel => exact ⟨j + 1, by omega, by go_num, SF⟩
          case measure => simp [intOf]; omega
    · have HB := Lib.hid SL.out.old
      go_wp2
      go_ret
      exact ⟨rfl, HB.out⟩

theorem does_walk (I : Rw) (n : Int) (A : Option Addr) (len cap : Nat) (zs : List Ac) (w : World) (hn : In64 n) (hlen : len ≤ 9223372036854775807) (hz : ZsIn w A len cap zs) :
    Calls Try.prog 3 #[.int .i64 n, .slice A len cap] w fun e w' => e = .returned (.bool true) ∧ Below w.heap.size w w' := by
  by_cases hno : 1 ≤ n ∧ n ≤ 20 ∧ len ≤ 120
  · exact does_main I n A len cap zs w hz hno.1 hno.2.1 hno.2.2
  · exact does_easy I n A len cap w hn hlen hno
end Go.Proofs.Ytmlicljoadcoeaa.RwI
