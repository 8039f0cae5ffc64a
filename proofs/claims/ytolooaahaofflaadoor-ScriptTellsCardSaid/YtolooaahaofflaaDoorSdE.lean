/-
  What package script does as it landed, fifth part: readPrograms. Condition: the table of package code lies as it was written; what the slice reads as.
-/
import Derived.Test.YtolooaahaofflaaDoorSdD
namespace Go.Proofs.YtolooaahaofflaaDoor.ScriptP
open Go.ChangeShapes Go.WideShapes Go.ChangeAt Go.RowKit Mem MutP CodeP
/-- So many programs have been read, so far. -/
def Part (b : List Int) (m i : Nat) (rest : List Int) (ps : List (List In)) : Prop := readP m b = ((readP (m - i) rest).1, ps ++ (readP (m - i) rest).2.1, (readP (m - i) rest).2.2)
theorem part_start (b : List Int) (m : Nat) : Part b m 0 b [] := by unfold Part; rw [Nat.sub_zero, List.nil_append]
theorem part_more {b rest : List Int} {m i : Nat} {ps : List (List In)} (h : Part b m i rest ps) (hi : i < m) (he : readE rest = 0) {n : Nat} (hn : readN rest = n) : Part b m (i + 1) (rest.drop n) (ps ++ [readR rest]) := by
  unfold Part at *
  rw [h, show m - i = (m - (i + 1)) + 1 by omega, readP_succ, if_pos he, hn, Int.toNat_natCast]
  simp
theorem part_err {b rest : List Int} {m i : Nat} {ps : List (List In)} (h : Part b m i rest ps) (hi : i < m) (he : readE rest ≠ 0) : (readP m b).1 = readE rest := by
  unfold Part at h
  rw [h, show m - i = (m - (i + 1)) + 1 by omega, readP_succ, if_neg he]
theorem part_end {b rest : List Int} {m i : Nat} {ps : List (List In)} (h : Part b m i rest ps) (hi : m ≤ i) : readP m b = (0, ps, rest) := by
  unfold Part at h
  rw [h, show m - i = 0 by omega]
  unfold readP
  simp
end Go.Proofs.YtolooaahaofflaaDoor.ScriptP

namespace Go.Proofs.YtolooaahaofflaaDoor.ScA
open Go.ChangeShapes Go.WideShapes Go.ChangeAt Go.RowKit Mem MutP CodeP ScriptP Hand RefCode CodeI Scr CodeT CdA
open RefScr (grow_none)

/-- How readPrograms ends. -/
def Programs (b : List Int) (m : Nat) (w w' : World) (e : Ending) : Prop :=
  ((readP m b).1 ≠ 0 ∧ e = .returned (.tuple #[.slice none 0 0, .slice none 0 0, .int .i64 (readP m b).1]) ∧ Below w.heap.size w w') ∨
  ∃ (ps : List (List In)) (rest : List Int) (Ap : Option Addr) (pn cp : Nat) (A' : Option Addr) (c' : Nat), readP m b = (0, ps, rest) ∧ e = .returned (.tuple #[.slice Ap pn cp, .slice A' rest.length c', .int .i64 0]) ∧ pn ≤ cp ∧ rest.length ≤ c' ∧
    RdL byE w (fun _ => True) (.slice A' rest.length c') rest ∧ (∀ x ∈ rest, Byte x) ∧ rest.length ≤ b.length ∧ Sep (fun _ => False) w w' [toldN inE (.slice Ap pn cp) ps]

set_option maxRecDepth 100000 in
set_option maxHeartbeats 2000000 in
theorem readP_k {w : World} {G : Nat → Prop} {A : Option Addr} {c m : Nat} {b : List Int} (hT : Tab w) (h : RdL byE w G (.slice A b.length c) b) (hb : ∀ x ∈ b, Byte x) (hc : b.length ≤ c) (hm : m ≤ 8) (hl : b.length ≤ 4000) :
    Calls Tryd.prog 29 #[.slice A b.length c, .int .i64 m] w fun e w' => Programs b m w w' e := by
  have HT := Lib.hid hT
  have H0 : Hid (RdL byE w (fun _ => True) (.slice A b.length c) b ∧ b.length ≤ c ∧ (∀ x ∈ b, Byte x) ∧ b.length ≤ b.length) := ⟨anyL h, hc, hb, Nat.le_refl _⟩
  have HPA := Lib.hid (part_start b m)
  have S0 : Hid (Sep (fun _ => False) w w [grow plE 57 (.slice none 0 0) ([] : List (Pl In)), readsP inE []]) := grow_none ((Sep.nil (fun _ => False) w).readsP_nil inE) plE 57
  have HLL := Lib.hid hl
  clear hT h hb hc hl
  go_enter Tryd.func29, Tryd.ntmps29
  go_wp2
  go_loopw [0, 7, 12] (fun a p v wr => ∃ (i : Nat) (rest : List Int) (n : Nat) (qs : List (Pl In)) (Ar : Option Addr) (cr : Nat) (Ap : Option Addr) (cp : Nat), i ≤ m ∧ v = .int .i64 (i : Int) ∧ a = .slice Ar n cr ∧ p = .slice Ap qs.length cp ∧ Hid (rest.length = n) ∧ Hid (RdL byE w (fun _ => True) (.slice Ar n cr) rest ∧ n ≤ cr ∧ (∀ x ∈ rest, Byte x) ∧ n ≤ b.length) ∧ Hid (Part b m i rest (qs.map Pl.l) ∧ qs.length = i) ∧ Hid (Sep (fun _ => False) w wr [grow plE 57 (.slice Ap qs.length cp) qs, readsP inE qs])) (fun _ _ v _ => m - (intOf v).toNat)
  case atStart => exact ⟨0, b, b.length, [], A, c, none, 0, Nat.zero_le _, rfl, rfl, rfl, rfl, H0, ⟨HPA.out, rfl⟩, S0.out⟩
  case round =>
    obtain ⟨i, rest, n, qs, Ar, cr, Ap, cp, hi, rfl, rfl, rfl, HN, HR, HP, HS⟩ := hrel
    clear S0 H0 HPA
    rcases (by omega : i < m ∨ m ≤ i) with h4 | h4
    · obtain ⟨E, hE⟩ : ∃ E, readE rest = E := ⟨_, rfl⟩
      have HEE := Lib.hid hE
      have hC0 := read_l (HT.out.next HS.out.old) (by rw [HN.out]; exact HR.out.1.below HS.out.old) HR.out.2.2.1 (by rw [HN.out]; exact HR.out.2.1)
      rw [HN.out, hE] at hC0
      have HC := Lib.hid hC0
      have i0 : decide ((i : Int) < (m : Int)) = true := decide_eq_true (by omega)
      have i1 : decide (i < m) = true := decide_eq_true h4
      clear hC0 hE
      rcases (by omega : E ≠ 0 ∨ E = 0) with hne | hne
      · have ene : (E != 0) = true := by simpa using hne
        have HF : Hid ((readP m b).1 = E ∧ E ≠ 0) := ⟨(part_err HP.out.1 h4 (by rw [HEE.out]; exact hne)).trans HEE.out, hne⟩
        clear hne
        go_wp2_with fail
        refine HC.out.mono ?_
        rintro e w5 ⟨u, rfl, hsy, _⟩
        have HB5 := Lib.hid (HS.out.next hsy.2).old
        clear hsy HC HS
        go_wp2
        (try simp only [Exit.inBlock, Exit.then])
        refine bodyPost_ret (results_tmp3c rfl _ _ _) rfl ?_
        exact .inl ⟨by rw [HF.out.1]; exact HF.out.2, by rw [HF.out.1]; rfl, HB5.out⟩
      · subst hne
        obtain ⟨fo1, fo2, ⟨fo3, fo4⟩, fo5⟩ := forth HEE.out HR.out.2.2.1
        rw [HN.out] at fo4
        obtain ⟨N, hN⟩ := Int.eq_ofNat_of_zero_le (by omega : 0 ≤ readN rest)
        rw [hN] at HC fo3 fo4
        obtain ⟨A', ⟨sl1, sl2⟩, hrd2⟩ := cut_any HR.out.1 HR.out.2.1 (by omega) N (by omega)
        have HPM : Hid (Part b m (i + 1) (rest.drop N) (qs.map Pl.l ++ [readR rest])) := part_more HP.out.1 h4 HEE.out hN
        obtain ⟨n2, hn2⟩ : ∃ n2, n - N = n2 := ⟨_, rfl⟩
        obtain ⟨c2, hc2⟩ : ∃ c2, cr - N = c2 := ⟨_, rfl⟩
        rw [hn2, hc2] at hrd2 sl1 sl2
        have HN2 : Hid ((rest.drop N).length = n2) := by show _ = _; rw [List.length_drop, HN.out, hn2]
        have HR2 : Hid (RdL byE w (fun _ => True) (.slice A' n2 c2) (rest.drop N) ∧ n2 ≤ c2 ∧ (∀ x ∈ rest.drop N, Byte x) ∧ n2 ≤ b.length) := by
          have h6 := HR.out.2.1
          have h7 := HR.out.2.2.2
          exact ⟨hrd2, by omega, fun x hx => HR.out.2.2.1 x (List.mem_of_mem_drop hx), by omega⟩
        have HQL : Hid (qs.length ≤ 8) := by have := HP.out.2; show _ ≤ _; omega
        clear fo1 fo2 fo3 fo4 fo5 hN hn2 hc2 hrd2
        go_wp2_with fail
        refine HC.out.mono ?_
        rintro e w5 ⟨u, rfl, hsy, hfu⟩
        obtain ⟨Au, cu, rfl⟩ := hsy.1.form
        have hfc := hfu _ _ _ rfl
        obtain ⟨q, hq⟩ : ∃ q : Pl In, q = ⟨Au, cu, readR rest⟩ := ⟨_, rfl⟩
        have hqv : Value.slice Au (readR rest).length cu = q.v := by rw [hq]; rfl
        have HQ : Hid (q.l = readR rest ∧ q.l.length ≤ q.c) := by rw [hq]; exact ⟨rfl, hfc⟩
        have hsy2 : SaysL inE wr w5 q.v q.l := by rw [hq]; exact hsy
        have S5 := Lib.hid (SaysL.sep HS.out hsy2)
        obtain ⟨ln, hln⟩ : ∃ ln, (readR rest).length = ln := ⟨_, rfl⟩
        have hqA : q.v = .slice Au ln cu := by rw [← hqv, hln]
        have HQA := Lib.hid hqA
        rw [hln]
        clear hq hqv hqA hln hsy hsy2 hfu hfc HC HS
        go_upto_region 7 with (fail)
        have S5d := Lib.hid S5.out.drew
        refine Held.begin_ (fun _ => True) 8 (by kernel_rfl) ?_
        have hC : (fun _ : World => True) w5.drew := trivial
        generalize w5.drew = w0 at *
        refine Held.take 0 (v := ?_) hC rfl (by kernel_rfl) (by kernel_rfl) (by kernel_rfl) (by kernel_rfl) (fun _ _ _ h => h) ?_ ?_; rotate_left; · (intro W hW; go_simp <;> with_reducible rfl)
        try simp only [Act.put, List.setIfInBounds_toArray, List.set_cons_zero, List.set_cons_succ]
        refine Held.take 1 (v := ?_) hC rfl (by kernel_rfl) (by kernel_rfl) (by kernel_rfl) (by kernel_rfl) (fun _ _ _ h => h) ?_ ?_; rotate_left; · (intro W hW; go_simp <;> with_reducible rfl)
        try simp only [Act.put, List.setIfInBounds_toArray, List.set_cons_zero, List.set_cons_succ]
        refine Held.take 4 (v := ?_) hC rfl (by kernel_rfl) (by kernel_rfl) (by kernel_rfl) (by kernel_rfl) (fun _ _ _ h => h) ?_ ?_; rotate_left; · (intro W hW; go_simp <;> with_reducible rfl)
        try simp only [Act.put, List.setIfInBounds_toArray, List.set_cons_zero, List.set_cons_succ]
        refine Held.take 5 (v := ?_) hC rfl (by kernel_rfl) (by kernel_rfl) (by kernel_rfl) (by kernel_rfl) (fun _ _ _ h => h) ?_ ?_; rotate_left; · (intro W hW; go_simp <;> with_reducible rfl)
        try simp only [Act.put, List.setIfInBounds_toArray, List.set_cons_zero, List.set_cons_succ]
        refine Held.take 6 (v := ?_) hC rfl (by kernel_rfl) (by kernel_rfl) (by kernel_rfl) (by kernel_rfl) (fun _ _ _ h => h) ?_ ?_; rotate_left; · (intro W hW; go_simp <;> with_reducible rfl)
        try simp only [Act.put, List.setIfInBounds_toArray, List.set_cons_zero, List.set_cons_succ]
        refine Held.only 2 (by kernel_rfl) rfl ?_
        intro K hK
        go_simp
        have S6 : Hid (Sep (fun _ => False) w (w0.alloc (.cells #[.slice Au ln cu] 57)) [told plE (.slice (some ⟨w0.heap.size, 0, none⟩) 1 1) [q], told inE q.v q.l, grow plE 57 (.slice Ap qs.length cp) qs, readsP inE qs]) := by
          rw [← HQA.out]
          exact S5d.out.lit_told (E := plE) 57 [q] (cs := #[q.v]) rfl (by simp) rfl
        refine hK.out _ _ (fun _ => trivial) ?_
        clear hK K
        try simp only [Act.put, List.setIfInBounds_toArray, List.set_cons_zero, List.set_cons_succ]
        refine Held.only 3 (by kernel_rfl) rfl ?_
        intro K hK
        refine wp_appC (.tmp 23) (.tmp 25) kElemP rfl rfl rfl S6.out 2 rfl (S6.out.rdL 0 rfl) (by have := HQL.out; simp; omega) ?_
        intro A7 c7 w7 l7 HL7 h7
        have S7 : Hid (Sep (fun _ => False) w w7 [told inE q.v q.l, grow plE 57 (.slice A7 l7.length c7) l7, readsP inE qs]) := Sep.tail h7
        refine hK.out _ _ (fun _ => trivial) ?_
        clear hK K h7 S6
        try simp only [Act.put, List.setIfInBounds_toArray, List.set_cons_zero, List.set_cons_succ]
        have S8 : Hid (Sep (fun _ => False) w w7 [grow plE 57 (.slice A7 l7.length c7) l7, readsP inE l7]) := by
          have h9 : Sep (fun _ => False) w w7 (told inE q.v q.l :: readsP inE qs :: [grow plE 57 (.slice A7 l7.length c7) l7]) := S7.out.perm (List.Perm.cons _ (List.Perm.swap ..))
          have h10 := h9.readsP_add HQ.out.2
          rw [← HL7.out] at h10
          exact h10.swap
        have HT2 : Hid (Part b m (i + 1) (rest.drop N) (l7.map Pl.l) ∧ l7.length = i + 1) := by
          refine ⟨?_, ?_⟩
          · rw [HL7.out, List.map_append, List.map_cons, List.map_nil, HQ.out.1]; exact HPM.out
          · rw [HL7.out, List.length_append, HP.out.2]; rfl
        clear S7 S5 S5d HL7 HPM HP hC
        have hC : (fun _ : World => True) w7 := trivial
        refine Held.take 7 (v := ?_) hC rfl (by kernel_rfl) (by kernel_rfl) (by kernel_rfl) (by kernel_rfl) (fun _ _ _ h => h) ?_ ?_; rotate_left; · (intro W hW; go_simp <;> with_reducible rfl)
        try simp only [Act.put, List.setIfInBounds_toArray, List.set_cons_zero, List.set_cons_succ]
        clear hC
        refine Held.only 8 (by kernel_rfl) rfl ?_
        intro K hK
        go_simp
        refine hK.out _ _ (fun h => absurd rfl h) ?_
        clear hK K
        try simp only [Act.put]
        refine Held.done (by kernel_rfl) ?_ _
        clear sl1 sl2
        go_wp2
        go_roundw
        case rel => exact ⟨i + 1, rest.drop N, n2, l7, A', c2, A7, c7, by omega, by go_num, rfl, rfl, HN2, HR2, HT2, S8⟩
        case measure => simp [intOf]; omega
    · have HTE : Hid (readP m b = (0, qs.map Pl.l, rest)) := part_end HP.out.1 h4
      have i0 : decide ((i : Int) < (m : Int)) = false := decide_eq_false (by omega)
      have i1 : decide (i < m) = false := decide_eq_false (by omega)
      have HQL : Hid (qs.length ≤ 8) := by have := HP.out.2; show _ ≤ _; omega
      have HFP : Hid (qs.length ≤ cp) := fits_ownL (HS.out.own 0 rfl) _ _ _ rfl
      have t1 : Hid (Sep (fun _ => False) w wr [toldN inE (.slice Ap qs.length cp) (qs.map Pl.l)]) := growN_told HS.out (by have := HQL.out; omega)
      clear HP hi h4 HS
      go_wp2
      (try simp only [Exit.inBlock, Exit.then])
      refine bodyPost_ret (results_tmp3c rfl _ _ _) rfl ?_
      refine .inr ⟨qs.map Pl.l, rest, Ap, qs.length, cp, Ar, cr, HTE.out, ?_, HFP.out, ?_, ?_, HR.out.2.2.1, ?_, t1.out⟩
      · rw [HN.out]; rfl
      · rw [HN.out]; exact HR.out.2.1
      · rw [HN.out]; exact HR.out.1
      · rw [HN.out]; exact HR.out.2.2.2
end Go.Proofs.YtolooaahaofflaaDoor.ScA
