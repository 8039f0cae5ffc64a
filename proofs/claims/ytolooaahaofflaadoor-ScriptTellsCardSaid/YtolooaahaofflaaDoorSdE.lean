/-
  What package script does as it landed, third part: readPrograms, readItems. Condition: the table of package code lies as it was written; what the slice reads as.
-/
import Derived.Test.YtolooaahaofflaaDoorSdB
namespace Go.Proofs.YtolooaahaofflaaDoor.ScriptP
open Go.ChangeShapes Go.WideShapes Go.ChangeAt Go.RowKit Mem MutP CodeP
/-- So many programs have been read, so far. -/
def Part (b : List Int) (m i : Nat) (rest : List Int) (ps : List (List In)) : Prop := readP m b = ((readP (m - i) rest).1, ps ++ (readP (m - i) rest).2.1, (readP (m - i) rest).2.2)
theorem part_start (b : List Int) (m : Nat) : Part b m 0 b [] := by unfold Part; rw [Nat.sub_zero, List.nil_append]
theorem part_more {b rest : List Int} {m i : Nat} {ps : List (List In)} (h : Part b m i rest ps) (hi : i < m) (he : readE rest = 0) {n : Nat} (hn : readN rest = n) : Part b m (i + 1) (rest.drop n) (ps ++ [readR rest]) := by
  unfold Part at *
  rw [h, show m - i = (m - (i + 1)) + 1 by omega, readP_succ, if_pos he, hn, Int.toNat_natCast]
  simp
theorem part_err {b rest : List Int} {m i : Nat} {ps : List (List In)} (h : Part b m i rest ps) (hi : i < m) (he : readE rest ≠ 0) : (readP m b).1 = readE rest := by
  unfold Part at h
  rw [h, show m - i = (m - (i + 1)) + 1 by omega, readP_succ, if_neg he]
theorem part_end {b rest : List Int} {m i : Nat} {ps : List (List In)} (h : Part b m i rest ps) (hi : m ≤ i) : readP m b = (0, ps, rest) := by
  unfold Part at h
  rw [h, show m - i = 0 by omega]
  unfold readP
  simp
end Go.Proofs.YtolooaahaofflaaDoor.ScriptP

namespace Go.Proofs.YtolooaahaofflaaDoor.ScA
open Go.ChangeShapes Go.WideShapes Go.ChangeAt Go.RowKit Mem MutP CodeP ScriptP Hand RefCode CodeI Scr CodeT CdA
open RefScr (grow_none)

/-- How readPrograms ends. -/
def Programs (b : List Int) (m : Nat) (w w' : World) (e : Ending) : Prop :=
  ((readP m b).1 ≠ 0 ∧ e = .returned (.tuple #[.slice none 0 0, .slice none 0 0, .int .i64 (readP m b).1]) ∧ Below w.heap.size w w') ∨
  ∃ (ps : List (List In)) (rest : List Int) (Ap : Option Addr) (pn cp : Nat) (A' : Option Addr) (c' : Nat), readP m b = (0, ps, rest) ∧ e = .returned (.tuple #[.slice Ap pn cp, .slice A' rest.length c', .int .i64 0]) ∧ pn ≤ cp ∧ rest.length ≤ c' ∧
    RdL byE w (fun _ => True) (.slice A' rest.length c') rest ∧ (∀ x ∈ rest, Byte x) ∧ rest.length ≤ b.length ∧ Sep (fun _ => False) w w' [toldN inE (.slice Ap pn cp) ps]

set_option maxRecDepth 100000 in
set_option maxHeartbeats 2000000 in
theorem readP_k {w : World} {G : Nat → Prop} {A : Option Addr} {c m : Nat} {b : List Int} (hT : Tab w) (h : RdL byE w G (.slice A b.length c) b) (hb : ∀ x ∈ b, Byte x) (hc : b.length ≤ c) (hm : m ≤ 8) (hl : b.length ≤ 4000) :
    Calls Tryd.prog 29 #[.slice A b.length c, .int .i64 m] w fun e w' => Programs b m w w' e := by
  have HT := Lib.hid hT
  have H0 : Hid (RdL byE w (fun _ => True) (.slice A b.length c) b ∧ b.length ≤ c ∧ (∀ x ∈ b, Byte x) ∧ b.length ≤ b.length) := ⟨anyL h, hc, hb, Nat.le_refl _⟩
  have HPA := Lib.hid (part_start b m)
  have S0 : Hid (Sep (fun _ => False) w w [grow plE 57 (.slice none 0 0) ([] : List (Pl In)), readsP inE []]) := grow_none ((Sep.nil (fun _ => False) w).readsP_nil inE) plE 57
  have HLL := Lib.hid hl
  clear hT h hb hc hl
  go_enter Tryd.func29, Tryd.ntmps29
  go_wp2
  go_loopw [0, 7, 12] (fun a p v wr => ∃ (i : Nat) (rest : List Int) (n : Nat) (qs : List (Pl In)) (Ar : Option Addr) (cr : Nat) (Ap : Option Addr) (cp : Nat), i ≤ m ∧ v = .int .i64 (i : Int) ∧ a = .slice Ar n cr ∧ p = .slice Ap qs.length cp ∧ Hid (rest.length = n) ∧ Hid (RdL byE w (fun _ => True) (.slice Ar n cr) rest ∧ n ≤ cr ∧ (∀ x ∈ rest, Byte x) ∧ n ≤ b.length) ∧ Hid (Part b m i rest (qs.map Pl.l) ∧ qs.length = i) ∧ Hid (Sep (fun _ => False) w wr [grow plE 57 (.slice Ap qs.length cp) qs, readsP inE qs])) (fun _ _ v _ => m - (intOf v).toNat)
  case atStart => exact ⟨0, b, b.length, [], A, c, none, 0, Nat.zero_le _, rfl, rfl, rfl, rfl, H0, ⟨HPA.out, rfl⟩, S0.out⟩
  case round =>
    obtain ⟨i, rest, n, qs, Ar, cr, Ap, cp, hi, rfl, rfl, rfl, HN, HR, HP, HS⟩ := hrel
    clear S0 H0 HPA
    rcases (by omega : i < m ∨ m ≤ i) with h4 | h4
    · obtain ⟨E, hE⟩ : ∃ E, readE rest = E := ⟨_, rfl⟩
      have HEE := Lib.hid hE
      have hC0 := read_l (HT.out.next HS.out.old) (by rw [HN.out]; exact HR.out.1.below HS.out.old) HR.out.2.2.1 (by rw [HN.out]; exact HR.out.2.1)
      rw [HN.out, hE] at hC0
      have HC := Lib.hid hC0
      have i0 : decide ((i : Int) < (m : Int)) = true := decide_eq_true (by omega)
      have i1 : decide (i < m) = true := decide_eq_true h4
      clear hC0 hE
      rcases (by omega : E ≠ 0 ∨ E = 0) with hne | hne
      · have ene : (E != 0) = true := by simpa using hne
        have HF : Hid ((readP m b).1 = E ∧ E ≠ 0) := ⟨(part_err HP.out.1 h4 (by rw [HEE.out]; exact hne)).trans HEE.out, hne⟩
        clear hne
        go_wp2_with fail
        refine HC.out.mono ?_
        rintro e w5 ⟨u, rfl, hsy, _⟩
        have HB5 := Lib.hid (HS.out.next hsy.2).old
        clear hsy HC HS
        go_wp2
        (try simp only [Exit.inBlock, Exit.then])
        refine bodyPost_ret (results_tmp3c rfl _ _ _) rfl ?_
        exact .inl ⟨by rw [HF.out.1]; exact HF.out.2, by rw [HF.out.1]; rfl, HB5.out⟩
      · subst hne
        obtain ⟨fo1, fo2, ⟨fo3, fo4⟩, fo5⟩ := forth HEE.out HR.out.2.2.1
        rw [HN.out] at fo4
        obtain ⟨N, hN⟩ := Int.eq_ofNat_of_zero_le (by omega : 0 ≤ readN rest)
        rw [hN] at HC fo3 fo4
        obtain ⟨A', ⟨sl1, sl2⟩, hrd2⟩ := cut_any HR.out.1 HR.out.2.1 (by omega) N (by omega)
        have HPM : Hid (Part b m (i + 1) (rest.drop N) (qs.map Pl.l ++ [readR rest])) := part_more HP.out.1 h4 HEE.out hN
        obtain ⟨n2, hn2⟩ : ∃ n2, n - N = n2 := ⟨_, rfl⟩
        obtain ⟨c2, hc2⟩ : ∃ c2, cr - N = c2 := ⟨_, rfl⟩
        rw [hn2, hc2] at hrd2 sl1 sl2
        have HN2 : Hid ((rest.drop N).length = n2) := by show _ = _; rw [List.length_drop, HN.out, hn2]
        have HR2 : Hid (RdL byE w (fun _ => True) (.slice A' n2 c2) (rest.drop N) ∧ n2 ≤ c2 ∧ (∀ x ∈ rest.drop N, Byte x) ∧ n2 ≤ b.length) := by
          have h6 := HR.out.2.1
          have h7 := HR.out.2.2.2
          exact ⟨hrd2, by omega, fun x hx => HR.out.2.2.1 x (List.mem_of_mem_drop hx), by omega⟩
        have HQL : Hid (qs.length ≤ 8) := by have := HP.out.2; show _ ≤ _; omega
        clear fo1 fo2 fo3 fo4 fo5 hN hn2 hc2 hrd2
        go_wp2_with fail
        refine HC.out.mono ?_
        rintro e w5 ⟨u, rfl, hsy, hfu⟩
        obtain ⟨Au, cu, rfl⟩ := hsy.1.form
        have hfc := hfu _ _ _ rfl
        obtain ⟨q, hq⟩ : ∃ q : Pl In, q = ⟨Au, cu, readR rest⟩ := ⟨_, rfl⟩
        have hqv : Value.slice Au (readR rest).length cu = q.v := by rw [hq]; rfl
        have HQ : Hid (q.l = readR rest ∧ q.l.length ≤ q.c) := by rw [hq]; exact ⟨rfl, hfc⟩
        have hsy2 : SaysL inE wr w5 q.v q.l := by rw [hq]; exact hsy
        have S5 := Lib.hid (SaysL.sep HS.out hsy2)
        obtain ⟨ln, hln⟩ : ∃ ln, (readR rest).length = ln := ⟨_, rfl⟩
        have hqA : q.v = .slice Au ln cu := by rw [← hqv, hln]
        have HQA := Lib.hid hqA
        rw [hln]
        clear hq hqv hqA hln hsy hsy2 hfu hfc HC HS
        go_upto_region 7 with (fail)
        have S5d := Lib.hid S5.out.drew
        refine Held.begin_ (fun _ => True) 8 (by kernel_rfl) ?_
        have hC : (fun _ : World => True) w5.drew := trivial
        generalize w5.drew = w0 at *
        refine Held.take 0 (v := ?_) hC rfl (by kernel_rfl) (by kernel_rfl) (by kernel_rfl) (by kernel_rfl) (fun _ _ _ h => h) ?_ ?_; rotate_left; · (intro W hW; go_simp <;> with_reducible rfl)
        try simp only [Act.put, List.setIfInBounds_toArray, List.set_cons_zero, List.set_cons_succ]
        refine Held.take 1 (v := ?_) hC rfl (by kernel_rfl) (by kernel_rfl) (by kernel_rfl) (by kernel_rfl) (fun _ _ _ h => h) ?_ ?_; rotate_left; · (intro W hW; go_simp <;> with_reducible rfl)
        try simp only [Act.put, List.setIfInBounds_toArray, List.set_cons_zero, List.set_cons_succ]
        refine Held.take 4 (v := ?_) hC rfl (by kernel_rfl) (by kernel_rfl) (by kernel_rfl) (by kernel_rfl) (fun _ _ _ h => h) ?_ ?_; rotate_left; · (intro W hW; go_simp <;> with_reducible rfl)
        try simp only [Act.put, List.setIfInBounds_toArray, List.set_cons_zero, List.set_cons_succ]
        refine Held.take 5 (v := ?_) hC rfl (by kernel_rfl) (by kernel_rfl) (by kernel_rfl) (by kernel_rfl) (fun _ _ _ h => h) ?_ ?_; rotate_left; · (intro W hW; go_simp <;> with_reducible rfl)
        try simp only [Act.put, List.setIfInBounds_toArray, List.set_cons_zero, List.set_cons_succ]
        refine Held.take 6 (v := ?_) hC rfl (by kernel_rfl) (by kernel_rfl) (by kernel_rfl) (by kernel_rfl) (fun _ _ _ h => h) ?_ ?_; rotate_left; · (intro W hW; go_simp <;> with_reducible rfl)
        try simp only [Act.put, List.setIfInBounds_toArray, List.set_cons_zero, List.set_cons_succ]
        refine Held.only 2 (by kernel_rfl) rfl ?_
        intro K hK
        go_simp
        have S6 : Hid (Sep (fun _ => False) w (w0.alloc (.cells #[.slice Au ln cu] 57)) [told plE (.slice (some ⟨w0.heap.size, 0, none⟩) 1 1) [q], told inE q.v q.l, grow plE 57 (.slice Ap qs.length cp) qs, readsP inE qs]) := by
          rw [← HQA.out]
          exact S5d.out.lit_told (E := plE) 57 [q] (cs := #[q.v]) rfl (by simp) rfl
        refine hK.out _ _ (fun _ => trivial) ?_
        clear hK K
        try simp only [Act.put, List.setIfInBounds_toArray, List.set_cons_zero, List.set_cons_succ]
        refine Held.only 3 (by kernel_rfl) rfl ?_
        intro K hK
        refine wp_appC (.tmp 23) (.tmp 25) kElemP rfl rfl rfl S6.out 2 rfl (S6.out.rdL 0 rfl) (by have := HQL.out; simp; omega) ?_
        intro A7 c7 w7 l7 HL7 h7
        have S7 : Hid (Sep (fun _ => False) w w7 [told inE q.v q.l, grow plE 57 (.slice A7 l7.length c7) l7, readsP inE qs]) := Sep.tail h7
        refine hK.out _ _ (fun _ => trivial) ?_
        clear hK K h7 S6
        try simp only [Act.put, List.setIfInBounds_toArray, List.set_cons_zero, List.set_cons_succ]
        have S8 : Hid (Sep (fun _ => False) w w7 [grow plE 57 (.slice A7 l7.length c7) l7, readsP inE l7]) := by
          have h9 : Sep (fun _ => False) w w7 (told inE q.v q.l :: readsP inE qs :: [grow plE 57 (.slice A7 l7.length c7) l7]) := S7.out.perm (List.Perm.cons _ (List.Perm.swap ..))
          have h10 := h9.readsP_add HQ.out.2
          rw [← HL7.out] at h10
          exact h10.swap
        have HT2 : Hid (Part b m (i + 1) (rest.drop N) (l7.map Pl.l) ∧ l7.length = i + 1) := by
          refine ⟨?_, ?_⟩
          · rw [HL7.out, List.map_append, List.map_cons, List.map_nil, HQ.out.1]; exact HPM.out
          · rw [HL7.out, List.length_append, HP.out.2]; rfl
        clear S7 S5 S5d HL7 HPM HP hC
        have hC : (fun _ : World => True) w7 := trivial
        refine Held.take 7 (v := ?_) hC rfl (by kernel_rfl) (by kernel_rfl) (by kernel_rfl) (by kernel_rfl) (fun _ _ _ h => h) ?_ ?_; rotate_left; · (intro W hW; go_simp <;> with_reducible rfl)
        try simp only [Act.put, List.setIfInBounds_toArray, List.set_cons_zero, List.set_cons_succ]
        clear hC
        refine Held.only 8 (by kernel_rfl) rfl ?_
        intro K hK
        go_simp
        refine hK.out _ _ (fun h => absurd rfl h) ?_
        clear hK K
        try simp only [Act.put]
        refine Held.done (by kernel_rfl) ?_ _
        clear sl1 sl2
        go_wp2
        go_roundw
        case rel => exact ⟨i + 1, rest.drop N, n2, l7, A', c2, A7, c7, by omega, by go_num, rfl, rfl, HN2, HR2, HT2, S8⟩
        case measure => simp [intOf]; omega
    · have HTE : Hid (readP m b = (0, qs.map Pl.l, rest)) := part_end HP.out.1 h4
      have i0 : decide ((i : Int) < (m : Int)) = false := decide_eq_false (by omega)
      have i1 : decide (i < m) = false := decide_eq_false (by omega)
      have HQL : Hid (qs.length ≤ 8) := by have := HP.out.2; show _ ≤ _; omega
      have HFP : Hid (qs.length ≤ cp) := fits_ownL (HS.out.own 0 rfl) _ _ _ rfl
      have t1 : Hid (Sep (fun _ => False) w wr [toldN inE (.slice Ap qs.length cp) (qs.map Pl.l)]) := growN_told HS.out (by have := HQL.out; omega)
      clear HP hi h4 HS
      go_wp2
      (try simp only [Exit.inBlock, Exit.then])
      refine bodyPost_ret (results_tmp3c rfl _ _ _) rfl ?_
      refine .inr ⟨qs.map Pl.l, rest, Ap, qs.length, cp, Ar, cr, HTE.out, ?_, HFP.out, ?_, ?_, HR.out.2.2.1, ?_, t1.out⟩
      · rw [HN.out]; rfl
      · rw [HN.out]; exact HR.out.2.1
      · rw [HN.out]; exact HR.out.1
      · rw [HN.out]; exact HR.out.2.2.2
end Go.Proofs.YtolooaahaofflaaDoor.ScA

namespace Go.Proofs.YtolooaahaofflaaDoor.ScA
open Go.ChangeShapes Go.WideShapes Go.ChangeAt Go.RowKit Mem MutP CodeP ScriptP Hand RefCode CodeI Scr CodeT CdA

def noX : It := ⟨0, 0, 0⟩
/-- How readItems ends. -/
def Items (b : List Int) (k : Nat) (w w' : World) (e : Ending) : Prop :=
  (b.length % 10 ≠ 0 ∧ e = .returned (.tuple #[.slice none 0 0, .int .i64 8]) ∧ Below w.heap.size w w') ∨
  (b.length % 10 = 0 ∧ (decide (k ≤ 200) && (readX k b).all rightI) = false ∧ e = .returned (.tuple #[.slice none 0 0, .int .i64 7]) ∧ Below w.heap.size w w') ∨
  (b.length % 10 = 0 ∧ (decide (k ≤ 200) && (readX k b).all rightI) = true ∧ ∃ A', e = .returned (.tuple #[.slice A' k k, .int .i64 0]) ∧ Sep (fun _ => False) w w' [told itE (.slice A' k k) (readX k b)])

set_option maxRecDepth 100000 in
set_option maxHeartbeats 2000000 in
theorem readX_k {w : World} {G : Nat → Prop} {A : Option Addr} {c k : Nat} {b : List Int} (h : RdL byE w G (.slice A b.length c) b) (hb : ∀ x ∈ b, Byte x) (hc : b.length ≤ c) (hl : b.length ≤ 4000) (hk : b.length / 10 = k) :
    Calls Tryd.prog 30 #[.slice A b.length c] w fun e w' => Items b k w w' e := by
  have HB := Lib.hid hb
  have HR := Lib.hid h
  obtain ⟨n, hn⟩ : ∃ n, b.length = n := ⟨_, rfl⟩
  have HN := Lib.hid hn
  rw [hn] at hc hl hk HR ⊢
  have HNC := Lib.hid hc
  obtain ⟨z, hz⟩ : ∃ z : Int, (n : Int).tmod 10 = z := ⟨_, rfl⟩
  have hzm : z = ((n % 10 : Nat) : Int) := by rw [← hz, Int.tmod_eq_emod_of_nonneg (by omega)]; rfl
  have S0 := Lib.hid (Sep.nil (fun _ => False) w)
  clear h hb hn
  rcases (by omega : z ≠ 0 ∨ z = 0) with hz0 | hz0
  · have ez : (z != 0) = true := by simpa using hz0
    have HF : Hid (b.length % 10 ≠ 0) := by show ¬ _; rw [HN.out]; omega
    clear hz0 hzm hc hk
    go_enter Tryd.func30, Tryd.ntmps30
    go_wp2
    (try simp only [Exit.inBlock, Exit.then])
    refine bodyPost_ret (results_tmp2c rfl _ _ _) rfl ?_
    exact .inl ⟨HF.out, rfl, S0.out.old⟩
  subst hz0
  have HF : Hid (b.length % 10 = 0) := by show _ = _; rw [HN.out]; omega
  have HK : Hid (n = 10 * k) := by show _ = _; omega
  have hk4 : k ≤ 400 := by omega
  have hq : (n : Int).tdiv 10 = (k : Int) := by rw [Int.tdiv_eq_ediv_of_nonneg (by omega)]; omega
  clear hzm hc
  go_enter Tryd.func30, Tryd.ntmps30
  go_wp2_with (refine wpList_makeE itE noX (z := .agg #[.int .i64 0, .int .i64 0, .int .i64 0]) (by_ := 24) rfl _ _ Tryd.underlying26 (by kernel_rfl) rfl (by decide) rfl k rfl rfl (by omega) (by decide) S0.out ?_; intro w1 h1)
  have S1 := Lib.hid h1
  clear h1 S0
  obtain ⟨G, hG⟩ : ∃ G, w.heap.size = G := ⟨_, rfl⟩
  have HG := Lib.hid hG
  rw [hG] at S1 ⊢
  clear hq hG hz hk
  go_wp2
  go_loopw [17] (fun v wr => ∃ i : Nat, i ≤ k ∧ v = .int .i64 (i : Int) ∧ Hid (Sep (fun _ => False) w wr [grow itE 23 (.slice (some ⟨G, 0, none⟩) k k) (readX i b ++ List.replicate (k - i) noX)])) (fun v _ => k - (intOf v).toNat)
  case atStart => exact ⟨0, Nat.zero_le _, rfl, S1.out⟩
  case round =>
    obtain ⟨i, hi, rfl, HS⟩ := hrel
    clear S1
    rcases (by omega : i = k ∨ i < k) with h8 | h8
    · subst h8
      have HE : Hid (readX i b ++ List.replicate (i - i) noX = readX i b) := by show _ = _; simp
      rw [HE.out] at HS
      have HKL : Hid (i ≤ 400) := by show _ ≤ _; have := HK.out; omega
      have S2 : Hid (Sep (fun _ => False) w wr [told itE (.slice (some ⟨G, 0, none⟩) i i) (readX i b)]) := grow_told HS.out (by rw [readX_len]; have := HKL.out; omega)
      have d0 : decide ((i : Int) < (i : Int)) = false := decide_eq_false (by omega)
      have HC := Lib.hid (items_k (S2.out.rdL 0 rfl))
      obtain ⟨a, ha⟩ : ∃ a, (decide (i ≤ 200) && (readX i b).all rightI) = a := ⟨_, rfl⟩
      have HA := Lib.hid ha
      rw [readX_len, ha] at HC
      clear ha HS HE hi
      go_wp2_with fail
      refine HC.out.mono ?_
      rintro e w3 ⟨rfl, h3⟩
      have S3 := Lib.hid (S2.out.next h3)
      clear h3 HC S2
      cases a
      · go_wp2
        (try simp only [Exit.inBlock, Exit.then])
        refine bodyPost_ret (results_tmp2c rfl _ _ _) rfl ?_
        exact .inr (.inl ⟨HF.out, HA.out, rfl, S3.out.old⟩)
      · go_wp2
        (try simp only [Exit.inBlock, Exit.then])
        refine bodyPost_ret (results_tmp2c rfl _ _ _) rfl ?_
        exact .inr (.inr ⟨HF.out, HA.out, some ⟨G, 0, none⟩, rfl, S3.out⟩)
    · obtain ⟨t, ht⟩ : ∃ t : Nat, 10 * i = t := ⟨_, rfl⟩
      have htn : t + 10 ≤ n := by have := HK.out; omega
      obtain ⟨y0, hy0⟩ : ∃ y, b[t]? = some y := ⟨_, List.getElem?_eq_getElem (by rw [HN.out]; omega)⟩
      obtain ⟨y1, hy1⟩ : ∃ y, b[t + 1]? = some y := ⟨_, List.getElem?_eq_getElem (by rw [HN.out]; omega)⟩
      obtain ⟨g, off, rfl, hg, _⟩ := by_at HR.out hy0
      have HCE : Hid (∀ V : World, Below w.heap.size w V → ∀ (j : Nat) (y : Int), b[j]? = some y → V.cell? ⟨g, off + j, none⟩ = some (.int .u8 y)) := fun V hV j y hy => by
        obtain ⟨g', off', e, _, hcell⟩ := by_at HR.out hy
        injection e with e
        injection e with e1 e2
        subst e1 e2
        exact (hV.cell (p := ⟨g, off + j, none⟩) hg).trans hcell
      obtain ⟨z, hz⟩ : ∃ z, numI (b.drop (t + 2)) = z := ⟨_, rfl⟩
      have HONE : Hid (readX (i + 1) b = readX i b ++ [⟨y0, y1, z⟩]) := by show _ = _; rw [readX_snoc, ht, itAt_at hy0 hy1, hz]
      have b0 : 0 ≤ y0 ∧ y0 ≤ 255 := HB.out y0 (List.mem_of_getElem? hy0)
      have b1 : 0 ≤ y1 ∧ y1 ≤ 255 := HB.out y1 (List.mem_of_getElem? hy1)
      have v0 : IntKind.i64.wrap y0 = y0 := IntWalk.i64_in _ (by omega)
      have v1 : IntKind.i64.wrap y1 = y1 := IntWalk.i64_in _ (by omega)
      have u0 : IntKind.i64.wrap ((i : Int) * 10) = (t : Int) := by rw [IntWalk.i64_in _ (by omega)]; omega
      obtain ⟨o1, ho1⟩ : ∃ o1, off + t = o1 := ⟨_, rfl⟩
      obtain ⟨r, hr⟩ : ∃ r, n - t = r := ⟨_, rfl⟩
      obtain ⟨c1, hc1⟩ : ∃ c1, c - t = c1 := ⟨_, rfl⟩
      have hnc := HNC.out
      obtain ⟨sl1, sl2⟩ := cut_from byUnder bySize g off n c t (by omega) (by omega) hnc
      rw [ho1, hr, hc1] at sl1 sl2
      obtain ⟨sl3, sl4⟩ : Cuts Tryd.prog 29 (.slice (some ⟨g, o1, none⟩) r c1) (some (.int .i64 2)) none none (.slice (some ⟨g, o1 + 2, none⟩) (r - 2) (c1 - 2)) := cut_from byUnder bySize g o1 r c1 2 (by omega) (by omega) (by omega)
      have HNUM : Hid (∀ V : World, Below w.heap.size w V → Calls Tryd.prog 47 #[.slice (some ⟨g, o1 + 2, none⟩) (r - 2) (c1 - 2)] V fun e w' => e = .returned (.int .i64 z) ∧ V = w') := fun V hV => by
        have h1 := numberOf_k (w := V) (A := g) (off := o1 + 2) (n := r - 2) (c := c1 - 2) (b := (b.drop (t + 2)).take 8) (by omega) (by omega) (by rw [List.length_take, List.length_drop, HN.out]; omega) (fun x hx => HB.out x (List.mem_of_mem_drop (List.mem_of_mem_take hx))) fun j y hy => by
          rw [List.getElem?_take] at hy
          split at hy
          · rw [List.getElem?_drop] at hy
            have := HCE.out V hV _ _ hy
            rwa [← Nat.add_assoc, ← Nat.add_assoc, ho1] at this
          · cases hy
        have e1 : numI ((b.drop (t + 2)).take 8) = z := by rw [← hz]; unfold numI; rw [List.take_take]; rfl
        rw [e1] at h1
        exact h1
      have q0 : ∀ V : World, Below w.heap.size w V → V.cell? ⟨g, o1, none⟩ = some (.int .u8 y0) := fun V hV => by rw [← ho1]; exact HCE.out V hV _ _ hy0
      have q1 : ∀ V : World, Below w.heap.size w V → V.cell? ⟨g, o1 + 1, none⟩ = some (.int .u8 y1) := fun V hV => by have := HCE.out V hV _ _ hy1; rwa [← Nat.add_assoc, ho1] at this
      have k0 := q0 _ HS.out.drew.old
      have k1 := q1 _ HS.out.drew.old
      have HNW := Lib.hid (HNUM.out _ HS.out.drew.old)
      have hx : (readX i b ++ List.replicate (k - i) noX)[i]? = some noX := by
        rw [List.getElem?_append_right (by rw [readX_len]; omega), readX_len, Nat.sub_self, List.getElem?_replicate, if_pos (by omega)]
      obtain ⟨b', c', hv, hb', e0, e1⟩ := HS.out.drew.elem 0 rfl hx
      have eg : b' = G := by have := congrArg Value.ownBlock hv; simpa [Value.ownBlock] using this.symm
      subst eg
      have fz := e1 (i * 3)
      have fz1 := e1 (i * 3 + 1)
      have fz2 := e1 (i * 3 + 2)
      have z0 : wr.drew.cell? ⟨b', i * 3, none⟩ = some (.int .i64 0) := e0 0 _ rfl
      have z1 : wr.drew.cell? ⟨b', i * 3 + 1, none⟩ = some (.int .i64 0) := e0 1 _ rfl
      have z2 : wr.drew.cell? ⟨b', i * 3 + 2, none⟩ = some (.int .i64 0) := e0 2 _ rfl
      have S2 := Lib.hid HS.out.drew
      have i0 : (0 : Int) ≤ (i : Int) := by omega
      have i1 : (i : Int) < (k : Int) := by omega
      have d0 : decide ((i : Int) < (k : Int)) = true := decide_eq_true i1
      have d1 : decide (i < k) = true := decide_eq_true h8
      have r0 : (0 : Int) < (r : Int) := by omega
      have r1 : (1 : Int) < (r : Int) := by omega
      have n0 : 0 < r := by omega
      have n1 : 1 < r := by omega
      have HIK := Lib.hid h8
      clear ht htn hy0 hy1 hz ho1 hr hc1 q0 q1 e0 e1 hv hx HNUM hb' hg hnc
      go_wp2
      refine wp_region_still_tail 15 (by kernel_rfl) (by kernel_rfl) ?_
      simp only [List.take_succ_cons, List.take_zero, List.drop_succ_cons, List.drop_zero]
      change wpStill _ _ wr.drew (fun a' => wpList _ _ _ _ a' wr.drew) _ _
      generalize wr.drew = w2 at *
      repeat (first | still_step | still_call (HNW.out.mono fun _ _ ⟨he, hw⟩ => ⟨he, hw.symm⟩))
      refine wpStill_nil ?_
      have HSET : Hid (Sep (fun _ => False) w (((w2.setCell ⟨b', i * 3, none⟩ (.int .i64 y0)).setCell ⟨b', i * 3 + 1, none⟩ (.int .i64 y1)).setCell ⟨b', i * 3 + 2, none⟩ (.int .i64 z)) [grow itE 23 (.slice (some ⟨b', 0, none⟩) k k) (readX (i + 1) b ++ List.replicate (k - (i + 1)) noX)]) := by
        have hX : readX i b ++ List.replicate (k - i) noX = readX i b ++ noX :: List.replicate (k - (i + 1)) noX := by
          rw [show k - i = (k - (i + 1)) + 1 by have := HIK.out; omega, List.replicate_succ]
        have at_ : ∀ y : It, (readX i b ++ y :: List.replicate (k - (i + 1)) noX)[i]? = some y := fun y => by
          rw [List.getElem?_append_right (by rw [readX_len]; omega), readX_len, Nat.sub_self]; rfl
        have put : ∀ y y' : It, (readX i b ++ y :: List.replicate (k - (i + 1)) noX).set i y' = readX i b ++ y' :: List.replicate (k - (i + 1)) noX := fun y y' => by
          rw [List.set_append_right _ _ (by rw [readX_len]; omega), readX_len, Nat.sub_self]; rfl
        have h0 := S2.out
        rw [hX] at h0
        have h1 := h0.setc 0 rfl (k := i) (x := noX) (x' := ⟨y0, 0, 0⟩) (j := 0) (u := .int .i64 y0) (at_ _) (by decide) rfl
        rw [put] at h1
        have h2 := h1.setc 0 rfl (k := i) (x := ⟨y0, 0, 0⟩) (x' := ⟨y0, y1, 0⟩) (j := 1) (u := .int .i64 y1) (at_ _) (by decide) rfl
        rw [put] at h2
        have h3 := h2.setc 0 rfl (k := i) (x := ⟨y0, y1, 0⟩) (x' := ⟨y0, y1, z⟩) (j := 2) (u := .int .i64 z) (at_ _) (by decide) rfl
        rw [put] at h3
        have e5 : readX i b ++ (⟨y0, y1, z⟩ : It) :: List.replicate (k - (i + 1)) noX = readX (i + 1) b ++ List.replicate (k - (i + 1)) noX := by rw [HONE.out, List.append_assoc]; rfl
        rw [e5] at h3
        exact h3
      clear sl1 sl2 sl3 sl4 k0 k1 HNW HONE r0 r1 n0 n1 v0 v1
      go_wp2
      go_roundw
      case rel => exact ⟨i + 1, by omega, by go_num, HSET⟩
      case measure => simp [intOf]; omega
end Go.Proofs.YtolooaahaofflaaDoor.ScA

