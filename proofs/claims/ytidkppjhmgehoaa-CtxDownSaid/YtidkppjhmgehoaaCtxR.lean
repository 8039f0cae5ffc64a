/-
  Who is late, what is told, and what a value below a cut is (layer 6): plain mathematics. No condition.
-/
import Derived.Test.YtidkppjhmgehoaaCtxQ
namespace Go.Proofs.Ytidkppjhmgehoaa.CtxI
open Go.ChangeShapes Go.WideShapes Go.ChangeAt Go.RowKit Mem TreeP CtxP RefCtx

/-- Who is done is there. -/
theorem done_there {T : List Nd} {X : List Cn} (h : Inv T X) {k : Int} (hk : (cn X k).e ≠ 0) : there T k = true := by
  rw [there_iff, h.len]
  by_cases h0 : k < 0
  · rw [cn_neg h0, h.free.2] at hk; exact absurd rfl hk
  · by_cases h1 : k < X.length
    · exact ⟨by omega, h1⟩
    · rw [cn_out (by omega)] at hk; exact absurd rfl hk
theorem get_cn {T : List Nd} {X : List Cn} (h : Inv T X) (k : Int) : (getX T X k).e = (cn X k).e ∧ (getX T X k).cause = (cn X k).cause := by
  unfold getX
  by_cases ht : there T k = true
  · rw [if_pos ht]; exact ⟨rfl, rfl⟩
  · rw [if_neg ht]
    have he : (cn X k).e = 0 := by
      by_cases hz : (cn X k).e = 0
      · exact hz
      · exact absurd (done_there h hz) ht
    exact ⟨he.symm, ((h.cause k).1 he).symm⟩

/-- The least deadline of a list. -/
theorem dl_fold (X : List Cn) : ∀ (l : List Int) (s : Int × Bool),
    ((l.foldl (dlS X) s).2 = true ↔ s.2 = true ∨ ∃ m ∈ l, (cn X m).has = true) ∧ (s.2 = true → (l.foldl (dlS X) s).1 ≤ s.1) ∧ (∀ m ∈ l, (cn X m).has = true → (l.foldl (dlS X) s).1 ≤ (cn X m).at_) ∧
    ((l.foldl (dlS X) s).2 = true → (s.2 = true ∧ (l.foldl (dlS X) s).1 = s.1) ∨ ∃ m ∈ l, (cn X m).has = true ∧ (cn X m).at_ = (l.foldl (dlS X) s).1)
  | [], s => by simp
  | a :: l, s => by
    obtain ⟨i1, i2, i3, i4⟩ := dl_fold X l (dlS X s a)
    rw [List.foldl_cons]
    by_cases hc : (cn X a).has = true ∧ (s.2 = false ∨ (cn X a).at_ < s.1)
    · have hs : dlS X s a = ((cn X a).at_, true) := by unfold dlS; rw [if_pos hc]
      rw [hs] at i1 i2 i3 i4 ⊢
      have i2' := i2 rfl
      refine ⟨⟨fun _ => .inr ⟨a, .head _, hc.1⟩, fun _ => i1.2 (.inl rfl)⟩, fun h => ?_, fun m hm hh => ?_, fun h => ?_⟩
      · rcases hc.2 with h2 | h2
        · rw [h] at h2; cases h2
        · exact Int.le_trans i2' (Int.le_of_lt h2)
      · rcases List.mem_cons.1 hm with rfl | hm
        · exact i2'
        · exact i3 m hm hh
      · rcases i4 h with ⟨_, h2⟩ | ⟨m, hm, h2⟩
        · exact .inr ⟨a, .head _, hc.1, h2.symm⟩
        · exact .inr ⟨m, .tail _ hm, h2⟩
    · have hs : dlS X s a = s := by unfold dlS; rw [if_neg hc]
      rw [hs] at i1 i2 i3 i4 ⊢
      refine ⟨⟨fun h => ?_, fun h => ?_⟩, i2, fun m hm hh => ?_, fun h => ?_⟩
      · rcases i1.1 h with h2 | ⟨m, hm, h2⟩
        · exact .inl h2
        · exact .inr ⟨m, .tail _ hm, h2⟩
      · rcases h with h2 | ⟨m, hm, h2⟩
        · exact i1.2 (.inl h2)
        · rcases List.mem_cons.1 hm with rfl | hm
          · refine i1.2 (.inl ?_)
            cases hs2 : s.2 with
            | true => rfl
            | false => exact absurd ⟨h2, .inl hs2⟩ hc
          · exact i1.2 (.inr ⟨m, hm, h2⟩)
      · rcases List.mem_cons.1 hm with rfl | hm
        · cases hs2 : s.2 with
          | true =>
            have := i2 hs2
            by_cases hlt : (cn X m).at_ < s.1
            · exact absurd ⟨hh, .inr hlt⟩ hc
            · omega
          | false => exact absurd ⟨hh, .inl hs2⟩ hc
        · exact i3 m hm hh
      · rcases i4 h with h2 | ⟨m, hm, h2⟩
        · exact .inl h2
        · exact .inr ⟨m, .tail _ hm, h2⟩
theorem dl_some {T : List Nd} {X : List Cn} {n : Int} (h : (dlX T X n).2 = true) : ∃ m ∈ chainT T n, (cn X m).has = true ∧ (cn X m).at_ = (dlX T X n).1 := by
  rcases (dl_fold X (chainT T n) (0, false)).2.2.2 h with ⟨h2, _⟩ | h2
  · cases h2
  · exact h2
theorem dl_le {T : List Nd} {X : List Cn} {n m : Int} (hm : m ∈ chainT T n) (hh : (cn X m).has = true) : (dlX T X n).2 = true ∧ (dlX T X n).1 ≤ (cn X m).at_ := by
  have h := dl_fold X (chainT T n) (0, false)
  exact ⟨h.1.2 (.inr ⟨m, hm, hh⟩), h.2.2.1 m hm hh⟩
theorem dl_none {T : List Nd} {X : List Cn} {n : Int} (h : ∀ m ∈ chainT T n, (cn X m).has = false) : (dlX T X n).2 = false := by
  cases h2 : (dlX T X n).2 with
  | false => rfl
  | true =>
    obtain ⟨m, hm, hh, _⟩ := dl_some h2
    rw [h m hm] at hh; cases hh

/-- Behind Due no deadline has passed. -/
theorem firstTo_min (X : List Cn) : ∀ (m j : Nat), j < m → (cn X (j : Nat)).has = true → (cn X (j : Nat)).e = 0 → 0 ≤ firstTo X m ∧ (cn X (firstTo X m)).at_ ≤ (cn X (j : Nat)).at_
  | 0, j, h, _, _ => absurd h (Nat.not_lt_zero j)
  | m + 1, j, h, hh, h0 => by
    rw [firstTo]
    split
    · next hc =>
      refine ⟨by omega, ?_⟩
      by_cases hj : j = m
      · subst hj; exact Int.le_refl _
      · have ih := firstTo_min X m j (by omega) hh h0
        rcases hc.2.2 with h2 | h2 <;> omega
    · next hc =>
      by_cases hj : j = m
      · subst hj
        have : ¬ (firstTo X j < 0 ∨ (cn X (j : Nat)).at_ < (cn X (firstTo X j)).at_) := fun h2 => hc ⟨hh, h0, h2⟩
        omega
      · exact firstTo_min X m j (by omega) hh h0
theorem due_end {T : List Nd} {now : Int} (hw : Wf T) : ∀ (f : Nat) (X : List Cn), T.length = X.length → liveN X ≤ f → ¬ (0 ≤ firstX (dueF T now f X).2 ∧ (cn (dueF T now f X).2 (firstX (dueF T now f X).2)).at_ ≤ now)
  | 0, X, hl, hf => by
    rw [dueF]
    rintro ⟨h1, _⟩
    have h2 := (first_live h1).2
    have h3 := (first_in X).2
    obtain ⟨k, hk⟩ := Int.eq_ofNat_of_zero_le h1
    rw [hk] at h2 h3
    have := live_some (X := X) (k := k) (by omega) h2
    omega
  | f + 1, X, hl, hf => by
    by_cases hc : 0 ≤ firstX X ∧ (cn X (firstX X)).at_ ≤ now
    · rw [due_step hc]
      have h2 := (first_live hc.1).2
      have h3 := (first_in X).2
      obtain ⟨k, hk⟩ := Int.eq_ofNat_of_zero_le hc.1
      have h4 := live_end hw hl (k := k) (by omega) (by rw [← hk]; exact h2) (cn X (firstX X)).why
      rw [← hk] at h4
      exact due_end hw f _ (by rw [endX_len]; exact hl) (by omega)
    · rw [due_stop hc]
      exact hc

/-- Nobody is late ahead of a deadline over it. -/
def Late (now : Int) (T : List Nd) (X : List Cn) : Prop := ∀ k, (cn X k).e = 11 → ∃ m ∈ chainT T k, (cn X m).has = true ∧ (cn X m).at_ ≤ now
theorem Late.mono {now now' : Int} {T : List Nd} {X : List Cn} (h : Late now T X) (hn : now ≤ now') : Late now' T X := fun k hk => by
  obtain ⟨m, hm, hh, ha⟩ := h k hk
  exact ⟨m, hm, hh, Int.le_trans ha hn⟩
/-- What an end leaves alone. -/
theorem end_same {T : List Nd} {X : List Cn} (h : Inv T X) (n e c k : Int) (hk : there T k = true) : (cn (endX T X n e c) k).has = (cn X k).has ∧ (cn (endX T X n e c) k).at_ = (cn X k).at_ ∧ (cn (endX T X n e c) k).named = (cn X k).named ∧ (cn (endX T X n e c) k).key = (cn X k).key ∧ (cn (endX T X n e c) k).value = (cn X k).value := by
  rw [cn_end h n e c k hk]
  split <;> exact ⟨rfl, rfl, rfl, rfl, rfl⟩
theorem late_end {now : Int} {T : List Nd} {X : List Cn} (h : Inv T X) (hL : Late now T X) {n e c : Int} (he : e ≠ 0) (hn : n ≠ 0) (hq : e = 11 → (cn X n).has = true ∧ (cn X n).at_ ≤ now) : Late now T (endX T X n e c) := fun k hk => by
  have hi := inv_end (c := c) h he hn
  have hkt := done_there hi (k := k) (by omega)
  rw [cn_end h n e c k hkt] at hk
  have hold : (cn X k).e = 11 → ∃ m ∈ chainT T k, (cn (endX T X n e c) m).has = true ∧ (cn (endX T X n e c) m).at_ ≤ now := fun h11 => by
    obtain ⟨m, hm, hh, ha⟩ := hL k h11
    obtain ⟨s1, s2, _⟩ := end_same h n e c m (chain_there h.wf hm).1
    exact ⟨m, hm, by rw [s1]; exact hh, by rw [s2]; exact ha⟩
  split at hk
  · next hr =>
    have hnt : there T n = true := by
      by_cases hh : there T n = true
      · exact hh
      · have : reachT T n = [] := by rw [reach_eq h.wf, if_neg hh]
        rw [this] at hr; cases hr.1
    have h11 : e = 11 := hk
    obtain ⟨q1, q2⟩ := hq h11
    obtain ⟨s1, s2, _⟩ := end_same h n e c n hnt
    exact ⟨n, (reach_iff h.wf hnt hkt).1 hr.1, by rw [s1]; exact q1, by rw [s2]; exact q2⟩
  · exact hold hk
theorem late_due {T : List Nd} (now : Int) : ∀ (f : Nat) {X : List Cn}, Inv T X → Late now T X → Late now T (dueF T now f X).2
  | 0, X, _, h => h
  | f + 1, X, hi, h => by
    rw [dueF]
    split
    · next hc => exact late_due now f (inv_end hi (by decide) (first_ne hi hc.1)) (late_end hi h (by decide) (first_ne hi hc.1) fun _ => ⟨(first_live hc.1).1, hc.2⟩)
    · exact h
theorem late_app {now : Int} {T : List Nd} {X : List Cn} (h : Inv T X) (hL : Late now T X) {over : Int} {cut : Bool} {x : Cn} (hx : x.e = 0 ∧ x.cause = 0) (ho : there T over = true) : Late now (T ++ [⟨over, cut⟩]) (X ++ [newC X over cut x]) := fun k hk => by
  have hi := inv_app h (cut := cut) hx ho
  have hoi := there_iff.1 ho
  have hX0 : 0 < X.length := by have := h.one; have := h.len; omega
  have hkt := there_iff.1 (done_there hi (k := k) (by omega))
  rw [List.length_append, List.length_singleton] at hkt
  have hold : ∀ k, there T k = true → (cn X k).e = 11 → ∃ m ∈ chainT (T ++ [⟨over, cut⟩]) k, (cn (X ++ [newC X over cut x]) m).has = true ∧ (cn (X ++ [newC X over cut x]) m).at_ ≤ now := fun k hk h11 => by
    obtain ⟨m, hm, hh, ha⟩ := hL k h11
    have hmi := there_iff.1 (chain_there h.wf hm).1
    refine ⟨m, by rw [chain_snoc h.wf hi.wf k hk]; exact hm, ?_⟩
    rw [cn_app (by rw [← h.len]; exact hmi.2) hX0]
    exact ⟨hh, ha⟩
  by_cases hlt : k < T.length
  · rw [cn_app (by rw [← h.len]; exact hlt) hX0] at hk
    exact hold k (there_iff.2 ⟨hkt.1, hlt⟩) hk
  · obtain rfl : k = (T.length : Int) := by omega
    have hk' := hk
    rw [show ((T.length : Nat) : Int) = (X.length : Nat) by rw [h.len], cn_new] at hk'
    unfold newC at hk'
    split at hk'
    · next hc =>
      obtain ⟨m, hm, hr⟩ := hold over ho hk'
      refine ⟨m, ?_, hr⟩
      rw [chain_last hi.wf, hc.1]
      rw [hc.1] at hm
      exact List.mem_cons_of_mem _ (by simpa using hm)
    · rw [hx.1] at hk'; cases hk'
theorem add_yes {T : List Nd} {M over : Int} (cut : Bool) (hE : addE T M over = 0) : there T over = true ∧ addL T M over cut = T ++ [⟨over, cut⟩] ∧ (T.length : Int) < M := by
  have ht : there T over = true := by
    by_cases hh : there T over = true
    · exact hh
    · unfold addE at hE; rw [if_neg hh] at hE; omega
  have hlt : (T.length : Int) < M := by
    unfold addE putE at hE
    rw [if_pos ht] at hE
    by_cases hl : (T.length : Int) < M
    · exact hl
    · rw [if_neg hl] at hE; omega
  exact ⟨ht, by unfold addL putL; rw [if_pos ht, if_pos hlt], hlt⟩
theorem add_no {T : List Nd} {M over : Int} (cut : Bool) (hE : addE T M over ≠ 0) : addL T M over cut = T := by
  unfold addL
  by_cases ht : there T over = true
  · rw [if_pos ht]
    unfold addE at hE
    rw [if_pos ht] at hE
    unfold putL
    unfold putE at hE
    by_cases hl : (T.length : Int) < M
    · rw [if_pos hl] at hE; exact absurd rfl hE
    · rw [if_neg hl]
  · rw [if_neg ht]
theorem late_with {now : Int} {T : List Nd} {X : List Cn} (h : Inv T X) (hL : Late now T X) (M over : Int) (cut : Bool) (x : Cn) (t : Int) (hx : x.e = 0 ∧ x.cause = 0) (ht : x.has = true → t ≤ now) : Late now (addL T M over cut) (withX T X M over cut x t) := by
  unfold withX
  by_cases hE : addE T M over = 0
  · rw [if_pos hE]
    obtain ⟨ho, hT, _⟩ := add_yes cut hE
    have hi := inv_app h (cut := cut) hx ho
    have hl := late_app h hL (cut := cut) hx ho
    rw [hT]
    split
    · next hc =>
      refine late_end hi hl (by decide) (by have := h.one; omega) fun _ => ?_
      rw [show ((T.length : Nat) : Int) = (X.length : Nat) by rw [h.len], cn_new]
      unfold lateC at hc
      simp only [Bool.and_eq_true, decide_eq_true_eq] at hc
      refine ⟨hc.1.2, Int.le_trans hc.2 (ht ?_)⟩
      have := hc.1.2
      unfold newC at this
      split at this <;> exact this
    · exact hl
  · rw [if_neg hE, add_no cut hE]
    exact hL
theorem late_act {now : Int} {T : List Nd} {X : List Cn} (h : Inv T X) (hL : Late now T X) (M d n a b : Int) : Late now (actT T M d n) (actX T X M d n a b now) := by
  rcases (by omega : d = 0 ∨ d = 1 ∨ d = 2 ∨ d = 3 ∨ d = 4 ∨ d = 5 ∨ (d ≠ 0 ∧ d ≠ 1 ∧ d ≠ 2 ∧ d ≠ 3 ∧ d ≠ 4 ∧ d ≠ 5)) with rfl | rfl | rfl | rfl | rfl | rfl | ⟨d0, d1, d2, d3, d4, d5⟩
  · exact late_with h hL M n false zeroCn 0 ⟨rfl, rfl⟩ (fun h => by cases h)
  · exact late_with h hL M n false (lateX a b) now ⟨rfl, rfl⟩ (fun _ => Int.le_refl _)
  · exact late_with h hL M n false (namedX a b) 0 ⟨rfl, rfl⟩ (fun h => by cases h)
  · exact late_with h hL M n true zeroCn 0 ⟨rfl, rfl⟩ (fun h => by cases h)
  · show Late now T (cancelX T X n a)
    unfold cancelX
    split
    · exact hL
    · next hn => exact late_end h hL (by decide) hn (fun h => by cases h)
  · exact late_due now (liveN X) h hL
  · unfold actT actX
    rw [if_neg (by omega), if_neg d3, if_neg d0, if_neg d1, if_neg d2, if_neg d3, if_neg d4, if_neg d5]
    exact hL
theorem late_new (now : Int) : Late now root1 [zeroCn] := fun k hk => by
  have : there root1 k = true := done_there inv_new (by omega)
  obtain ⟨h1, h2⟩ := there_iff.1 this
  have h3 : (root1.length : Int) = 1 := rfl
  obtain rfl : k = 0 := by omega
  cases hk

/-- What the law asks behind Due, of each and of the next. -/
theorem due_says {T : List Nd} {X : List Cn} {now : Int} (h : Inv T X) (hL : Late now T X) :
    (∀ k, (dlX T (dueX T X now) k).2 = true → (dlX T (dueX T X now) k).1 ≤ now → (cn (dueX T X now) k).e ≠ 0) ∧
    (∀ k, (cn (dueX T X now) k).e = 11 → (dlX T (dueX T X now) k).2 = true ∧ (dlX T (dueX T X now) k).1 ≤ now) ∧
    (now < 9223372036854775807 → now < nextX (dueX T X now)) := by
  have hi : Inv T (dueX T X now) := inv_due now (liveN X) h
  have hl : Late now T (dueX T X now) := late_due now (liveN X) h hL
  have he : ¬ (0 ≤ firstX (dueX T X now) ∧ (cn (dueX T X now) (firstX (dueX T X now))).at_ ≤ now) := due_end h.wf (liveN X) X h.len (Nat.le_refl _)
  generalize dueX T X now = Y at *
  refine ⟨fun k h2 h1 => ?_, fun k hk => ?_, fun hn => ?_⟩
  · obtain ⟨m, hm, hh, ha⟩ := dl_some h2
    have hmt := (chain_there hi.wf hm).1
    refine hi.down k m hm fun hz => he ?_
    obtain ⟨j, rfl, hj⟩ := there_nat hmt
    have := firstTo_min Y Y.length j (by rw [← hi.len]; exact hj) hh hz
    exact ⟨this.1, Int.le_trans this.2 (by omega)⟩
  · obtain ⟨m, hm, hh, ha⟩ := hl k hk
    have := dl_le hm hh
    exact ⟨this.1, Int.le_trans this.2 ha⟩
  · unfold nextX
    split
    · exact hn
    · omega
theorem act_len {T : List Nd} {M d n : Int} : (actT T M d n).length ≤ T.length + 1 ∧ T.length ≤ (actT T M d n).length := by
  have h : ∀ c, (addL T M n c).length ≤ T.length + 1 ∧ T.length ≤ (addL T M n c).length := fun c => by
    unfold addL putL
    split
    · split
      · simp
      · simp
    · simp
  unfold actT
  split
  · exact h _
  · split
    · exact h _
    · simp
end Go.Proofs.Ytidkppjhmgehoaa.CtxI
