/-
  One by one, in the order that a stable sort tells, is what the document says: plain mathematics (layer 6). No condition.
-/
import Derived.Test.YtidkppjhmgehoaaCxH
import Derived.Test.YtidkppjhmgehoaaCtxR
namespace Go.Proofs.Ytidkppjhmgehoaa.CxC
open Go.ChangeShapes Go.WideShapes Go.ChangeAt Go.RowKit Mem TreeP CtxP Hand TreeC CtxI

/-- Nobody who isn't done comes ahead of the first one. -/
theorem firstTo_first (X : List Cn) : ∀ (m j : Nat), j < m → (cn X (j : Nat)).has = true → (cn X (j : Nat)).e = 0 → 0 ≤ firstTo X m ∧ ((cn X (firstTo X m)).at_ < (cn X (j : Nat)).at_ ∨ ((cn X (firstTo X m)).at_ = (cn X (j : Nat)).at_ ∧ firstTo X m ≤ j))
  | 0, j, h, _, _ => absurd h (Nat.not_lt_zero j)
  | m + 1, j, h, hh, h0 => by
    have hin := firstTo_in X m
    rw [firstTo]
    by_cases hj : j < m
    · obtain ⟨i1, i2⟩ := firstTo_first X m j hj hh h0
      split
      · next hc =>
        obtain ⟨_, _, hc | hc⟩ := hc
        · omega
        · exact ⟨by omega, .inl (by rcases i2 with i2 | i2 <;> omega)⟩
      · exact ⟨i1, i2⟩
    · obtain rfl : j = m := by omega
      split
      · exact ⟨by omega, .inr ⟨rfl, Int.le_refl _⟩⟩
      · next hc =>
        have h1 : ¬ (firstTo X j < 0 ∨ (cn X (j : Nat)).at_ < (cn X (firstTo X j)).at_) := fun h2 => hc ⟨hh, h0, h2⟩
        exact ⟨by omega, by omega⟩

theorem mark_none {X : List Cn} {l : List Int} (h : ∀ k ∈ l, 0 ≤ k → (cn X k).e ≠ 0) (e z : Int) : markL X l e z = X := by
  apply List.ext_getElem?
  intro i
  rw [markL_get]
  rcases Nat.lt_or_ge i X.length with hi | hi
  · rw [cn_at hi]
    show some (if (i : Int) ∈ l ∧ (cn X (i : Nat)).e = 0 then _ else _) = _
    rw [if_neg fun hc => h _ hc.1 (by omega) hc.2]
  · rw [List.getElem?_eq_none hi]; rfl
theorem told_none {X : List Cn} {l : List Int} (h : ∀ k ∈ l, (cn X k).e ≠ 0) : toldL X l = [] := by
  unfold toldL
  rw [List.filter_eq_nil_iff]
  intro k hk
  have := h k hk
  simpa using this

theorem due_is {T : List Nd} {now : Int} : ∀ (l : List Int) (X : List Cn) (f : Nat), Inv T X → liveN X ≤ f → l.Pairwise (SortP.Lex fun k => (cn X k).at_) →
    (∀ k, there T k = true → (cn X k).has = true → (cn X k).e = 0 → (cn X k).at_ ≤ now → k ∈ l) → (∀ k ∈ l, there T k = true ∧ (cn X k).has = true ∧ (cn X k).at_ ≤ now) → dueRun T l X = dueF T now f X
  | [], X, f, hI, _, _, hall, _ => by
    rw [due_stop]
    · rfl
    · rintro ⟨h0, h1⟩
      have h2 := first_live h0
      have h3 := first_in X
      have := hall (firstX X) (there_iff.2 ⟨h0, by rw [hI.len]; exact h3.2⟩) h2.1 h2.2 h1
      simp at this
  | n :: l, X, f, hI, hf, hp, hall, hin => by
    obtain ⟨hn1, hn2, hn3⟩ := hin n (List.mem_cons_self ..)
    rw [List.pairwise_cons] at hp
    obtain ⟨j, hj, hjl⟩ := there_nat hn1
    have hjX : j < X.length := by rw [← hI.len]; exact hjl
    by_cases he : (cn X n).e = 0
    · have hfst : firstX X = n := by
        obtain ⟨m0, m1⟩ := firstTo_first X X.length j hjX (by rw [← hj]; exact hn2) (by rw [← hj]; exact he)
        change 0 ≤ firstX X at m0
        change (cn X (firstX X)).at_ < _ ∨ (cn X (firstX X)).at_ = _ ∧ firstX X ≤ _ at m1
        rw [← hj] at m1
        have h2 := first_live m0
        have h3 := first_in X
        have hm := hall (firstX X) (there_iff.2 ⟨m0, by rw [hI.len]; exact h3.2⟩) h2.1 h2.2 (by rcases m1 with m1 | m1 <;> omega)
        rcases List.mem_cons.1 hm with hm | hm
        · exact hm
        · have := hp.1 _ hm
          rcases this with h5 | ⟨h5, h6⟩
          · simp only at h5; rcases m1 with m1 | m1 <;> omega
          · simp only at h5; rcases m1 with m1 | m1 <;> omega
      have hpos := live_some hjX (by rw [← hj]; exact he)
      obtain ⟨f', rfl⟩ : ∃ f', f = f' + 1 := ⟨f - 1, by omega⟩
      rw [due_step ⟨by rw [hfst]; omega, by rw [hfst]; exact hn3⟩, hfst]
      have hE : markL X (reachT T n) (lateE (cn X n)) (lateZ (cn X n)) = endX T X n 11 (cn X n).why := by
        unfold endX lateE lateZ
        rw [if_pos hn2, if_pos hn2]
      have hn0 : n ≠ 0 := fun h => by rw [h, hI.free.1] at hn2; exact Bool.noConfusion hn2
      have hI2 := inv_end hI (n := n) (e := 11) (c := (cn X n).why) (by decide) hn0
      have hlt := live_end hI.wf hI.len (k := j) hjX (by rw [← hj]; exact he) (cn X n).why
      rw [← hj] at hlt
      have hsame : ∀ k, there T k = true → (cn (endX T X n 11 (cn X n).why) k).has = (cn X k).has ∧ (cn (endX T X n 11 (cn X n).why) k).at_ = (cn X k).at_ := fun k hk => ⟨(end_same hI n 11 (cn X n).why k hk).1, (end_same hI n 11 (cn X n).why k hk).2.1⟩
      have ih := due_is l (endX T X n 11 (cn X n).why) f' hI2 (by omega) (by
        refine hp.2.imp_of_mem fun {a b} ha hb hab => ?_
        have h1 := hsame a (hin a (List.mem_cons_of_mem _ ha)).1
        have h2 := hsame b (hin b (List.mem_cons_of_mem _ hb)).1
        unfold SortP.Lex at hab ⊢
        simp only at hab ⊢
        rw [h1.2, h2.2]; exact hab) (fun k h1 h2 h3 h4 => by
        obtain ⟨s1, s2⟩ := hsame k h1
        rw [s1] at h2
        rw [s2] at h4
        have hc := cn_end hI n 11 (cn X n).why k h1
        rw [hc] at h3
        split at h3
        · exact absurd h3 (by show (11 : Int) ≠ 0; decide)
        · next hcc =>
          rcases List.mem_cons.1 (hall k h1 h2 h3 h4) with hk | hk
          · subst hk; exact absurd ⟨reach_self hI.wf h1, h3⟩ hcc
          · exact hk) (fun k hk => by
        obtain ⟨g1, g2, g3⟩ := hin k (List.mem_cons_of_mem _ hk)
        obtain ⟨s1, s2⟩ := hsame k g1
        exact ⟨g1, by rw [s1]; exact g2, by rw [s2]; exact g3⟩)
      show (toldL X (reachT T n) ++ (dueRun T l (markL X (reachT T n) (lateE (cn X n)) (lateZ (cn X n)))).1, (dueRun T l (markL X (reachT T n) (lateE (cn X n)) (lateZ (cn X n)))).2) = _
      rw [hE, ih]
      rfl
    · have hd : ∀ k ∈ reachT T n, (cn X k).e ≠ 0 := fun k hk => hI.down k n ((reach_iff hI.wf hn1 (reach_there hI.wf hk).1).1 hk) he
      show (toldL X (reachT T n) ++ (dueRun T l (markL X (reachT T n) (lateE (cn X n)) (lateZ (cn X n)))).1, (dueRun T l (markL X (reachT T n) (lateE (cn X n)) (lateZ (cn X n)))).2) = _
      rw [told_none hd, mark_none (fun k hk _ => hd k hk), List.nil_append]
      rw [due_is l X f hI hf hp.2 (fun k h1 h2 h3 h4 => by
        rcases List.mem_cons.1 (hall k h1 h2 h3 h4) with hk | hk
        · subst hk; exact absurd h3 he
        · exact hk) fun k hk => hin k (List.mem_cons_of_mem _ hk)]
end Go.Proofs.Ytidkppjhmgehoaa.CxC
