/-
  What acts keep, and whom they tell of (layer 6): plain mathematics. No condition.
-/
import Derived.Test.YtidkppjhmgehoaaCtxR
namespace Go.Proofs.Ytidkppjhmgehoaa.CtxI
open Go.ChangeShapes Go.WideShapes Go.ChangeAt Go.RowKit Mem TreeP CtxP RefCtx

/-- Who is done stays so, as he is. -/
def Keeps (X Y : List Cn) : Prop := ∀ k, (cn X k).e ≠ 0 → (cn Y k).e = (cn X k).e ∧ (cn Y k).cause = (cn X k).cause
theorem Keeps.refl (X : List Cn) : Keeps X X := fun _ _ => ⟨rfl, rfl⟩
theorem Keeps.trans {X Y Z : List Cn} (h : Keeps X Y) (h' : Keeps Y Z) : Keeps X Z := fun k hk => by
  obtain ⟨h1, h2⟩ := h k hk
  obtain ⟨h3, h4⟩ := h' k (by rw [h1]; exact hk)
  exact ⟨h3.trans h1, h4.trans h2⟩
theorem keeps_end {T : List Nd} {X : List Cn} (h : Inv T X) (n e c : Int) : Keeps X (endX T X n e c) := fun k hk => by
  rw [cn_end h n e c k (done_there h hk), if_neg (fun hh => hk hh.2)]
  exact ⟨rfl, rfl⟩
theorem keeps_due {T : List Nd} (now : Int) : ∀ (f : Nat) {X : List Cn}, Inv T X → Keeps X (dueF T now f X).2
  | 0, X, _ => Keeps.refl X
  | f + 1, X, h => by
    rw [dueF]
    split
    · next hc => exact (keeps_end h _ _ _).trans (keeps_due now f (inv_end h (by decide) (first_ne h hc.1)))
    · exact Keeps.refl X
theorem keeps_app {T : List Nd} {X : List Cn} (h : Inv T X) (y : Cn) : Keeps X (X ++ [y]) := fun k hk => by
  have hkt := there_iff.1 (done_there h hk)
  rw [cn_app (by rw [← h.len]; exact hkt.2) (by have := h.one; have := h.len; omega)]
  exact ⟨rfl, rfl⟩
theorem keeps_with {T : List Nd} {X : List Cn} (h : Inv T X) (M over : Int) (cut : Bool) (x : Cn) (t : Int) (hx : x.e = 0 ∧ x.cause = 0) : Keeps X (withX T X M over cut x t) := by
  unfold withX
  by_cases hE : addE T M over = 0
  · rw [if_pos hE]
    obtain ⟨ho, hT, _⟩ := add_yes cut hE
    have hi := inv_app h (cut := cut) hx ho
    rw [hT]
    split
    · exact (keeps_app h _).trans (keeps_end hi _ _ _)
    · exact keeps_app h _
  · rw [if_neg hE]
    exact Keeps.refl X
theorem keeps_act {T : List Nd} {X : List Cn} (h : Inv T X) (M d n a b now : Int) : Keeps X (actX T X M d n a b now) := by
  rcases (by omega : d = 0 ∨ d = 1 ∨ d = 2 ∨ d = 3 ∨ d = 4 ∨ d = 5 ∨ (d ≠ 0 ∧ d ≠ 1 ∧ d ≠ 2 ∧ d ≠ 3 ∧ d ≠ 4 ∧ d ≠ 5)) with rfl | rfl | rfl | rfl | rfl | rfl | ⟨d0, d1, d2, d3, d4, d5⟩
  · exact keeps_with h M n false zeroCn 0 ⟨rfl, rfl⟩
  · exact keeps_with h M n false (lateX a b) now ⟨rfl, rfl⟩
  · exact keeps_with h M n false (namedX a b) 0 ⟨rfl, rfl⟩
  · exact keeps_with h M n true zeroCn 0 ⟨rfl, rfl⟩
  · show Keeps X (cancelX T X n a)
    unfold cancelX
    split
    · exact Keeps.refl X
    · exact keeps_end h _ _ _
  · exact keeps_due now (liveN X) h
  · unfold actX
    rw [if_neg d0, if_neg d1, if_neg d2, if_neg d3, if_neg d4, if_neg d5]
    exact Keeps.refl X

/-- Who is told of wasn't done, and is. -/
theorem told_end {T : List Nd} {X : List Cn} (h : Inv T X) {n e c k : Int} (he : e ≠ 0) (hk : k ∈ endO T X n) : there T k = true ∧ (cn X k).e = 0 ∧ (cn (endX T X n e c) k).e ≠ 0 := by
  obtain ⟨h1, h2⟩ := List.mem_filter.1 hk
  have h3 : (cn X k).e = 0 := of_decide_eq_true h2
  have ht := (reach_there h.wf h1).1
  refine ⟨ht, h3, ?_⟩
  rw [cn_end h n e c k ht, if_pos ⟨h1, h3⟩]
  exact he
theorem told_due {T : List Nd} (now : Int) : ∀ (f : Nat) {X : List Cn}, Inv T X → ∀ k ∈ (dueF T now f X).1, there T k = true ∧ (cn X k).e = 0 ∧ (cn (dueF T now f X).2 k).e ≠ 0
  | 0, X, _, k, hk => by rw [dueF] at hk; cases hk
  | f + 1, X, h, k, hk => by
    by_cases hc : 0 ≤ firstX X ∧ (cn X (firstX X)).at_ ≤ now
    · rw [due_step hc] at hk ⊢
      have hi := inv_end (c := (cn X (firstX X)).why) h (show (11 : Int) ≠ 0 by decide) (first_ne h hc.1)
      rcases List.mem_append.1 hk with hk | hk
      · obtain ⟨h1, h2, h3⟩ := told_end (c := (cn X (firstX X)).why) h (show (11 : Int) ≠ 0 by decide) hk
        refine ⟨h1, h2, ?_⟩
        rw [(keeps_due now f hi k h3).1]
        exact h3
      · obtain ⟨h1, h2, h3⟩ := told_due now f hi k hk
        refine ⟨h1, ?_, h3⟩
        by_cases hz : (cn X k).e = 0
        · exact hz
        · have := (keeps_end h (firstX X) 11 (cn X (firstX X)).why k hz).1
          rw [this] at h2
          exact absurd h2 hz
    · rw [due_stop hc] at hk; cases hk
theorem told_act {T : List Nd} {X : List Cn} (h : Inv T X) (M d n a b now : Int) : ∀ k ∈ actO T X d n now, there T k = true ∧ (cn X k).e = 0 ∧ (cn (actX T X M d n a b now) k).e ≠ 0 := fun k hk => by
  unfold actO at hk
  split at hk
  · next hd =>
    subst hd
    show _ ∧ _ ∧ (cn (cancelX T X n a) k).e ≠ 0
    unfold cancelO at hk
    unfold cancelX
    split at hk
    · cases hk
    · next hn => rw [if_neg hn]; exact told_end h (by decide) hk
  · split at hk
    · next hd => subst hd; exact told_due now (liveN X) h k hk
    · cases hk
theorem act_lenO {T : List Nd} {X : List Cn} {M : Int} (hok : TreeP.Ok T M) (hl : T.length = X.length) (d n now : Int) : (actO T X d n now).length ≤ 40000 := by
  have h3 := hok.len
  have h4 := hok.m1
  have hE : (endO T X n).length ≤ 200 := by
    have h1 := told_len X (reachT T n)
    have h2 := reach_len hok.wf n
    show (toldL X (reachT T n)).length ≤ _
    omega
  have hD : ∀ (f : Nat) (X : List Cn), (dueF T now f X).1.length ≤ 200 * f := fun f => by
    induction f with
    | zero => intro X; simp [dueF]
    | succ f ih =>
      intro X
      rw [dueF]
      split
      · have ih := ih (endX T X (firstX X) 11 (cn X (firstX X)).why)
        have h1 := told_len X (reachT T (firstX X))
        have h2 := reach_len hok.wf (firstX X)
        have h5 : (endO T X (firstX X)).length ≤ 200 := by show (toldL X (reachT T (firstX X))).length ≤ _; omega
        rw [List.length_append]
        omega
      · simp
  have h6 := hD (liveN X) X
  have h7 : liveN X ≤ X.length := List.countP_le_length
  unfold actO
  split
  · unfold cancelO
    split
    · simp
    · omega
  · split
    · show (dueF T now (liveN X) X).1.length ≤ _
      omega
    · simp
end Go.Proofs.Ytidkppjhmgehoaa.CtxI
