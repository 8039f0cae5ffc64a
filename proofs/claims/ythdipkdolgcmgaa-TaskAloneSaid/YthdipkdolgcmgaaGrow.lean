/-
  A slice of the call's own whose elements take several cells: an element's cells, and a store into one of them; as things at hand. Over any program. No condition.
-/
import Derived.Test.YthdipkdolgcmgaaSep
import Derived.Deep.OwnRows
namespace Go.Proofs.Ythdipkdolgcmgaa.Hand
open Go.ChangeShapes Go.WideShapes Go.ChangeAt Go.RowKit Mem

section
variable {α : Type} {E : Enc α}
theorem flat_set1 : ∀ (X : List α) (k : Nat) (x x' : α) (j : Nat) (u : Value), X[k]? = some x → j < E.sz → E.cells x' = (E.cells x).set j u → (X.flatMap E.cells).set (k * E.sz + j) u = (X.set k x').flatMap E.cells
  | [], k, x, _, _, _, h, _, _ => by simp at h
  | y :: X, 0, x, x', j, u, h, hj, hx => by
    obtain rfl : y = x := by simpa using h
    have hl := E.len y
    rw [List.set_cons_zero, List.flatMap_cons, List.flatMap_cons, Nat.zero_mul, Nat.zero_add, List.set_append_left _ _ (by omega), ← hx]
  | y :: X, k + 1, x, x', j, u, h, hj, hx => by
    have hl := E.len y
    rw [List.set_cons_succ, List.flatMap_cons, List.flatMap_cons, List.set_append_right _ _ (by rw [hl, Nat.succ_mul]; omega), hl, show (k + 1) * E.sz + j - E.sz = k * E.sz + j from by rw [Nat.succ_mul]; omega, flat_set1 X k x x' j u (by simpa using h) hj hx]

variable {B : Nat → Prop} {w wk : World} {Rs : List Res} {e : TypeId} {b n c : Nat} {X : List α}
theorem own_setc {base : Nat} (h : OwnL E wk base e (.slice (some ⟨b, 0, none⟩) n c) X) {k : Nat} {x x' : α} {j : Nat} {u : Value} (hx : X[k]? = some x) (hj : j < E.sz) (hc : E.cells x' = (E.cells x).set j u) :
    OwnL E (wk.setCell ⟨b, k * E.sz + j, none⟩ u) base e (.slice (some ⟨b, 0, none⟩) n c) (X.set k x') := by
  have hn : n = X.length := by obtain ⟨A, c', e⟩ := h.form; injection e
  subst hn
  have h1 := (World.ownsRow.stored h (k * E.sz + j) u).1
  rw [flat_set1 X k x x' j u hx hj hc] at h1
  unfold OwnL
  rw [List.length_set]
  exact h1
/-- A store into an element of a slice at hand. -/
theorem Sep.setc (h : Sep B w wk Rs) (i : Nat) (hi : Rs[i]? = some (grow E e (.slice (some ⟨b, 0, none⟩) n c) X)) {k : Nat} {x x' : α} {j : Nat} {u : Value} (hx : X[k]? = some x) (hj : j < E.sz) (hc : E.cells x' = (E.cells x).set j u) :
    Sep B w (wk.setCell ⟨b, k * E.sz + j, none⟩ u) (Rs.set i (grow E e (.slice (some ⟨b, 0, none⟩) n c) (X.set k x'))) := by
  obtain ⟨F, ⟨h1, rfl⟩, hF, hn⟩ := h.upd i hi
  refine hn (grow E e _ _) ⟨own_setc h1 hx hj hc, rfl⟩ ((Only.refl _ _).setCell (.inl ?_) u) fun k hk => .inl hk
  simp [Value.ownBlock]
/-- An element of a slice at hand: where it lies. -/
theorem Sep.elem (h : Sep B w wk Rs) (i : Nat) {v : Value} (hi : Rs[i]? = some (grow E e v X)) {k : Nat} {x : α} (hx : X[k]? = some x) :
    ∃ b c, v = .slice (some ⟨b, 0, none⟩) X.length c ∧ b < wk.heap.size ∧ (∀ j u, (E.cells x)[j]? = some u → wk.cell? ⟨b, k * E.sz + j, none⟩ = some u) ∧ ∀ j, wk.frozen? ⟨b, j, none⟩ = false := by
  have ho := h.own i hi
  have hl := (List.getElem?_eq_some_iff.1 hx).1
  rcases ho.2 with ⟨rfl, hn⟩ | ⟨b, cap, cur, rfl, hb, hg, hnc, hcm, hcs, hcur⟩
  · omega
  · refine ⟨b, cap, rfl, lt_of_block hg, fun j u hj => ?_, fun j => frozen_block hg j⟩
    have := World.ownsRow.cells ho (g := b) rfl (k * E.sz + j) u (flat_get X k x hx j u hj)
    rw [add_plain, Nat.zero_add] at this
    exact this
end
end Go.Proofs.Ythdipkdolgcmgaa.Hand
