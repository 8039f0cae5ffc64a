/-
  What Drop and Put make of rows whose nodes are apart (layer 2's arena, for the locks that stand on it): plain mathematics. No condition.
-/
import Derived.Test.YtbkeodjebfkkdaaRingP
namespace Go.Proofs.Ytbkeodjebfkkdaa.Rows4
open RefRing RingI RingP

theorem in_none {L : List (List Int)} {x : Int} (h : ∀ l ∈ L, x ∉ l) : inL L x = -1 := inL_none fun _ hi => h _ (getD_mem hi)
theorem in_at {L : List (List Int)} {x : Int} (h : L.flatten.Nodup) {i : Nat} (hi : i < L.length) (hx : x ∈ L.getD i []) : inL L x = i := inL_of_mem (once_of h) hi hx
theorem filter_id {l : List Int} {x : Int} (h : x ∉ l) : (l.filter fun y => decide (y ≠ x)) = l := by
  rw [List.filter_eq_self]
  intro y hy
  simp only [ne_eq, decide_eq_true_eq]
  rintro rfl
  exact h hy
/-- Who is dropped stands in no row. -/
theorem drop_map {L : List (List Int)} (h : L.flatten.Nodup) (x : Int) : dropL L x = L.map fun l => l.filter fun y => decide (y ≠ x) := by
  have ho := once_of h
  have hf : (fun y : Int => y != x) = fun y => decide (y ≠ x) := by funext y; by_cases e : y = x <;> simp [e]
  unfold dropL
  rcases inL_range L x with e | ⟨i, e, hi⟩
  · rw [e, if_pos (by omega)]
    have hno : ∀ l ∈ L, x ∉ l := by
      intro l hl hx
      obtain ⟨i, hi, rfl⟩ := mem_getD hl
      have := inL_of_mem ho hi hx
      omega
    have hm : (L.map fun l => l.filter fun y => decide (y ≠ x)) = L.map id := List.map_congr_left fun l hl => filter_id (hno l hl)
    rw [hm, List.map_id]
  · rw [e, if_neg (by omega), Int.toNat_natCast, hf]
    have hm := (mem_of_inL (L := L) (i := i) (x := x) e).2
    refine List.ext_getElem? fun j => ?_
    rw [List.getElem?_map]
    by_cases hj : j = i
    · subst hj
      simp [hi, List.getD_eq_getElem?_getD]
    · rw [List.getElem?_set_ne (fun e => hj e.symm)]
      cases hl : L[j]? with
      | none => rfl
      | some l =>
        rw [Option.map_some, filter_id]
        intro hx
        have hjl : j < L.length := (List.getElem?_eq_some_iff.1 hl).1
        exact hj (ho.two j i x hjl hi (by simpa [List.getD_eq_getElem?_getD, hl] using hx) hm)
theorem put_all {L : List (List Int)} {N x : Int} (r : Nat) (hr : r < L.length) (hx : 0 ≤ x ∧ x < N) (hno : ∀ l ∈ L, x ∉ l) : putE L N r x = 0 ∧ putL L N r x false = L.set r (L.getD r [] ++ [x]) := by
  have hE : putE L N r x = 0 := by
    unfold putE
    rw [if_pos ⟨⟨by omega, by omega⟩, hx⟩, in_none hno, if_neg (by omega)]
  refine ⟨hE, ?_⟩
  unfold putL
  rw [if_pos hE, Int.toNat_natCast]
  rfl

/-- Some are dropped, each, and put into a row. -/
def joinL (L : List (List Int)) (N r : Int) (l : List Int) : List (List Int) := l.foldl (fun L t => putL (dropL L t) N r t false) L
theorem join_nil (L : List (List Int)) (N r : Int) : joinL L N r [] = L := rfl
theorem join_snoc (L : List (List Int)) (N r : Int) (l : List Int) (t : Int) : joinL L N r (l ++ [t]) = putL (dropL (joinL L N r l) t) N r t false := by unfold joinL; rw [List.foldl_append]; rfl
theorem join_take (L : List (List Int)) (N r : Int) (l : List Int) {j : Nat} (hj : j < l.length) : joinL L N r (l.take (j + 1)) = putL (dropL (joinL L N r (l.take j)) l[j]) N r l[j] false := by
  rw [List.take_add_one, List.getElem?_eq_getElem hj]
  exact join_snoc L N r _ _

section
variable {p q r x : List Int} {N t : Int}
theorem flat4 : [p, q, r, x].flatten = p ++ (q ++ (r ++ x)) := by simp
theorem in4 (h : [p, q, r, x].flatten.Nodup) : (inL [p, q, r, x] t = 0 ↔ t ∈ p) ∧ (inL [p, q, r, x] t = 1 ↔ t ∈ q) ∧ (inL [p, q, r, x] t = 2 ↔ t ∈ r) ∧ (inL [p, q, r, x] t = 3 ↔ t ∈ x) := by
  refine ⟨⟨fun e => (mem_of_inL (i := 0) e).2, fun e => in_at h (i := 0) (by simp) e⟩, ⟨fun e => (mem_of_inL (i := 1) e).2, fun e => in_at h (i := 1) (by simp) e⟩, ⟨fun e => (mem_of_inL (i := 2) e).2, fun e => in_at h (i := 2) (by simp) e⟩, ⟨fun e => (mem_of_inL (i := 3) e).2, fun e => in_at h (i := 3) (by simp) e⟩⟩
theorem drop_head {t : Int} (h : [t :: p, q, r, x].flatten.Nodup) : dropL [t :: p, q, r, x] t = [p, q, r, x] := by
  rw [drop_map h]
  rw [flat4] at h
  simp only [List.cons_append, List.nodup_cons, List.mem_append, not_or] at h
  obtain ⟨⟨h1, h2, h3, h4⟩, _⟩ := h
  simp only [List.map_cons, List.map_nil, List.filter_cons, ne_eq, not_true_eq_false, decide_false, Bool.false_eq_true, if_false]
  have e := @filter_id
  simp only [ne_eq] at e
  rw [e h1, e h2, e h3, e h4]
/-- All of the first row go to the third. -/
theorem join_read : ∀ (p r : List Int), [p, q, r, x].flatten.Nodup → (∀ t ∈ p, 0 ≤ t ∧ t < N) → joinL [p, q, r, x] N 2 p = [[], q, r ++ p, x]
  | [], r, _, _ => by rw [join_nil, List.append_nil]
  | t :: p, r, h, hN => by
    have h0 := h
    rw [flat4] at h
    have h1 : (t :: ((p ++ q ++ r) ++ x)).Nodup := by simpa [List.append_assoc] using h
    have hm := (List.nodup_cons.1 h1).1
    simp only [List.mem_append, not_or] at hm
    have h2 : [p, q, r ++ [t], x].flatten.Nodup := by
      rw [flat4]
      have hp := (List.perm_middle (a := t) (l₁ := p ++ q ++ r) (l₂ := x)).nodup_iff.2 h1
      simpa [List.append_assoc] using hp
    have hpt := (put_all (L := [p, q, r, x]) (N := N) (x := t) 2 (by simp) (hN t (List.mem_cons_self ..)) (by
      intro l hl
      simp only [List.mem_cons, List.not_mem_nil, or_false] at hl
      rcases hl with rfl | rfl | rfl | rfl
      · exact hm.1.1.1
      · exact hm.1.1.2
      · exact hm.1.2
      · exact hm.2)).2
    have hs : joinL [t :: p, q, r, x] N 2 (t :: p) = joinL [p, q, r ++ [t], x] N 2 p := by
      show joinL (putL (dropL [t :: p, q, r, x] t) N 2 t false) N 2 p = _
      rw [drop_head h0]
      exact congrArg (fun L => joinL L N 2 p) hpt
    rw [hs, join_read p (r ++ [t]) h2 fun y hy => hN y (List.mem_cons_of_mem _ hy), List.append_assoc]
    rfl
/-- The first of the second row goes to the fourth. -/
theorem join_write (h : [p, t :: q, [], []].flatten.Nodup) (hN : 0 ≤ t ∧ t < N) : joinL [p, t :: q, [], []] N 3 [t] = [p, q, [], [t]] := by
  show putL (dropL [p, t :: q, [], []] t) N 3 t false = _
  have hf : t ∉ p ∧ t ∉ q := by
    rw [flat4] at h
    simp only [List.append_nil, List.nodup_append, List.nodup_cons] at h
    exact ⟨fun hp => h.2.2 t hp t (List.mem_cons_self ..) rfl, h.2.1.1⟩
  have hd : dropL [p, t :: q, [], []] t = [p, q, [], []] := by
    rw [drop_map h]
    simp only [List.map_cons, List.map_nil, List.filter_cons, ne_eq, not_true_eq_false, decide_false, Bool.false_eq_true, if_false, List.filter_nil]
    have e := @filter_id
    simp only [ne_eq] at e
    rw [e hf.1, e hf.2]
  rw [hd]
  exact (put_all (L := [p, q, [], []]) (N := N) (x := t) 3 (by simp) hN (by
    intro l hl
    simp only [List.mem_cons, List.not_mem_nil, or_false] at hl
    rcases hl with rfl | rfl | rfl | rfl
    · exact hf.1
    · exact hf.2
    · simp
    · simp)).2
theorem list4 : listL [p, q, r, x] 0 = p ∧ listL [p, q, r, x] 1 = q ∧ listL [p, q, r, x] 2 = r ∧ listL [p, q, r, x] 3 = x := by
  unfold listL
  refine ⟨?_, ?_, ?_, ?_⟩ <;> simp
theorem first4 : firstL [p, q, r, x] 0 = p.headD (-1) ∧ firstL [p, q, r, x] 1 = q.headD (-1) ∧ firstL [p, q, r, x] 2 = r.headD (-1) ∧ firstL [p, q, r, x] 3 = x.headD (-1) := by
  unfold firstL
  refine ⟨?_, ?_, ?_, ?_⟩ <;> simp
end
end Go.Proofs.Ytbkeodjebfkkdaa.Rows4
