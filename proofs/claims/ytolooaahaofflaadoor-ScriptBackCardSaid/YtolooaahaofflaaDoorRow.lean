/-
  Rows as lists, and what Put, Take, Drop and Move make of them (layer 2): plain mathematics. No condition.
-/
import Derived.Test.YtolooaahaofflaaDoorMem
namespace Go.Proofs.YtolooaahaofflaaDoor.RefRing
open Go.ChangeShapes Go.WideShapes Go.ChangeAt Go.RowKit Mem

/-- Which row holds x; -1: none. -/
def inL (L : List (List Int)) (x : Int) : Int := match L.findIdx? (fun l => l.contains x) with | some i => i | none => -1

theorem inL_at {L : List (List Int)} {x : Int} {i k : Nat} (hi : i < L.length) (hno : ∀ i', i' < i → ¬ x ∈ L.getD i' []) (hk : k < (L.getD i []).length) (hx : (L.getD i []).getD k 0 = x) : inL L x = i := by
  unfold inL
  have : L.findIdx? (fun l => l.contains x) = some i := by
    rw [List.findIdx?_eq_some_iff_getElem]
    refine ⟨hi, ?_, ?_⟩
    · simp only [List.getD_eq_getElem?_getD, List.getElem?_eq_getElem hi, Option.getD_some] at hk hx
      rw [List.getElem?_eq_getElem hk, Option.getD_some] at hx
      simpa using (hx ▸ List.getElem_mem hk)
    · intro j hj
      have := hno j hj
      simp only [List.getD_eq_getElem?_getD, List.getElem?_eq_getElem (Nat.lt_trans hj hi), Option.getD_some] at this
      simpa using this
  rw [this]
theorem inL_none {L : List (List Int)} {x : Int} (hno : ∀ i', i' < L.length → ¬ x ∈ L.getD i' []) : inL L x = -1 := by
  unfold inL
  have : L.findIdx? (fun l => l.contains x) = none := by
    rw [List.findIdx?_eq_none_iff]
    intro l hl
    obtain ⟨i, hi, rfl⟩ := List.getElem_of_mem hl
    have := hno i hi
    simp only [List.getD_eq_getElem?_getD, List.getElem?_eq_getElem hi, Option.getD_some] at this
    simpa using this
  rw [this]
theorem not_mem_of {l : List Int} {x : Int} (h : ∀ k, k < l.length → l.getD k 0 ≠ x) : ¬ x ∈ l := by
  intro hm
  obtain ⟨k, hk, rfl⟩ := List.getElem_of_mem hm
  exact h k hk (by simp [List.getD_eq_getElem?_getD, List.getElem?_eq_getElem hk])

/-- A row's first one; -1: none. -/
def firstL (L : List (List Int)) (n : Int) : Int := if 0 ≤ n ∧ n < L.length then (L.getD n.toNat []).headD (-1) else -1
/-- A row's nodes. -/
def listL (L : List (List Int)) (n : Int) : List Int := if 0 ≤ n ∧ n < L.length then L.getD n.toNat [] else []

/-- The rows without x. -/
def dropL (L : List (List Int)) (x : Int) : List (List Int) := if inL L x < 0 then L else L.set (inL L x).toNat ((L.getD (inL L x).toNat []).filter (fun y => y != x))

theorem inL_range (L : List (List Int)) (x : Int) : inL L x = -1 ∨ (∃ i : Nat, inL L x = i ∧ i < L.length) := by
  unfold inL
  split
  · next i h =>
    rw [List.findIdx?_eq_some_iff_getElem] at h
    exact .inr ⟨i, rfl, h.1⟩
  · exact .inl rfl

/-- What Put answers, and the rows behind it. -/
def putE (L : List (List Int)) (N r x : Int) : Int := if (0 ≤ r ∧ r < L.length) ∧ 0 ≤ x ∧ x < N then (if 0 ≤ inL L x then 6 else 0) else 3
def putL (L : List (List Int)) (N r x : Int) (ahead : Bool) : List (List Int) :=
  if putE L N r x = 0 then L.set r.toNat (if ahead = true then x :: L.getD r.toNat [] else L.getD r.toNat [] ++ [x]) else L

/-- What Move answers, and the rows behind it. -/
def moveE (L : List (List Int)) (a b : Int) : Int := if (0 ≤ a ∧ a < L.length) ∧ 0 ≤ b ∧ b < L.length then (if a = b then 1 else 0) else 3
def moveL (L : List (List Int)) (a b : Int) : List (List Int) := if moveE L a b = 0 then (L.set b.toNat (L.getD b.toNat [] ++ L.getD a.toNat [])).set a.toNat [] else L

end Go.Proofs.YtolooaahaofflaaDoor.RefRing
namespace Go.Proofs.YtolooaahaofflaaDoor.RingI
open Go.ChangeShapes Go.WideShapes Go.ChangeAt Go.RowKit Mem RefRing

/-- int64s. -/
def In64 (a : Int) : Prop := -9223372036854775808 ≤ a ∧ a ≤ 9223372036854775807

/-- Rows that may be. -/
structure Ok (L : List (List Int)) (N : Int) : Prop where
  rows : L.length ≤ 1000
  n0 : 0 ≤ N
  n1 : N ≤ 1000
  nodes : ∀ l ∈ L, ∀ x ∈ l, 0 ≤ x ∧ x < N
  lens : ∀ l ∈ L, l.length ≤ 1000
  once : L.flatten.Nodup

/-- An arena behind a call that may have changed it: it holds L now, only its own blocks have changed, and it has only new ones besides. -/
def After (A : World → Value → (Nat → Prop) → List (List Int) → Int → Prop) (w w' : World) (v : Value) (F : Nat → Prop) (L : List (List Int)) (N : Int) : Prop :=
  ∃ F', A w' v F' L N ∧ Only F w w' ∧ ∀ k, F' k → F k ∨ w.heap.size ≤ k

theorem quiet_left {P : Program} {f : FuncId} {args : Array Value} {w : World} {n : Nat} {u : Value} (h : Calls P f args (w.drewN n) fun e w' => e = .returned u ∧ w.drewN n = w') : Calls P f args (w.drewN n) fun e w'' => e = .returned u ∧ ∃ m, w'' = w.drewN m :=
  h.mono fun _ _ ⟨he, hm⟩ => ⟨he, n, hm.symm⟩

end Go.Proofs.YtolooaahaofflaaDoor.RingI
