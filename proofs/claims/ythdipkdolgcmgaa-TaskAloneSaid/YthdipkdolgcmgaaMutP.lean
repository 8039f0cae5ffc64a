/-
  A lock that is handed on, as plain mathematics (layer 8): who holds it, who waits, how many tasks there are. No condition.
-/
import Derived.Test.YthdipkdolgcmgaaMem
namespace Go.Proofs.Ythdipkdolgcmgaa.MutP
open Go.ChangeShapes Go.WideShapes Go.ChangeAt Go.RowKit Mem

def In64 (a : Int) : Prop := -9223372036854775808 ≤ a ∧ a ≤ 9223372036854775807
def nameM (N t : Int) : Bool := decide (0 ≤ t ∧ t < N)
def inL (W : List Int) (t : Int) : Bool := decide (t ∈ W)
def withoutL (W : List Int) (t : Int) : List Int := W.filter fun x => decide (x ≠ t)
def lockB (H : Int) (W : List Int) (N t : Int) : Bool := nameM N t && !inL W t && decide (H < 0)
def lockE (W : List Int) (N t : Int) : Int := if nameM N t = false then 3 else if inL W t = true then 6 else 0
def lockH (H : Int) (W : List Int) (N t : Int) : Int := if lockB H W N t = true then t else H
def waitsB (H : Int) (W : List Int) (N t : Int) (wait : Bool) : Bool := nameM N t && !inL W t && !decide (H < 0) && wait
def lockW (H : Int) (W : List Int) (N t : Int) (wait : Bool) : List Int := if waitsB H W N t wait = true then W ++ [t] else W
def unlE (H N t : Int) : Int := if nameM N t = false then 3 else if H = t then 0 else 4
def unlV (H : Int) (W : List Int) (N t : Int) : Int := if nameM N t = true ∧ H = t then W.headD (-1) else -1
def unlH (H : Int) (W : List Int) (N t : Int) : Int := if nameM N t = true ∧ H = t then W.headD (-1) else H
def unlW (H : Int) (W : List Int) (N t : Int) : List Int := if nameM N t = true ∧ H = t then W.tail else W
theorem name_iff {N t : Int} : nameM N t = true ↔ 0 ≤ t ∧ t < N := by unfold nameM; simp

/-- Locks that may be. -/
structure Ok (H : Int) (W : List Int) (N : Int) : Prop where
  n0 : 1 ≤ N
  n1 : N ≤ 1000
  h0 : -1 ≤ H
  h1 : H < N
  ws : ∀ x ∈ W, 0 ≤ x ∧ x < N
  once : W.Nodup
  idle : H < 0 → W = []
theorem len_of_ids : ∀ (n : Nat) (l : List Int), l.Nodup → (∀ x ∈ l, 0 ≤ x ∧ x < n) → l.length ≤ n
  | 0, l, _, h => by
    cases l with
    | nil => simp
    | cons x l => have := h x (List.mem_cons_self ..); omega
  | n + 1, l, hn, h => by
    have h1 : (l.filter fun x => decide (x ≠ (n : Int))).length ≤ n := len_of_ids n _ (hn.filter _) fun x hx => by
      rw [List.mem_filter] at hx
      have h2 := h x hx.1
      have h3 : x ≠ n := by simpa using hx.2
      omega
    have h2 : l.length ≤ (l.filter fun x => decide (x ≠ (n : Int))).length + 1 := by
      clear h h1
      induction l with
      | nil => simp
      | cons y l ih =>
        rw [List.nodup_cons] at hn
        by_cases hy : y = (n : Int)
        · subst hy
          rw [List.filter_cons, if_neg (by simp), List.filter_eq_self.2]
          · simp
          · intro x hx
            simp only [decide_eq_true_eq, ne_eq]
            rintro rfl
            exact hn.1 hx
        · rw [List.filter_cons, if_pos (by simpa using hy)]
          have := ih hn.2
          simp only [List.length_cons]
          omega
    omega
theorem Ok.wlen {H : Int} {W : List Int} {N : Int} (h : Ok H W N) : W.length ≤ 1000 := by
  have h0 := h.n0
  have h1 := h.n1
  have := len_of_ids N.toNat W h.once fun x hx => by have := h.ws x hx; omega
  omega
theorem Ok.new {N : Int} (h0 : 1 ≤ N) (h1 : N ≤ 1000) : Ok (-1) [] N := ⟨h0, h1, by omega, by omega, (fun x h => by cases h), .nil, fun _ => rfl⟩
theorem Ok.lock {H : Int} {W : List Int} {N : Int} (h : Ok H W N) (t : Int) (wait : Bool) : Ok (lockH H W N t) (lockW H W N t wait) N := by
  have hH : -1 ≤ lockH H W N t ∧ lockH H W N t < N := by
    unfold lockH
    split
    · next hb =>
      unfold lockB at hb
      simp only [Bool.and_eq_true] at hb
      have := name_iff.1 hb.1.1
      omega
    · exact ⟨h.h0, h.h1⟩
  have hI : lockH H W N t < 0 → lockW H W N t wait = [] := fun hl => by
    unfold lockH at hl
    by_cases hb : lockB H W N t = true
    · rw [if_pos hb] at hl
      unfold lockB at hb
      simp only [Bool.and_eq_true] at hb
      have := name_iff.1 hb.1.1
      omega
    · rw [if_neg hb] at hl
      unfold lockW
      rw [if_neg, h.idle hl]
      unfold waitsB
      simp [hl]
  refine ⟨h.n0, h.n1, hH.1, hH.2, ?_, ?_, hI⟩
  all_goals
    unfold lockW
    split
  · next hb =>
    unfold waitsB at hb
    simp only [Bool.and_eq_true] at hb
    intro x hx
    rcases List.mem_append.1 hx with hx | hx
    · exact h.ws x hx
    · rw [List.mem_singleton] at hx
      subst hx
      exact name_iff.1 hb.1.1.1
  · exact h.ws
  · next hb =>
    unfold waitsB inL at hb
    simp only [Bool.and_eq_true] at hb
    have hn : t ∉ W := by simpa using hb.1.1.2
    rw [List.nodup_append]
    exact ⟨h.once, by simp, fun a ha b hb => by rw [List.mem_singleton] at hb; subst hb; rintro rfl; exact hn ha⟩
  · exact h.once
theorem Ok.unlock {H : Int} {W : List Int} {N : Int} (h : Ok H W N) (t : Int) : Ok (unlH H W N t) (unlW H W N t) N := by
  unfold unlH unlW
  by_cases hc : nameM N t = true ∧ H = t
  · rw [if_pos hc, if_pos hc]
    cases W with
    | nil => exact ⟨h.n0, h.n1, by show (-1 : Int) ≤ -1; omega, by show (-1 : Int) < N; have := h.n0; omega, (fun x h => by cases h), .nil, fun _ => rfl⟩
    | cons x W =>
      have hx := h.ws x (List.mem_cons_self ..)
      exact ⟨h.n0, h.n1, by show (-1 : Int) ≤ x; omega, hx.2, fun y hy => h.ws y (List.mem_cons_of_mem _ hy), (List.nodup_cons.1 h.once).2, fun hl => by have hl' : x < 0 := hl; omega⟩
  · rw [if_neg hc, if_neg hc]
    exact h
theorem Ok.leave {H : Int} {W : List Int} {N : Int} (h : Ok H W N) (t : Int) : Ok H (withoutL W t) N :=
  ⟨h.n0, h.n1, h.h0, h.h1, fun x hx => h.ws x (List.mem_filter.1 hx).1, h.once.filter _, fun hl => by rw [h.idle hl]; rfl⟩
end Go.Proofs.Ythdipkdolgcmgaa.MutP
