/-
  What is done once, as plain mathematics (layer 11): what it is, who does it, who waits, how many tasks there are. No condition.
-/
import Derived.Test.YtlepedhfnkamkaaMutP
namespace Go.Proofs.Ytlepedhfnkamkaa.OnceP
open Go.ChangeShapes Go.WideShapes Go.ChangeAt Go.RowKit Mem MutP

def begE (D : Int) (W : List Int) (N t : Int) : Int := if nameM N t = false then 3 else if inL W t = true then 6 else if D = t then 4 else 0
def begK (S D : Int) (W : List Int) (N t : Int) : Int := if begE D W N t = 0 then S else 0
def begS (S D : Int) (W : List Int) (N t : Int) : Int := if begE D W N t = 0 ∧ S = 0 then 1 else S
def begD (S D : Int) (W : List Int) (N t : Int) : Int := if begE D W N t = 0 ∧ S = 0 then t else D
def begW (S D : Int) (W : List Int) (N t : Int) : List Int := if begE D W N t = 0 ∧ S = 1 then W ++ [t] else W
def endE (D N t : Int) : Int := if nameM N t = false then 3 else if D = t then 0 else 4
def endL (D : Int) (W : List Int) (N t : Int) : List Int := if endE D N t = 0 then W else []
def endS (S D N t : Int) : Int := if endE D N t = 0 then 2 else S
def endD (D N t : Int) : Int := if endE D N t = 0 then -1 else D
def endW (D : Int) (W : List Int) (N t : Int) : List Int := if endE D N t = 0 then [] else W
/-- Who does it, and behind that one those who wait. -/
def rowO (D : Int) (W : List Int) : List Int := if D < 0 then [] else D :: W

/-- What may be. -/
structure Ok (S D : Int) (W : List Int) (N : Int) : Prop where
  n0 : 1 ≤ N
  n1 : N ≤ 1000
  is : (S = 1 ∧ 0 ≤ D) ∨ ((S = 0 ∨ S = 2) ∧ D = -1 ∧ W = [])
  ws : ∀ x ∈ rowO D W, 0 ≤ x ∧ x < N
  once : (rowO D W).Nodup
theorem row_yes {D : Int} {W : List Int} (h : 0 ≤ D) : rowO D W = D :: W := by unfold rowO; rw [if_neg (by omega)]
theorem row_no {W : List Int} : rowO (-1) W = [] := by unfold rowO; rw [if_pos (by omega)]
theorem Ok.rlen {S D : Int} {W : List Int} {N : Int} (h : Ok S D W N) : (rowO D W).length ≤ 1000 := by
  have h0 := h.n0
  have h1 := h.n1
  have := len_of_ids N.toNat (rowO D W) h.once fun x hx => by have := h.ws x hx; omega
  omega
theorem Ok.wlen {S D : Int} {W : List Int} {N : Int} (h : Ok S D W N) : W.length ≤ 1000 := by
  rcases h.is with ⟨_, hD⟩ | ⟨_, _, hW⟩
  · have := h.rlen; rw [row_yes hD] at this; simp at this; omega
  · rw [hW]; simp
theorem Ok.new {N : Int} (h0 : 1 ≤ N) (h1 : N ≤ 1000) : Ok 0 (-1) [] N := ⟨h0, h1, .inr ⟨.inl rfl, rfl, rfl⟩, (fun x h => by rw [row_no] at h; cases h), by rw [row_no]; exact .nil⟩
theorem Ok.done {S D : Int} {W : List Int} {N : Int} (h : Ok S D W N) : Ok 2 (-1) [] N := ⟨h.n0, h.n1, .inr ⟨.inr rfl, rfl, rfl⟩, (fun x h => by rw [row_no] at h; cases h), by rw [row_no]; exact .nil⟩
theorem beg_zero {D : Int} {W : List Int} {N t : Int} (h : begE D W N t = 0) : (0 ≤ t ∧ t < N) ∧ inL W t = false ∧ D ≠ t := by
  unfold begE at h
  by_cases h1 : nameM N t = false
  · rw [if_pos h1] at h; omega
  · rw [if_neg h1] at h
    by_cases h2 : inL W t = true
    · rw [if_pos h2] at h; omega
    · rw [if_neg h2] at h
      by_cases h3 : D = t
      · rw [if_pos h3] at h; omega
      · exact ⟨name_iff.1 (by simpa using h1), by simpa using h2, h3⟩
theorem end_zero {D N t : Int} (h : endE D N t = 0) : (0 ≤ t ∧ t < N) ∧ D = t := by
  unfold endE at h
  by_cases h1 : nameM N t = false
  · rw [if_pos h1] at h; omega
  · rw [if_neg h1] at h
    by_cases h3 : D = t
    · exact ⟨name_iff.1 (by simpa using h1), h3⟩
    · rw [if_neg h3] at h; omega

/-- What a Begin makes, in the five ways that there are. -/
theorem beg_cases {S D : Int} {W : List Int} {N : Int} (h : Ok S D W N) (t : Int) :
    (begE D W N t ≠ 0 ∧ begK S D W N t = 0 ∧ begS S D W N t = S ∧ begD S D W N t = D ∧ begW S D W N t = W) ∨
    (begE D W N t = 0 ∧ S = 0 ∧ D = -1 ∧ W = [] ∧ begK S D W N t = 0 ∧ begS S D W N t = 1 ∧ begD S D W N t = t ∧ begW S D W N t = [] ∧ 0 ≤ t ∧ t < N) ∨
    (begE D W N t = 0 ∧ S = 1 ∧ 0 ≤ D ∧ D ≠ t ∧ t ∉ W ∧ begK S D W N t = 1 ∧ begS S D W N t = 1 ∧ begD S D W N t = D ∧ begW S D W N t = W ++ [t] ∧ 0 ≤ t ∧ t < N) ∨
    (begE D W N t = 0 ∧ S = 2 ∧ D = -1 ∧ W = [] ∧ begK S D W N t = 2 ∧ begS S D W N t = 2 ∧ begD S D W N t = -1 ∧ begW S D W N t = []) := by
  unfold begK begS begD begW
  by_cases he : begE D W N t = 0
  · obtain ⟨⟨t0, t1⟩, hn, hD⟩ := beg_zero he
    have hn' : t ∉ W := by unfold inL at hn; simpa using hn
    rcases h.is with ⟨rfl, hD0⟩ | ⟨rfl | rfl, rfl, rfl⟩
    · rw [if_pos he, if_neg (by omega), if_neg (by omega), if_pos ⟨he, rfl⟩]
      exact .inr (.inr (.inl ⟨he, rfl, hD0, hD, hn', rfl, rfl, rfl, rfl, t0, t1⟩))
    · rw [if_pos he, if_pos ⟨he, rfl⟩, if_pos ⟨he, rfl⟩, if_neg (by omega)]
      exact .inr (.inl ⟨he, rfl, rfl, rfl, rfl, rfl, rfl, rfl, t0, t1⟩)
    · rw [if_pos he, if_neg (by omega), if_neg (by omega), if_neg (by omega)]
      exact .inr (.inr (.inr ⟨he, rfl, rfl, rfl, rfl, rfl, rfl, rfl⟩))
  · rw [if_neg he, if_neg (fun h => he h.1), if_neg (fun h => he h.1), if_neg (fun h => he h.1)]
    exact .inl ⟨he, rfl, rfl, rfl, rfl⟩
/-- What an End makes. -/
theorem end_cases {S D : Int} {W : List Int} {N : Int} (h : Ok S D W N) (t : Int) :
    (endE D N t ≠ 0 ∧ endL D W N t = [] ∧ endS S D N t = S ∧ endD D N t = D ∧ endW D W N t = W) ∨
    (endE D N t = 0 ∧ D = t ∧ S = 1 ∧ 0 ≤ t ∧ t < N ∧ endL D W N t = W ∧ endS S D N t = 2 ∧ endD D N t = -1 ∧ endW D W N t = []) := by
  unfold endL endS endD endW
  by_cases he : endE D N t = 0
  · obtain ⟨⟨t0, t1⟩, hD⟩ := end_zero he
    have hS : S = 1 := by rcases h.is with ⟨hS, _⟩ | ⟨_, hD, _⟩; exact hS; omega
    rw [if_pos he, if_pos he, if_pos he, if_pos he]
    exact .inr ⟨he, hD, hS, t0, t1, rfl, rfl, rfl, rfl⟩
  · rw [if_neg he, if_neg he, if_neg he, if_neg he]
    exact .inl ⟨he, rfl, rfl, rfl, rfl⟩
theorem Ok.beg {S D : Int} {W : List Int} {N : Int} (h : Ok S D W N) (t : Int) : Ok (begS S D W N t) (begD S D W N t) (begW S D W N t) N := by
  rcases beg_cases h t with ⟨_, _, e1, e2, e3⟩ | ⟨_, rfl, rfl, rfl, _, e1, e2, e3, t0, t1⟩ | ⟨_, rfl, hD, hne, hn, _, e1, e2, e3, t0, t1⟩ | ⟨_, rfl, rfl, rfl, _, e1, e2, e3⟩
  · rw [e1, e2, e3]; exact h
  · rw [e1, e2, e3]
    refine ⟨h.n0, h.n1, .inl ⟨rfl, t0⟩, fun x hx => ?_, ?_⟩
    · rw [row_yes t0, List.mem_singleton] at hx; subst hx; exact ⟨t0, t1⟩
    · rw [row_yes t0]; simp
  · rw [e1, e2, e3]
    have hw := h.ws
    have ho := h.once
    rw [row_yes hD] at hw ho
    refine ⟨h.n0, h.n1, .inl ⟨rfl, hD⟩, fun x hx => ?_, ?_⟩
    · rw [row_yes hD, ← List.cons_append] at hx
      rcases List.mem_append.1 hx with hx | hx
      · exact hw x hx
      · rw [List.mem_singleton] at hx; subst hx; exact ⟨t0, t1⟩
    · rw [row_yes hD, ← List.cons_append, List.nodup_append]
      refine ⟨ho, by simp, fun a ha b hb => ?_⟩
      rw [List.mem_singleton] at hb
      subst hb
      rintro rfl
      rcases List.mem_cons.1 ha with ha | ha
      · exact hne ha.symm
      · exact hn ha
  · rw [e1, e2, e3]; exact h
theorem Ok.fin {S D : Int} {W : List Int} {N : Int} (h : Ok S D W N) (t : Int) : Ok (endS S D N t) (endD D N t) (endW D W N t) N := by
  rcases end_cases h t with ⟨_, _, e1, e2, e3⟩ | ⟨_, _, _, _, _, _, e1, e2, e3⟩
  · rw [e1, e2, e3]; exact h
  · rw [e1, e2, e3]; exact h.done
theorem without_id {W : List Int} {t : Int} (h : inL W t = false) : withoutL W t = W := by
  unfold withoutL
  refine List.filter_eq_self.2 fun x hx => ?_
  have h1 : t ∉ W := by unfold inL at h; simpa using h
  simp only [decide_eq_true_eq]
  rintro rfl
  exact h1 hx
theorem Ok.leave {S D : Int} {W : List Int} {N : Int} (h : Ok S D W N) (t : Int) : Ok S D (withoutL W t) N := by
  rcases h.is with ⟨rfl, hD⟩ | ⟨hS, rfl, rfl⟩
  · have hs : List.Sublist (rowO D (withoutL W t)) (rowO D W) := by rw [row_yes hD, row_yes hD]; exact List.Sublist.cons_cons _ List.filter_sublist
    exact ⟨h.n0, h.n1, .inl ⟨rfl, hD⟩, fun x hx => h.ws x (hs.subset hx), h.once.sublist hs⟩
  · exact h
theorem Ok.name {S D : Int} {W : List Int} {N : Int} (h : Ok S D W N) (hD : 0 ≤ D) : nameM N D = true := by
  have := h.ws D (by rw [row_yes hD]; exact List.mem_cons_self ..)
  exact name_iff.2 this
theorem Ok.not_in {S D : Int} {W : List Int} {N : Int} (h : Ok S D W N) (hD : 0 ≤ D) : D ∉ W := by
  have := h.once
  rw [row_yes hD, List.nodup_cons] at this
  exact this.1
/-- Who may wait is there. -/
theorem Ok.in_name {S D : Int} {W : List Int} {N t : Int} (h : Ok S D W N) (ht : t ∈ W) : 0 ≤ D ∧ nameM N t = true := by
  rcases h.is with ⟨_, hD⟩ | ⟨_, _, rfl⟩
  · exact ⟨hD, name_iff.2 (h.ws t (by rw [row_yes hD]; exact List.mem_cons_of_mem _ ht))⟩
  · cases ht
end Go.Proofs.Ytlepedhfnkamkaa.OnceP
