/-
  A group that is waited for, as plain mathematics (layer 12): its count, who waits till it is 0, how many tasks there are. No condition.
-/
import Derived.Test.YtjojpejhmengaaaMutP
namespace Go.Proofs.Ytjojpejhmengaaa.WaitsP
open Go.ChangeShapes Go.WideShapes Go.ChangeAt Go.RowKit Mem MutP

def addE (C n : Int) : Int := if C + n < 0 then 1 else if 9223372036854775807 < C + n then 2 else 0
def addC (C n : Int) : Int := if addE C n = 0 then C + n else C
def addL (C : Int) (W : List Int) (n : Int) : List Int := if addE C n = 0 ∧ C + n = 0 then W else []
def addW (C : Int) (W : List Int) (n : Int) : List Int := if addE C n = 0 ∧ C + n = 0 then [] else W
def wtE (W : List Int) (N t : Int) : Int := if nameM N t = false then 3 else if inL W t = true then 6 else 0
def wtB (C : Int) (W : List Int) (N t : Int) : Bool := decide (wtE W N t = 0 ∧ C = 0)
def wtW (C : Int) (W : List Int) (N t : Int) : List Int := if wtE W N t = 0 ∧ C ≠ 0 then W ++ [t] else W

/-- What may be. -/
structure Ok (C : Int) (W : List Int) (N : Int) : Prop where
  n0 : 1 ≤ N
  n1 : N ≤ 1000
  c0 : 0 ≤ C
  c1 : C ≤ 9223372036854775807
  ws : ∀ x ∈ W, 0 ≤ x ∧ x < N
  once : W.Nodup
  idle : C = 0 → W = []
theorem Ok.wlen {C : Int} {W : List Int} {N : Int} (h : Ok C W N) : W.length ≤ 1000 := by
  have h0 := h.n0
  have h1 := h.n1
  have := len_of_ids N.toNat W h.once fun x hx => by have := h.ws x hx; omega
  omega
theorem Ok.new {N : Int} (h0 : 1 ≤ N) (h1 : N ≤ 1000) : Ok 0 [] N := ⟨h0, h1, by omega, by omega, (fun x h => by cases h), .nil, fun _ => rfl⟩
theorem wt_zero {W : List Int} {N t : Int} (h : wtE W N t = 0) : (0 ≤ t ∧ t < N) ∧ inL W t = false := by
  unfold wtE at h
  by_cases h1 : nameM N t = false
  · rw [if_pos h1] at h; omega
  · rw [if_neg h1] at h
    by_cases h2 : inL W t = true
    · rw [if_pos h2] at h; omega
    · exact ⟨name_iff.1 (by simpa using h1), by simpa using h2⟩

/-- What an Add makes, in the four ways that there are. -/
theorem add_cases {C : Int} {W : List Int} {N : Int} (_h : Ok C W N) (n : Int) :
    (C + n < 0 ∧ addE C n = 1 ∧ addC C n = C ∧ addL C W n = [] ∧ addW C W n = W) ∨
    (9223372036854775807 < C + n ∧ addE C n = 2 ∧ addC C n = C ∧ addL C W n = [] ∧ addW C W n = W) ∨
    (0 < C + n ∧ C + n ≤ 9223372036854775807 ∧ addE C n = 0 ∧ addC C n = C + n ∧ addL C W n = [] ∧ addW C W n = W) ∨
    (C + n = 0 ∧ addE C n = 0 ∧ addC C n = 0 ∧ addL C W n = W ∧ addW C W n = []) := by
  unfold addC addL addW
  by_cases h1 : C + n < 0
  · have he : addE C n = 1 := by unfold addE; rw [if_pos h1]
    rw [he, if_neg (by omega), if_neg (by omega), if_neg (by omega)]
    exact .inl ⟨h1, rfl, rfl, rfl, rfl⟩
  · by_cases h2 : 9223372036854775807 < C + n
    · have he : addE C n = 2 := by unfold addE; rw [if_neg h1, if_pos h2]
      rw [he, if_neg (by omega), if_neg (by omega), if_neg (by omega)]
      exact .inr (.inl ⟨h2, rfl, rfl, rfl, rfl⟩)
    · have he : addE C n = 0 := by unfold addE; rw [if_neg h1, if_neg h2]
      rw [he, if_pos rfl]
      by_cases h3 : C + n = 0
      · rw [if_pos ⟨rfl, h3⟩, if_pos ⟨rfl, h3⟩]
        exact .inr (.inr (.inr ⟨h3, rfl, h3, rfl, rfl⟩))
      · rw [if_neg (by omega), if_neg (by omega)]
        exact .inr (.inr (.inl ⟨by omega, by omega, rfl, rfl, rfl, rfl⟩))
/-- What a Wait makes. -/
theorem wt_cases {C : Int} {W : List Int} {N : Int} (h : Ok C W N) (t : Int) :
    (wtE W N t ≠ 0 ∧ wtB C W N t = false ∧ wtW C W N t = W) ∨
    (wtE W N t = 0 ∧ C = 0 ∧ W = [] ∧ wtB C W N t = true ∧ wtW C W N t = [] ∧ 0 ≤ t ∧ t < N) ∨
    (wtE W N t = 0 ∧ 0 < C ∧ t ∉ W ∧ wtB C W N t = false ∧ wtW C W N t = W ++ [t] ∧ 0 ≤ t ∧ t < N) := by
  unfold wtB wtW
  by_cases he : wtE W N t = 0
  · obtain ⟨⟨t0, t1⟩, hn⟩ := wt_zero he
    have hn' : t ∉ W := by unfold inL at hn; simpa using hn
    by_cases hC : C = 0
    · have hW := h.idle hC
      rw [if_neg (by omega)]
      exact .inr (.inl ⟨he, hC, hW, decide_eq_true ⟨he, hC⟩, hW, t0, t1⟩)
    · have := h.c0
      rw [if_pos ⟨he, hC⟩]
      exact .inr (.inr ⟨he, by omega, hn', decide_eq_false fun h => hC h.2, rfl, t0, t1⟩)
  · rw [if_neg fun h => he h.1]
    exact .inl ⟨he, decide_eq_false fun h => he h.1, rfl⟩
theorem Ok.add {C : Int} {W : List Int} {N : Int} (h : Ok C W N) (n : Int) : Ok (addC C n) (addW C W n) N := by
  rcases add_cases h n with ⟨_, _, e1, _, e3⟩ | ⟨_, _, e1, _, e3⟩ | ⟨h0, h1, _, e1, _, e3⟩ | ⟨_, _, e1, _, e3⟩
  · rw [e1, e3]; exact h
  · rw [e1, e3]; exact h
  · rw [e1, e3]; exact ⟨h.n0, h.n1, by omega, h1, h.ws, h.once, fun h => by omega⟩
  · rw [e1, e3]; exact .new h.n0 h.n1
theorem Ok.wait {C : Int} {W : List Int} {N : Int} (h : Ok C W N) (t : Int) : Ok C (wtW C W N t) N := by
  rcases wt_cases h t with ⟨_, _, e⟩ | ⟨_, hC, hW, _, e, _⟩ | ⟨_, hC, hn, _, e, t0, t1⟩
  · rw [e]; exact h
  · rw [e]; subst hW; exact h
  · rw [e]
    refine ⟨h.n0, h.n1, h.c0, h.c1, fun x hx => ?_, ?_, fun h => by omega⟩
    · rcases List.mem_append.1 hx with hx | hx
      · exact h.ws x hx
      · rw [List.mem_singleton] at hx; subst hx; exact ⟨t0, t1⟩
    · rw [List.nodup_append]
      exact ⟨h.once, by simp, fun a ha b hb => by rw [List.mem_singleton] at hb; subst hb; rintro rfl; exact hn ha⟩
theorem Ok.leave {C : Int} {W : List Int} {N : Int} (h : Ok C W N) (t : Int) : Ok C (withoutL W t) N := by
  have hs : List.Sublist (withoutL W t) W := List.filter_sublist
  exact ⟨h.n0, h.n1, h.c0, h.c1, fun x hx => h.ws x (hs.subset hx), h.once.sublist hs, fun hC => by rw [h.idle hC]; rfl⟩
theorem Ok.in_name {C : Int} {W : List Int} {N t : Int} (h : Ok C W N) (ht : t ∈ W) : nameM N t = true ∧ C ≠ 0 := by
  refine ⟨name_iff.2 (h.ws t ht), fun hC => ?_⟩
  rw [h.idle hC] at ht
  cases ht
theorem without_id {W : List Int} {t : Int} (h : inL W t = false) : withoutL W t = W := by
  unfold withoutL
  refine List.filter_eq_self.2 fun x hx => ?_
  have h1 : t ∉ W := by unfold inL at h; simpa using h
  simp only [decide_eq_true_eq]
  rintro rfl
  exact h1 hx
end Go.Proofs.Ytjojpejhmengaaa.WaitsP
