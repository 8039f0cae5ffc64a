/-
  Who waits to be told, as plain mathematics (layer 10): those who wait, in order, each with a number; how many tasks there are. No condition.
-/
import Derived.Test.YtbnijgcbifpijaaMutP
import Derived.Test.YtbnijgcbifpijaaCells
namespace Go.Proofs.Ytbnijgcbifpijaa.CondP
open Go.ChangeShapes Go.WideShapes Go.ChangeAt Go.RowKit Mem MutP

/-- Who is told, and its number. -/
structure Tl where
  t : Int
  k : Int
  deriving DecidableEq
def Tl.val (x : Tl) : Value := .agg #[.int .i64 x.t, .int .i64 x.k]
def noTl : Tl := ⟨0, 0⟩
def tlE : Enc Tl := ⟨2, fun x => [.int .i64 x.t, .int .i64 x.k], fun _ => rfl, by intro a u hu; simp at hu; rcases hu with rfl | rfl <;> rfl, by omega⟩
theorem tl_cells {w : World} {G : Nat → Prop} {A : Option Addr} {n c : Nat} {L : List Tl} (h : RdL tlE w G (.slice A n c) L) {i : Nat} {x : Tl} (hi : L[i]? = some x) :
    ∃ b off, A = some ⟨b, off, none⟩ ∧ G b ∧ b < w.heap.size ∧ w.cell? ⟨b, off + i * 2, none⟩ = some (.int .i64 x.t) ∧ w.cell? ⟨b, off + i * 2 + 1, none⟩ = some (.int .i64 x.k) := by
  obtain ⟨b, off, hA, hg, hb, hc⟩ := h.at_ hi
  exact ⟨b, off, hA, hg, hb, hc 0 _ rfl, hc 1 _ rfl⟩
theorem take_snocT (L : List Tl) (i : Nat) (x : Tl) (h : L[i]? = some x) : L.take (i + 1) = L.take i ++ [x] := by rw [List.take_add_one, h]; rfl

def hasT (W : List Tl) (t : Int) : Bool := decide (t ∈ W.map Tl.t)
def waitE (W : List Tl) (N t : Int) : Int := if nameM N t = false then 3 else if hasT W t = true then 6 else 0
def waitW (W : List Tl) (N t k : Int) : List Tl := if waitE W N t = 0 then W ++ [⟨t, k⟩] else W
def outT (W : List Tl) (t : Int) : List Tl := W.filter fun x => decide (x.t ≠ t)
def getT (W : List Tl) (t : Int) : Tl := (W.find? fun x => decide (x.t = t)).getD noTl

/-- The first one, and the others. -/
def oneT (W : List Tl) : List Tl := W.take 1
def restT (W : List Tl) : List Tl := W.drop 1
theorem one_rest (W : List Tl) : oneT W ++ restT W = W := List.take_append_drop 1 W
theorem has_snoc (W : List Tl) (x : Tl) (t : Int) : hasT (W ++ [x]) t = (hasT W t || decide (t = x.t)) := by unfold hasT; simp
theorem has_mem {W : List Tl} {x : Tl} (h : x ∈ W) : hasT W x.t = true := by unfold hasT; simpa using ⟨x, h, rfl⟩
theorem get_no {W : List Tl} {t : Int} (h : hasT W t = false) : getT W t = noTl := by
  unfold getT
  rw [List.find?_eq_none.2]
  · rfl
  · intro x hx
    unfold hasT at h
    have h1 := of_decide_eq_false h
    simp only [decide_eq_true_eq]
    rintro rfl
    exact h1 (List.mem_map.2 ⟨x, hx, rfl⟩)
theorem get_snoc_no {W : List Tl} {x : Tl} {t : Int} (h : x.t ≠ t) : getT (W ++ [x]) t = getT W t := by
  unfold getT
  rw [List.find?_append]
  have : List.find? (fun x : Tl => decide (x.t = t)) [x] = none := by simp [h]
  rw [this]
  simp
theorem get_snoc_yes {W : List Tl} {x : Tl} {t : Int} (h : hasT W t = false) (hx : x.t = t) : getT (W ++ [x]) t = x := by
  unfold getT
  have hn : List.find? (fun x : Tl => decide (x.t = t)) W = none := by
    rw [List.find?_eq_none]
    intro y hy
    unfold hasT at h
    have h1 := of_decide_eq_false h
    simp only [decide_eq_true_eq]
    rintro rfl
    exact h1 (List.mem_map.2 ⟨y, hy, rfl⟩)
  rw [List.find?_append, hn]
  simp [hx]
theorem out_snoc_no {W : List Tl} {x : Tl} {t : Int} (h : x.t = t) : outT (W ++ [x]) t = outT W t := by unfold outT; rw [List.filter_append]; simp [h]
theorem out_snoc_yes {W : List Tl} {x : Tl} {t : Int} (h : x.t ≠ t) : outT (W ++ [x]) t = outT W t ++ [x] := by unfold outT; rw [List.filter_append]; simp [h]
theorem out_len (W : List Tl) (t : Int) : (outT W t).length ≤ W.length := List.length_filter_le _ _
theorem out_id {W : List Tl} {t : Int} (h : hasT W t = false) : outT W t = W := by
  unfold outT
  rw [List.filter_eq_self]
  intro x hx
  unfold hasT at h
  have h1 := of_decide_eq_false h
  simp only [ne_eq, decide_eq_true_eq]
  rintro rfl
  exact h1 (List.mem_map.2 ⟨x, hx, rfl⟩)
theorem out_lt (W : List Tl) (t : Int) : decide ((outT W t).length < W.length) = hasT W t := by
  cases h : hasT W t with
  | false => rw [out_id h]; simp
  | true =>
    unfold hasT at h
    have h1 := of_decide_eq_true h
    obtain ⟨x, hx, hxt⟩ := List.mem_map.1 h1
    have : (outT W t).length < W.length := List.length_filter_lt_length_iff_exists.2 ⟨x, hx, by simp [hxt]⟩
    simpa using this
theorem get_mem {W : List Tl} {t : Int} (h : hasT W t = true) : getT W t ∈ W ∧ (getT W t).t = t := by
  unfold hasT at h
  obtain ⟨x, hx, hxt⟩ := List.mem_map.1 (of_decide_eq_true h)
  unfold getT
  cases hf : W.find? fun x => decide (x.t = t) with
  | none =>
    have := List.find?_eq_none.1 hf x hx
    simp [hxt] at this
  | some y =>
    refine ⟨List.mem_of_find?_eq_some hf, ?_⟩
    have := List.find?_some hf
    simpa using this

/-- Those who wait may be. -/
structure Ok (W : List Tl) (N : Int) : Prop where
  n0 : 1 ≤ N
  n1 : N ≤ 1000
  ws : ∀ x ∈ W, 0 ≤ x.t ∧ x.t < N
  once : (W.map Tl.t).Nodup
theorem Ok.len {W : List Tl} {N : Int} (h : Ok W N) : (W.length : Int) ≤ N := by
  have h0 := h.n0
  have := len_of_ids N.toNat (W.map Tl.t) h.once fun x hx => by
    obtain ⟨y, hy, rfl⟩ := List.mem_map.1 hx
    have := h.ws y hy
    omega
  rw [List.length_map] at this
  omega
theorem Ok.wlen {W : List Tl} {N : Int} (h : Ok W N) : W.length ≤ 1000 := by have := h.len; have := h.n1; omega
theorem Ok.new {N : Int} (h0 : 1 ≤ N) (h1 : N ≤ 1000) : Ok [] N := ⟨h0, h1, (fun x h => by cases h), .nil⟩
theorem Ok.sub {W W' : List Tl} {N : Int} (h : Ok W N) (hs : List.Sublist W' W) : Ok W' N := ⟨h.n0, h.n1, fun x hx => h.ws x (hs.subset hx), h.once.sublist (hs.map _)⟩
theorem Ok.drop {W : List Tl} {N : Int} (h : Ok W N) (n : Nat) : Ok (W.drop n) N := h.sub (List.drop_sublist n W)
theorem Ok.rest {W : List Tl} {N : Int} (h : Ok W N) : Ok (restT W) N := h.drop 1
theorem Ok.out {W : List Tl} {N : Int} (h : Ok W N) (t : Int) : Ok (outT W t) N := h.sub List.filter_sublist
theorem wait_zero {W : List Tl} {N t : Int} (h : waitE W N t = 0) : (0 ≤ t ∧ t < N) ∧ hasT W t = false := by
  unfold waitE at h
  by_cases h1 : nameM N t = false
  · rw [if_pos h1] at h; omega
  · rw [if_neg h1] at h
    by_cases h2 : hasT W t = true
    · rw [if_pos h2] at h; omega
    · exact ⟨name_iff.1 (by simpa using h1), by simpa using h2⟩
theorem Ok.wait {W : List Tl} {N : Int} (h : Ok W N) (t k : Int) : Ok (waitW W N t k) N := by
  unfold waitW
  split
  · next he =>
    obtain ⟨h1, h2⟩ := wait_zero he
    refine ⟨h.n0, h.n1, fun x hx => ?_, ?_⟩
    · rcases List.mem_append.1 hx with hx | hx
      · exact h.ws x hx
      · rw [List.mem_singleton] at hx; subst hx; exact h1
    · rw [List.map_append, List.nodup_append]
      refine ⟨h.once, by simp, fun a ha b hb => ?_⟩
      simp at hb
      subst hb
      rintro rfl
      unfold hasT at h2
      exact of_decide_eq_false h2 ha
  · exact h
/-- Who stands at a place stood nowhere before. -/
theorem Ok.before {W : List Tl} {N : Int} (h : Ok W N) {i : Nat} {x : Tl} (hi : W[i]? = some x) : hasT (W.take i) x.t = false := by
  unfold hasT
  refine decide_eq_false fun hm => ?_
  have hl := (List.getElem?_eq_some_iff.1 hi).1
  have h1 := h.once
  rw [← List.take_append_drop i W, List.map_append, List.nodup_append] at h1
  have h2 : x ∈ W.drop i := by
    rw [List.drop_eq_getElem_cons hl]
    have : W[i] = x := by rw [List.getElem?_eq_getElem hl] at hi; injection hi
    rw [this]
    exact List.mem_cons_self ..
  exact h1.2.2 x.t hm x.t (List.mem_map.2 ⟨x, h2, rfl⟩) rfl
end Go.Proofs.Ytbnijgcbifpijaa.CondP
