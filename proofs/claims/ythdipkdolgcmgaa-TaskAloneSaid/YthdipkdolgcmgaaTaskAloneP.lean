/-
  What an act leaves as it was, as plain mathematics; a local array of tasks (layer 18). No condition.
-/
import Derived.Test.YthdipkdolgcmgaaTaskWakesP
namespace Go.Proofs.Ythdipkdolgcmgaa.TaskI
open Go.ChangeShapes Go.WideShapes Go.ChangeAt Go.RowKit Mem MutP TaskP Hand RefTask

theorem is_pos {L : List Tk} {n s : Int} (h : isB L n s = true) : 0 ≤ n := (of_decide_eq_true (is_here h)).1
theorem live_pos {L : List Tk} {n : Int} (h : liveB L n = true) : 0 ≤ n := by
  unfold liveB at h
  rcases Bool.or_eq_true_iff.1 h with h | h
  · exact is_pos h
  · exact is_pos h
/-- What is done with one task changes nothing of another one, and what isn't done changes nothing. -/
theorem aL_other {L : List Tk} {N d t a b x : Int} {q : Pk} {k : Nat} (hk : k < L.length) (h : d = 0 ∨ (k : Int) ≠ t ∨ aB L d t a q = false) : (aL L N d t a b x q)[k]? = L[k]? := by
  have key : ∀ (bb : Bool) (f : Tk → Tk), ((k : Int) ≠ t ∨ bb = false) → (bb = true → 0 ≤ t) → (doL bb L t f)[k]? = L[k]? := fun bb f h1 h2 => doL_other h1 h2
  unfold aL
  unfold aB at h
  by_cases d0 : d = 0
  · rw [if_pos d0]
    unfold beginL
    split
    · exact List.getElem?_append_left hk
    · rfl
  · have h := h.resolve_left d0
    rw [if_neg d0]
    by_cases d1 : d = 1
    · rw [if_pos d1] at h ⊢
      exact key _ _ h fun e => is_pos e
    · rw [if_neg d1] at h ⊢
      by_cases d2 : d = 2
      · rw [if_pos d2] at h ⊢
        exact key _ _ h fun e => live_pos (by unfold setB at e; exact (Bool.and_eq_true_iff.1 e).1)
      · rw [if_neg d2] at h ⊢
        by_cases d3 : d = 3
        · rw [if_pos d3] at h ⊢
          exact key _ _ h fun e => is_pos (s := 1) (by unfold parkB at e; exact (Bool.and_eq_true_iff.1 e).2)
        · rw [if_neg d3] at h ⊢
          by_cases d4 : d = 4
          · rw [if_pos d4] at h ⊢
            exact key _ _ h fun e => is_pos (s := 2) (by unfold againB at e; exact (Bool.and_eq_true_iff.1 e).2)
          · rw [if_neg d4] at h ⊢
            by_cases d5 : d = 5
            · rw [if_pos d5] at h ⊢
              exact key _ _ h fun e => is_pos e
            · rw [if_neg d5] at h ⊢
              by_cases d6 : d = 6
              · rw [if_pos d6] at h ⊢
                exact key _ _ h fun e => live_pos e
              · rw [if_neg d6]
/-- Of one that is ended nothing is done. -/
theorem ended_no {L : List Tk} {t : Int} {k : Nat} {tt : Tk} (hk : L[k]? = some tt) (h3 : get tt 0 = 3) (ht : (k : Int) = t) (d a : Int) (q : Pk) (_d0 : d ≠ 0) : aB L d t a q = false := by
  subst ht
  have i1 : isB L (k : Int) 1 = false := by rw [is_state (by omega), getT_at hk, h3]; rfl
  have i2 : isB L (k : Int) 2 = false := by rw [is_state (by omega), getT_at hk, h3]; rfl
  have il : liveB L (k : Int) = false := by unfold liveB; rw [i1, i2]; rfl
  unfold aB
  have hs : setB L (k : Int) a = false := by unfold setB; rw [il]; rfl
  have hp : parkB L (k : Int) q = false := by unfold parkB; rw [i1, Bool.and_false]
  have ha : againB L (k : Int) q = false := by unfold againB; rw [i2, Bool.and_false]
  rw [i1, i2, il, hs, hp, ha]
  simp
/-- How many tasks there are behind an act. -/
theorem aL_len (L : List Tk) (N d t a b x : Int) (q : Pk) : (aL L N d t a b x q).length = if d = 0 ∧ aE L N d = 0 then L.length + 1 else L.length := by
  unfold aL aE
  by_cases d0 : d = 0
  · rw [if_pos d0]
    unfold beginL beginE
    by_cases hb : beginB L N = true
    · rw [if_pos hb, if_pos ⟨d0, by rw [if_pos d0, if_pos hb]⟩, List.length_append]; rfl
    · rw [if_neg hb, if_neg fun h => by rw [if_pos d0, if_neg hb] at h; omega]
  · have hr : (if d = 0 ∧ (if d = 0 then beginE L N else 0) = 0 then L.length + 1 else L.length) = L.length := if_neg fun h => d0 h.1
    rw [hr, if_neg d0]
    split
    · exact doL_len ..
    · split
      · exact doL_len ..
      · split
        · exact doL_len ..
        · split
          · exact doL_len ..
          · split
            · exact doL_len ..
            · split
              · exact doL_len ..
              · rfl

/-- A local array of tasks. -/
def wasA (W : List Tk) : Array Value := (W.flatMap tkE.cells).toArray
theorem was_size (W : List Tk) : (wasA W).size = W.length * 17 := by
  unfold wasA
  rw [List.size_toArray]
  exact flat_length ..
theorem was_get {W : List Tk} {k : Nat} {t : Tk} (h : W[k]? = some t) {j : Nat} (hj : j < 17) : (wasA W)[k * 17 + j]? = some (.int .i64 (get t j)) := by
  unfold wasA
  rw [List.getElem?_toArray]
  exact flat_get (E := tkE) W k t h j _ (tk_cell t hj)
theorem was_one (W : List Tk) : (wasA W).all (·.oneCell') = true := by
  rw [Array.all_eq_true_iff_forall_mem]
  intro v hv
  unfold wasA at hv
  have hv : v ∈ W.flatMap tkE.cells := by simpa using hv
  obtain ⟨t, _, h⟩ := List.mem_flatMap.1 hv
  exact tkE.one t v h
theorem was_set {W : List Tk} {i : Nat} (hi : i < W.length) (t : Tk) : over (wasA W) (i * 17) (tkA t).toList = wasA (W.set i t) := by
  apply Array.ext_getElem?
  intro m
  rw [over_get _ _ _ (by rw [Array.length_toList, tkA_size, was_size]; omega), Array.length_toList, tkA_size]
  by_cases hm : m < W.length * 17
  · obtain ⟨k, j, hj, rfl⟩ : ∃ k j, j < 17 ∧ m = k * 17 + j := ⟨m / 17, m % 17, Nat.mod_lt _ (by omega), by omega⟩
    have hk : k < W.length := by omega
    by_cases hki : k = i
    · subst hki
      rw [if_pos (by omega), show k * 17 + j - k * 17 = j by omega, was_get (t := t) (by rw [List.getElem?_set_self hk]) hj, Array.getElem?_toList, tkA_get t hj]
    · rw [if_neg (by omega), was_get (t := W[k]) (List.getElem?_eq_getElem hk) hj, was_get (t := W[k]) (by rw [List.getElem?_set_ne (by omega)]; exact List.getElem?_eq_getElem hk) hj]
  · rw [if_neg (by omega), Array.getElem?_eq_none (by rw [was_size]; omega), Array.getElem?_eq_none (by rw [was_size, List.length_set]; omega)]
def W0 : List Tk := List.replicate 30 zeroT
end Go.Proofs.Ythdipkdolgcmgaa.TaskI
