/-
  The walk of the law TaskWakes over any package that meets 'Tb'. Condition: what the arguments read as.
-/
import Derived.Test.YthdipkdolgcmgaaTaskM
import Derived.Test.YthdipkdolgcmgaaTaskA
import Derived.Deep.RegionHeld3
import Derived.Deep.DeepCutAuto
import Derived.Deep.CutBlock
namespace Go.Proofs.Ythdipkdolgcmgaa.TaskI
open Go.ChangeShapes Go.WideShapes Go.ChangeAt Go.RowKit Mem MutP TaskP Hand RefTask

/-- What becomes of a task that is parked anew, and of one that is woken. -/
def wereT (t : Tk) (q : Pk) : Tk := if get t 0 = 2 ∧ 1 ≤ q.k then wtT t q else t
theorem get_wt (t : Tk) (q : Pk) {j : Nat} (h : j < 10 ∨ 15 < j) : get (wtT t q) j = get t j := by
  unfold wtT
  rw [get_put_ne _ _ (by omega), get_put_ne _ _ (by omega), get_put_ne _ _ (by omega), get_put_ne _ _ (by omega), get_put_ne _ _ (by omega), get_put_ne _ _ (by omega)]
theorem is_get {L : List Tk} {n : Int} {s : Int} : isB L n s = (getB L n && decide (get (getT L n) 0 = s)) := by
  unfold isB getB getT
  rcases h : tkO L n with _ | t
  · unfold tkO at h
    split at h
    · rw [List.getElem?_eq_none_iff] at h
      rw [decide_eq_false (by omega)]; rfl
    · rw [decide_eq_false (by omega)]; rfl
  · obtain ⟨k, rfl, hk⟩ := tkO_some h
    have := (List.getElem?_eq_some_iff.1 hk).1
    rw [decide_eq_true (by omega)]; rfl
theorem get_zero0 : get zeroT 0 = 0 := rfl
theorem getT_no {L : List Tk} {n : Int} (h : getB L n = false) : getT L n = zeroT := by
  unfold getB at h
  have h := of_decide_eq_false h
  unfold getT tkO
  split
  · rw [List.getElem?_eq_none (by omega)]; rfl
  · rfl
/-- A state that isn't 0 is that of a task that there is. -/
theorem is_state {L : List Tk} {n : Int} {s : Int} (hs : s ≠ 0) : isB L n s = decide (get (getT L n) 0 = s) := by
  rw [is_get]
  cases hb : getB L n
  · rw [getT_no hb, get_zero0, decide_eq_false (by omega)]; rfl
  · rfl
theorem again_is (L : List Tk) (n : Int) (q : Pk) : againB L n q = (decide (get (getT L n) 0 = 2) && decide (1 ≤ q.k)) := by
  unfold againB
  rw [is_state (by omega), Bool.and_comm]
theorem doL_get {b : Bool} {L : List Tk} {n : Int} {f : Tk → Tk} (hb : b = true → getB L n = true) : getT (doL b L n f) n = if b = true then f (getT L n) else getT L n := by
  cases b
  · rw [doL_no rfl]; rfl
  · have h := of_decide_eq_true (hb rfl)
    obtain ⟨k, rfl⟩ := Int.eq_ofNat_of_zero_le h.1
    have hk : L[k]? = some L[k] := List.getElem?_eq_getElem (by omega)
    rw [doL_yes rfl hk, if_pos rfl, getT_at hk, getT_at (t := f L[k]) (by rw [List.getElem?_set_self (by omega)])]
theorem is_here {L : List Tk} {n s : Int} (h : isB L n s = true) : getB L n = true := by
  rw [is_get] at h
  exact (Bool.and_eq_true_iff.1 h).1
theorem again_get (L : List Tk) (n : Int) (q : Pk) : getT (againL L n q) n = wereT (getT L n) q := by
  unfold againL
  rw [doL_get fun h => is_here (s := 2) (by unfold againB at h; exact (Bool.and_eq_true_iff.1 h).2), again_is]
  unfold wereT pkT
  by_cases h1 : get (getT L n) 0 = 2
  · by_cases h2 : 1 ≤ q.k
    · rw [if_pos (by simp [h1, h2]), if_pos ⟨h1, h2⟩]
      rw [show stT (getT L n) 2 = getT L n from put_same (by omega) h1]
    · rw [if_neg (by simp [h2]), if_neg (by omega)]
  · rw [if_neg (by simp [h1]), if_neg (by omega)]
theorem wake_get (L : List Tk) (n x : Int) : getT (wakeL L n x) n = if get (getT L n) 0 = 2 then wkT (getT L n) x else getT L n := by
  unfold wakeL
  rw [doL_get fun h => is_here h, is_state (by omega)]
  by_cases h1 : get (getT L n) 0 = 2
  · rw [if_pos (decide_eq_true h1), if_pos h1]
  · rw [if_neg (by simp [h1]), if_neg h1]
end Go.Proofs.Ythdipkdolgcmgaa.TaskI
