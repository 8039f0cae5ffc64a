/-
  Contracts of sat.Fits, as it landed, and of countermandref01.Fits: whether there is room for more. Condition: the arguments are of 64 bits.
-/
import Derived.Test.YtaplikopapnlpaaMutP
import Derived.Test.YtaplikopapnlpaaRows
namespace Go.Proofs.Ytaplikopapnlpaa.FitsC
open Go.ChangeShapes Go.WideShapes Go.ChangeAt Go.RowKit Mem MutP

def fitsv (a b c : Int) : Bool := decide (0 ≤ a ∧ 0 ≤ b ∧ 0 ≤ c ∧ a + b ≤ c)
def satv (n : Int) : Int := if 9223372036854775807 < n then 9223372036854775807 else if n < -9223372036854775808 then -9223372036854775808 else n

theorem fits_any (a b c : Int) (w : World) (ha : In64 a) (hb : In64 b) (hc : In64 c) :
    Calls Try.prog 20 #[.int .i64 a, .int .i64 b, .int .i64 c] w fun e w' => e = .returned (.bool (fitsv a b c)) ∧ w = w' := by
  obtain ⟨ha, ha'⟩ := ha
  obtain ⟨hb, hb'⟩ := hb
  obtain ⟨hc, hc'⟩ := hc
  rcases (by omega : (a < 0) ∨ (0 ≤ a ∧ b < 0) ∨ (0 ≤ a ∧ 0 ≤ b ∧ c < 0) ∨ (0 ≤ a ∧ 0 ≤ b ∧ 0 ≤ c ∧ b ≤ c - a) ∨ (0 ≤ a ∧ 0 ≤ b ∧ 0 ≤ c ∧ c - a < b)) with h1 | ⟨h1, h2⟩ | ⟨h1, h2, h3⟩ | ⟨h1, h2, h3, h4⟩ | ⟨h1, h2, h3, h4⟩
  all_goals
    go_enter Try.func20, Try.ntmps20
    go_wp2
    go_ret
    exact ⟨ret_bool (by unfold fitsv; first | (symm; apply decide_eq_true; omega) | (symm; apply decide_eq_false; omega) | (rw [Bool.eq_iff_iff]; simp; omega)), rfl⟩

theorem radd_any (a b : Int) (w : World) (ha : -9223372036854775808 ≤ a) (ha' : a ≤ 9223372036854775807) (hb : -9223372036854775808 ≤ b) (hb' : b ≤ 9223372036854775807) :
    Calls Try.prog 41 #[.int .i64 a, .int .i64 b] w fun e w' => e = .returned (.int .i64 (satv (a + b))) ∧ w = w' := by
  rcases (by omega : (0 < b ∧ 0 ≤ b ∧ 9223372036854775807 - b < a) ∨ (0 < b ∧ 0 ≤ b ∧ a ≤ 9223372036854775807 - b) ∨ (b ≤ 0 ∧ 0 ≤ b) ∨ (b ≤ 0 ∧ b < 0 ∧ a < -9223372036854775808 - b) ∨ (b ≤ 0 ∧ b < 0 ∧ -9223372036854775808 - b ≤ a)) with ⟨h1, h2, h3⟩ | ⟨h1, h2, h3⟩ | ⟨h1, h2⟩ | ⟨h1, h2, h3⟩ | ⟨h1, h2, h3⟩
  all_goals
    go_enter Try.func41, Try.ntmps41
    go_wp2
    go_ret
    exact ⟨ret_int (by unfold satv; first | omega | (simp; omega)), rfl⟩

theorem rsub_any (a b : Int) (w : World) (ha : -9223372036854775808 ≤ a) (ha' : a ≤ 9223372036854775807) (hb : -9223372036854775808 ≤ b) (hb' : b ≤ 9223372036854775807) :
    Calls Try.prog 42 #[.int .i64 a, .int .i64 b] w fun e w' => e = .returned (.int .i64 (satv (a - b))) ∧ w = w' := by
  rcases (by omega : (0 < b ∧ 0 ≤ b ∧ a < -9223372036854775808 + b) ∨ (0 < b ∧ 0 ≤ b ∧ -9223372036854775808 + b ≤ a) ∨ (b ≤ 0 ∧ 0 ≤ b) ∨ (b ≤ 0 ∧ b < 0 ∧ 9223372036854775807 + b < a) ∨ (b ≤ 0 ∧ b < 0 ∧ a ≤ 9223372036854775807 + b)) with ⟨h1, h2, h3⟩ | ⟨h1, h2, h3⟩ | ⟨h1, h2⟩ | ⟨h1, h2, h3⟩ | ⟨h1, h2, h3⟩
  all_goals
    go_enter Try.func42, Try.ntmps42
    go_wp2
    go_ret
    exact ⟨ret_int (by unfold satv; first | omega | (simp; omega)), rfl⟩

theorem satv_cases (n : Int) : (n > 9223372036854775807 ∧ satv n = 9223372036854775807) ∨ (n < -9223372036854775808 ∧ satv n = -9223372036854775808) ∨ (-9223372036854775808 ≤ n ∧ n ≤ 9223372036854775807 ∧ satv n = n) := by
  unfold satv; omega

theorem rfits_any (a b c : Int) (w : World) (ha : In64 a) (hb : In64 b) (hc : In64 c) :
    Calls Try.prog 28 #[.int .i64 a, .int .i64 b, .int .i64 c] w fun e w' => e = .returned (.bool (fitsv a b c)) ∧ w = w' := by
  obtain ⟨ha, ha'⟩ := ha
  obtain ⟨hb, hb'⟩ := hb
  obtain ⟨hc, hc'⟩ := hc
  rcases (by omega : (a < 0) ∨ (0 ≤ a ∧ b < 0) ∨ (0 ≤ a ∧ 0 ≤ b ∧ c < 0) ∨ (0 ≤ a ∧ 0 ≤ b ∧ 0 ≤ c)) with h1 | ⟨h1, h2⟩ | ⟨h1, h2, h3⟩ | ⟨h1, h2, h3⟩
  all_goals
    go_enter Try.func28, Try.ntmps28
    go_wp2_with (first | (go_at_call 41; refine (radd_any _ _ _ ha ha' hb hb').mono ?_; rintro e w' ⟨rfl, rfl⟩) | (go_at_call 42; refine (rsub_any _ _ _ (by omega) (by omega) hb hb').mono ?_; rintro e w' ⟨rfl, rfl⟩))
    all_goals
      go_ret
      exact ⟨ret_bool (by
        rw [Bool.eq_iff_iff]; unfold fitsv
        have s1 := satv_cases (a + b)
        have s2 := satv_cases (9223372036854775807 - b)
        generalize satv (a + b) = x at *
        generalize satv (9223372036854775807 - b) = y at *
        simp; omega), rfl⟩
/-- .. where the answer is known. -/
theorem fits_is {a b c : Int} {w : World} (ha : In64 a) (hb : In64 b) (hc : In64 c) {v : Bool} (hv : fitsv a b c = v) :
    Calls Try.prog 20 #[.int .i64 a, .int .i64 b, .int .i64 c] w fun e w' => e = .returned (.bool v) ∧ w = w' := hv ▸ fits_any a b c w ha hb hc
theorem rfits_is {a b c : Int} {w : World} (ha : In64 a) (hb : In64 b) (hc : In64 c) {v : Bool} (hv : fitsv a b c = v) :
    Calls Try.prog 28 #[.int .i64 a, .int .i64 b, .int .i64 c] w fun e w' => e = .returned (.bool v) ∧ w = w' := hv ▸ rfits_any a b c w ha hb hc
theorem fits_yes {a b c : Int} (h : 0 ≤ a ∧ 0 ≤ b ∧ a + b ≤ c) : fitsv a b c = true := by unfold fitsv; exact decide_eq_true (by omega)
theorem fits_no {a b c : Int} (h : b < 0 ∨ c < a + b) : fitsv a b c = false := by unfold fitsv; exact decide_eq_false (by omega)
end Go.Proofs.Ytaplikopapnlpaa.FitsC
