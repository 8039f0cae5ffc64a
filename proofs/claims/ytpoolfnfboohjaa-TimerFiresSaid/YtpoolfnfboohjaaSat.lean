/-
  Contracts of the functions of package sat, as it landed, for the layers above: sums, and where they are cut. Condition: the arguments are of 64 bits.
-/
import Derived.Test.YtpoolfnfboohjaaMem
import Derived.Test.YtpoolfnfboohjaaRows
namespace Go.Proofs.Ytpoolfnfboohjaa.SatC
open Go.ChangeShapes Go.WideShapes Go.ChangeAt Go.RowKit Mem

def cutv (n : Int) (a b : Bool) : Int := if a = true then 9223372036854775807 else if b = true then -9223372036854775808 else n
def satv (n : Int) : Int := if 9223372036854775807 < n then 9223372036854775807 else if n < -9223372036854775808 then -9223372036854775808 else n
theorem cut_any (n : Int) (a b : Bool) (w : World) :
    Calls Try.prog 54 #[.int .i64 n, .bool a, .bool b] w fun e w' => e = .returned (.int .i64 (cutv n a b)) ∧ w = w' := by
  cases a <;> cases b
  all_goals
    go_enter Try.func54, Try.ntmps54
    go_wp2
    go_ret
    exact ⟨rfl, rfl⟩
theorem add_any (a b : Int) (w : World) (ha : -9223372036854775808 ≤ a) (ha' : a ≤ 9223372036854775807) (hb : -9223372036854775808 ≤ b) (hb' : b ≤ 9223372036854775807) :
    Calls Try.prog 44 #[.int .i64 a, .int .i64 b] w fun e w' => e = .returned (.int .i64 (satv (a + b))) ∧ w = w' := by
  rcases (by omega : (0 < b ∧ 0 ≤ b ∧ 9223372036854775807 - b < a) ∨ (0 < b ∧ 0 ≤ b ∧ a ≤ 9223372036854775807 - b) ∨ (b ≤ 0 ∧ 0 ≤ b) ∨ (b ≤ 0 ∧ b < 0 ∧ a < -9223372036854775808 - b) ∨ (b ≤ 0 ∧ b < 0 ∧ -9223372036854775808 - b ≤ a)) with ⟨h1, h2, h3⟩ | ⟨h1, h2, h3⟩ | ⟨h1, h2⟩ | ⟨h1, h2, h3⟩ | ⟨h1, h2, h3⟩
  all_goals
    go_enter Try.func44, Try.ntmps44
    go_wp2_with (go_at_call 54; refine (cut_any _ _ _ _).mono ?_; rintro e w' ⟨rfl, rfl⟩)
    go_ret
    exact ⟨ret_int (by unfold cutv satv; simp; omega), rfl⟩
end Go.Proofs.Ytpoolfnfboohjaa.SatC
