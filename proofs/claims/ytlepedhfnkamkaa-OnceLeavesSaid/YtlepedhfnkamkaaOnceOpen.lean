/-
  What acts that came in read as (layer 11): two numbers each. No condition.
-/
import Derived.Test.YtlepedhfnkamkaaOpen
import Derived.Test.YtlepedhfnkamkaaActs
namespace Go.Proofs.Ytlepedhfnkamkaa.onceRows
open Go.ChangeShapes Go.WideShapes Go.ChangeAt Go.RowKit Mem MutP Acts

theorem own : ownKnob Try.prog.godebug = none := by kernel_rfl
theorem laidOut : laidOutB Try.prog = true := by kernel_rfl
theorem cellsAct : Try.prog.cellsOf 32 = 2 := by kernel_rfl
theorem cells0 : Try.prog.cellsOf 3 = 1 := by kernel_rfl

section
variable {H : Type} {enc : TypeId × Value → H} {w : World} {base : Nat} {spare : Nat → Bool} {held : Bool}
theorem act_of (fuel : Nat) (cs : List Value) (y : DataW H × List MemPlace) (h : DataW.trod enc Try.prog w base spare held fuel 32 cs = some y) (hl : cs.length = 2) : ∃ a, acE.cells a = cs ∧ (In64 a.d ∧ In64 a.t) := by
  obtain ⟨a, h0, w0⟩ := LawK.int_cell Try.underlying32 h 0 rfl Try.underlying3 cells0
  obtain ⟨b, h1, w1⟩ := LawK.int_cell Try.underlying32 h 1 rfl Try.underlying3 cells0
  match cs, hl with
  | [x, y], _ =>
    simp at h0 h1
    subst h0 h1
    exact ⟨⟨a, b⟩, rfl, LawK.in64 w0, LawK.in64 w1⟩
theorem acts_of {fuel : Nat} {A : Option Addr} {len cap : Nat} {x : DataW H × List MemPlace} (h : DataW.trod enc Try.prog w base spare held fuel 22 [.slice A len cap] = some x) :
    len ≤ 9223372036854775807 ∧ ∃ zs, ZsIn w A len cap zs := by
  obtain ⟨hm, hx⟩ := LawK.open_list acE (ok := fun z => In64 z.d ∧ In64 z.t) Try.underlying22 cellsAct act_of h
  unfold maxLen at hm
  refine ⟨by omega, ?_⟩
  by_cases hl : len ≤ 1000000
  · obtain ⟨zs, h1, h2, h3⟩ := hx hl
    exact ⟨zs, fun _ => ⟨h1, h2, h3⟩⟩
  · exact ⟨[], fun h => absurd h hl⟩
end
end Go.Proofs.Ytlepedhfnkamkaa.onceRows
