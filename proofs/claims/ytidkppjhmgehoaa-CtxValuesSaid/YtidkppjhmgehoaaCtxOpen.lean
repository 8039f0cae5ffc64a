/-
  What acts that came in read as (layer 6). No condition.
-/
import Derived.Test.YtidkppjhmgehoaaOpen
import Derived.Test.YtidkppjhmgehoaaCtxDoes
namespace Go.Proofs.Ytidkppjhmgehoaa.ctxRows
open Go.ChangeShapes Go.WideShapes Go.ChangeAt Go.RowKit Mem CtxI

theorem own : ownKnob Try.prog.godebug = none := by kernel_rfl
theorem laidOut : laidOutB Try.prog = true := by kernel_rfl
theorem cellsAct : Try.prog.cellsOf 32 = 5 := by kernel_rfl
theorem cells0 : Try.prog.cellsOf 3 = 1 := by kernel_rfl
theorem cells1 : Try.prog.cellsOf 2 = 1 := by kernel_rfl

section
variable {H : Type} {enc : TypeId × Value → H} {w : World} {base : Nat} {spare : Nat → Bool} {held : Bool}
theorem act_of (fuel : Nat) (cs : List Value) (y : DataW H × List MemPlace) (h : DataW.trod enc Try.prog w base spare held fuel 32 cs = some y) (hl : cs.length = 5) : ∃ a, acE.cells a = cs ∧ AcIn a := by
  obtain ⟨a, h0, w0⟩ := LawK.int_cell Try.underlying32 h 0 rfl Try.underlying3 cells0
  obtain ⟨b, h1, w1⟩ := LawK.int_cell Try.underlying32 h 1 rfl Try.underlying3 cells0
  obtain ⟨c, h2, w2⟩ := LawK.int_cell Try.underlying32 h 2 rfl Try.underlying2 cells1
  obtain ⟨d, h3, w3⟩ := LawK.int_cell Try.underlying32 h 3 rfl Try.underlying2 cells1
  obtain ⟨e, h4, w4⟩ := LawK.int_cell Try.underlying32 h 4 rfl Try.underlying2 cells1
  match cs, hl with
  | [x0, x1, x2, x3, x4], _ =>
    simp at h0 h1 h2 h3 h4
    subst h0 h1 h2 h3 h4
    exact ⟨⟨a, b, c, d, e⟩, rfl, LawK.in64 w1, LawK.in64 w2, LawK.in64 w3, LawK.in64 w4⟩
theorem acts_of {fuel : Nat} {A : Option Addr} {len cap : Nat} {x : DataW H × List MemPlace} (h : DataW.trod enc Try.prog w base spare held fuel 22 [.slice A len cap] = some x) :
    len ≤ 9223372036854775807 ∧ ∃ zs, (len ≤ 1000000 → zs.length = len ∧ RdL acE w (fun b => b < w.heap.size) (.slice A len cap) zs ∧ ∀ z ∈ zs, AcIn z) := by
  obtain ⟨hm, hx⟩ := LawK.open_list acE (ok := AcIn) Try.underlying22 cellsAct act_of h
  unfold maxLen at hm
  refine ⟨by omega, ?_⟩
  by_cases hl : len ≤ 1000000
  · obtain ⟨zs, h1, h2, h3⟩ := hx hl
    exact ⟨zs, fun _ => ⟨h1, h2, h3⟩⟩
  · exact ⟨[], fun h => absurd h hl⟩
end
end Go.Proofs.Ytidkppjhmgehoaa.ctxRows
