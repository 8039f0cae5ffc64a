/-
  What acts that came in read as (layer 5). No condition.
-/
import Derived.Test.YtgmbpknmjeegiaaOpen
import Derived.Test.YtgmbpknmjeegiaaTreeReaches
namespace Go.Proofs.Ytgmbpknmjeegiaa.treeRows
open Go.ChangeShapes Go.WideShapes Go.ChangeAt Go.RowKit Mem TreeI

theorem own : ownKnob Try.prog.godebug = none := by kernel_rfl
theorem laidOut : laidOutB Try.prog = true := by kernel_rfl
theorem cellsAct : Try.prog.cellsOf 32 = 3 := by kernel_rfl
theorem cells0 : Try.prog.cellsOf 3 = 1 := by kernel_rfl
theorem cellsB : Try.prog.cellsOf 4 = 1 := by kernel_rfl
theorem in8 {a : Int} (h : (Lit.int .u8 a).wf = true) : 0 ≤ a ∧ a ≤ 255 := by
  have h1 : IntKind.u8.min = 0 := rfl
  have h2 : IntKind.u8.max = 255 := rfl
  simp only [Lit.wf, Bool.and_eq_true, decide_eq_true_eq] at h
  omega
section
variable {H : Type} {enc : TypeId × Value → H} {w : World} {base : Nat} {spare : Nat → Bool} {held : Bool}
/-- A struct's field that is a bool: its cell. -/
theorem bool_cell {P : Program} {t : TypeId} {fs : Array Field} {fuel : Nat} {cs : List Value} {x : DataW H × List MemPlace} (he : P.underlying t = some (.struct fs)) (h : DataW.trod enc P w base spare held fuel t cs = some x)
    (j : Nat) {f : Field} (hf : fs[j]? = some f) (hi : P.underlying f.type = some .bool) (hc : P.cellsOf f.type = 1) : ∃ b, cs[f.offset]? = some (.bool b) := by
  obtain ⟨fuel', y, hy⟩ := LawK.field_cells he h j f hf
  obtain ⟨b, hb, _⟩ := DataW.trod_bool hi hy
  rw [hc] at hb
  refine ⟨b, ?_⟩
  have := congrArg (fun l : List Value => l[0]?) hb
  simpa [List.getElem?_take, List.getElem?_drop] using this
theorem act_of (fuel : Nat) (cs : List Value) (y : DataW H × List MemPlace) (h : DataW.trod enc Try.prog w base spare held fuel 32 cs = some y) (hl : cs.length = 3) : ∃ a, actE.cells a = cs ∧ In64 a.2.2 := by
  obtain ⟨r, h0⟩ := bool_cell Try.underlying32 h 0 rfl Try.underlying4 cellsB
  obtain ⟨c, h1⟩ := bool_cell Try.underlying32 h 1 rfl Try.underlying4 cellsB
  obtain ⟨o, h2, w2⟩ := LawK.int_cell Try.underlying32 h 2 rfl Try.underlying3 cells0
  match cs, hl with
  | [x, y, z], _ =>
    simp at h0 h1 h2
    subst h0 h1 h2
    exact ⟨⟨r, c, o⟩, rfl, LawK.in64 w2⟩
theorem acts_of {fuel : Nat} {A : Option Addr} {len cap : Nat} {x : DataW H × List MemPlace} (h : DataW.trod enc Try.prog w base spare held fuel 22 [.slice A len cap] = some x) :
    len ≤ 9223372036854775807 ∧ ∃ zs, (len ≤ 1000000 → zs.length = len ∧ RdL actE w (fun b => b < w.heap.size) (.slice A len cap) zs ∧ ∀ z ∈ zs, In64 z.2.2) := by
  obtain ⟨hm, hx⟩ := LawK.open_list actE (ok := fun a => In64 a.2.2) Try.underlying22 cellsAct act_of h
  unfold maxLen at hm
  refine ⟨by omega, ?_⟩
  by_cases hl : len ≤ 1000000
  · obtain ⟨zs, h1, h2, h3⟩ := hx hl
    exact ⟨zs, fun _ => ⟨h1, h2, h3⟩⟩
  · exact ⟨[], fun h => absurd h hl⟩
end
end Go.Proofs.Ytgmbpknmjeegiaa.treeRows
