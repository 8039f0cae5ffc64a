/-
  What acts that came in read as (layer 7): numbers, and a slice of numbers. No condition.
-/
import Derived.Test.YtindcpcfilfnkaaOpen
import Derived.Test.YtindcpcfilfnkaaAfterDoes
namespace Go.Proofs.Ytindcpcfilfnkaa.afterRows
open Go.ChangeShapes Go.WideShapes Go.ChangeAt Go.RowKit Mem AfterP AfterI

theorem own : ownKnob Try.prog.godebug = none := by kernel_rfl
theorem laidOut : laidOutB Try.prog = true := by kernel_rfl
theorem cellsAct : Try.prog.cellsOf 34 = 4 := by kernel_rfl
theorem cells0 : Try.prog.cellsOf 3 = 1 := by kernel_rfl
theorem cells1 : Try.prog.cellsOf 32 = 1 := by kernel_rfl
theorem in8 {a : Int} (h : (Lit.int .u8 a).wf = true) : 0 ≤ a ∧ a ≤ 255 := by
  have h1 : IntKind.u8.min = 0 := rfl
  have h2 : IntKind.u8.max = 255 := rfl
  simp only [Lit.wf, Bool.and_eq_true, decide_eq_true_eq] at h
  omega

section
variable {H : Type} {enc : TypeId × Value → H} {w : World} {base : Nat} {spare : Nat → Bool} {held : Bool}
theorem nums_of {fuel : Nat} {A : Option Addr} {len cap : Nat} {x : DataW H × List MemPlace} (h : DataW.trod enc Try.prog w base spare held fuel 32 [.slice A len cap] = some x) :
    len ≤ 9223372036854775807 ∧ (len ≤ 1000000 → ∃ l : List Int, l.length = len ∧ Rd w (fun b => b < w.heap.size) (.slice A len cap) l ∧ ∀ y ∈ l, In64 y) := by
  obtain ⟨hm, zs, h1, h2, h3⟩ := LawK.open_nums Try.underlying32 Try.underlying3 cells0 h
  unfold maxLen at hm
  refine ⟨by omega, fun hl => ⟨zs, h1, ?_, h2⟩⟩
  subst h1
  refine ⟨A, cap, rfl, hl, fun hp => ?_⟩
  obtain ⟨b, off, e, hb, hc⟩ := h3 hp
  exact ⟨b, off, e, hb, hb, hc⟩
theorem act_of (fuel : Nat) (cs : List Value) (y : DataW H × List MemPlace) (h : DataW.trod enc Try.prog w base spare held fuel 34 cs = some y) (hl : cs.length = 4) : ∃ a, acE.cells a = cs ∧ (AcIn w a ∧ a.on ≤ 9223372036854775807) := by
  obtain ⟨a, h0, w0⟩ := LawK.int_cell Try.underlying34 h 0 rfl Try.underlying3 cells0
  obtain ⟨b, h1, w1⟩ := LawK.int_cell Try.underlying34 h 1 rfl Try.underlying3 cells0
  obtain ⟨c, h2, w2⟩ := LawK.int_cell Try.underlying34 h 2 rfl Try.underlying3 cells0
  obtain ⟨fuel', y', h3⟩ := LawK.field_cells Try.underlying34 h 3 _ rfl
  match cs, hl with
  | [x0, x1, x2, x3], _ =>
    simp at h0 h1 h2
    subst h0 h1 h2
    have h3' : DataW.trod enc Try.prog w base spare held fuel' 32 [x3] = some y' := by
      have : (([Value.int .i64 a, .int .i64 b, .int .i64 c, x3] : List Value).drop 3).take (Try.prog.cellsOf 32) = [x3] := by rw [cells1]; rfl
      rw [← this]; exact h3
    have hx : ∃ A len cap, x3 = .slice A len cap := by
      rcases Go.Deep.open_slice Try.underlying32 h3' with ⟨h4, _⟩ | ⟨a, len', cap', _, _, _, _, h4, _⟩
      · exact ⟨none, 0, 0, by simpa using h4⟩
      · exact ⟨_, _, _, by simpa using h4⟩
    obtain ⟨A, len, cap, rfl⟩ := hx
    obtain ⟨g1, g2⟩ := nums_of h3'
    exact ⟨⟨a, b, c, A, len, cap⟩, rfl, ⟨LawK.in64 w0, LawK.in64 w1, LawK.in64 w2, g2⟩, g1⟩
theorem acts_of {fuel : Nat} {A : Option Addr} {len cap : Nat} {x : DataW H × List MemPlace} (h : DataW.trod enc Try.prog w base spare held fuel 22 [.slice A len cap] = some x) :
    len ≤ 9223372036854775807 ∧ ∃ zs, ZsIn w A len cap zs := by
  obtain ⟨hm, hx⟩ := LawK.open_list acE (ok := fun z => AcIn w z ∧ z.on ≤ 9223372036854775807) Try.underlying22 cellsAct act_of h
  unfold maxLen at hm
  refine ⟨by omega, ?_⟩
  by_cases hl : len ≤ 1000000
  · obtain ⟨zs, h1, h2, h3⟩ := hx hl
    exact ⟨zs, fun _ => ⟨h1, h2, h3⟩⟩
  · exact ⟨[], fun h => absurd h hl⟩
end
end Go.Proofs.Ytindcpcfilfnkaa.afterRows
