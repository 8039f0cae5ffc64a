/-
  What the arguments of the laws of layer 18 read as. Over any program that has their types. No condition.
-/
import Derived.Test.YthdipkdolgcmgaaOpen
import Derived.Test.YthdipkdolgcmgaaTaskA
namespace Go.Proofs.Ythdipkdolgcmgaa.taskRows
open Go.ChangeShapes Go.WideShapes Go.ChangeAt Go.RowKit Mem MutP TaskP TaskI

theorem own : ownKnob Try.prog.godebug = none := by kernel_rfl
theorem laidOut : laidOutB Try.prog = true := by kernel_rfl
theorem cellsAct : Try.prog.cellsOf 34 = 11 := by kernel_rfl
theorem cellsPark : Try.prog.cellsOf 32 = 6 := by kernel_rfl
theorem cells0 : Try.prog.cellsOf 3 = 1 := by kernel_rfl
theorem cells8 : Try.prog.cellsOf 2 = 1 := by kernel_rfl

def pkE : Enc Pk := ⟨6, fun q => [.int .i64 q.k, .int .i64 q.o, .int .i64 q.c, .int .i64 q.r, .int .i64 q.l, .int .i64 q.n], fun _ => rfl, by intro a u hu; simp at hu; rcases hu with rfl | rfl | rfl | rfl | rfl | rfl <;> rfl, by omega⟩
section
variable {H : Type} {enc : TypeId × Value → H} {w : World} {base : Nat} {spare : Nat → Bool} {held : Bool}
theorem park_of (fuel : Nat) (cs : List Value) (y : DataW H × List MemPlace) (h : DataW.trod enc Try.prog w base spare held fuel 32 cs = some y) (hl : cs.length = 6) : ∃ a, pkE.cells a = cs ∧ InPk a := by
  obtain ⟨a0, h0, w0⟩ := LawK.int_cell Try.underlying32 h 0 rfl Try.underlying3 cells0
  obtain ⟨a1, h1, w1⟩ := LawK.int_cell Try.underlying32 h 1 rfl Try.underlying3 cells0
  obtain ⟨a2, h2, w2⟩ := LawK.int_cell Try.underlying32 h 2 rfl Try.underlying3 cells0
  obtain ⟨a3, h3, w3⟩ := LawK.int_cell Try.underlying32 h 3 rfl Try.underlying3 cells0
  obtain ⟨a4, h4, w4⟩ := LawK.int_cell Try.underlying32 h 4 rfl Try.underlying3 cells0
  obtain ⟨a5, h5, w5⟩ := LawK.int_cell Try.underlying32 h 5 rfl Try.underlying2 cells8
  match cs, hl with
  | [x, y, z, u, v, q], _ =>
    simp at h0 h1 h2 h3 h4 h5
    subst h0 h1 h2 h3 h4 h5
    exact ⟨⟨a0, a1, a2, a3, a4, a5⟩, rfl, LawK.in64 w0, LawK.in64 w1, LawK.in64 w2, LawK.in64 w3, LawK.in64 w4, LawK.in64 w5⟩
theorem act_of (fuel : Nat) (cs : List Value) (y : DataW H × List MemPlace) (h : DataW.trod enc Try.prog w base spare held fuel 34 cs = some y) (hl : cs.length = 11) : ∃ a, acE.cells a = cs ∧ AcIn a := by
  obtain ⟨a0, h0, w0⟩ := LawK.int_cell Try.underlying34 h 0 rfl Try.underlying3 cells0
  obtain ⟨a1, h1, w1⟩ := LawK.int_cell Try.underlying34 h 1 rfl Try.underlying3 cells0
  obtain ⟨a2, h2, w2⟩ := LawK.int_cell Try.underlying34 h 2 rfl Try.underlying3 cells0
  obtain ⟨a3, h3, w3⟩ := LawK.int_cell Try.underlying34 h 3 rfl Try.underlying3 cells0
  obtain ⟨a4, h4, w4⟩ := LawK.int_cell Try.underlying34 h 4 rfl Try.underlying2 cells8
  obtain ⟨f5, y5, h5⟩ := LawK.field_cells Try.underlying34 h 5 _ rfl
  have h5 : DataW.trod enc Try.prog w base spare held f5 32 ((cs.drop 5).take (Try.prog.cellsOf 32)) = some y5 := h5
  rw [cellsPark] at h5
  obtain ⟨q, hq, hqi⟩ := park_of f5 _ y5 h5 (by rw [List.length_take, List.length_drop, hl]; decide)
  match cs, hl with
  | [x0, x1, x2, x3, x4, x5, x6, x7, x8, x9, x10], _ =>
    simp at h0 h1 h2 h3 h4
    subst h0 h1 h2 h3 h4
    have hq : [Value.int .i64 q.k, .int .i64 q.o, .int .i64 q.c, .int .i64 q.r, .int .i64 q.l, .int .i64 q.n] = [x5, x6, x7, x8, x9, x10] := hq
    injection hq with e1 hq
    injection hq with e2 hq
    injection hq with e3 hq
    injection hq with e4 hq
    injection hq with e5 hq
    injection hq with e6 hq
    subst e1 e2 e3 e4 e5 e6
    exact ⟨⟨a0, a1, a2, a3, a4, q⟩, rfl, LawK.in64 w0, LawK.in64 w1, LawK.in64 w2, LawK.in64 w3, LawK.in64 w4, hqi⟩
theorem acts_of {fuel : Nat} {A : Option Addr} {len cap : Nat} {x : DataW H × List MemPlace} (h : DataW.trod enc Try.prog w base spare held fuel 22 [.slice A len cap] = some x) :
    len ≤ 9223372036854775807 ∧ ∃ zs, ZsIn w A len cap zs := by
  obtain ⟨hm, hx⟩ := LawK.open_list acE (ok := AcIn) Try.underlying22 cellsAct act_of h
  unfold maxLen at hm
  refine ⟨by omega, ?_⟩
  by_cases hl : len ≤ 1000000
  · obtain ⟨zs, h1, h2, h3⟩ := hx hl
    exact ⟨zs, fun _ => ⟨h1, h2, h3⟩⟩
  · exact ⟨[], fun h => absurd h hl⟩
theorem byte_of {a : Int} (h : (Lit.int .u8 a).wf = true) : 0 ≤ a ∧ a ≤ 255 := by
  have h1 : IntKind.u8.min = 0 := rfl
  have h2 : IntKind.u8.max = 255 := rfl
  simp only [Lit.wf, Bool.and_eq_true, decide_eq_true_eq] at h
  omega
end
end Go.Proofs.Ythdipkdolgcmgaa.taskRows
