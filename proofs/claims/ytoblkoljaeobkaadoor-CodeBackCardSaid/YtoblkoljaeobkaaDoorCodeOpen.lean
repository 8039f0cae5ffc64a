/-
  What the arguments of the laws of layer 16 read as. Over any program that has their types. No condition.
-/
import Derived.Test.YtoblkoljaeobkaaDoorOpen
import Derived.Test.YtoblkoljaeobkaaDoorCodeN
import Derived.Test.YtoblkoljaeobkaaDoorCodeT
namespace Go.Proofs.YtoblkoljaeobkaaDoor.codeRows
open Go.ChangeShapes Go.WideShapes Go.ChangeAt Go.RowKit Mem MutP CodeP Hand RefCode CodeI

theorem own : ownKnob Tryd.prog.godebug = none := by kernel_rfl
/-- The start that the initialisers leave meets the rows' condition. -/
theorem door_met (os : Os) (args : Array Value) : laidMetH Tryd.prog CodeT.forms ((World.doorLaid Tryd.prog 14 os).forCall (fun _ _ => 0) ⟨#[], args, []⟩).memory :=
  laidMetH_of_parts3 (fuel := 8) (laidMet_of_run' 8 (by kernel_rfl) (by kernel_rfl)) (by kernel_rfl) (by kernel_rfl)
theorem laidOut : laidOutB Tryd.prog = true := by kernel_rfl
theorem cellsInstr : Tryd.prog.cellsOf 23 = 4 := by kernel_rfl
theorem cells0 : Tryd.prog.cellsOf 3 = 1 := by kernel_rfl
theorem cells8 : Tryd.prog.cellsOf 2 = 1 := by kernel_rfl
theorem cellsB : Tryd.prog.cellsOf 5 = 1 := by kernel_rfl
theorem byte_of {a : Int} (h : (Lit.int .u8 a).wf = true) : Byte a := by
  have h1 : IntKind.u8.min = 0 := rfl
  have h2 : IntKind.u8.max = 255 := rfl
  simp only [Lit.wf, Bool.and_eq_true, decide_eq_true_eq] at h
  unfold Byte
  omega

section
variable {H : Type} {enc : TypeId × Value → H} {w : World} {base : Nat} {spare : Nat → Bool} {held : Bool}
theorem fits_of {P : Program} {t e : TypeId} {fuel : Nat} {A : Option Addr} {len cap : Nat} {x : DataW H × List MemPlace} (ht : P.underlying t = some (.slice e)) (h : DataW.trod enc P w base spare held fuel t [.slice A len cap] = some x) : len ≤ cap := by
  rcases Go.Deep.open_slice ht h with ⟨h0, _⟩ | ⟨a, len', cap', m, n, D, Pl, hcs, hb, hl, _⟩
  · simp at h0
    obtain ⟨rfl, rfl, rfl⟩ := h0
    exact Nat.le_refl _
  · simp at hcs
    obtain ⟨rfl, rfl, rfl⟩ := hcs
    exact hl
theorem in_of (fuel : Nat) (cs : List Value) (y : DataW H × List MemPlace) (h : DataW.trod enc Tryd.prog w base spare held fuel 23 cs = some y) (hl : cs.length = 4) : ∃ a, inE.cells a = cs ∧ InIn a := by
  obtain ⟨a, h0, w0⟩ := LawK.int_cell Tryd.underlying23 h 0 rfl Tryd.underlying3 cells0
  obtain ⟨b, h1, w1⟩ := LawK.int_cell Tryd.underlying23 h 1 rfl Tryd.underlying3 cells0
  obtain ⟨c, h2, w2⟩ := LawK.int_cell Tryd.underlying23 h 2 rfl Tryd.underlying3 cells0
  obtain ⟨d, h3, w3⟩ := LawK.int_cell Tryd.underlying23 h 3 rfl Tryd.underlying2 cells8
  match cs, hl with
  | [x, y, z, u], _ =>
    simp at h0 h1 h2 h3
    subst h0 h1 h2 h3
    exact ⟨⟨a, b, c, d⟩, rfl, LawK.in64 w0, LawK.in64 w1, LawK.in64 w2, LawK.in64 w3⟩
theorem by_of (fuel : Nat) (cs : List Value) (y : DataW H × List MemPlace) (h : DataW.trod enc Tryd.prog w base spare held fuel 5 cs = some y) (_ : cs.length = 1) : ∃ a, byE.cells a = cs ∧ Byte a := by
  obtain ⟨n, hn, _, hw⟩ := DataW.trod_int Tryd.underlying5 h
  exact ⟨n, hn.symm, byte_of hw⟩
theorem ins_of {fuel : Nat} {A : Option Addr} {len cap : Nat} {x : DataW H × List MemPlace} (h : DataW.trod enc Tryd.prog w base spare held fuel 24 [.slice A len cap] = some x) : ∃ zs, LsIn w A len cap zs := by
  obtain ⟨_, hx⟩ := LawK.open_list inE (ok := InIn) Tryd.underlying24 cellsInstr in_of h
  have hf := fits_of Tryd.underlying24 h
  by_cases hl : len ≤ 1000000
  · obtain ⟨zs, h1, h2, h3⟩ := hx hl
    exact ⟨zs, hf, fun _ => ⟨h1, h2, h3⟩⟩
  · exact ⟨[], hf, fun h => absurd h hl⟩
theorem bys_of {fuel : Nat} {A : Option Addr} {len cap : Nat} {x : DataW H × List MemPlace} (h : DataW.trod enc Tryd.prog w base spare held fuel 25 [.slice A len cap] = some x) : ∃ zs, BsIn w A len cap zs := by
  obtain ⟨_, hx⟩ := LawK.open_list byE (ok := Byte) Tryd.underlying25 cellsB by_of h
  have hf := fits_of Tryd.underlying25 h
  by_cases hl : len ≤ 1000000
  · obtain ⟨zs, h1, h2, h3⟩ := hx hl
    exact ⟨zs, hf, fun _ => ⟨h1, h2, h3⟩⟩
  · exact ⟨[], hf, fun h => absurd h hl⟩
end
end Go.Proofs.YtoblkoljaeobkaaDoor.codeRows
