/-
  What the arguments of the laws of layer 17 read as. Over any program that has their types. No condition.
-/
import Derived.Test.YtolooaahaofflaaDoorOpen
import Derived.Test.YtolooaahaofflaaDoorCodeT
import Derived.Test.YtolooaahaofflaaDoorScriTells
import Derived.LaidMore
import Derived.Stop.Joined
namespace Go.Proofs.YtolooaahaofflaaDoor.scriRows
open Go.ChangeShapes Go.WideShapes Go.ChangeAt Go.RowKit Mem MutP CodeP ScriptP Hand RefCode CodeI Scr RefScr ScriI

theorem own : ownKnob Tryd.prog.godebug = none := by kernel_rfl
/-- The start that the initialisers leave meets the rows' condition. -/
theorem door_met (os : Os) (args : Array Value) : laidMetH Tryd.prog CodeT.forms ((World.doorLaid Tryd.prog 14 os).forCall (fun _ _ => 0) ⟨#[], args, []⟩).memory :=
  laidMetH_of_parts3 (fuel := 8) (laidMet_of_run' 8 (by kernel_rfl) (by kernel_rfl)) (by kernel_rfl) (by kernel_rfl)
theorem laidOut : laidOutB Tryd.prog = true := by kernel_rfl
theorem cellsInstr : Tryd.prog.cellsOf 56 = 4 := by kernel_rfl
theorem cells0 : Tryd.prog.cellsOf 3 = 1 := by kernel_rfl
theorem cells8 : Tryd.prog.cellsOf 2 = 1 := by kernel_rfl
theorem cellsB : Tryd.prog.cellsOf 5 = 1 := by kernel_rfl
theorem cellsIt : Tryd.prog.cellsOf 23 = 3 := by kernel_rfl
theorem cellsP : Tryd.prog.cellsOf 57 = 1 := by kernel_rfl
theorem cellsPP : Tryd.prog.cellsOf 25 = 1 := by kernel_rfl
theorem cellsXX : Tryd.prog.cellsOf 26 = 1 := by kernel_rfl
theorem cellsR : Tryd.prog.cellsOf 24 = 4 := by kernel_rfl
theorem cellsS : Tryd.prog.cellsOf 28 = 6 := by kernel_rfl
theorem byte_of {a : Int} (h : (Lit.int .u8 a).wf = true) : Byte a := by
  have h1 : IntKind.u8.min = 0 := rfl
  have h2 : IntKind.u8.max = 255 := rfl
  simp only [Lit.wf, Bool.and_eq_true, decide_eq_true_eq] at h
  unfold Byte
  omega

section
variable {H : Type} {enc : TypeId × Value → H} {w : World} {base : Nat} {spare : Nat → Bool} {held : Bool}
theorem fits_of {P : Program} {t e : TypeId} {fuel : Nat} {A : Option Addr} {len cap : Nat} {x : DataW H × List MemPlace} (ht : P.underlying t = some (.slice e)) (h : DataW.trod enc P w base spare held fuel t [.slice A len cap] = some x) : len ≤ cap := by
  rcases Go.Deep.open_slice ht h with ⟨h0, _⟩ | ⟨a, len', cap', m, n, D, Pl, hcs, hb, hl, _⟩
  · simp at h0
    obtain ⟨rfl, rfl, rfl⟩ := h0
    exact Nat.le_refl _
  · simp at hcs
    obtain ⟨rfl, rfl, rfl⟩ := hcs
    exact hl
theorem shape_of {P : Program} {t e : TypeId} {fuel : Nat} {cs : List Value} {x : DataW H × List MemPlace} (ht : P.underlying t = some (.slice e)) (h : DataW.trod enc P w base spare held fuel t cs = some x) : ∃ A len cap, cs = [.slice A len cap] := by
  rcases Go.Deep.open_slice ht h with ⟨h0, _⟩ | ⟨a, len', cap', m, n, D, Pl, hcs, _⟩
  · exact ⟨none, 0, 0, h0⟩
  · exact ⟨some a, len', cap', hcs⟩
theorem in_of (fuel : Nat) (cs : List Value) (y : DataW H × List MemPlace) (h : DataW.trod enc Tryd.prog w base spare held fuel 56 cs = some y) (hl : cs.length = 4) : ∃ a, inE.cells a = cs ∧ InIn a := by
  obtain ⟨a, h0, w0⟩ := LawK.int_cell Tryd.underlying56 h 0 rfl Tryd.underlying3 cells0
  obtain ⟨b, h1, w1⟩ := LawK.int_cell Tryd.underlying56 h 1 rfl Tryd.underlying3 cells0
  obtain ⟨c, h2, w2⟩ := LawK.int_cell Tryd.underlying56 h 2 rfl Tryd.underlying3 cells0
  obtain ⟨d, h3, w3⟩ := LawK.int_cell Tryd.underlying56 h 3 rfl Tryd.underlying2 cells8
  match cs, hl with
  | [x, y, z, u], _ =>
    simp at h0 h1 h2 h3
    subst h0 h1 h2 h3
    exact ⟨⟨a, b, c, d⟩, rfl, LawK.in64 w0, LawK.in64 w1, LawK.in64 w2, LawK.in64 w3⟩
theorem it_of (fuel : Nat) (cs : List Value) (y : DataW H × List MemPlace) (h : DataW.trod enc Tryd.prog w base spare held fuel 23 cs = some y) (hl : cs.length = 3) : ∃ a, itE.cells a = cs ∧ InIt a := by
  obtain ⟨a, h0, w0⟩ := LawK.int_cell Tryd.underlying23 h 0 rfl Tryd.underlying3 cells0
  obtain ⟨b, h1, w1⟩ := LawK.int_cell Tryd.underlying23 h 1 rfl Tryd.underlying3 cells0
  obtain ⟨c, h2, w2⟩ := LawK.int_cell Tryd.underlying23 h 2 rfl Tryd.underlying2 cells8
  match cs, hl with
  | [x, y, z], _ =>
    simp at h0 h1 h2
    subst h0 h1 h2
    exact ⟨⟨a, b, c⟩, rfl, LawK.in64 w0, LawK.in64 w1, LawK.in64 w2⟩
theorem by_of (fuel : Nat) (cs : List Value) (y : DataW H × List MemPlace) (h : DataW.trod enc Tryd.prog w base spare held fuel 5 cs = some y) (_ : cs.length = 1) : ∃ a, byE.cells a = cs ∧ Byte a := by
  obtain ⟨n, hn, _, hw⟩ := DataW.trod_int Tryd.underlying5 h
  exact ⟨n, hn.symm, byte_of hw⟩
/-- A program that came in. -/
def PlIn (w : World) (p : Pl In) : Prop := p.l.length ≤ p.c ∧ (p.l.length ≤ 1000000 → RdL inE w (fun b => b < w.heap.size) p.v p.l ∧ ∀ x ∈ p.l, InIn x)
theorem pl_of (fuel : Nat) (cs : List Value) (y : DataW H × List MemPlace) (h : DataW.trod enc Tryd.prog w base spare held fuel 57 cs = some y) (_ : cs.length = 1) : ∃ a, plE.cells a = cs ∧ PlIn w a := by
  obtain ⟨A, len, cap, rfl⟩ := shape_of Tryd.underlying57 h
  obtain ⟨_, hx⟩ := LawK.open_list inE (ok := InIn) Tryd.underlying57 cellsInstr in_of h
  have hf := fits_of Tryd.underlying57 h
  by_cases hl : len ≤ 1000000
  · obtain ⟨zs, h1, h2, h3⟩ := hx hl
    subst h1
    exact ⟨⟨A, cap, zs⟩, rfl, hf, fun _ => ⟨h2, h3⟩⟩
  · refine ⟨⟨A, cap, List.replicate len ⟨0, 0, 0, 0⟩⟩, ?_, ?_, fun h => ?_⟩
    · show [Value.slice A (List.replicate len (⟨0, 0, 0, 0⟩ : In)).length cap] = _
      rw [List.length_replicate]
    · show (List.replicate len (⟨0, 0, 0, 0⟩ : In)).length ≤ cap
      rw [List.length_replicate]; exact hf
    · have h : (List.replicate len (⟨0, 0, 0, 0⟩ : In)).length ≤ 1000000 := h
      rw [List.length_replicate] at h
      exact absurd h hl
theorem bbs_of {fuel : Nat} {A : Option Addr} {len cap : Nat} {x : DataW H × List MemPlace} (h : DataW.trod enc Tryd.prog w base spare held fuel 29 [.slice A len cap] = some x) : ∃ zs, BbIn w A len cap zs := by
  obtain ⟨_, hx⟩ := LawK.open_list byE (ok := Byte) Tryd.underlying29 cellsB by_of h
  have hf := fits_of Tryd.underlying29 h
  by_cases hl : len ≤ 1000000
  · obtain ⟨zs, h1, h2, h3⟩ := hx hl
    exact ⟨zs, hf, fun _ => ⟨h1, h2, h3⟩⟩
  · exact ⟨[], hf, fun h => absurd h hl⟩
set_option maxRecDepth 100000 in
/-- A script that came in by value. -/
theorem sc_of {r : Reach} {b0 : Nat} {v : Value} {d : DataW H} {ps : List MemPlace} (hval : Value.okWide Tryd.prog w r b0 28 v) (hd : DataW.Trod enc Tryd.prog w base spare held 28 v d ps) :
    ∃ (q : Sv) (qs : List (Pl In)) (xs : List It), v = .agg q.arr ∧ ScIn w q qs xs := by
  obtain ⟨cs, rfl, hsz⟩ := okWide_struct Tryd.underlying28 hval
  obtain ⟨fuel, hf⟩ := hd
  rw [cellsS] at hsz
  obtain ⟨l⟩ := cs
  have hl : l.length = 6 := by simpa using hsz
  match l, hl with
  | [a0, a1, a2, a3, a4, a5], _ =>
    have hf' : DataW.trod enc Tryd.prog w base spare held fuel 28 [a0, a1, a2, a3, a4, a5] = some (d, ps) := hf
    obtain ⟨f0, y0, h0⟩ := LawK.field_cells Tryd.underlying28 hf' 0 _ rfl
    obtain ⟨f1, y1, h1⟩ := LawK.field_cells Tryd.underlying28 hf' 1 _ rfl
    obtain ⟨f2, y2, h2⟩ := LawK.field_cells Tryd.underlying28 hf' 2 _ rfl
    have h0 : DataW.trod enc Tryd.prog w base spare held f0 24 (([a0, a1, a2, a3, a4, a5].drop 0).take (Tryd.prog.cellsOf 24)) = some y0 := h0
    have h1 : DataW.trod enc Tryd.prog w base spare held f1 25 (([a0, a1, a2, a3, a4, a5].drop 4).take (Tryd.prog.cellsOf 25)) = some y1 := h1
    have h2 : DataW.trod enc Tryd.prog w base spare held f2 26 (([a0, a1, a2, a3, a4, a5].drop 5).take (Tryd.prog.cellsOf 26)) = some y2 := h2
    rw [cellsR] at h0
    rw [cellsPP] at h1
    rw [cellsXX] at h2
    have h1 : DataW.trod enc Tryd.prog w base spare held f1 25 [a4] = some y1 := h1
    have h2 : DataW.trod enc Tryd.prog w base spare held f2 26 [a5] = some y2 := h2
    obtain ⟨xs0, m1, rfl, hx, _, hn, hel⟩ := DataW.trod_array Tryd.underlying24 h0
    have room : ∀ i : Nat, i < 4 → ∃ n, [a0, a1, a2, a3][i]? = some (.int .i64 n) ∧ In64 n := fun i hi => by
      have h3 := hel i hi
      rw [cells8, Nat.mul_one, List.getElem?_eq_getElem (by omega)] at h3
      obtain ⟨n, hn1, _, hw⟩ := DataW.trod_int Tryd.underlying2 h3
      refine ⟨n, ?_, LawK.in64 hw⟩
      have := congrArg (fun l : List Value => l[0]?) hn1
      simpa [List.getElem?_take, List.getElem?_drop] using this
    obtain ⟨n0, e0, i0⟩ := room 0 (by omega)
    obtain ⟨n1, e1, i1⟩ := room 1 (by omega)
    obtain ⟨n2, e2, i2⟩ := room 2 (by omega)
    obtain ⟨n3, e3, i3⟩ := room 3 (by omega)
    simp at e0 e1 e2 e3
    subst e0 e1 e2 e3
    obtain ⟨pA, pn, pc, e4⟩ := shape_of Tryd.underlying25 h1
    obtain ⟨xA, xn, xc, e5⟩ := shape_of Tryd.underlying26 h2
    simp at e4 e5
    subst e4 e5
    obtain ⟨_, hp⟩ := LawK.open_list plE (ok := PlIn w) Tryd.underlying25 cellsP pl_of h1
    obtain ⟨_, hxx⟩ := LawK.open_list itE (ok := InIt) Tryd.underlying26 cellsIt it_of h2
    have fp := fits_of Tryd.underlying25 h1
    have fx := fits_of Tryd.underlying26 h2
    obtain ⟨qs, hqs⟩ : ∃ qs : List (Pl In), pn ≤ 1000000 → qs.length = pn ∧ RdL plE w (fun b => b < w.heap.size) (.slice pA pn pc) qs ∧ ∀ p ∈ qs, PlIn w p := by
      by_cases hl : pn ≤ 1000000
      · obtain ⟨zs, h⟩ := hp hl
        exact ⟨zs, fun _ => h⟩
      · exact ⟨[], fun h => absurd h hl⟩
    obtain ⟨xs, hxs⟩ : ∃ xs : List It, xn ≤ 1000000 → xs.length = xn ∧ RdL itE w (fun b => b < w.heap.size) (.slice xA xn xc) xs ∧ ∀ x ∈ xs, InIt x := by
      by_cases hl : xn ≤ 1000000
      · obtain ⟨zs, h⟩ := hxx hl
        exact ⟨zs, fun _ => h⟩
      · exact ⟨[], fun h => absurd h hl⟩
    exact ⟨⟨n0, n1, n2, n3, pA, pn, pc, xA, xn, xc⟩, qs, xs, rfl, ⟨fp, fx⟩, ⟨i0, i1, i2, i3⟩, hqs, hxs⟩
end
end Go.Proofs.YtolooaahaofflaaDoor.scriRows
