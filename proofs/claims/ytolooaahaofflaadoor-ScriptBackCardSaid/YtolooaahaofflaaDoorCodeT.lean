/-
  What the condition of the rows of layer 16 gives the walks: each cell of the package's table of constants has what the document's table says. No condition beyond the row's own.
-/
import Derived.Test.YtolooaahaofflaaDoorCodeP
import Derived.Test.YtolooaahaofflaaDoorRows
import Derived.LaidMore
import Derived.OpenShut
import Derived.MakeChecks
import Derived.Below
namespace Go.Proofs.YtolooaahaofflaaDoor.CodeT
open Go.ChangeShapes Go.WideShapes Go.ChangeAt Go.RowKit CodeP

/-- The table lies as it was written. -/
def Tab (w : World) : Prop := 0 < w.heap.size ∧ ∀ i : Nat, i < 47 → w.cell? ⟨0, i, none⟩ = some (formV i)

theorem gForms : Tryd.prog.globalNamed "countermand/code.forms" = some 0 := by kernel_rfl
theorem tForms : (Tryd.prog.globals[0]?).map (·.type) = some 104 := by kernel_rfl
theorem cStr : Tryd.prog.cellsOf 9 = 1 := by kernel_rfl
theorem cForms : Tryd.prog.cellsOf 104 = 47 := by kernel_rfl
theorem laid_at : ∀ i : Nat, i < 47 → ∃ b : List UInt8, formV i = .string ⟨b.toArray⟩ ∧ (match Rows.laid_countermand_code_forms (H := Unit) with | .agg l => l[i]? | _ => none) = some (.lit (.string b)) := by
  intro i hi
  rcases (by omega : i = 0 ∨ i = 1 ∨ i = 2 ∨ i = 3 ∨ i = 4 ∨ i = 5 ∨ i = 6 ∨ i = 7 ∨ i = 8 ∨ i = 9 ∨ i = 10 ∨ i = 11 ∨ i = 12 ∨ i = 13 ∨ i = 14 ∨ i = 15 ∨ i = 16 ∨ i = 17 ∨ i = 18 ∨ i = 19 ∨ i = 20 ∨ i = 21 ∨ i = 22 ∨ i = 23 ∨ i = 24 ∨ i = 25 ∨ i = 26 ∨ i = 27 ∨ i = 28 ∨ i = 29 ∨ i = 30 ∨ i = 31 ∨ i = 32 ∨ i = 33 ∨ i = 34 ∨ i = 35 ∨ i = 36 ∨ i = 37 ∨ i = 38 ∨ i = 39 ∨ i = 40 ∨ i = 41 ∨ i = 42 ∨ i = 43 ∨ i = 44 ∨ i = 45 ∨ i = 46) with rfl | rfl | rfl | rfl | rfl | rfl | rfl | rfl | rfl | rfl | rfl | rfl | rfl | rfl | rfl | rfl | rfl | rfl | rfl | rfl | rfl | rfl | rfl | rfl | rfl | rfl | rfl | rfl | rfl | rfl | rfl | rfl | rfl | rfl | rfl | rfl | rfl | rfl | rfl | rfl | rfl | rfl | rfl | rfl | rfl | rfl | rfl
  all_goals exact ⟨_, rfl, rfl⟩

/-- The condition that the rows of layer 16 bear. -/
def forms : List (String × DataW Unit) := [("countermand/code.forms", Rows.laid_countermand_code_forms)]
theorem of_laid {W : World} (h : laidMetH Tryd.prog forms W) : Tab W := by
  rw [MakeChecks.laidMetH_plain _ _ _ (by kernel_rfl)] at h
  obtain ⟨ps, ⟨g0, t0, cs0, f0, p0, q0, hg0, ht0, hv0, hd0, _, _⟩, _, _⟩ := h
  obtain rfl := Option.some.inj (gForms.symm.trans hg0)
  obtain rfl := Option.some.inj (tForms.symm.trans ht0)
  obtain ⟨xs, m1, rfl, hx, hlen, hn, hel⟩ := DataW.trod_array Tryd.underlying104 hd0
  rw [cForms] at hlen
  have hx1 : Rows.laid_countermand_code_forms (H := Unit) = .agg (xs.map (·.1)) := (Prod.mk.inj hx).1
  have cell : ∀ i : Nat, i < 47 → W.cell? ⟨0, i, none⟩ = some (formV i) := fun i hi => by
    rw [World.var?_cell hg0 hv0 i]
    obtain ⟨b, hb, hl⟩ := laid_at i hi
    rw [hx1] at hl
    have hl : (xs.map (·.1))[i]? = some (.lit (.string b)) := hl
    have h1 := hel i hi
    rw [cStr, Nat.mul_one, List.getElem?_eq_getElem (by omega)] at h1
    obtain ⟨s, hs, hxs, _⟩ := DataW.trod_string Tryd.underlying9 h1
    rw [List.getElem?_map, List.getElem?_eq_getElem (by omega), hxs] at hl
    have hb2 : s.data.toList = b := by simpa using hl
    have hc : (cs0.toList.drop i).take 1 = [cs0.toList[i]'(by omega)] := by rw [List.drop_eq_getElem_cons (by omega)]; rfl
    rw [hc] at hs
    have hv : cs0.toList[i]'(by omega) = .string s := by simpa using hs
    rw [hb, ← hb2, ← Array.getElem?_toList, List.getElem?_eq_getElem (by omega), hv]
  exact ⟨Nat.lt_of_le_of_lt (Nat.zero_le _) (World.block_lt_of_cell? _ _ (cell 0 (by omega))), cell⟩
theorem Tab.next {W w : World} (h : Tab W) (hb : Below W.heap.size W w) : Tab w :=
  ⟨Nat.lt_of_lt_of_le h.1 hb.size, fun i hi => (hb.cell (p := ⟨0, i, none⟩) h.1).trans (h.2 i hi)⟩
theorem Tab.at_ {w : World} (h : Tab w) {op : Int} (h0 : 0 ≤ op) (h1 : op ≤ 46) : w.cell? ⟨0, op.toNat, none⟩ = some (formV op) := by
  have := h.2 op.toNat (by omega)
  rwa [Int.toNat_of_nonneg h0] at this
end Go.Proofs.YtolooaahaofflaaDoor.CodeT
