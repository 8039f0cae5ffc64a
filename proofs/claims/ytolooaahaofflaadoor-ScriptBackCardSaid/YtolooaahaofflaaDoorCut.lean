/-
  Slices cut out of slices of one-cell elements, as run equations for every world: 's[l:]', 's[l:h]', 's[l:h:m]'. Over any program. No condition.
-/
import Derived.Test.YtolooaahaofflaaDoorSep
namespace Go.Proofs.YtolooaahaofflaaDoor.Hand
open Go.ChangeShapes Go.WideShapes Go.ChangeAt Go.RowKit Mem

/-- What a cut gives, at either of the two operations. -/
def Cuts (P : Program) (t : TypeId) (v : Value) (lo hi mx : Option Value) (u : Value) : Prop := (∀ w, (Instr.sliceAt t v lo hi mx).run P w = .ok u w) ∧ ∀ w, (Instr.slice t v lo hi mx).run P w = .ok u w
section
variable {P : Program} {t : TypeId} (ht : P.underlying t = some (.slice (P.elem t))) (hz : ∀ w, (sizeOf (P.elem t)).run P w = .ok 1 w) (g off n c l h m : Nat)
include ht hz
theorem cut_from (h1 : l ≤ n) (h2 : l < c) (_hnc : n ≤ c) : Cuts P t (.slice (some ⟨g, off, none⟩) n c) (some (.int .i64 l)) none none (.slice (some ⟨g, off + l, none⟩) (n - l) (c - l)) := by
  have key : ∀ w, (Instr.slice t (.slice (some ⟨g, off, none⟩) n c) (some (.int .i64 l)) none none).run P w = .ok (.slice (some ⟨g, off + l, none⟩) (n - l) (c - l)) w := fun w => by
    rw [run_slice_l (ht := ht) (h0 := by omega) (h1 := by omega), hz]
    simp only [Result.andThen, sliced, Int.toNat_natCast]
    rw [if_neg (by omega)]
    simp [Addr.add]
  exact ⟨fun w => by rw [run_sliceAt_slice (h := ht)]; exact key w, key⟩
theorem cut_part (h1 : l ≤ h) (h2 : h ≤ c) (h3 : l < c) : Cuts P t (.slice (some ⟨g, off, none⟩) n c) (some (.int .i64 l)) (some (.int .i64 h)) none (.slice (some ⟨g, off + l, none⟩) (h - l) (c - l)) := by
  have key : ∀ w, (Instr.slice t (.slice (some ⟨g, off, none⟩) n c) (some (.int .i64 l)) (some (.int .i64 h)) none).run P w = .ok (.slice (some ⟨g, off + l, none⟩) (h - l) (c - l)) w := fun w => by
    rw [run_slice_lh (ht := ht) (h0 := by omega) (h1 := by omega) (h2 := by omega), hz]
    simp only [Result.andThen, sliced, Int.toNat_natCast]
    rw [if_neg (by omega)]
    simp [Addr.add]
  exact ⟨fun w => by rw [run_sliceAt_slice (h := ht)]; exact key w, key⟩
theorem cut_three (h1 : l ≤ h) (h2 : h ≤ m) (h3 : m ≤ c) (h4 : l < m) : Cuts P t (.slice (some ⟨g, off, none⟩) n c) (some (.int .i64 l)) (some (.int .i64 h)) (some (.int .i64 m)) (.slice (some ⟨g, off + l, none⟩) (h - l) (m - l)) := by
  have key : ∀ w, (Instr.slice t (.slice (some ⟨g, off, none⟩) n c) (some (.int .i64 l)) (some (.int .i64 h)) (some (.int .i64 m))).run P w = .ok (.slice (some ⟨g, off + l, none⟩) (h - l) (m - l)) w := fun w => by
    rw [run_slice_lhm (ht := ht) (h0 := by omega) (h1 := by omega) (h2 := by omega) (h3 := by omega), hz]
    simp only [Result.andThen, sliced, Int.toNat_natCast]
    rw [if_neg (by omega)]
    simp [Addr.add]
  exact ⟨fun w => by rw [run_sliceAt_slice (h := ht)]; exact key w, key⟩
end
end Go.Proofs.YtolooaahaofflaaDoor.Hand
