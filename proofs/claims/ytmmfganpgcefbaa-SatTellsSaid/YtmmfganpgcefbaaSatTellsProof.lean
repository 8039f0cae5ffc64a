/-
  Proved: for all int64 a, b, c and every slice of int64 the law SatTells returns true and leaves its arguments as they were. No condition.
-/
import Derived.Test.YtmmfganpgcefbaaLaw
import Derived.Test.YtmmfganpgcefbaaSatWalks
namespace Go.Proofs.Ytmmfganpgcefbaa.satTells
open Go.ChangeShapes Go.WideShapes Go.ChangeAt Go.RowKit

theorem own : ownKnob Try.prog.godebug = none := by kernel_rfl
theorem cells2 : Try.prog.cellsOf 2 = 1 := by kernel_rfl
theorem laidOut : laidOutB Try.prog = true := by kernel_rfl

/-- The two functions of one slice agree. -/
def Both (A : Option Addr) (len cap : Nat) (w : World) : Prop :=
  ∃ v : Int, ∀ w', Below w.heap.size w w' → (Calls Try.prog 14 #[.slice A len cap] w' fun e w'' => e = .returned (.int .i64 v) ∧ w' = w'') ∧ (Calls Try.prog 15 #[.slice A len cap] w' fun e w'' => e = .returned (.int .i64 v) ∧ w' = w'')

theorem walk (a0 a1 a2 : Int) (A : Option Addr) (len cap : Nat) (w0 : (Lit.int .i64 a0).wf = true) (w1 : (Lit.int .i64 a1).wf = true) (w2 : (Lit.int .i64 a2).wf = true) (hlen : len ≤ 9223372036854775807) (w : World) (hB : Both A len cap w) :
    Calls Try.prog 3 #[.int .i64 a0, .int .i64 a1, .int .i64 a2, .slice A len cap] w fun e w' => e = .returned (.bool true) ∧ Below w.heap.size w w' := by
  obtain ⟨v, hv⟩ := hB
  have HV := Lib.hid hv
  clear hv
  obtain ⟨c0, b0⟩ := SatW.in64 w0
  obtain ⟨c1, b1⟩ := SatW.in64 w1
  obtain ⟨c2, b2⟩ := SatW.in64 w2
  rcases (by omega : 200 < len ∨ len ≤ 200) with hl | hl
  all_goals
    go_enter Try.func3, Try.ntmps3
    go_wp2_with (first
      | (go_at_call 7; refine (SatW.awake_below _).mono ?_; rintro e w' ⟨rfl, hg⟩)
      | (go_at_call 8; refine (SatW.add_any _ _ _ (by omega) (by omega) (by omega) (by omega)).mono ?_; rintro e w' ⟨rfl, rfl⟩)
      | (go_at_call 9; refine (SatW.radd_any _ _ _ (by omega) (by omega) (by omega) (by omega)).mono ?_; rintro e w' ⟨rfl, rfl⟩)
      | (go_at_call 10; refine (SatW.sub_any _ _ _ (by omega) (by omega) (by omega) (by omega)).mono ?_; rintro e w' ⟨rfl, rfl⟩)
      | (go_at_call 11; refine (SatW.rsub_any _ _ _ (by omega) (by omega) (by omega) (by omega)).mono ?_; rintro e w' ⟨rfl, rfl⟩)
      | (go_at_call 12; refine (SatW.until_any _ _ _ (by omega) (by omega) (by omega) (by omega)).mono ?_; rintro e w' ⟨rfl, rfl⟩)
      | (go_at_call 13; refine (SatW.runtil_any _ _ _ (by omega) (by omega) (by omega) (by omega)).mono ?_; rintro e w' ⟨rfl, rfl⟩)
      | (go_at_call 14; refine ((HV.out _ hg).1).mono ?_; rintro e w' ⟨rfl, rfl⟩)
      | (go_at_call 15; refine ((HV.out _ hg).2).mono ?_; rintro e w' ⟨rfl, rfl⟩)
      | (go_at_call 16; refine (SatW.fits_any _ _ _ _ (by omega) (by omega) (by omega)).mono ?_; rintro e w' ⟨rfl, rfl⟩)
      | (go_at_call 17; refine (SatW.rfits_any _ _ _ _ (by omega) (by omega) (by omega) (by omega) (by omega)).mono ?_; rintro e w' ⟨rfl, rfl⟩))
    go_ret
    exact ⟨by simp, hg⟩

set_option maxRecDepth 100000 in
theorem lifted (os : Os) (started : os.Started) (H : Type) (enc : TypeId × Value → H) :
    ReturnsInHanded {} Try.checked os 3 .any (Rows.satTellsSpec.pre6 enc Try.prog Try.f3 Rows.satTellsRow.domain false) (Rows.satTellsSpec.post enc Try.prog Try.f3 false true false false) := by
  refine returnsInHanded_of_change (C := Try.checked) own started (by kernel_rfl) Try.func3
    (ChangeSpec.witness6 (enc := enc) (C := Try.checked) false ⟨#[], #[.int .i64 0, .int .i64 0, .int .i64 0, .slice none 0 0], []⟩ 8 (by kernel_rfl) (by kernel_rfl) (by kernel_rfl) (by kernel_rfl)) ?_
  intro W base args ds gs before hval0 hW hcnd _
  have hval : ∀ (j : Nat) t v, Try.f3.params[j]? = some t → args[j]? = some v → Value.okWide Try.prog W .any base t v := hval0
  have hW' := hW
  obtain ⟨p, q, hA0, hV, rfl, hfz, hnd⟩ := hW
  have hA : DataW.TrodAll enc Try.prog W 0 (fun _ => true) true Try.f3.params.toList args.toList ds p := hA0
  rw [Try.params3] at hA hval
  obtain ⟨v0, vs0, d0, ds0, p0, q0, hargs, rfl, rfl, h0, r0⟩ := trodAll_cons hA
  obtain ⟨v1, vs1, d1, ds1, p1, q1, rfl, rfl, rfl, h1, r1⟩ := trodAll_cons r0
  obtain ⟨v2, vs2, d2, ds2, p2, q2, rfl, rfl, rfl, h2, r2⟩ := trodAll_cons r1
  obtain ⟨v3, vs3, d3, ds3, p3, q3, rfl, rfl, rfl, h3, r3⟩ := trodAll_cons r2
  obtain ⟨rfl, rfl, rfl⟩ := trodAll_nil r3
  obtain rfl : args = #[v0, v1, v2, v3] := by cases args; simp_all
  obtain ⟨rfl, rfl⟩ := trodVars_none hV
  obtain ⟨a0, rfl, rfl, rfl, w0⟩ := open_int Try.underlying2 (hval 0 2 v0 rfl rfl) h0
  obtain ⟨a1, rfl, rfl, rfl, w1⟩ := open_int Try.underlying2 (hval 1 2 v1 rfl rfl) h1
  obtain ⟨a2, rfl, rfl, rfl, w2⟩ := open_int Try.underlying2 (hval 2 2 v2 rfl rfl) h2
  obtain ⟨A, len, cap, rfl⟩ := okWide_slice Try.underlying22 (hval 3 22 v3 rfl rfl)
  obtain ⟨fuel, hf⟩ := h3
  clear hA0 hval0
  have hB : len ≤ 9223372036854775807 ∧ Both A len cap W := by
    rcases open_ints Try.underlying22 Try.underlying2 cells2 hf with ⟨hcs, hx⟩ | ⟨a, len', cap', zs, hcs, _, hl, hm, hz, hx, hcell, hwz⟩
    · simp [Value.cells] at hcs
      obtain ⟨rfl, rfl, rfl⟩ := hcs
      exact ⟨by omega, _, fun w' _ => ⟨SatW.least_empty none 0 w', SatW.rleast_empty none 0 w'⟩⟩
    · simp [Value.cells] at hcs
      obtain ⟨rfl, rfl, rfl⟩ := hcs
      simp only [if_true] at hz
      unfold maxLen at hm
      refine ⟨by omega, ?_⟩
      by_cases hl0 : len = 0
      · subst hl0
        exact ⟨_, fun w' _ => ⟨SatW.least_empty (some a) cap w', SatW.rleast_empty (some a) cap w'⟩⟩
      · obtain ⟨b, off, spot⟩ := a
        have hspot : spot = none := by simpa [Addr.add] using World.cell?_spot (hcell 0 (by omega))
        subst hspot
        have hc : ∀ j, j < len → W.cell? ⟨b, off + j, none⟩ = some (.int .i64 (zs.getD j 0)) := fun j hj => by rw [← add_plain]; exact hcell j (by omega)
        have hlt : b < W.heap.size := World.block_lt_of_cell? _ _ (hc 0 (by omega))
        have hc' : ∀ w', Below W.heap.size W w' → ∀ j, j < len → w'.cell? ⟨b, off + j, none⟩ = some (.int .i64 (zs.getD j 0)) := fun w' hb j hj => (hb.cell (p := ⟨b, off + j, none⟩) hlt).trans (hc j hj)
        exact ⟨_, fun w' hb => ⟨SatW.least_any b off len cap zs w' (by omega) (by omega) (hc' w' hb), SatW.rleast_any b off len cap zs w' (by omega) (by omega) (hc' w' hb)⟩⟩
  refine (walk a0 a1 a2 A len cap w0 w1 w2 hB.1 W hB.2).mono fun e W' ⟨he, hg⟩ => ?_
  subst he
  exact ⟨_, rfl, LawK.law_post laidOut (by rw [Try.params3]; decide +kernel) rfl (by kernel_rfl) Try.underlying4 rfl hW' hg⟩

theorem over : Rows.satTellsRow.holds Try.pinned (OpenSpec.ofChange Rows.satTellsSpec) :=
  OpenClaim.holds_of_wide 3 Try.f3 rfl rfl rfl rfl rfl rfl rfl ⟨rfl, rfl, rfl, rfl, rfl⟩ rfl rfl rfl rfl rfl (by kernel_rfl) Try.func3 (by kernel_rfl)
    (of_decide_eq_true (by kernel_rfl)) (by unfold Func.isWrapper; first | (rw [if_pos (by decide +kernel)]; kernel_rfl) | (rw [if_neg (by decide +kernel)]; exact ⟨rfl, rfl⟩))
    (fun os started H enc _ => lifted os started H enc)

theorem proved : Rows.SatTellsSaid :=
  over
#print axioms proved
end Go.Proofs.Ytmmfganpgcefbaa.satTells
