/-
  Proved: the law FlightDoes returns true for every input and leaves its arguments as they were, over any package that meets the interface. Condition: the interface.
-/
import Derived.Test.YtbkeodjebfkkdaaFlightOpen
import Derived.Test.YtbkeodjebfkkdaaFlightDoes
namespace Go.Proofs.Ytbkeodjebfkkdaa.flightDoes
open Go.ChangeShapes Go.WideShapes Go.ChangeAt Go.RowKit Mem MutP FlightP FlightI Acts3 flightRows

set_option maxRecDepth 100000 in
theorem lifted (I : Fl) (os : Os) (started : os.Started) (H : Type) (enc : TypeId × Value → H) :
    ReturnsInHanded {} Try.checked os 3 .any (Rows.flightDoesSpec.pre6 enc Try.prog Try.f3 Rows.flightDoesRow.domain false) (Rows.flightDoesSpec.post enc Try.prog Try.f3 false true false false) := by
  refine returnsInHanded_of_change (C := Try.checked) own started (by kernel_rfl) Try.func3
    (ChangeSpec.witness6 (enc := enc) (C := Try.checked) false ⟨#[], #[.int .i64 0, .slice none 0 0], []⟩ 8 (by kernel_rfl) (by kernel_rfl) (by kernel_rfl) (by kernel_rfl)) ?_
  intro W base args ds gs before hval0 hW hcnd _
  have hval : ∀ (j : Nat) t v, Try.f3.params[j]? = some t → args[j]? = some v → Value.okWide Try.prog W .any base t v := hval0
  have hW' := hW
  obtain ⟨p, q, hA0, hV, rfl, hfz, hnd⟩ := hW
  have hA : DataW.TrodAll enc Try.prog W 0 (fun _ => true) true Try.f3.params.toList args.toList ds p := hA0
  rw [Try.params3] at hA hval
  obtain ⟨v0, vs0, d0, ds0, p0, q0, hargs, rfl, rfl, h0, r0⟩ := trodAll_cons hA
  obtain ⟨v1, vs1, d1, ds1, p1, q1, rfl, rfl, rfl, h1, r1⟩ := trodAll_cons r0
  obtain ⟨rfl, rfl, rfl⟩ := trodAll_nil r1
  obtain rfl : args = #[v0, v1] := by cases args; simp_all
  obtain ⟨rfl, rfl⟩ := trodVars_none hV
  obtain ⟨a0, rfl, rfl, rfl, w0⟩ := open_int Try.underlying3 (hval 0 3 v0 rfl rfl) h0
  obtain ⟨A1, len1, cap1, rfl⟩ := okWide_slice Try.underlying22 (hval 1 22 v1 rfl rfl)
  obtain ⟨fuel1, hf1⟩ := h1
  obtain ⟨hlen1, zs1, hz1⟩ := acts_of (A := A1) (len := len1) (cap := cap1) hf1
  clear hA0 hval0
  refine (does_walk I a0 A1 len1 cap1 zs1 W (LawK.in64 w0) hlen1 hz1).mono fun e W' ⟨he, hg⟩ => ?_
  subst he
  exact ⟨_, rfl, LawK.law_post laidOut (by rw [Try.params3]; decide +kernel) rfl (by kernel_rfl) Try.underlying4 rfl hW' hg⟩

theorem over (I : Fl) : Rows.FlightDoesSaid :=
  OpenClaim.holds_of_wide 3 Try.f3 rfl rfl rfl rfl rfl rfl rfl ⟨rfl, rfl, rfl, rfl, rfl⟩ rfl rfl rfl rfl rfl (by kernel_rfl) Try.func3 (by kernel_rfl)
    (of_decide_eq_true (by kernel_rfl)) (by unfold Func.isWrapper; first | (rw [if_pos (by decide +kernel)]; kernel_rfl) | (rw [if_neg (by decide +kernel)]; exact ⟨rfl, rfl⟩))
    (fun os started H enc _ => lifted I os started H enc)
#print axioms over
end Go.Proofs.Ytbkeodjebfkkdaa.flightDoes
