/-
  Proved: the law RingFirst returns true for every input and leaves its arguments as they were, over any package that meets 'Ring'. Condition: 'Ring'.
-/
import Derived.Test.YtaoagoklgjcdcaaLaw
import Derived.Test.YtaoagoklgjcdcaaRingFirst
namespace Go.Proofs.Ytaoagoklgjcdcaa.ringFirst
open Go.ChangeShapes Go.WideShapes Go.ChangeAt Go.RowKit RingI

theorem own : ownKnob Try.prog.godebug = none := by kernel_rfl
theorem laidOut : laidOutB Try.prog = true := by kernel_rfl

set_option maxRecDepth 100000 in
theorem lifted (I : Ring) (os : Os) (started : os.Started) (H : Type) (enc : TypeId × Value → H) :
    ReturnsInHanded {} Try.checked os 4 .any (Rows.ringFirstSpec.pre6 enc Try.prog Try.f4 Rows.ringFirstRow.domain false) (Rows.ringFirstSpec.post enc Try.prog Try.f4 false true false false) := by
  refine returnsInHanded_of_change (C := Try.checked) own started (by kernel_rfl) Try.func4
    (ChangeSpec.witness6 (enc := enc) (C := Try.checked) false ⟨#[], #[.slice none 0 0, .slice none 0 0], []⟩ 8 (by kernel_rfl) (by kernel_rfl) (by kernel_rfl) (by kernel_rfl)) ?_
  intro W base args ds gs before hval0 hW hcnd _
  have hval : ∀ (j : Nat) t v, Try.f4.params[j]? = some t → args[j]? = some v → Value.okWide Try.prog W .any base t v := hval0
  have hW' := hW
  obtain ⟨p, q, hA0, hV, rfl, hfz, hnd⟩ := hW
  have hA : DataW.TrodAll enc Try.prog W 0 (fun _ => true) true Try.f4.params.toList args.toList ds p := hA0
  rw [Try.params4] at hA hval
  obtain ⟨v0, vs0, d0, ds0, p0, q0, hargs, rfl, rfl, h0, r0⟩ := trodAll_cons hA
  obtain ⟨v1, vs1, d1, ds1, p1, q1, rfl, rfl, rfl, h1, r1⟩ := trodAll_cons r0
  obtain ⟨rfl, rfl, rfl⟩ := trodAll_nil r1
  obtain rfl : args = #[v0, v1] := by cases args; simp_all
  obtain ⟨rfl, rfl⟩ := trodVars_none hV
  obtain ⟨A, len, cap, rfl⟩ := okWide_slice Try.underlying38 (hval 0 38 v0 rfl rfl)
  obtain ⟨D, dlen, dcap, rfl⟩ := okWide_slice Try.underlying39 (hval 1 39 v1 rfl rfl)
  obtain ⟨fuel0, hf0⟩ := h0
  obtain ⟨fuel1, hf1⟩ := h1
  obtain ⟨hm, zs, hz1, hz2, hz3⟩ := LawK.open_nums (A := A) (len := len) (cap := cap) Try.underlying38 Try.underlying3 (by kernel_rfl) hf0
  obtain ⟨hdm, fs, hd1, hd2⟩ := LawK.open_flags (A := D) (len := dlen) (cap := dcap) Try.underlying39 Try.underlying4 (by kernel_rfl) hf1
  unfold maxLen at hm hdm
  refine (first_walk I A len cap zs D dlen dcap fs W (by omega) (by omega) ⟨hz1, hz2, hz3⟩ ⟨hd1, hd2⟩).mono fun e W' ⟨he, hg⟩ => ?_
  subst he
  exact ⟨_, rfl, LawK.law_post laidOut (by rw [Try.params4]; decide +kernel) rfl (by kernel_rfl) Try.underlying4 rfl hW' hg⟩

theorem over (I : Ring) : Rows.RingFirstSaid :=
  OpenClaim.holds_of_wide 4 Try.f4 rfl rfl rfl rfl rfl rfl rfl ⟨rfl, rfl, rfl, rfl, rfl⟩ rfl rfl rfl rfl rfl (by kernel_rfl) Try.func4 (by kernel_rfl)
    (of_decide_eq_true (by kernel_rfl)) (by unfold Func.isWrapper; first | (rw [if_pos (by decide +kernel)]; kernel_rfl) | (rw [if_neg (by decide +kernel)]; exact ⟨rfl, rfl⟩))
    (fun os started H enc _ => lifted I os started H enc)
#print axioms over
end Go.Proofs.Ytaoagoklgjcdcaa.ringFirst
