/-
  Proved: the law SemaMisuse returns true for every input and leaves its arguments as they were, over any package that meets the interface. Condition: the interface.
-/
import Derived.Test.YtaplikopapnlpaaSemaOpen
import Derived.Test.YtaplikopapnlpaaSemaMisuse
namespace Go.Proofs.Ytaplikopapnlpaa.semaMisuse
open Go.ChangeShapes Go.WideShapes Go.ChangeAt Go.RowKit Mem MutP SemaP SemaI Acts3 semaRows

set_option maxRecDepth 100000 in
theorem lifted (I : Sg) (os : Os) (started : os.Started) (H : Type) (enc : TypeId × Value → H) :
    ReturnsInHanded {} Try.checked os 6 .any (Rows.semaMisuseSpec.pre6 enc Try.prog Try.f6 Rows.semaMisuseRow.domain false) (Rows.semaMisuseSpec.post enc Try.prog Try.f6 false true false false) := by
  refine returnsInHanded_of_change (C := Try.checked) own started (by kernel_rfl) Try.func6
    (ChangeSpec.witness6 (enc := enc) (C := Try.checked) false ⟨#[], #[.int .i64 0, .slice none 0 0, .agg #[.int .i64 0, .int .i64 0, .int .i64 0]], []⟩ 8 (by kernel_rfl) (by kernel_rfl) (by kernel_rfl) (by kernel_rfl)) ?_
  intro W base args ds gs before hval0 hW hcnd _
  have hval : ∀ (j : Nat) t v, Try.f6.params[j]? = some t → args[j]? = some v → Value.okWide Try.prog W .any base t v := hval0
  have hW' := hW
  obtain ⟨p, q, hA0, hV, rfl, hfz, hnd⟩ := hW
  have hA : DataW.TrodAll enc Try.prog W 0 (fun _ => true) true Try.f6.params.toList args.toList ds p := hA0
  rw [Try.params6] at hA hval
  obtain ⟨v0, vs0, d0, ds0, p0, q0, hargs, rfl, rfl, h0, r0⟩ := trodAll_cons hA
  obtain ⟨v1, vs1, d1, ds1, p1, q1, rfl, rfl, rfl, h1, r1⟩ := trodAll_cons r0
  obtain ⟨v2, vs2, d2, ds2, p2, q2, rfl, rfl, rfl, h2, r2⟩ := trodAll_cons r1
  obtain ⟨rfl, rfl, rfl⟩ := trodAll_nil r2
  obtain rfl : args = #[v0, v1, v2] := by cases args; simp_all
  obtain ⟨rfl, rfl⟩ := trodVars_none hV
  obtain ⟨a0, rfl, rfl, rfl, w0⟩ := open_int Try.underlying2 (hval 0 2 v0 rfl rfl) h0
  obtain ⟨A1, len1, cap1, rfl⟩ := okWide_slice Try.underlying22 (hval 1 22 v1 rfl rfl)
  obtain ⟨fuel1, hf1⟩ := h1
  obtain ⟨hlen1, zs1, hz1⟩ := acts_of (A := A1) (len := len1) (cap := cap1) hf1
  obtain ⟨x2, rfl, hx2⟩ := LawK.open_one acE (ok := AcIn) Try.underlying32 cellsAct act_of (hval 2 32 v2 rfl rfl) h2
  clear hA0 hval0
  refine (misuse_walk I a0 A1 len1 cap1 zs1 x2.d x2.t x2.k W (LawK.in64 w0) hlen1 hz1 hx2.2.1 hx2.2.2).mono fun e W' ⟨he, hg⟩ => ?_
  subst he
  exact ⟨_, rfl, LawK.law_post laidOut (by rw [Try.params6]; decide +kernel) rfl (by kernel_rfl) Try.underlying4 rfl hW' hg⟩

theorem over (I : Sg) : Rows.SemaMisuseSaid :=
  OpenClaim.holds_of_wide 6 Try.f6 rfl rfl rfl rfl rfl rfl rfl ⟨rfl, rfl, rfl, rfl, rfl⟩ rfl rfl rfl rfl rfl (by kernel_rfl) Try.func6 (by kernel_rfl)
    (of_decide_eq_true (by kernel_rfl)) (by unfold Func.isWrapper; first | (rw [if_pos (by decide +kernel)]; kernel_rfl) | (rw [if_neg (by decide +kernel)]; exact ⟨rfl, rfl⟩))
    (fun os started H enc _ => lifted I os started H enc)
#print axioms over
end Go.Proofs.Ytaplikopapnlpaa.semaMisuse
