/-
  Proved: the law HeapOrder returns true for every input and leaves its arguments as they were, over any package that meets the interface. Condition: the interface.
-/
import Derived.Test.YtilfjhpellmfoaaHeapOpen
import Derived.Test.YtilfjhpellmfoaaHeapOrder
namespace Go.Proofs.Ytilfjhpellmfoaa.heapOrder
open Go.ChangeShapes Go.WideShapes Go.ChangeAt Go.RowKit Mem HeapI heapRows

set_option maxRecDepth 100000 in
theorem lifted (I : Heap) (os : Os) (started : os.Started) (H : Type) (enc : TypeId × Value → H) :
    ReturnsInHanded {} Try.checked os 4 .any (Rows.heapOrderSpec.pre6 enc Try.prog Try.f4 Rows.heapOrderRow.domain false) (Rows.heapOrderSpec.post enc Try.prog Try.f4 false true false false) := by
  refine returnsInHanded_of_change (C := Try.checked) own started (by kernel_rfl) Try.func4
    (ChangeSpec.witness6 (enc := enc) (C := Try.checked) false ⟨#[], #[.agg #[.int .i64 0, .int .i64 0, .int .i64 0], .agg #[.int .i64 0, .int .i64 0, .int .i64 0], .agg #[.int .i64 0, .int .i64 0, .int .i64 0]], []⟩ 8 (by kernel_rfl) (by kernel_rfl) (by kernel_rfl) (by kernel_rfl)) ?_
  intro W base args ds gs before hval0 hW hcnd _
  have hval : ∀ (j : Nat) t v, Try.f4.params[j]? = some t → args[j]? = some v → Value.okWide Try.prog W .any base t v := hval0
  have hW' := hW
  obtain ⟨p, q, hA0, hV, rfl, hfz, hnd⟩ := hW
  have hA : DataW.TrodAll enc Try.prog W 0 (fun _ => true) true Try.f4.params.toList args.toList ds p := hA0
  rw [Try.params4] at hA hval
  obtain ⟨v0, vs0, d0, ds0, p0, q0, hargs, rfl, rfl, h0, r0⟩ := trodAll_cons hA
  obtain ⟨v1, vs1, d1, ds1, p1, q1, rfl, rfl, rfl, h1, r1⟩ := trodAll_cons r0
  obtain ⟨v2, vs2, d2, ds2, p2, q2, rfl, rfl, rfl, h2, r2⟩ := trodAll_cons r1
  obtain ⟨rfl, rfl, rfl⟩ := trodAll_nil r2
  obtain rfl : args = #[v0, v1, v2] := by cases args; simp_all
  obtain ⟨rfl, rfl⟩ := trodVars_none hV
  obtain ⟨x0, rfl, hx0⟩ := LawK.open_one RefHeap.entE (ok := EntIn) Try.underlying32 cellsEnt ent_of (hval 0 32 v0 rfl rfl) h0
  obtain ⟨x1, rfl, hx1⟩ := LawK.open_one RefHeap.entE (ok := EntIn) Try.underlying32 cellsEnt ent_of (hval 1 32 v1 rfl rfl) h1
  obtain ⟨x2, rfl, hx2⟩ := LawK.open_one RefHeap.entE (ok := EntIn) Try.underlying32 cellsEnt ent_of (hval 2 32 v2 rfl rfl) h2
  clear hA0 hval0
  refine (order_walk I x0 x1 x2 hx0 hx1 hx2 W).mono fun e W' ⟨he, hg⟩ => ?_
  subst he
  exact ⟨_, rfl, LawK.law_post laidOut (by rw [Try.params4]; decide +kernel) rfl (by kernel_rfl) Try.underlying4 rfl hW' hg⟩

theorem over (I : Heap) : Rows.HeapOrderSaid :=
  OpenClaim.holds_of_wide 4 Try.f4 rfl rfl rfl rfl rfl rfl rfl ⟨rfl, rfl, rfl, rfl, rfl⟩ rfl rfl rfl rfl rfl (by kernel_rfl) Try.func4 (by kernel_rfl)
    (of_decide_eq_true (by kernel_rfl)) (by unfold Func.isWrapper; first | (rw [if_pos (by decide +kernel)]; kernel_rfl) | (rw [if_neg (by decide +kernel)]; exact ⟨rfl, rfl⟩))
    (fun os started H enc _ => lifted I os started H enc)
#print axioms over
end Go.Proofs.Ytilfjhpellmfoaa.heapOrder
