/-
  Slices of int64s as slices of things of one cell: what one has made reads as what one was told. Over any program that has them. No condition.
-/
import Derived.Test.YthdipkdolgcmgaaRows
import Derived.Test.YthdipkdolgcmgaaSep
namespace Go.Proofs.Ythdipkdolgcmgaa.Hand
open Go.ChangeShapes Go.WideShapes Go.ChangeAt Go.RowKit Mem

/-- Numbers as a slice's elements. -/
def intE : Enc Int := ⟨1, fun x => [.int .i64 x], fun _ => rfl, by intro a u hu; simp at hu; subst hu; rfl, by omega⟩
theorem intElemL : Elem intE Try.prog 49 3 := elem_of (z := .int .i64 0) (bytes := 8) Try.underlying49 (by kernel_rfl) rfl (by omega)
theorem rd_of {w : World} {G : Nat → Prop} {v : Value} {xs : List Int} (h : RdL intE w G v xs) : Rd w G v xs := by
  obtain ⟨A, c, e, hm, hx⟩ := h
  refine ⟨A, c, e, hm, fun hp => ?_⟩
  obtain ⟨b, off, ha, hg, hb, hc⟩ := hx hp
  refine ⟨b, off, ha, hg, hb, fun j hj => ?_⟩
  have h1 : xs[j]? = some (xs.getD j 0) := by rw [List.getD_eq_getElem?_getD, List.getElem?_eq_getElem hj]; rfl
  have := hc j _ h1 0 _ rfl
  rw [show off + (j * intE.sz + 0) = off + j from by show off + (j * 1 + 0) = _; omega] at this
  exact this
theorem rdL_of {w : World} {G : Nat → Prop} {v : Value} {xs : List Int} (h : Rd w G v xs) : RdL intE w G v xs := by
  obtain ⟨A, c, e, hm, hx⟩ := h
  refine ⟨A, c, e, hm, fun hp => ?_⟩
  obtain ⟨b, off, ha, hg, hb, hc⟩ := hx hp
  refine ⟨b, off, ha, hg, hb, fun i a hi j u hj => ?_⟩
  have hl := (List.getElem?_eq_some_iff.1 hi).1
  have ha' : xs.getD i 0 = a := by rw [List.getD_eq_getElem?_getD, hi]; rfl
  have hj0 : j = 0 ∧ u = .int .i64 a := by
    cases j with
    | zero => exact ⟨rfl, by simpa [intE] using hj.symm⟩
    | succ j => simp [intE] at hj
  obtain ⟨rfl, rfl⟩ := hj0
  rw [show off + (i * intE.sz + 0) = off + i from by show off + (i * 1 + 0) = _; omega, hc i hl, ha']

section
variable {B : Nat → Prop} {w wk : World} {Rs : List Res}
/-- What one has made is what one was told. -/
theorem grow_nums {e : TypeId} {v : Value} {l : List Int} (h : Sep B w wk (grow intE e v l :: Rs)) (hl : l.length ≤ 1000000) : Sep B w wk (nums v l :: Rs) := by
  obtain ⟨ho, F1, F2, ⟨h1, rfl⟩, h2, s1, s2, d⟩ := h
  exact ⟨ho, _, F2, ⟨rd_of (h1.rd hl fun k hk => hk), fun k hk => (h1.lt k hk).2⟩, h2, s1, s2, d⟩
end
end Go.Proofs.Ythdipkdolgcmgaa.Hand
