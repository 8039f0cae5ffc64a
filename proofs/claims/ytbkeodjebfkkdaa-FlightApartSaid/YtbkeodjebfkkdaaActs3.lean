/-
  Acts of three numbers, as they lie in a slice (layers 10 and on). No condition.
-/
import Derived.Test.YtbkeodjebfkkdaaMutP
import Derived.Test.YtbkeodjebfkkdaaCells
namespace Go.Proofs.Ytbkeodjebfkkdaa.Acts3
open Go.ChangeShapes Go.WideShapes Go.ChangeAt Go.RowKit Mem MutP

/-- An act, as it lies in a slice. -/
structure Ac where
  d : Int
  t : Int
  k : Int
def acE : Enc Ac := ⟨3, fun x => [.int .i64 x.d, .int .i64 x.t, .int .i64 x.k], fun _ => rfl, by intro a u hu; simp at hu; rcases hu with rfl | rfl | rfl <;> rfl, by omega⟩
theorem ac_cells {w : World} {G : Nat → Prop} {A : Option Addr} {n c : Nat} {L : List Ac} (h : RdL acE w G (.slice A n c) L) {i : Nat} {x : Ac} (hi : L[i]? = some x) :
    ∃ b off, A = some ⟨b, off, none⟩ ∧ b < w.heap.size ∧ w.cell? ⟨b, off + i * 3, none⟩ = some (.int .i64 x.d) ∧ w.cell? ⟨b, off + i * 3 + 1, none⟩ = some (.int .i64 x.t) ∧ w.cell? ⟨b, off + i * 3 + 2, none⟩ = some (.int .i64 x.k) := by
  obtain ⟨b, off, hA, _, hb, hc⟩ := h.at_ hi
  exact ⟨b, off, hA, hb, hc 0 _ rfl, hc 1 _ rfl, hc 2 _ rfl⟩
/-- An act's numbers may be. -/
def AcIn (z : Ac) : Prop := In64 z.d ∧ In64 z.t ∧ In64 z.k
/-- What the laws are asked of: numbers that may be. -/
def ZsIn (w : World) (A : Option Addr) (len cap : Nat) (zs : List Ac) : Prop := len ≤ 1000000 → zs.length = len ∧ RdL acE w (fun b => b < w.heap.size) (.slice A len cap) zs ∧ ∀ z ∈ zs, AcIn z
end Go.Proofs.Ytbkeodjebfkkdaa.Acts3
