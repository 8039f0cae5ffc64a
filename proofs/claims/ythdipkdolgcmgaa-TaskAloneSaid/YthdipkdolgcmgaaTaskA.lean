/-
  Acts of layer 18, as they lie in a slice: five numbers, and what a task waits for. No condition.
-/
import Derived.Test.YthdipkdolgcmgaaTaskD
namespace Go.Proofs.Ythdipkdolgcmgaa.TaskI
open Go.ChangeShapes Go.WideShapes Go.ChangeAt Go.RowKit Mem MutP TaskP Hand

/-- An act. -/
structure AcT where
  d : Int
  t : Int
  a : Int
  b : Int
  x : Int
  q : Pk
def acE : Enc AcT := ⟨11, fun x => [.int .i64 x.d, .int .i64 x.t, .int .i64 x.a, .int .i64 x.b, .int .i64 x.x, .int .i64 x.q.k, .int .i64 x.q.o, .int .i64 x.q.c, .int .i64 x.q.r, .int .i64 x.q.l, .int .i64 x.q.n], fun _ => rfl, by intro a u hu; simp at hu; rcases hu with rfl | rfl | rfl | rfl | rfl | rfl | rfl | rfl | rfl | rfl | rfl <;> rfl, by omega⟩
theorem ac_cells {w : World} {G : Nat → Prop} {A : Option Addr} {n c : Nat} {L : List AcT} (h : RdL acE w G (.slice A n c) L) {i : Nat} {x : AcT} (hi : L[i]? = some x) :
    ∃ b off, A = some ⟨b, off, none⟩ ∧ b < w.heap.size ∧ w.cell? ⟨b, off + i * 11, none⟩ = some (.int .i64 x.d) ∧ w.cell? ⟨b, off + i * 11 + 1, none⟩ = some (.int .i64 x.t) ∧ w.cell? ⟨b, off + i * 11 + 2, none⟩ = some (.int .i64 x.a) ∧ w.cell? ⟨b, off + i * 11 + 3, none⟩ = some (.int .i64 x.b) ∧ w.cell? ⟨b, off + i * 11 + 4, none⟩ = some (.int .i64 x.x) ∧ w.cell? ⟨b, off + i * 11 + 5, none⟩ = some (.int .i64 x.q.k) ∧ w.cell? ⟨b, off + i * 11 + 6, none⟩ = some (.int .i64 x.q.o) ∧ w.cell? ⟨b, off + i * 11 + 7, none⟩ = some (.int .i64 x.q.c) ∧ w.cell? ⟨b, off + i * 11 + 8, none⟩ = some (.int .i64 x.q.r) ∧ w.cell? ⟨b, off + i * 11 + 9, none⟩ = some (.int .i64 x.q.l) ∧ w.cell? ⟨b, off + i * 11 + 10, none⟩ = some (.int .i64 x.q.n) := by
  obtain ⟨b, off, hA, _, hb, hc⟩ := h.at_ hi
  exact ⟨b, off, hA, hb, hc 0 _ rfl, hc 1 _ rfl, hc 2 _ rfl, hc 3 _ rfl, hc 4 _ rfl, hc 5 _ rfl, hc 6 _ rfl, hc 7 _ rfl, hc 8 _ rfl, hc 9 _ rfl, hc 10 _ rfl⟩
def AcIn (z : AcT) : Prop := In64 z.d ∧ In5 z.t z.a z.b z.x z.q
/-- What the laws are asked of: numbers that may be. -/
def ZsIn (w : World) (A : Option Addr) (len cap : Nat) (zs : List AcT) : Prop := len ≤ 1000000 → zs.length = len ∧ RdL acE w (fun b => b < w.heap.size) (.slice A len cap) zs ∧ ∀ z ∈ zs, AcIn z
end Go.Proofs.Ythdipkdolgcmgaa.TaskI
