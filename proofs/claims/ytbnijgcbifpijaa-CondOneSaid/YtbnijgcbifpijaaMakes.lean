/-
  'make([]int, n)' as a thing at hand. Over any program. No condition.
-/
import Derived.Test.YtbnijgcbifpijaaSlide
namespace Go.Proofs.Ytbnijgcbifpijaa.Hand
open Go.ChangeShapes Go.WideShapes Go.ChangeAt Go.RowKit Mem

theorem wpList_makeS {P : Program} {ops : Array Oper} {rest : List Oper} {o : Oper} {a : Act} {Q : Exit → Act → World → Prop}
    (hg : o.guard = none) (l c : Operand) {t e : TypeId} (he : IntElem P t e) (hop : o.op = Op.makeSlice t l c)
    (n : Nat) (hl : a.eval l = .int .i64 (n : Int)) (hc : a.eval c = .int .i64 (n : Int)) (hn : n ≤ 100000)
    {B : Nat → Prop} {w wk : World} {Rs : List Res} (h : Sep B w wk Rs)
    (hK : ∀ wn, Sep B w wn (grow intE e (.slice (some ⟨wk.heap.size, 0, none⟩) n n) (List.replicate n 0) :: Rs) → wn.heap.size = wk.heap.size + 1 → wpList P ops Q rest (a.put o.dst (.slice (some ⟨wk.heap.size, 0, none⟩) n n)) wn) :
    wpList P ops Q (o :: rest) a wk := by
  obtain ⟨h1, i, h2, h3, h4, h5⟩ := he
  refine wpList_plain hg fun K hK' => ?_
  have hr := run_make (P := P) wk t e i (.int .i64 0) h1 h2 h3 .i64 .i64 n n (by omega) (Int.le_refl _) (by rw [h5]; omega) (by omega)
  simp only [Int.toNat_natCast] at hr
  rw [h4] at hr
  have hm : (madeCells (Value.int .i64 0).cells (n * 1)).toList = (List.replicate n (0 : Int)).flatMap intE.cells := by
    have := toList_madeCells_one (.int .i64 0) n
    rw [flat_ints, Nat.mul_one, List.map_replicate]
    exact this
  have ho := World.ownsRow_lit (e := e) (size := 1) (base := 0) wk (madeCells (Value.int .i64 0).cells (n * 1)) n (Nat.zero_le _) (by unfold maxLen; omega) (size_madeCells _ _)
  rw [hm] at ho
  unfold Oper.wp
  simp [execOp, hop, hl, hc, hr, Result.andThen]
  refine hK' _ _ (hK _ ?_ (by simp))
  refine h.add (new_below0 wk _) (R := grow intE e (.slice (some ⟨wk.heap.size, 0, none⟩) n n) (List.replicate n 0)) ⟨?_, rfl⟩ fun k hk => ?_
  · show World.ownsRow _ _ _ _ _ (List.replicate n (0 : Int)).length _
    rw [List.length_replicate]
    rw [Nat.mul_one] at ho
    exact ho
  · simp [Value.ownBlock] at hk
    omega
end Go.Proofs.Ytbnijgcbifpijaa.Hand
