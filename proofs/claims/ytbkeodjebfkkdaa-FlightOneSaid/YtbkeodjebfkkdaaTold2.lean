/-
  Two lists that a call tells at once; a list that is told beside other results; a struct of three cells that a call has made. Over any program. No condition.
-/
import Derived.Test.YtbkeodjebfkkdaaObjL
namespace Go.Proofs.Ytbkeodjebfkkdaa.Hand
open Go.ChangeShapes Go.WideShapes Go.ChangeAt Go.RowKit Mem
section
variable {P : Program} {S : Type} {O : Ob S} {B : Nat → Prop} {w wk : World} {Rs : List Res} {v : Value} {s s' : S} {f : FuncId} {args : Array Value}
/-- A call that tells a list beside something else, and changes one of them. -/
theorem ob_tellsE (h : Sep B w wk Rs) (i : Nat) (hi : Rs[i]? = some (ob O v s)) {l : List Int} {e0 : Value → Ending} (hc : ∀ F, O.A wk v F s → Calls P f args wk fun e wn => ∃ u, e = e0 u ∧ Tells (ob O v s') F wk wn u l) :
    Calls P f args wk fun e wn => ∃ A c, e = e0 (.slice A l.length c) ∧ Sep B w wn (nums (.slice A l.length c) l :: Rs.set i (ob O v s')) := by
  obtain ⟨F, hR, hn⟩ := h.splice2 i hi
  refine (hc F hR).mono ?_
  rintro e wn ⟨u, rfl, hu⟩
  obtain ⟨A, c, rfl⟩ : ∃ A c, u = .slice A l.length c := by obtain ⟨_, _, _, hr, _⟩ := hu; exact rd_form hr
  exact ⟨A, c, rfl, hn hu.sep⟩
/-- Two lists that were told, in blocks of their own. -/
def Says2 (w w' : World) (u u' : Value) (l l' : List Int) : Prop := Rd w' (fun k => w.heap.size ≤ k) u l ∧ Rd w' (fun k => w.heap.size ≤ k) u' l' ∧ Below w.heap.size w w'
/-- Two lists that were told. -/
def nums2 (v v' : Value) (xs ys : List Int) : Res where
  holds w F := Rd w F v xs ∧ Rd w F v' ys ∧ ∀ k, F k → k < w.heap.size
  keep := fun ⟨h, h', e⟩ hs hk => ⟨h.keep hs hk, h'.keep hs hk, fun k hF => Nat.lt_of_lt_of_le (e k hF) hs⟩
  lt := fun ⟨_, _, e⟩ => e
theorem Sep.rd2 (h : Sep B w wk Rs) (i : Nat) {v v' : Value} {xs ys : List Int} (hi : Rs[i]? = some (nums2 v v' xs ys)) : Rd wk (fun _ => True) v xs ∧ Rd wk (fun _ => True) v' ys := by
  obtain ⟨F, h1, h2, _⟩ := h.get i hi
  exact ⟨h1.mono fun _ _ _ => trivial, h2.mono fun _ _ _ => trivial⟩
theorem ob_told2 (h : Sep B w wk Rs) (i : Nat) (hi : Rs[i]? = some (ob O v s)) {l l' : List Int} (hc : ∀ F, O.A wk v F s → Calls P f args wk fun e wn => ∃ u u', e = .returned (.tuple #[u, u']) ∧ Says2 wk wn u u' l l') :
    Calls P f args wk fun e wn => ∃ A c A' c', e = .returned (.tuple #[.slice A l.length c, .slice A' l'.length c']) ∧ Sep B w wn (nums2 (.slice A l.length c) (.slice A' l'.length c') l l' :: Rs) ∧ Below wk.heap.size wk wn := by
  obtain ⟨F, hR⟩ := h.get i hi
  refine (hc F hR).mono ?_
  rintro e wn ⟨u, u', rfl, hr, hr', hb⟩
  obtain ⟨A, c, rfl⟩ := rd_form hr
  obtain ⟨A', c', rfl⟩ := rd_form hr'
  exact ⟨A, c, A', c', rfl, h.add hb (R := nums2 _ _ l l') (F := fun k => wk.heap.size ≤ k ∧ k < wn.heap.size) ⟨hr.mono fun k hk hg => ⟨hg, hk⟩, hr'.mono fun k hk hg => ⟨hg, hk⟩, fun k hk => hk.2⟩ fun k hk => hk.1, hb⟩
/-- A block of three cells, as the walk reads it. -/
theorem cells3 {g : Nat} {a b c : Value} {T : TypeId} (h : wk.heap[g]? = some (.cells #[a, b, c] T (0, 0))) :
    (wk.cell? ⟨g, 0, none⟩ = some a ∧ wk.cell? ⟨g, 1, none⟩ = some b ∧ wk.cell? ⟨g, 2, none⟩ = some c) ∧ wk.frozen? ⟨g, 0, none⟩ = false ∧ wk.frozen? ⟨g, 1, none⟩ = false ∧ wk.frozen? ⟨g, 2, none⟩ = false :=
  ⟨⟨(cell_block h 0).trans rfl, (cell_block h 1).trans rfl, (cell_block h 2).trans rfl⟩, frozen_block h 0, frozen_block h 1, frozen_block h 2⟩
/-- All three are stored anew. -/
theorem Sep.put3 {g : Nat} {a b c : Value} {T : TypeId} (h : Sep B w wk (blk g (.cells #[a, b, c] T (0, 0)) :: Rs)) (x y z : Value) :
    Sep B w (((wk.setCell ⟨g, 0, none⟩ x).setCell ⟨g, 1, none⟩ y).setCell ⟨g, 2, none⟩ z) (blk g (.cells #[x, y, z] T (0, 0)) :: Rs) :=
  ((h.set 0 rfl 0 x).set 0 rfl 1 y).set 0 rfl 2 z
theorem results_tmp3 {fn : Func} {t u v : Tmp} (h : fn.results = #[.tmp t, .tmp u, .tmp v]) (tmps : Array Value) (P : Program) (w : World) :
    (results fn tmps).run P w = .ok (.tuple #[tmps.getD t undef, tmps.getD u undef, tmps.getD v undef]) w := by
  simp [results, h]
end
end Go.Proofs.Ytbkeodjebfkkdaa.Hand
