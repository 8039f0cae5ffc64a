/-
  Contracts of the functions of package heap, as it landed, first part: the blocks of a heap, comparisons, one place. Condition: the pointer's blocks are as 'HB' says.
-/
import Derived.Test.YtpoolfnfboohjaaRows
import Derived.Test.YtpoolfnfboohjaaHeapP
import Derived.StillTailTactics
import Derived.Deep.QuietTactic
import Derived.BigQuiet
import Derived.Deep.OwnRows
import Derived.Deep.RegionHeld3
namespace Go.Proofs.Ytpoolfnfboohjaa.HeapC
open Go.ChangeShapes Go.WideShapes Go.ChangeAt Go.RowKit Mem RefHeap HeapI HeapP

theorem intElem : IntElem Try.prog 73 3 := intElem_of Try.underlying73 (by kernel_rfl)
theorem rowElem : Elem entE Try.prog 68 65 := elem_of (z := .agg #[.int .i64 0, .int .i64 0, .int .i64 0]) (bytes := 24) Try.underlying68 (by kernel_rfl) rfl (by omega)

/-- A heap's blocks: its head g, its places q, its rows u. -/
structure HB (w : World) (g q : Nat) (u : Value) (R : List Ent) (p : List Int) : Prop where
  head : w.heap[g]? = some (.cells #[u, .slice (some ⟨q, 0, none⟩) p.length p.length] 75 (0, 0))
  places : Own w 0 3 (.slice (some ⟨q, 0, none⟩) p.length p.length) p
  rows : OwnL entE w 0 65 u R
  ne : g ≠ q
  apart : ∀ k, u.ownBlock = some k → k ≠ g ∧ k ≠ q

/-- The blocks of a heap. -/
def foot (g q : Nat) (u : Value) : Nat → Prop := fun k => k = g ∨ k = q ∨ u.ownBlock = some k

section
variable {w w' : World} {g q : Nat} {u : Value} {R : List Ent} {p : List Int} {x : Ent} {k i : Nat}
theorem HB.glt (h : HB w g q u R p) : g < w.heap.size := lt_of_block h.head
theorem HB.qlt (h : HB w g q u R p) : q < w.heap.size := (World.ownsRow.lt h.places q rfl).2
theorem HB.lt (h : HB w g q u R p) : ∀ k, foot g q u k → k < w.heap.size := by
  intro k hk
  rcases hk with rfl | rfl | hk
  · exact h.glt
  · exact h.qlt
  · exact (h.rows.lt k hk).2
theorem own_of_blocks {w w' : World} {base : Nat} {e : TypeId} {v : Value} {xs : List Int} (h : Own w base e v xs) (hk : ∀ g, v.ownBlock = some g → g < w.heap.size → w'.heap[g]? = w.heap[g]?) : Own w' base e v xs := by
  refine ⟨h.1, ?_⟩
  rcases h.2 with h0 | ⟨g, cap, cur, rfl, hb, hg, rest⟩
  · exact .inl h0
  · exact .inr ⟨g, cap, cur, rfl, hb, (hk g rfl (lt_of_block hg)).trans hg, rest⟩
theorem HB.keep (h : HB w g q u R p) (hk : ∀ k, k < w.heap.size → foot g q u k → w'.heap[k]? = w.heap[k]?) : HB w' g q u R p :=
  ⟨(hk g h.glt (.inl rfl)).trans h.head, own_of_blocks h.places fun k hq hl => hk k hl (by simp [Value.ownBlock] at hq; exact .inr (.inl hq.symm)), h.rows.of_blocks fun k hq hl => hk k hl (.inr (.inr hq)), h.ne, h.apart⟩
theorem HB.below (h : HB w g q u R p) (hb : Below w.heap.size w w') : HB w' g q u R p := h.keep fun k hk _ => hb.block k hk
theorem HB.drewN (h : HB w g q u R p) (n : Nat) : HB (w.drewN n) g q u R p := h.keep fun _ _ _ => rfl
theorem HB.drew (h : HB w g q u R p) : HB w.drew g q u R p := h.keep fun _ _ _ => rfl
theorem HB.alloc (h : HB w g q u R p) (o : Obj) : HB (w.alloc o) g q u R p := h.below (new_below0 w o)
theorem HB.c0 (h : HB w g q u R p) : w.cell? ⟨g, 0, none⟩ = some u := (cell_block h.head 0).trans rfl
theorem HB.c1 (h : HB w g q u R p) : w.cell? ⟨g, 1, none⟩ = some (.slice (some ⟨q, 0, none⟩) p.length p.length) := (cell_block h.head 1).trans rfl
theorem HB.f0 (h : HB w g q u R p) : w.frozen? ⟨g, 0, none⟩ = false := frozen_block h.head 0
theorem HB.form (h : HB w g q u R p) : ∃ A c, u = .slice A R.length c := h.rows.form
theorem HB.place (h : HB w g q u R p) {a : Int} (hi : p[i]? = some a) : w.cell? ⟨q, i, none⟩ = some (.int .i64 a) := by
  have hl := (List.getElem?_eq_some_iff.1 hi).1
  have := World.ownsRow.cellAt h.places i (by omega)
  rw [this, List.getElem?_map, hi]
  rfl
theorem HB.pf (h : HB w g q u R p) (i : Nat) : w.frozen? ⟨q, i, none⟩ = false := World.ownsRow.frozenAt h.places i
/-- One thing of the rows. -/
theorem HB.row (h : HB w g q u R p) {a : Ent} (hi : R[i]? = some a) : ∃ b c, u = .slice (some ⟨b, 0, none⟩) R.length c ∧ b ≠ g ∧ b ≠ q ∧ b < w.heap.size ∧ w.cell? ⟨b, i * 3, none⟩ = some (.int .i64 a.id) ∧ w.cell? ⟨b, i * 3 + 1, none⟩ = some (.int .i64 a.at_) ∧ w.cell? ⟨b, i * 3 + 2, none⟩ = some (.int .i64 a.seq) ∧ ∀ j, w.frozen? ⟨b, j, none⟩ = false := by
  have hl := (List.getElem?_eq_some_iff.1 hi).1
  rcases h.rows.2 with ⟨rfl, hn⟩ | ⟨b, cap, cur, rfl, hb, hg, hnc, hcm, hcs, hcur⟩
  · omega
  · have hap := h.apart b rfl
    have hc : ∀ j v, (entE.cells a)[j]? = some v → w.cell? ⟨b, i * 3 + j, none⟩ = some v := fun j v hj => by
      have := World.ownsRow.cells h.rows (g := b) rfl (i * 3 + j) v (flat_get R i a hi j v hj)
      rw [add_plain, Nat.zero_add] at this
      exact this
    exact ⟨b, cap, rfl, hap.1, hap.2, lt_of_block hg, hc 0 _ rfl, hc 1 _ rfl, hc 2 _ rfl, fun j => frozen_block hg j⟩

theorem set_flat {α : Type} {E : Enc α} : ∀ (R : List α) (k : Nat) (x : α), k < R.length → ∀ (ys : List Value), ys = E.cells x →
    (R.set k x).flatMap E.cells = (R.flatMap E.cells).take (k * E.sz) ++ ys ++ (R.flatMap E.cells).drop (k * E.sz + E.sz)
  | [], k, x, h, _, _ => by simp at h
  | r :: R, 0, x, _, ys, hy => by
    subst hy
    have hl := E.len r
    simp only [List.set_cons_zero, List.flatMap_cons, Nat.zero_mul, List.take_zero, List.nil_append, Nat.zero_add]
    rw [List.drop_append, hl, Nat.sub_self, List.drop_eq_nil_of_le (by omega), List.nil_append, List.drop_zero]
  | r :: R, k + 1, x, h, ys, hy => by
    have hl := E.len r
    rw [List.set_cons_succ, List.flatMap_cons, set_flat R k x (by simpa using h) ys hy, List.flatMap_cons, Nat.succ_mul]
    have e1 : k * E.sz + E.sz = (E.cells r).length + k * E.sz := by omega
    have e2 : k * E.sz + E.sz + E.sz = (E.cells r).length + (k * E.sz + E.sz) := by omega
    rw [e2, List.drop_length_add_append, e1, List.take_length_add_append]
    simp only [List.append_assoc]
theorem set3_flat (R : List Ent) (k : Nat) (x : Ent) (h : k < R.length) :
    (((R.flatMap entE.cells).set (k * 3) (.int .i64 x.id)).set (k * 3 + 1) (.int .i64 x.at_)).set (k * 3 + 2) (.int .i64 x.seq) = (R.set k x).flatMap entE.cells := by
  rw [set_flat (E := entE) R k x h _ rfl]
  have hL : (R.flatMap entE.cells).length = R.length * 3 := flat_length (E := entE) R
  generalize R.flatMap entE.cells = L at *
  have hs : entE.sz = 3 := rfl
  rw [hs]
  have hk : k * 3 + 3 ≤ L.length := by omega
  clear h hL
  generalize k * 3 = m at *
  have hc : entE.cells x = [.int .i64 x.id, .int .i64 x.at_, .int .i64 x.seq] := rfl
  rw [hc]
  apply List.ext_getElem?
  intro j
  simp only [List.getElem?_set, List.getElem?_append, List.length_append, List.length_take, List.length_set, List.getElem?_take, List.getElem?_drop, List.length_cons, List.length_nil]
  rcases (by omega : j < m ∨ j = m ∨ j = m + 1 ∨ j = m + 2 ∨ m + 3 ≤ j) with h | h | h | h | h
  · simp [show m + 2 ≠ j by omega, show m + 1 ≠ j by omega, show m ≠ j by omega, show j < min m L.length + (0 + 1 + 1 + 1) by omega, show j < min m L.length by omega, show j < m by omega]
  · subst h
    simp [show min j L.length = j by omega, show j < L.length by omega]
  · subst h
    simp [show min m L.length = m by omega, show m + 1 < L.length by omega, show ¬ m + 1 < m by omega]
  · subst h
    simp [show min m L.length = m by omega, show m + 2 < L.length by omega, show ¬ m + 2 < m by omega]
  · have e1 : ¬ j < m + (0 + 1 + 1 + 1) := by omega
    rw [show min m L.length = m by omega, if_neg (by omega), if_neg (by omega), if_neg (by omega), if_neg e1, show m + 3 + (j - (m + (0 + 1 + 1 + 1))) = j by omega]

/-- One thing stands at a place of the rows. -/
theorem own_set3 {c b n : Nat} (h : OwnL entE w 0 65 (.slice (some ⟨b, 0, none⟩) n c) R) (hk : k < R.length) (x : Ent) :
    OwnL entE (((w.setCell ⟨b, k * 3, none⟩ (.int .i64 x.id)).setCell ⟨b, k * 3 + 1, none⟩ (.int .i64 x.at_)).setCell ⟨b, k * 3 + 2, none⟩ (.int .i64 x.seq)) 0 65 (.slice (some ⟨b, 0, none⟩) n c) (R.set k x) := by
  have hn : n = R.length := by obtain ⟨A, c', e⟩ := h.form; injection e
  subst hn
  have h1 := (World.ownsRow.stored h (k * 3) (.int .i64 x.id)).1
  have h2 := (World.ownsRow.stored h1 (k * 3 + 1) (.int .i64 x.at_)).1
  have h3 := (World.ownsRow.stored h2 (k * 3 + 2) (.int .i64 x.seq)).1
  rw [set3_flat R k x hk] at h3
  unfold OwnL
  rw [List.length_set]
  exact h3
theorem own_set {w : World} {b n c : Nat} {e : TypeId} {xs : List Int} (h : Own w 0 e (.slice (some ⟨b, 0, none⟩) n c) xs) (k : Nat) (a : Int) : Own (w.setCell ⟨b, k, none⟩ (.int .i64 a)) 0 e (.slice (some ⟨b, 0, none⟩) n c) (xs.set k a) := by
  have hn : n = xs.length := by obtain ⟨A, c', e⟩ := h.form; injection e
  subst hn
  have h1 := (World.ownsRow.stored h k (.int .i64 a)).1
  unfold Own
  rw [List.length_set, List.map_set]
  exact h1
end
end Go.Proofs.Ytpoolfnfboohjaa.HeapC
