/-
  What a slice that came in reads as, whatever its elements are, where one element's cells are known by its type. Over any program. No condition.
-/
import Derived.Test.YthdipkdolgcmgaaLaw
import Derived.Test.YthdipkdolgcmgaaCells
namespace Go.Proofs.Ythdipkdolgcmgaa.LawK
open Go.ChangeShapes Go.WideShapes Go.ChangeAt Go.RowKit Mem
section
variable {H : Type} {enc : TypeId × Value → H} {P : Program}

theorem open_list {α : Type} (E : Enc α) {ok : α → Prop} {w : World} {base : Nat} {spare : Nat → Bool} {held : Bool} {t e : TypeId} {fuel : Nat} {A : Option Addr} {len cap : Nat} {x : DataW H × List MemPlace} (ht : P.underlying t = some (.slice e)) (hC : P.cellsOf e = E.sz)
    (hel : ∀ fuel cs y, DataW.trod enc P w base spare held fuel e cs = some y → cs.length = E.sz → ∃ a, E.cells a = cs ∧ ok a) (h : DataW.trod enc P w base spare held fuel t [.slice A len cap] = some x) :
    len ≤ maxLen ∧ (len ≤ 1000000 → ∃ zs : List α, zs.length = len ∧ RdL E w (fun b => b < w.heap.size) (.slice A len cap) zs ∧ ∀ z ∈ zs, ok z) := by
  rcases Go.Deep.open_slice ht h with ⟨h0, _⟩ | ⟨a, len', cap', m, n, D, Pl, hcs, hb, hl, hm, hmm, hx, hi⟩
  · simp at h0
    obtain ⟨rfl, rfl, rfl⟩ := h0
    exact ⟨Nat.zero_le _, fun _ => ⟨[], rfl, RdL.nil _ _ _ _, fun z hz => by cases hz⟩⟩
  · simp at hcs
    obtain ⟨rfl, rfl, rfl⟩ := hcs
    refine ⟨by omega, fun hle => ?_⟩
    have hlm : len ≤ m := by rw [hmm]; split <;> omega
    have elem : ∀ i, i < len → ∃ z, ok z ∧ ∀ j u, (E.cells z)[j]? = some u → w.cell? (a.add (i * E.sz + j)) = some u := by
      intro i hil
      obtain ⟨cs', hc, ht'⟩ := hi i (by omega)
      rw [hC] at hc
      obtain ⟨_, hcl, hat⟩ := World.cells?_some hc
      obtain ⟨z, hz, hok⟩ := hel _ _ _ ht' hcl
      refine ⟨z, hok, fun j u hu => ?_⟩
      rw [hz] at hu
      have hj : j < E.sz := by
        have := (List.getElem?_eq_some_iff.1 hu).1
        omega
      rw [← Go.Deep.add_add, hat j hj, hu]
    rcases Nat.eq_zero_or_pos len with h0 | hp
    · subst h0
      exact ⟨[], rfl, RdL.nil _ _ _ _, fun z hz => by cases hz⟩
    have elem' : ∀ i : Fin len, ∃ z, ok z ∧ ∀ j u, (E.cells z)[j]? = some u → w.cell? (a.add (i.1 * E.sz + j)) = some u := fun i => elem i.1 i.2
    let f : Fin len → α := fun i => Classical.choose (elem' i)
    have hf : ∀ i, ok (f i) ∧ ∀ j u, (E.cells (f i))[j]? = some u → w.cell? (a.add (i.1 * E.sz + j)) = some u := fun i => Classical.choose_spec (elem' i)
    obtain ⟨b, off, spot⟩ := a
    have hcell0 : ∃ u, w.cell? ((⟨b, off, spot⟩ : Addr).add (0 * E.sz + 0)) = some u := by
      have h0 := E.len (f ⟨0, hp⟩)
      have hp0 := E.pos
      exact ⟨_, (hf ⟨0, hp⟩).2 0 _ (List.getElem?_eq_getElem (by omega))⟩
    obtain ⟨u0, hu0⟩ := hcell0
    have hspot : spot = none := by simpa [Addr.add] using World.cell?_spot hu0
    subst hspot
    refine ⟨List.ofFn f, by simp, ⟨some ⟨b, off, none⟩, cap, by rw [List.length_ofFn], by rw [List.length_ofFn]; exact hle, fun _ => ⟨b, off, rfl, ?_, ?_, fun i z hz j u hu => ?_⟩⟩, fun z hz => ?_⟩
    · rw [add_plain] at hu0; exact World.block_lt_of_cell? _ _ hu0
    · rw [add_plain] at hu0; exact World.block_lt_of_cell? _ _ hu0
    · rw [List.getElem?_ofFn] at hz
      split at hz
      · rename_i hil
        injection hz with hz
        subst hz
        have := (hf ⟨i, hil⟩).2 j u hu
        rwa [add_plain] at this
      · cases hz
    · obtain ⟨i, rfl⟩ := List.mem_ofFn.1 hz
      exact (hf i).1

/-- A struct's cells, field by field. -/
theorem field_cells {w : World} {base : Nat} {spare : Nat → Bool} {held : Bool} {t : TypeId} {fs : Array Field} {fuel : Nat} {cs : List Value} {x : DataW H × List MemPlace} (he : P.underlying t = some (.struct fs)) (h : DataW.trod enc P w base spare held fuel t cs = some x) :
    ∀ (j : Nat) (f : Field), fs[j]? = some f → ∃ fuel' y, DataW.trod enc P w base spare held fuel' f.type ((cs.drop f.offset).take (P.cellsOf f.type)) = some y := by
  obtain ⟨ys, n', _, _, hlen, hyl, hf⟩ := DataW.trod_struct he h
  intro j f hj
  have hjl : j < fs.size := (Array.getElem?_eq_some_iff.1 hj).1
  exact ⟨_, _, (hf j f hj).trans (List.getElem?_eq_getElem (by omega))⟩
/-- A struct of int64s, field by field: field number j's cell. -/
theorem int_cell {w : World} {base : Nat} {spare : Nat → Bool} {held : Bool} {t : TypeId} {fs : Array Field} {fuel : Nat} {cs : List Value} {x : DataW H × List MemPlace} (he : P.underlying t = some (.struct fs)) (h : DataW.trod enc P w base spare held fuel t cs = some x)
    (j : Nat) {f : Field} (hf : fs[j]? = some f) {q : IntKind} (hi : P.underlying f.type = some (.int q)) (hc : P.cellsOf f.type = 1) : ∃ n, cs[f.offset]? = some (.int q n) ∧ (Lit.int q n).wf = true := by
  obtain ⟨fuel', y, hy⟩ := field_cells he h j f hf
  obtain ⟨n, hn, _, hw⟩ := DataW.trod_int hi hy
  rw [hc] at hn
  refine ⟨n, ?_, hw⟩
  have := congrArg (fun l : List Value => l[0]?) hn
  simpa [List.getElem?_take, List.getElem?_drop] using this
/-- A struct that came in by value. -/
theorem open_one {α : Type} (E : Enc α) {ok : α → Prop} {w : World} {base b0 : Nat} {r : Reach} {spare : Nat → Bool} {held : Bool} {t : TypeId} {fs : Array Field} {v : Value} {d : DataW H} {ps : List MemPlace} (ht : P.underlying t = some (.struct fs)) (hC : P.cellsOf t = E.sz)
    (hel : ∀ fuel cs y, DataW.trod enc P w base spare held fuel t cs = some y → cs.length = E.sz → ∃ a, E.cells a = cs ∧ ok a) (hval : Value.okWide P w r b0 t v) (hd : DataW.Trod enc P w base spare held t v d ps) :
    ∃ a, v = .agg (E.cells a).toArray ∧ ok a := by
  obtain ⟨cs, rfl, hsz⟩ := okWide_struct ht hval
  obtain ⟨fuel, hf⟩ := hd
  obtain ⟨a, ha, hok⟩ := hel fuel cs.toList _ hf (by rw [Array.length_toList, hsz, hC])
  exact ⟨a, by rw [ha], hok⟩
end
end Go.Proofs.Ythdipkdolgcmgaa.LawK
