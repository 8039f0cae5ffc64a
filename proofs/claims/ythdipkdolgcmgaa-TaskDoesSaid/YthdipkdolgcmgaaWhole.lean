/-
  Structs and arrays as a whole, loaded from and stored to any place: many cells in one step, whatever they are. Over any program. No condition.
-/
import Derived.Test.YthdipkdolgcmgaaSep
import Derived.Test.YthdipkdolgcmgaaGrow
import Derived.Laws.Tables
import Derived.Laws.ResultCell
namespace Go.Proofs.Ythdipkdolgcmgaa.Hand
open Go.ChangeShapes Go.WideShapes Go.ChangeAt Go.RowKit Mem

/-- A struct or an array. -/
def aggD : TypeDesc → Bool
  | .struct _ => true
  | .array _ _ => true
  | _ => false
/-- A world in which so many cells from a place on have been stored. -/
def setCells (w : World) (b off : Nat) : List Value → World
  | [] => w
  | v :: vs => setCells (w.setCell ⟨b, off, none⟩ v) b (off + 1) vs
/-- What a block holds then. -/
def over (cs : Array Value) (off : Nat) : List Value → Array Value
  | [] => cs
  | v :: vs => over (cs.setIfInBounds off v) (off + 1) vs
theorem over_size : ∀ (vs : List Value) (cs : Array Value) (off : Nat), (over cs off vs).size = cs.size
  | [], _, _ => rfl
  | v :: vs, cs, off => by unfold over; rw [over_size vs]; simp
theorem over_get : ∀ (vs : List Value) (cs : Array Value) (off : Nat), off + vs.length ≤ cs.size → ∀ j : Nat, (over cs off vs)[j]? = if off ≤ j ∧ j < off + vs.length then vs[j - off]? else cs[j]?
  | [], cs, off, _, j => by
    unfold over
    rw [if_neg]
    rw [List.length_nil]
    omega
  | v :: vs, cs, off, h, j => by
    unfold over
    rw [List.length_cons] at h ⊢
    rw [over_get vs _ _ (by simp; omega)]
    by_cases h1 : off + 1 ≤ j ∧ j < off + 1 + vs.length
    · rw [if_pos h1, if_pos (by omega), show j - off = (j - (off + 1)) + 1 by omega, List.getElem?_cons_succ]
    · rw [if_neg h1, Array.getElem?_setIfInBounds]
      by_cases h2 : off = j
      · subst h2
        rw [if_pos rfl, if_pos (by omega), if_pos (by omega), Nat.sub_self, List.getElem?_cons_zero]
      · rw [if_neg h2, if_neg (by omega)]
/-- A whole block anew. -/
theorem over_all (vs : List Value) (cs : Array Value) (h : vs.length = cs.size) : over cs 0 vs = vs.toArray := by
  apply Array.ext_getElem?
  intro j
  rw [over_get vs cs 0 (by omega)]
  by_cases hj : j < vs.length
  · rw [if_pos (by omega), Nat.sub_zero, List.getElem?_toArray]
  · rw [if_neg (by omega), Array.getElem?_eq_none (by omega), List.getElem?_toArray, List.getElem?_eq_none (by omega)]
theorem over_same (vs : List Value) (cs : Array Value) (off : Nat) (hl : off + vs.length ≤ cs.size) (h : ∀ j, j < vs.length → cs[off + j]? = vs[j]?) : over cs off vs = cs := by
  apply Array.ext_getElem?
  intro j
  rw [over_get vs cs off hl]
  split
  · rename_i hj
    have := h (j - off) (by omega)
    rw [← this, show off + (j - off) = j by omega]
  · rfl

section
variable {P : Program}
theorem run_storeCells_at (b : Nat) (t : TypeId) : ∀ (vs : List Value) (off i : Nat) (cur : Array Value) (w : World), w.heap[b]? = some (.cells cur t (0, 0)) → off + i + vs.length ≤ cur.size → (∀ v ∈ vs, v.oneCell' = true) →
    (storeCells ⟨b, off, none⟩ vs i).run P w = .ok () (setCells w b (off + i) vs)
  | [], _, _, _, _, _, _, _ => rfl
  | v :: rest, off, i, cur, w, hg, hl, h1 => by
    rw [List.length_cons] at hl
    have hi : off + i < cur.size := by omega
    have hadd : (⟨b, off, none⟩ : Addr).add i = ⟨b, off + i, none⟩ := by unfold Addr.add; split <;> simp_all
    have hcell : w.cell? ⟨b, off + i, none⟩ = some cur[off + i] := by simp [World.cell?, hg, hi]
    have hfro : w.frozen? ⟨b, off + i, none⟩ = false := by simp [World.frozen?, hg]
    have hst : (store ((⟨b, off, none⟩ : Addr).add i) v).run P w = .ok () (w.setCell ⟨b, off + i, none⟩ v) := by
      rw [hadd, run_store P w _ v _ (h1 v (by simp)), hcell]
      simp [hfro]
    have hg2 : (w.setCell ⟨b, off + i, none⟩ v).heap[b]? = some (.cells (cur.setIfInBounds (off + i) v) t (0, 0)) := by
      rw [setCell_eq_setRow w b (off + i) cur t (0, 0) v hg]
      exact setRow_heap w b cur _ t _ hg
    have ih := run_storeCells_at b t rest off (i + 1) _ _ hg2 (by simp; omega) (fun x hx => h1 x (by simp [hx]))
    simp only [storeCells, Sem.run_bind, hst, Result.andThen_ok, ih]
    rfl
theorem run_storeVar_at (w : World) (b off : Nat) (t ty : TypeId) (cur cs : Array Value) (hg : w.heap[b]? = some (.cells cur t (0, 0))) (hi : (P.info? ty).map (·.size) = some cs.size)
    (ho : off + cs.size ≤ cur.size) (h1 : cs.all (·.oneCell') = true) :
    (storeVar ty ⟨b, off, none⟩ (.agg cs)).run P w = .ok () (setCells w b off cs.toList) := by
  have := run_storeCells_at (P := P) b t cs.toList off 0 cur w hg (by simp; omega) (fun v hv => (Array.all_eq_true_iff_forall_mem.1 h1) v (by simpa using hv))
  cases hq : P.info? ty with
  | none => simp [hq] at hi
  | some i =>
    have hs : cs.size = i.size := by simp [hq] at hi; omega
    simp [storeVar, sizeOf, typeInfo, hq, Value.cells, hs, this]
theorem run_loadVar_at (w : World) (b off : Nat) (ty : TypeId) (cs : Array Value) (d : TypeDesc) (hc : ∀ j, j < cs.size → w.cell? ⟨b, off + j, none⟩ = cs[j]?)
    (hu : P.underlying ty = some d) (hd : aggD d = true) (hi : (P.info? ty).map (·.size) = some cs.size) :
    (loadVar ty ⟨b, off, none⟩).run P w = .ok (.agg cs) w := by
  have hl : (loadCells ⟨b, off, none⟩ cs.toList.length).run P w = .ok cs.toList.toArray w :=
    run_loadCells_list (P := P) w ⟨b, off, none⟩ cs.toList (fun j v hv => by
      have hadd : (⟨b, off, none⟩ : Addr).add j = ⟨b, off + j, none⟩ := by unfold Addr.add; split <;> simp_all
      have hv : cs[j]? = some v := by simpa using hv
      rw [hadd, hc j (Array.getElem?_eq_some_iff.1 hv).1]
      exact hv)
  cases hq : P.info? ty with
  | none => simp [hq] at hi
  | some i =>
    have hs : i.size = cs.size := by simpa [hq] using hi
    have hagg : (isAgg ty).run P w = .ok true w := by
      unfold isAgg
      rw [Sem.run_bind, run_underlying hu w]
      cases d <;> simp_all [aggD]
    simp only [Array.length_toList, Array.toArray_toList] at hl
    simp [loadVar, Sem.run_bind, hagg, sizeOf, typeInfo, hq, hs, hl]

variable {ops : Array Oper} {rest : List Oper} {o : Oper} {a : Act} {w : World} {K : Act → World → Prop} {Q : Exit → Act → World → Prop}
theorem wp_loadAt (t : TypeId) (x : Operand) (ho : o.op = .load t x) {b off : Nat} {cs : Array Value} {d : TypeDesc} (hx : a.eval x = .pointer (some ⟨b, off, none⟩)) (hc : ∀ j, j < cs.size → w.cell? ⟨b, off + j, none⟩ = cs[j]?)
    (hu : P.underlying t = some d) (hd : aggD d = true) (hi : (P.info? t).map (·.size) = some cs.size) (h : K (a.put o.dst (.agg cs)) w) : o.wp P a w K Q := by
  unfold Oper.wp execOp
  simp only [ho, hx, Instr.loadAt, Instr.sureAddr, Sem.run_bind, Sem.run_pure, Result.andThen_ok, run_loadVar_at w b off t cs d hc hu hd hi]
  exact h
theorem wl_loadAt (hg : o.guard = none) (t : TypeId) (x : Operand) (ho : o.op = .load t x) {b off : Nat} {cs : Array Value} {d : TypeDesc} (hx : a.eval x = .pointer (some ⟨b, off, none⟩)) (hc : ∀ j, j < cs.size → w.cell? ⟨b, off + j, none⟩ = cs[j]?)
    (hu : P.underlying t = some d) (hd : aggD d = true) (hi : (P.info? t).map (·.size) = some cs.size) (h : wpList P ops Q rest (a.put o.dst (.agg cs)) w) : wpList P ops Q (o :: rest) a w :=
  wpList_plain hg fun _ hK => wp_loadAt t x ho hx hc hu hd hi (hK _ _ h)
/-- .. of an operation that is guarded, and wanted. -/
theorem wl_loadG (hg : Region.wanted o (yielded ops a.tmps) = true) (t : TypeId) (x : Operand) (ho : o.op = .load t x) {b off : Nat} {cs : Array Value} {d : TypeDesc} (hx : a.eval x = .pointer (some ⟨b, off, none⟩)) (hc : ∀ j, j < cs.size → w.cell? ⟨b, off + j, none⟩ = cs[j]?)
    (hu : P.underlying t = some d) (hd : aggD d = true) (hi : (P.info? t).map (·.size) = some cs.size) (h : wpList P ops Q rest (a.put o.dst (.agg cs)) w) : wpList P ops Q (o :: rest) a w := by
  unfold wpList
  rw [if_pos hg]
  exact .inl (wp_loadAt t x ho hx hc hu hd hi h)
theorem wp_storeAt (t : TypeId) (x y : Operand) (ho : o.op = .store t x y) {b off : Nat} {cs cur : Array Value} {ty : TypeId} (hx : a.eval x = .pointer (some ⟨b, off, none⟩)) (hy : a.eval y = .agg cs) (hb : w.heap[b]? = some (.cells cur ty (0, 0)))
    (hs : off + cs.size ≤ cur.size) (hi : (P.info? t).map (·.size) = some cs.size) (h1 : cs.all (·.oneCell') = true) (h : K (a.put o.dst undef) (setCells w b off cs.toList)) : o.wp P a w K Q := by
  unfold Oper.wp execOp
  simp only [ho, hx, hy, Instr.storeAt, Instr.sureAddr, Sem.run_bind, Sem.run_pure, Result.andThen_ok, run_storeVar_at w b off ty t cur cs hb hi hs h1]
  exact h
theorem wl_storeAt (hg : o.guard = none) (t : TypeId) (x y : Operand) (ho : o.op = .store t x y) {b off : Nat} {cs cur : Array Value} {ty : TypeId} (hx : a.eval x = .pointer (some ⟨b, off, none⟩)) (hy : a.eval y = .agg cs) (hb : w.heap[b]? = some (.cells cur ty (0, 0)))
    (hs : off + cs.size ≤ cur.size) (hi : (P.info? t).map (·.size) = some cs.size) (h1 : cs.all (·.oneCell') = true) (h : wpList P ops Q rest (a.put o.dst undef) (setCells w b off cs.toList)) : wpList P ops Q (o :: rest) a w :=
  wpList_plain hg fun _ hK => wp_storeAt t x y ho hx hy hb hs hi h1 (hK _ _ h)
/-- The results of a call that tells a struct and something else. -/
theorem results_whole {fn : Func} {p u : Tmp} {ty : TypeId} (h : fn.results = #[.cell p ty, .tmp u]) (tmps : Array Value) (P : Program) (w : World) {b : Nat} {cs : Array Value} {d : TypeDesc} (hp : tmps.getD p undef = .pointer (some ⟨b, 0, none⟩))
    (hc : ∀ j, j < cs.size → w.cell? ⟨b, 0 + j, none⟩ = cs[j]?) (hu : P.underlying ty = some d) (hd : aggD d = true) (hi : (P.info? ty).map (·.size) = some cs.size) :
    (results fn tmps).run P w = .ok (.tuple #[.agg cs, tmps.getD u undef]) w := by
  rw [results_cell_tmp h]
  simp only [hp, asAddr, Sem.run_pure, Result.andThen_ok, run_loadVar_at w b 0 ty cs d hc hu hd hi]
end

/-- What a block holds, cell by cell. -/
theorem cells_at {V : World} {g : Nat} {cs : Array Value} {ty : TypeId} (h : V.heap[g]? = some (.cells cs ty (0, 0))) : ∀ j, j < cs.size → V.cell? ⟨g, 0 + j, none⟩ = cs[j]? := fun j _ => by rw [Nat.zero_add]; exact cell_block h j
section
variable {B : Nat → Prop} {w wk : World} {Rs : List Res} {g : Nat} {t : TypeId}
/-- A block of one's own gets many cells. -/
theorem Sep.whole : ∀ (vs : List Value) (off : Nat) {wk : World} {Rs : List Res} {cs : Array Value} (_h : Sep B w wk Rs) (i : Nat) (_hi : Rs[i]? = some (blk g (.cells cs t (0, 0)))),
    Sep B w (setCells wk g off vs) (Rs.set i (blk g (.cells (over cs off vs) t (0, 0))))
  | [], off, wk, Rs, cs, h, i, hi => by
    unfold setCells over
    have hl := (List.getElem?_eq_some_iff.1 hi).1
    rw [show Rs.set i (blk g (.cells cs t (0, 0))) = Rs by
      apply List.ext_getElem?
      intro k
      by_cases hk : i = k
      · subst hk; rw [List.getElem?_set_self hl, hi]
      · rw [List.getElem?_set_ne hk]]
    exact h
  | v :: vs, off, wk, Rs, cs, h, i, hi => by
    have hl := (List.getElem?_eq_some_iff.1 hi).1
    have h2 := Sep.whole vs (off + 1) (h.set i hi off v) i (by rw [List.getElem?_set_self hl])
    rw [List.set_set] at h2
    exact h2
/-- A block of one's own, wholly anew. -/
theorem Sep.anew (vs : List Value) {cs : Array Value} (h : Sep B w wk Rs) (i : Nat) (hi : Rs[i]? = some (blk g (.cells cs t (0, 0)))) (hl : vs.length = cs.size) :
    Sep B w (setCells wk g 0 vs) (Rs.set i (blk g (.cells vs.toArray t (0, 0)))) := by
  have h2 := Sep.whole vs 0 h i hi
  rw [over_all vs cs hl] at h2
  exact h2
end
end Go.Proofs.Ythdipkdolgcmgaa.Hand
