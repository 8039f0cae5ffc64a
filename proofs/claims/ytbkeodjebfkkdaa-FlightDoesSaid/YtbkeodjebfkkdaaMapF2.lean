/-
  A map[int]int64 behind a pointer as a thing at hand, second part: what is not told of it, an entry that goes, a new one, all of them one by one. No condition.
-/
import Derived.Test.YtbkeodjebfkkdaaMapF
import Derived.Test.YtbkeodjebfkkdaaMapE
import Derived.Maps.RangeWalk
namespace Go.Proofs.Ytbkeodjebfkkdaa.Hand
open Go.ChangeShapes Go.WideShapes Go.ChangeAt Go.RowKit Mem MutP Go.Maps Go.ChangeMaps

section
variable {B : Nat → Prop} {w wk wn : World} {Rs : List Res} {b n : Nat} {m : Int → Option Int}
theorem mapf_more (h : Sep B w wk Rs) (i : Nat) (hi : Rs[i]? = some (mapf b n m)) {n' : Nat} (hn : n ≤ n') : Sep B w wk (Rs.set i (mapf b n' m)) := by
  obtain ⟨D, ho, ht⟩ := mapf_at h i hi
  exact mapf_turn h i hi (ho.mono hn) ht (World.grownBy.refl _ _)
/-- 'delete(m, t)', whether it is there or not. -/
theorem mapf_any (h : Sep B w wk Rs) (i : Nat) (hi : Rs[i]? = some (mapf b n m)) {t : Int} (ht : In64 t) (ty : TypeId) :
    ∃ wn, (Builtin.delete_ #[55, 3] ty #[.map (some b), .int .i64 t]).run Try.prog wk = .ok (.tuple #[]) wn ∧ Sep B w wn (Rs.set i (mapf b n (updM m t none))) := by
  obtain ⟨D, ho, hT⟩ := mapf_at h i hi
  obtain ⟨wn, hrun, h1, h2⟩ := ho.drop kI Try.underlying55 (keyL ht) ty
  exact ⟨wn, hrun, mapf_turn h i hi h1 (told_del hT t) h2.grown⟩
theorem wp_many {ops : Array Oper} {rest : List Oper} {o : Oper} {a : Act} {Q : Exit → Act → World → Prop} (hg : o.guard = none) (x y : Operand) (hop : o.op = Op.call { callee := Callee.builtin Builtin.delete, args := #[x, y], argTypes := #[55, 3] })
    (hm : a.eval x = .map (some b)) {t : Int} (hx : a.eval y = .int .i64 t) (h : Sep B w wk Rs) (i : Nat) (hi : Rs[i]? = some (mapf b n m)) (ht : In64 t)
    (hK : ∀ wn, Sep B w wn (Rs.set i (mapf b n (updM m t none))) → wpList Try.prog ops Q rest (a.put o.dst (.tuple #[])) wn) : wpList Try.prog ops Q (o :: rest) a wk := by
  refine wpList_plain hg fun K' hK' => ?_
  obtain ⟨wn, hrun, h1⟩ := mapf_any h i hi ht o.type
  unfold Oper.wp
  simp [execOp, hop, resolve, invoke, builtin, hm, hx, hrun, Result.andThen]
  exact hK' _ _ (hK wn h1)
/-- .. in a region that draws its order. -/
theorem wp_mputK {o : Oper} {a : Act} {K : Act → World → Prop} {Q : Exit → Act → World → Prop} (x y z : Operand) (hop : o.op = Op.mapUpdate 55 x y z)
    (hm : a.eval x = .map (some b)) {t v : Int} (hx : a.eval y = .int .i64 t) (hv : a.eval z = .int .i64 v) (h : Sep B w wk Rs) (i : Nat) (hi : Rs[i]? = some (mapf b n m)) (ht : In64 t) (hv64 : In64 v) (hn : n < 1000000)
    (hK : ∀ wn, Sep B w wn (Rs.set i (mapf b (n + 1) (updM m t (some v)))) → K (a.put o.dst undef) wn) : o.wp Try.prog a wk K Q := by
  obtain ⟨wn, hrun, h1⟩ := mapf_put h i hi ht hv64 hn
  unfold Oper.wp
  simp [execOp, hop, hm, hx, hv, hrun, Result.andThen]
  exact hK wn h1
/-- 'm[t] = v' in two steps, of one that isn't there. -/
theorem mapf_entry (h : Sep B w wk Rs) (i : Nat) (hi : Rs[i]? = some (mapf b n m)) {t : Int} (ht : In64 t) (hm : m t = none) (hn : n < 1000000) :
    ∃ (st : Nat) (w1 : World), (Instr.mapEntry 55 (.map (some b)) (.int .i64 t)).run Try.prog wk = .ok (.tuple #[.int .i64 0, .int .i64 st]) w1 ∧ (∀ a : Addr, a.block ≠ b → w1.cell? a = wk.cell? a) ∧
      ∀ v : Int, In64 v → ∃ w3, (Instr.entryStore 55 (.map (some b)) (.int .i64 st) (.int .i64 v)).run Try.prog w1 = .ok () w3 ∧ Sep B w w3 (Rs.set i (mapf b (n + 1) (updM m t (some v)))) := by
  obtain ⟨D, ho, hT⟩ := mapf_at h i hi
  obtain ⟨st, w1, hrun, htn, hst⟩ := own_entry ho kI Try.underlying55 zeroL (by unfold maxLen; omega) (keyL ht) (by rw [hT.has, hm]; rfl)
  refine ⟨st, w1, hrun, fun a ha => ?_, fun v hv => ?_⟩
  · obtain ⟨es, clock, es', clock', hb, rfl⟩ := htn
    exact World.cell?_of_block (w := wk) (heap_setBlock_other hb _ ha)
  · obtain ⟨w3, hr3, h3, ht3⟩ := hst (.int .i64 v) _ _ (plainElem_int Try.underlying2 (wfL hv))
    exact ⟨w3, hr3, mapf_turn h i hi h3 (told_put hT ho.isMap t v) ht3.grown⟩

/-! ### all of them -/
/-- Such a map that is gone through. -/
def ranged (b r n : Nat) (m : Int → Option Int) (cnt : Nat) : Res where
  holds w F := (∃ D left, w.ranges Try.prog 3 (plainElem Try.prog 2) b r n D left cnt ∧ Told D m) ∧ F = fun k => k = b ∨ k = r
  keep := fun ⟨⟨D, left, ⟨es, clock, since, seen, c0, hb, h1, h2, h3, hr, hh⟩, ht⟩, e⟩ _ hk => ⟨⟨D, left, ⟨es, clock, since, seen, c0, (hk b (lt_of_block hb) (by rw [e]; exact .inl rfl)).trans hb, h1, h2, h3, (hk r (lt_of_block hr) (by rw [e]; exact .inr rfl)).trans hr, hh⟩, ht⟩, e⟩
  lt := fun ⟨⟨D, left, ⟨es, clock, since, seen, c0, hb, h1, h2, h3, hr, hh⟩, _⟩, e⟩ k hk => by
    rw [e] at hk
    rcases hk with rfl | rfl
    · exact lt_of_block hb
    · exact lt_of_block hr
theorem ranged_at {r cnt : Nat} (h : Sep B w wk Rs) (i : Nat) (hi : Rs[i]? = some (ranged b r n m cnt)) : ∃ D left, wk.ranges Try.prog 3 (plainElem Try.prog 2) b r n D left cnt ∧ Told D m := by
  obtain ⟨F, hD, _⟩ := h.get i hi
  exact hD
theorem ranged_left {r cnt : Nat} (h : Sep B w wk Rs) (i : Nat) (hi : Rs[i]? = some (ranged b r n m cnt)) : wk.rangeLeft b r = cnt := by
  obtain ⟨D, left, hr, _⟩ := ranged_at h i hi
  exact hr.left_eq
/-- The map again. -/
theorem ranged_end {r cnt : Nat} (h : Sep B w wk Rs) (i : Nat) (hi : Rs[i]? = some (ranged b r n m cnt)) : Sep B w wk (Rs.set i (mapf b n m)) := by
  obtain ⟨F, ⟨⟨D, left, hr, ht⟩, rfl⟩, _, hn⟩ := h.upd i hi
  exact hn (mapf b n m) ⟨⟨D, hr.owns, ht⟩, rfl⟩ (.refl _ _) fun k hk => .inl (.inl hk)
theorem wp_range {ops : Array Oper} {rest : List Oper} {o : Oper} {a : Act} {Q : Exit → Act → World → Prop} (hg : o.guard = none) (x : Operand) (hop : o.op = Op.range 55 x) (hm : a.eval x = .map (some b)) (h : Sep B w wk Rs) (i : Nat) (hi : Rs[i]? = some (mapf b n m))
    (hK : ∀ wn cnt, Sep B w wn (Rs.set i (ranged b wk.heap.size n m cnt)) → wpList Try.prog ops Q rest (a.put o.dst (.pointer (some ⟨wk.heap.size, 0, none⟩))) wn) : wpList Try.prog ops Q (o :: rest) a wk := by
  obtain ⟨D, ho, ht⟩ := mapf_at h i hi
  refine wpList_range_own wk hg x 55 hop 3 2 kI Try.underlying55 (plainElem Try.prog 2) b n D hm ho ?_
  intro w' hr hgr hsz
  obtain ⟨F, ⟨_, rfl⟩, _, hn⟩ := h.upd i hi
  exact hK w' _ (hn (ranged b wk.heap.size n m _) ⟨⟨D, _, hr, ht⟩, rfl⟩ (Only.of_below ⟨hgr.os, hgr.tape, hgr.output, hgr.size, fun k hk => hgr.block k hk (by simp)⟩) fun k hk => hk.imp id fun e => Nat.le_of_eq e.symm)
/-- The next entry. -/
theorem wp_next {ops : Array Oper} {rest : List Oper} {o : Oper} {a : Act} {Q : Exit → Act → World → Prop} (hg : o.guard = none) (it : Operand) (hop : o.op = Op.next it false) {r cnt : Nat} (hit : a.eval it = .pointer (some ⟨r, 0, none⟩)) (h : Sep B w wk Rs) (i : Nat) (hi : Rs[i]? = some (ranged b r n m cnt))
    (hDone : wpList Try.prog ops Q rest (a.put o.dst (.tuple #[.bool false])) wk)
    (hMore : ∀ (x c : Int) (wn : World) (cnt' : Nat), In64 x → m x = some c → Sep B w wn (Rs.set i (ranged b r n m cnt')) → cnt' < cnt →
      (Instr.entry (.pointer (some ⟨r, 0, none⟩))).run Try.prog wn = .ok (.tuple #[.int .i64 x, .int .i64 c]) wn →
      wpList Try.prog ops Q rest (a.put o.dst (.tuple #[.bool true, .int .i64 x, .int .i64 c])) wn) : wpList Try.prog ops Q (o :: rest) a wk := by
  obtain ⟨D, left, hr, ht⟩ := ranged_at h i hi
  refine wpList_next_ranges_ii wk hg it hop 3 2 .i64 .i64 kI Try.underlying3 Try.underlying2 b r n D left cnt hit hr (fun _ _ => hDone) ?_
  intro x c w' cnt' hwx _ _ hat hrg hlt hgr _ hen
  obtain ⟨F, ⟨_, rfl⟩, _, hn⟩ := h.upd i hi
  have h1 := hn (ranged b r n m cnt') ⟨⟨D, _, hrg, ht⟩, rfl⟩ (Only.of_grown hgr fun k hk _ => by injection hk with hk; exact .inr hk.symm) fun k hk => .inl hk
  have hm : m x = some c := by
    have h2 := ht.has x
    rw [Maps.has_true_of_atKey hat] at h2
    have h3 := (hat (.lit (.int .i64 0))).symm.trans (ht.at_ x)
    injection h3 with h3
    injection h3 with _ h3
    cases hmx : m x with
    | none => rw [hmx] at h2; cases h2
    | some y => rw [hmx] at h3; rw [h3]; rfl
  have hx64 : In64 x := by
    have h1 : IntKind.i64.min = -9223372036854775808 := rfl
    have h2 : IntKind.i64.max = 9223372036854775807 := rfl
    simp only [Lit.wf, Bool.and_eq_true, decide_eq_true_eq] at hwx
    exact ⟨by omega, by omega⟩
  exact hMore x c w' cnt' hx64 hm h1 hlt hen
end
end Go.Proofs.Ytbkeodjebfkkdaa.Hand
