/-
  A map[int64]int behind a pointer as a thing at hand: as that of map[int]int64, with the types turned. No condition.
-/
import Derived.Test.YtbkeodjebfkkdaaMapF2
namespace Go.Proofs.Ytbkeodjebfkkdaa.MapK
open Go.ChangeShapes Go.WideShapes Go.ChangeAt Go.RowKit Mem MutP Go.Maps Go.ChangeMaps Hand

theorem kI : Keyed Try.prog 2 := int_keyed Try.underlying2
theorem zeroL (w : World) : (zeroValue 3).run Try.prog w = .ok (.int .i64 0) w := by kernel_rfl
theorem wfL {a : Int} (h : In64 a) : (Lit.int .i64 a).wf = true := by
  have h1 : IntKind.i64.min = -9223372036854775808 := rfl
  have h2 : IntKind.i64.max = 9223372036854775807 := rfl
  simp only [Lit.wf, Bool.and_eq_true, decide_eq_true_eq]
  have := h.1; have := h.2
  omega
theorem keyL {a : Int} (h : In64 a) : keyOf Try.prog 2 (.int .i64 a) = some (.int .i64 a) := keyOf_int_mk Try.underlying2 (wfL h)
/-- The map holds m. -/
structure Told (D : DataW Unit) (m : Int → Option Int) : Prop where
  has : ∀ t, Maps.has D (.int .i64 t) = (m t).isSome
  at_ : ∀ t, D.atKey (.int .i64 t) (.lit (.int .i64 0)) = .lit (.int .i64 ((m t).getD 0))
theorem lit_ne {a b : Int} (h : a ≠ b) : (Lit.int .i64 a) ≠ .int .i64 b := fun e => by injection e with _ e; exact h e
section
variable {D : DataW Unit} {m : Int → Option Int}
theorem told_put (h : Told D m) (hD : IsMap D) (x v : Int) : Told (D.put (.int .i64 x) (.lit (.int .i64 v))) (updM m x (some v)) := by
  have hk : WideAt.IsKeyLit (.int .i64 x) := trivial
  refine ⟨fun t => ?_, fun t => ?_⟩
  · by_cases e : t = x
    · subst e; rw [has_put_same hD hk]; simp [updM]
    · rw [has_put_other (lit_ne e), h.has t]; simp [updM, e]
  · by_cases e : t = x
    · subst e; rw [atKey_put_same hD hk]; simp [updM]
    · rw [atKey_put_other (lit_ne e), h.at_ t]; simp [updM, e]
theorem told_del (h : Told D m) (x : Int) : Told (D.del (.int .i64 x)) (updM m x none) := by
  refine ⟨fun t => ?_, fun t => ?_⟩
  · by_cases e : t = x
    · subst e; rw [has_del_same]; simp [updM]
    · rw [has_del_other (lit_ne e), h.has t]; simp [updM, e]
  · by_cases e : t = x
    · subst e; rw [atKey_del_same]; simp [updM]
    · rw [atKey_del_other (lit_ne e), h.at_ t]; simp [updM, e]
end
theorem owns_tight {P : Program} {k : TypeId} {R : Value → Option (DataW Unit × List MemPlace)} {w : World} {b n : Nat} {D : DataW Unit} (h : w.ownsMap P k R b n D) : w.ownsMap P k R b (Maps.size D) D := by
  obtain ⟨es, clock, hb, F, hs, rfl⟩ := h
  exact ⟨es, clock, hb, F, by simp [Maps.size, length_sorted], rfl⟩
/-- A map of at most n entries. -/
def mapf (b n : Nat) (m : Int → Option Int) : Res where
  holds w F := (∃ D, w.ownsMap Try.prog 2 (plainElem Try.prog 3) b n D ∧ Told D m) ∧ F = fun k => k = b
  keep := fun ⟨⟨D, ⟨es, clock, hb, hr⟩, ht⟩, e⟩ _ hk => ⟨⟨D, ⟨es, clock, (hk b (lt_of_block hb) (by rw [e])).trans hb, hr⟩, ht⟩, e⟩
  lt := fun ⟨⟨_, ⟨_, _, hb, _⟩, _⟩, e⟩ k hk => by rw [e] at hk; exact hk ▸ lt_of_block hb
section
variable {B : Nat → Prop} {w wk wn : World} {Rs : List Res} {b n : Nat} {m : Int → Option Int}
theorem mapf_new (h : Sep B w wk Rs) : Sep B w (wk.alloc (.map #[] 0)) (mapf wk.heap.size 0 (fun _ => none) :: Rs) :=
  h.add (new_below0 wk _) (R := mapf wk.heap.size 0 fun _ => none) ⟨⟨_, World.ownsMap_made wk Try.prog 2 (plainElem Try.prog 3), ⟨fun _ => rfl, fun _ => rfl⟩⟩, rfl⟩ fun _ hk => Nat.le_of_eq hk.symm
theorem mapf_at (h : Sep B w wk Rs) (i : Nat) (hi : Rs[i]? = some (mapf b n m)) : ∃ D, wk.ownsMap Try.prog 2 (plainElem Try.prog 3) b n D ∧ Told D m := by
  obtain ⟨F, hD, _⟩ := h.get i hi
  exact hD
/-- 'm[t]'. -/
theorem mapf_look (h : Sep B w wk Rs) (i : Nat) (hi : Rs[i]? = some (mapf b n m)) {t : Int} (ht : In64 t) : (Instr.lookup 54 (.map (some b)) (.int .i64 t) false).run Try.prog wk = .ok (.int .i64 ((m t).getD 0)) wk := by
  obtain ⟨D, ho, hT⟩ := mapf_at h i hi
  obtain ⟨c, hrun, hat, _⟩ := ho.lookup_int kI Try.underlying54 Try.underlying3 (zeroL wk) (keyL ht)
  rw [hT.at_ t] at hat
  injection hat with hat
  injection hat with _ hat
  rw [hrun, hat]
/-- 'v, is := m[t]'. -/
theorem mapf_ok (h : Sep B w wk Rs) (i : Nat) (hi : Rs[i]? = some (mapf b n m)) {t : Int} (ht : In64 t) : (Instr.lookup 54 (.map (some b)) (.int .i64 t) true).run Try.prog wk = .ok (.tuple #[.int .i64 ((m t).getD 0), .bool (m t).isSome]) wk := by
  obtain ⟨D, ho, hT⟩ := mapf_at h i hi
  obtain ⟨v, ps, hrun, hv⟩ := ho.look_ok kI Try.underlying54 (zeroL wk) (plainElem_int Try.underlying3 (by decide)) (keyL ht)
  obtain ⟨c, rfl, hc, hwc⟩ := plainElem_int_inv Try.underlying3 hv
  have hat := congrArg Prod.fst hc
  simp only at hat
  rw [hT.at_ t] at hat
  injection hat with hat
  injection hat with _ hat
  rw [hrun, hat, hT.has]
/-- The map is another one. -/
theorem mapf_turn (h : Sep B w wk Rs) (i : Nat) (hi : Rs[i]? = some (mapf b n m)) {D : DataW Unit} {n' : Nat} {m' : Int → Option Int} (ho : wn.ownsMap Try.prog 2 (plainElem Try.prog 3) b n' D) (ht : Told D m') (hg : wk.grownBy wn (some b)) : Sep B w wn (Rs.set i (mapf b n' m')) := by
  obtain ⟨F, ⟨_, rfl⟩, _, hn⟩ := h.upd i hi
  exact hn (mapf b n' m') ⟨⟨D, ho, ht⟩, rfl⟩ (Only.of_grown hg fun k hk _ => by injection hk with hk; exact hk.symm) fun k hk => .inl hk
/-- 'm[t] = v'. -/
theorem mapf_put (h : Sep B w wk Rs) (i : Nat) (hi : Rs[i]? = some (mapf b n m)) {t v : Int} (ht : In64 t) (hv : In64 v) (hn : n < 1000000) :
    ∃ wn, (Instr.mapUpdate 54 (.map (some b)) (.int .i64 t) (.int .i64 v)).run Try.prog wk = .ok () wn ∧ Sep B w wn (Rs.set i (mapf b (n + 1) (updM m t (some v)))) := by
  obtain ⟨D, ho, hT⟩ := mapf_at h i hi
  obtain ⟨wn, hrun, h1, h2⟩ := ho.store kI Try.underlying54 (by unfold maxLen; omega) (keyL ht) (plainElem_int Try.underlying3 (wfL hv))
  exact ⟨wn, hrun, mapf_turn h i hi h1 (told_put hT ho.isMap t v) h2.grown⟩
/-- 'delete(m, t)', of one that is there. -/
theorem mapf_del (h : Sep B w wk Rs) (i : Nat) (hi : Rs[i]? = some (mapf b (n + 1) m)) {t : Int} (ht : In64 t) (hm : (m t).isSome = true) (ty : TypeId) :
    ∃ wn, (Builtin.delete_ #[54, 2] ty #[.map (some b), .int .i64 t]).run Try.prog wk = .ok (.tuple #[]) wn ∧ Sep B w wn (Rs.set i (mapf b n (updM m t none))) := by
  obtain ⟨D, ho, hT⟩ := mapf_at h i hi
  obtain ⟨wn, hrun, h1, h2⟩ := ho.drop kI Try.underlying54 (keyL ht) ty
  have h3 := owns_tight h1
  have h4 := ho.size_le
  have h5 := size_del (k := .int .i64 t) (ho.tidy kI)
  rw [hT.has, hm, if_pos rfl] at h5
  exact ⟨wn, hrun, mapf_turn h i hi (h3.mono (by omega)) (told_del hT t) h2.grown⟩
theorem wp_mput {ops : Array Oper} {rest : List Oper} {o : Oper} {a : Act} {Q : Exit → Act → World → Prop} (hg : o.guard = none) (x y z : Operand) (hop : o.op = Op.mapUpdate 54 x y z)
    (hm : a.eval x = .map (some b)) {t v : Int} (hx : a.eval y = .int .i64 t) (hv : a.eval z = .int .i64 v) (h : Sep B w wk Rs) (i : Nat) (hi : Rs[i]? = some (mapf b n m)) (ht : In64 t) (hv64 : In64 v) (hn : n < 1000000)
    (hK : ∀ wn, Sep B w wn (Rs.set i (mapf b (n + 1) (updM m t (some v)))) → wpList Try.prog ops Q rest (a.put o.dst undef) wn) : wpList Try.prog ops Q (o :: rest) a wk := by
  refine wpList_plain hg fun K' hK' => ?_
  obtain ⟨wn, hrun, h1⟩ := mapf_put h i hi ht hv64 hn
  unfold Oper.wp
  simp [execOp, hop, hm, hx, hv, hrun, Result.andThen]
  exact hK' _ _ (hK wn h1)
theorem wp_mdel {ops : Array Oper} {rest : List Oper} {o : Oper} {a : Act} {Q : Exit → Act → World → Prop} (hg : o.guard = none) (x y : Operand) (hop : o.op = Op.call { callee := Callee.builtin Builtin.delete, args := #[x, y], argTypes := #[54, 2] })
    (hm : a.eval x = .map (some b)) {t : Int} (hx : a.eval y = .int .i64 t) (h : Sep B w wk Rs) (i : Nat) (hi : Rs[i]? = some (mapf b (n + 1) m)) (ht : In64 t) (his : (m t).isSome = true)
    (hK : ∀ wn, Sep B w wn (Rs.set i (mapf b n (updM m t none))) → wpList Try.prog ops Q rest (a.put o.dst (.tuple #[])) wn) : wpList Try.prog ops Q (o :: rest) a wk := by
  refine wpList_plain hg fun K' hK' => ?_
  obtain ⟨wn, hrun, h1⟩ := mapf_del h i hi ht his o.type
  unfold Oper.wp
  simp [execOp, hop, resolve, invoke, builtin, hm, hx, hrun, Result.andThen]
  exact hK' _ _ (hK wn h1)
end
section
variable {B : Nat → Prop} {w wk wn : World} {Rs : List Res} {b n : Nat} {m : Int → Option Int}
theorem mapf_more (h : Sep B w wk Rs) (i : Nat) (hi : Rs[i]? = some (mapf b n m)) {n' : Nat} (hn : n ≤ n') : Sep B w wk (Rs.set i (mapf b n' m)) := by
  obtain ⟨D, ho, ht⟩ := mapf_at h i hi
  exact mapf_turn h i hi (ho.mono hn) ht (World.grownBy.refl _ _)
/-- 'delete(m, t)', whether it is there or not. -/
theorem mapf_any (h : Sep B w wk Rs) (i : Nat) (hi : Rs[i]? = some (mapf b n m)) {t : Int} (ht : In64 t) (ty : TypeId) :
    ∃ wn, (Builtin.delete_ #[54, 2] ty #[.map (some b), .int .i64 t]).run Try.prog wk = .ok (.tuple #[]) wn ∧ Sep B w wn (Rs.set i (mapf b n (updM m t none))) := by
  obtain ⟨D, ho, hT⟩ := mapf_at h i hi
  obtain ⟨wn, hrun, h1, h2⟩ := ho.drop kI Try.underlying54 (keyL ht) ty
  exact ⟨wn, hrun, mapf_turn h i hi h1 (told_del hT t) h2.grown⟩
theorem wp_many {ops : Array Oper} {rest : List Oper} {o : Oper} {a : Act} {Q : Exit → Act → World → Prop} (hg : o.guard = none) (x y : Operand) (hop : o.op = Op.call { callee := Callee.builtin Builtin.delete, args := #[x, y], argTypes := #[54, 2] })
    (hm : a.eval x = .map (some b)) {t : Int} (hx : a.eval y = .int .i64 t) (h : Sep B w wk Rs) (i : Nat) (hi : Rs[i]? = some (mapf b n m)) (ht : In64 t)
    (hK : ∀ wn, Sep B w wn (Rs.set i (mapf b n (updM m t none))) → wpList Try.prog ops Q rest (a.put o.dst (.tuple #[])) wn) : wpList Try.prog ops Q (o :: rest) a wk := by
  refine wpList_plain hg fun K' hK' => ?_
  obtain ⟨wn, hrun, h1⟩ := mapf_any h i hi ht o.type
  unfold Oper.wp
  simp [execOp, hop, resolve, invoke, builtin, hm, hx, hrun, Result.andThen]
  exact hK' _ _ (hK wn h1)
/-- .. in a region that draws its order. -/
theorem wp_mputK {o : Oper} {a : Act} {K : Act → World → Prop} {Q : Exit → Act → World → Prop} (x y z : Operand) (hop : o.op = Op.mapUpdate 54 x y z)
    (hm : a.eval x = .map (some b)) {t v : Int} (hx : a.eval y = .int .i64 t) (hv : a.eval z = .int .i64 v) (h : Sep B w wk Rs) (i : Nat) (hi : Rs[i]? = some (mapf b n m)) (ht : In64 t) (hv64 : In64 v) (hn : n < 1000000)
    (hK : ∀ wn, Sep B w wn (Rs.set i (mapf b (n + 1) (updM m t (some v)))) → K (a.put o.dst undef) wn) : o.wp Try.prog a wk K Q := by
  obtain ⟨wn, hrun, h1⟩ := mapf_put h i hi ht hv64 hn
  unfold Oper.wp
  simp [execOp, hop, hm, hx, hv, hrun, Result.andThen]
  exact hK wn h1
/-- 'm[t] = v' in two steps, of one that isn't there. -/
theorem mapf_entry (h : Sep B w wk Rs) (i : Nat) (hi : Rs[i]? = some (mapf b n m)) {t : Int} (ht : In64 t) (hm : m t = none) (hn : n < 1000000) :
    ∃ (st : Nat) (w1 : World), (Instr.mapEntry 54 (.map (some b)) (.int .i64 t)).run Try.prog wk = .ok (.tuple #[.int .i64 0, .int .i64 st]) w1 ∧ (∀ a : Addr, a.block ≠ b → w1.cell? a = wk.cell? a) ∧
      ∀ v : Int, In64 v → ∃ w3, (Instr.entryStore 54 (.map (some b)) (.int .i64 st) (.int .i64 v)).run Try.prog w1 = .ok () w3 ∧ Sep B w w3 (Rs.set i (mapf b (n + 1) (updM m t (some v)))) := by
  obtain ⟨D, ho, hT⟩ := mapf_at h i hi
  obtain ⟨st, w1, hrun, htn, hst⟩ := own_entry ho kI Try.underlying54 zeroL (by unfold maxLen; omega) (keyL ht) (by rw [hT.has, hm]; rfl)
  refine ⟨st, w1, hrun, fun a ha => ?_, fun v hv => ?_⟩
  · obtain ⟨es, clock, es', clock', hb, rfl⟩ := htn
    exact World.cell?_of_block (w := wk) (heap_setBlock_other hb _ ha)
  · obtain ⟨w3, hr3, h3, ht3⟩ := hst (.int .i64 v) _ _ (plainElem_int Try.underlying3 (wfL hv))
    exact ⟨w3, hr3, mapf_turn h i hi h3 (told_put hT ho.isMap t v) ht3.grown⟩

/-! ### all of them -/
/-- Such a map that is gone through. -/
def ranged (b r n : Nat) (m : Int → Option Int) (cnt : Nat) : Res where
  holds w F := (∃ D left, w.ranges Try.prog 2 (plainElem Try.prog 3) b r n D left cnt ∧ Told D m) ∧ F = fun k => k = b ∨ k = r
  keep := fun ⟨⟨D, left, ⟨es, clock, since, seen, c0, hb, h1, h2, h3, hr, hh⟩, ht⟩, e⟩ _ hk => ⟨⟨D, left, ⟨es, clock, since, seen, c0, (hk b (lt_of_block hb) (by rw [e]; exact .inl rfl)).trans hb, h1, h2, h3, (hk r (lt_of_block hr) (by rw [e]; exact .inr rfl)).trans hr, hh⟩, ht⟩, e⟩
  lt := fun ⟨⟨D, left, ⟨es, clock, since, seen, c0, hb, h1, h2, h3, hr, hh⟩, _⟩, e⟩ k hk => by
    rw [e] at hk
    rcases hk with rfl | rfl
    · exact lt_of_block hb
    · exact lt_of_block hr
theorem ranged_at {r cnt : Nat} (h : Sep B w wk Rs) (i : Nat) (hi : Rs[i]? = some (ranged b r n m cnt)) : ∃ D left, wk.ranges Try.prog 2 (plainElem Try.prog 3) b r n D left cnt ∧ Told D m := by
  obtain ⟨F, hD, _⟩ := h.get i hi
  exact hD
theorem ranged_left {r cnt : Nat} (h : Sep B w wk Rs) (i : Nat) (hi : Rs[i]? = some (ranged b r n m cnt)) : wk.rangeLeft b r = cnt := by
  obtain ⟨D, left, hr, _⟩ := ranged_at h i hi
  exact hr.left_eq
/-- The map again. -/
theorem ranged_end {r cnt : Nat} (h : Sep B w wk Rs) (i : Nat) (hi : Rs[i]? = some (ranged b r n m cnt)) : Sep B w wk (Rs.set i (mapf b n m)) := by
  obtain ⟨F, ⟨⟨D, left, hr, ht⟩, rfl⟩, _, hn⟩ := h.upd i hi
  exact hn (mapf b n m) ⟨⟨D, hr.owns, ht⟩, rfl⟩ (.refl _ _) fun k hk => .inl (.inl hk)
theorem wp_range {ops : Array Oper} {rest : List Oper} {o : Oper} {a : Act} {Q : Exit → Act → World → Prop} (hg : o.guard = none) (x : Operand) (hop : o.op = Op.range 54 x) (hm : a.eval x = .map (some b)) (h : Sep B w wk Rs) (i : Nat) (hi : Rs[i]? = some (mapf b n m))
    (hK : ∀ wn cnt, Sep B w wn (Rs.set i (ranged b wk.heap.size n m cnt)) → wpList Try.prog ops Q rest (a.put o.dst (.pointer (some ⟨wk.heap.size, 0, none⟩))) wn) : wpList Try.prog ops Q (o :: rest) a wk := by
  obtain ⟨D, ho, ht⟩ := mapf_at h i hi
  refine wpList_range_own wk hg x 54 hop 2 3 kI Try.underlying54 (plainElem Try.prog 3) b n D hm ho ?_
  intro w' hr hgr hsz
  obtain ⟨F, ⟨_, rfl⟩, _, hn⟩ := h.upd i hi
  exact hK w' _ (hn (ranged b wk.heap.size n m _) ⟨⟨D, _, hr, ht⟩, rfl⟩ (Only.of_below ⟨hgr.os, hgr.tape, hgr.output, hgr.size, fun k hk => hgr.block k hk (by simp)⟩) fun k hk => hk.imp id fun e => Nat.le_of_eq e.symm)
/-- The next entry. -/
theorem wp_next {ops : Array Oper} {rest : List Oper} {o : Oper} {a : Act} {Q : Exit → Act → World → Prop} (hg : o.guard = none) (it : Operand) (hop : o.op = Op.next it false) {r cnt : Nat} (hit : a.eval it = .pointer (some ⟨r, 0, none⟩)) (h : Sep B w wk Rs) (i : Nat) (hi : Rs[i]? = some (ranged b r n m cnt))
    (hDone : wpList Try.prog ops Q rest (a.put o.dst (.tuple #[.bool false])) wk)
    (hMore : ∀ (x c : Int) (wn : World) (cnt' : Nat), In64 x → m x = some c → Sep B w wn (Rs.set i (ranged b r n m cnt')) → cnt' < cnt →
      (Instr.entry (.pointer (some ⟨r, 0, none⟩))).run Try.prog wn = .ok (.tuple #[.int .i64 x, .int .i64 c]) wn →
      wpList Try.prog ops Q rest (a.put o.dst (.tuple #[.bool true, .int .i64 x, .int .i64 c])) wn) : wpList Try.prog ops Q (o :: rest) a wk := by
  obtain ⟨D, left, hr, ht⟩ := ranged_at h i hi
  refine wpList_next_ranges_ii wk hg it hop 2 3 .i64 .i64 kI Try.underlying2 Try.underlying3 b r n D left cnt hit hr (fun _ _ => hDone) ?_
  intro x c w' cnt' hwx _ _ hat hrg hlt hgr _ hen
  obtain ⟨F, ⟨_, rfl⟩, _, hn⟩ := h.upd i hi
  have h1 := hn (ranged b r n m cnt') ⟨⟨D, _, hrg, ht⟩, rfl⟩ (Only.of_grown hgr fun k hk _ => by injection hk with hk; exact .inr hk.symm) fun k hk => .inl hk
  have hm : m x = some c := by
    have h2 := ht.has x
    rw [Maps.has_true_of_atKey hat] at h2
    have h3 := (hat (.lit (.int .i64 0))).symm.trans (ht.at_ x)
    injection h3 with h3
    injection h3 with _ h3
    cases hmx : m x with
    | none => rw [hmx] at h2; cases h2
    | some y => rw [hmx] at h3; rw [h3]; rfl
  have hx64 : In64 x := by
    have h1 : IntKind.i64.min = -9223372036854775808 := rfl
    have h2 : IntKind.i64.max = 9223372036854775807 := rfl
    simp only [Lit.wf, Bool.and_eq_true, decide_eq_true_eq] at hwx
    exact ⟨by omega, by omega⟩
  exact hMore x c w' cnt' hx64 hm h1 hlt hen
end
end Go.Proofs.Ytbkeodjebfkkdaa.MapK
