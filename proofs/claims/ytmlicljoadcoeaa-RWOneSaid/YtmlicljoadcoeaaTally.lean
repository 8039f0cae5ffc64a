/-
  A map from numbers to numbers that the call makes, in which each number of a list without doubles stands once: its writes, and its range. No condition.
-/
import Derived.Test.YtmlicljoadcoeaaRefMut
import Derived.Maps.OwnSet
import Derived.Maps.RangeWalk
namespace Go.Proofs.Ytmlicljoadcoeaa.Hand
open Go.ChangeShapes Go.WideShapes Go.ChangeAt Go.RowKit Mem Go.Maps

theorem lawI : Keyed Try.prog 3 := int_keyed Try.underlying3
theorem zeroI (w : World) : (zeroValue 3).run Try.prog w = .ok (.int .i64 0) w := by kernel_rfl
theorem wfI {a : Int} (h : -9223372036854775808 ≤ a ∧ a ≤ 9223372036854775807) : (Lit.int .i64 a).wf = true := by
  have h1 : IntKind.i64.min = -9223372036854775808 := rfl
  have h2 : IntKind.i64.max = 9223372036854775807 := rfl
  simp only [Lit.wf, Bool.and_eq_true, decide_eq_true_eq]
  have := h.1; have := h.2
  omega
theorem keyI {a : Int} (h : -9223372036854775808 ≤ a ∧ a ≤ 9223372036854775807) : keyOf Try.prog 3 (.int .i64 a) = some (.int .i64 a) := keyOf_int_mk Try.underlying3 (wfI h)

/-- Each number of the list stands in the map, once. -/
structure Tally (D : DataW Unit) (L : List Int) : Prop where
  has : ∀ t, Maps.has D (.int .i64 t) = decide (t ∈ L)
  at_ : ∀ t, D.atKey (.int .i64 t) (.lit (.int .i64 0)) = .lit (.int .i64 (if t ∈ L then 1 else 0))
theorem tally_empty : Tally (.map []) [] := ⟨fun _ => rfl, fun _ => rfl⟩
theorem tally_put {D : DataW Unit} {L : List Int} (h : Tally D L) (hD : IsMap D) (x : Int) : Tally (D.put (.int .i64 x) (.lit (.int .i64 1))) (L ++ [x]) := by
  have hk : WideAt.IsKeyLit (.int .i64 x) := trivial
  refine ⟨fun t => ?_, fun t => ?_⟩
  · by_cases e : t = x
    · subst e; rw [has_put_same hD hk]; simp
    · rw [has_put_other (by intro h; injection h with _ h; exact e h), h.has t]
      simp [e]
  · by_cases e : t = x
    · subst e; rw [atKey_put_same hD hk]; simp
    · rw [atKey_put_other (by intro h; injection h with _ h; exact e h), h.at_ t]
      simp [e]
/-- Such a map of one's own, after at most n writes. -/
def tally (b n : Nat) (L : List Int) : Res where
  holds w F := (∃ D, w.ownsMap Try.prog 3 (plainElem Try.prog 3) b n D ∧ Tally D L) ∧ F = fun k => k = b
  keep := fun ⟨⟨D, ⟨es, clock, hb, hr⟩, ht⟩, e⟩ _ hk => ⟨⟨D, ⟨es, clock, (hk b (lt_of_block hb) (by rw [e])).trans hb, hr⟩, ht⟩, e⟩
  lt := fun ⟨⟨_, ⟨_, _, hb, _⟩, _⟩, e⟩ k hk => by rw [e] at hk; exact hk ▸ lt_of_block hb
section
variable {B : Nat → Prop} {w wk wn : World} {Rs : List Res} {b n m : Nat} {L L' : List Int} {D : DataW Unit}
theorem tally_new (h : Sep B w wk Rs) : Sep B w (wk.alloc (.map #[] 0)) (tally wk.heap.size 0 [] :: Rs) :=
  h.add (new_below0 wk _) (R := tally wk.heap.size 0 []) ⟨⟨_, World.ownsMap_made wk Try.prog 3 (plainElem Try.prog 3), tally_empty⟩, rfl⟩ fun _ hk => Nat.le_of_eq hk.symm
theorem tally_is (h : Sep B w wk Rs) (i : Nat) (hi : Rs[i]? = some (tally b n L)) : ∃ D, wk.ownsMap Try.prog 3 (plainElem Try.prog 3) b n D ∧ Tally D L := by
  obtain ⟨F, hD, _⟩ := h.get i hi
  exact hD
theorem tally_to (h : Sep B w wk Rs) (i : Nat) (hi : Rs[i]? = some (tally b n L)) (ho : wn.ownsMap Try.prog 3 (plainElem Try.prog 3) b m D) (ht : Tally D L') (hg : wk.grownBy wn (some b)) : Sep B w wn (Rs.set i (tally b m L')) := by
  obtain ⟨F, ⟨_, rfl⟩, _, hn⟩ := h.upd i hi
  exact hn (tally b m L') ⟨⟨D, ho, ht⟩, rfl⟩ (Only.of_grown hg fun k hk _ => by injection hk with hk; exact hk.symm) fun k hk => .inl hk
/-- Such a map that is gone through. -/
def tallied (b r n : Nat) (D : DataW Unit) (left : Lit → Bool) (cnt : Nat) : Res where
  holds w F := w.ranges Try.prog 3 (plainElem Try.prog 3) b r n D left cnt ∧ F = fun k => k = b ∨ k = r
  keep := fun ⟨⟨es, clock, since, seen, c0, hb, h1, h2, h3, hr, hh⟩, e⟩ _ hk => ⟨⟨es, clock, since, seen, c0, (hk b (lt_of_block hb) (by rw [e]; exact .inl rfl)).trans hb, h1, h2, h3, (hk r (lt_of_block hr) (by rw [e]; exact .inr rfl)).trans hr, hh⟩, e⟩
  lt := fun ⟨⟨es, clock, since, seen, c0, hb, h1, h2, h3, hr, hh⟩, e⟩ k hk => by
    rw [e] at hk
    rcases hk with rfl | rfl
    · exact lt_of_block hb
    · exact lt_of_block hr
theorem tally_range (h : Sep B w wk Rs) (i : Nat) (hi : Rs[i]? = some (tally b n L)) {left : Lit → Bool} {cnt : Nat} (hr : wn.ranges Try.prog 3 (plainElem Try.prog 3) b wk.heap.size n D left cnt) (hg : wk.grownBy wn none) : Sep B w wn (Rs.set i (tallied b wk.heap.size n D left cnt)) := by
  obtain ⟨F, ⟨_, rfl⟩, _, hn⟩ := h.upd i hi
  exact hn (tallied b wk.heap.size n D left cnt) ⟨hr, rfl⟩ (Only.of_below ⟨hg.os, hg.tape, hg.output, hg.size, fun k hk => hg.block k hk (by simp)⟩) fun k hk => hk.imp id fun e => Nat.le_of_eq e.symm
theorem tally_next (h : Sep B w wk Rs) (i : Nat) {r : Nat} {left left' : Lit → Bool} {cnt cnt' : Nat} (hi : Rs[i]? = some (tallied b r n D left cnt)) (hr : wn.ranges Try.prog 3 (plainElem Try.prog 3) b r n D left' cnt') (hg : wk.grownBy wn (some r)) : Sep B w wn (Rs.set i (tallied b r n D left' cnt')) := by
  obtain ⟨F, ⟨_, rfl⟩, _, hn⟩ := h.upd i hi
  exact hn (tallied b r n D left' cnt') ⟨hr, rfl⟩ (Only.of_grown hg fun k hk _ => by injection hk with hk; exact .inr hk.symm) fun k hk => .inl hk
theorem tallied_is (h : Sep B w wk Rs) (i : Nat) {r : Nat} {left : Lit → Bool} {cnt : Nat} (hi : Rs[i]? = some (tallied b r n D left cnt)) : wk.ranges Try.prog 3 (plainElem Try.prog 3) b r n D left cnt := by
  obtain ⟨F, hr, _⟩ := h.get i hi
  exact hr
end
section
variable {w : World} {ops : Array Oper} {rest : List Oper} {o : Oper} {a : Act} {Q : Exit → Act → World → Prop}
/-- 'seen[x]', where x doesn't stand there yet. -/
theorem wp_tally_look (hg : o.guard = none) (m x : Operand) (hop : o.op = Op.lookup 50 m x false) {b n : Nat} {D : DataW Unit} {L : List Int} (hm : a.eval m = .map (some b)) (hown : w.ownsMap Try.prog 3 (plainElem Try.prog 3) b n D) (ht : Tally D L) {t : Int} (h64 : -9223372036854775808 ≤ t ∧ t ≤ 9223372036854775807) (hx : a.eval x = .int .i64 t) (hn : t ∉ L)
    (hK : wpList Try.prog ops Q rest (a.put o.dst (.int .i64 0)) w) : wpList Try.prog ops Q (o :: rest) a w := by
  refine wpList_lookup_own_int w hg m x 50 hop 3 3 .i64 lawI Try.underlying50 Try.underlying3 (zeroI w) b n D hm hown _ (.int .i64 t) hx (keyI h64) ?_
  intro c hat _
  rw [ht.at_ t, if_neg hn] at hat
  injection hat with hat
  injection hat with _ hat
  subst hat
  exact hK
/-- 'seen[x] = 1'. -/
theorem wp_tally_put (hg : o.guard = none) (m x v : Operand) (hop : o.op = Op.mapUpdate 50 m x v) {b n : Nat} {D : DataW Unit} {L : List Int} (hm : a.eval m = .map (some b)) (hown : w.ownsMap Try.prog 3 (plainElem Try.prog 3) b n D) (ht : Tally D L) (hn : n < maxLen) {t : Int} (h64 : -9223372036854775808 ≤ t ∧ t ≤ 9223372036854775807) (hx : a.eval x = .int .i64 t) (hv : a.eval v = .int .i64 1)
    (hK : ∀ w' D', w'.ownsMap Try.prog 3 (plainElem Try.prog 3) b (n + 1) D' → Tally D' (L ++ [t]) → w.grownBy w' (some b) → wpList Try.prog ops Q rest (a.put o.dst undef) w') : wpList Try.prog ops Q (o :: rest) a w := by
  refine wpList_mapUpdate_own w hg m x v 50 hop 3 3 lawI Try.underlying50 (plainElem Try.prog 3) b n D hm hown hn _ _ (.int .i64 t) hx hv (keyI h64) _ [] (plainElem_int Try.underlying3 (by decide)) ?_
  intro w' ho hgr
  exact hK w' _ ho (tally_put ht hown.isMap t) hgr
/-- The next entry. -/
theorem wp_tally_next (hg : o.guard = none) (it : Operand) (hop : o.op = Op.next it false) {b r n : Nat} {D : DataW Unit} {L : List Int} {left : Lit → Bool} {cnt : Nat} (hit : a.eval it = .pointer (some ⟨r, 0, none⟩)) (h : w.ranges Try.prog 3 (plainElem Try.prog 3) b r n D left cnt) (ht : Tally D L)
    (hDone : wpList Try.prog ops Q rest (a.put o.dst (.tuple #[.bool false])) w)
    (hMore : ∀ (x : Int) (w' : World) (left' : Lit → Bool) (cnt' : Nat), x ∈ L → w'.ranges Try.prog 3 (plainElem Try.prog 3) b r n D left' cnt' → cnt' < cnt → w.grownBy w' (some r) →
      (Instr.entry (.pointer (some ⟨r, 0, none⟩))).run Try.prog w' = .ok (.tuple #[.int .i64 x, .int .i64 1]) w' →
      wpList Try.prog ops Q rest (a.put o.dst (.tuple #[.bool true, .int .i64 x, .int .i64 1])) w') : wpList Try.prog ops Q (o :: rest) a w := by
  refine wpList_next_ranges_ii w hg it hop 3 3 .i64 .i64 lawI Try.underlying3 Try.underlying3 b r n D left cnt hit h (fun _ _ => hDone) ?_
  intro x c w' cnt' _ _ _ hat hr hlt hgr _ hen
  have hx : x ∈ L := by
    have := Maps.has_true_of_atKey hat
    rw [ht.has] at this
    exact of_decide_eq_true this
  have hc : c = 1 := by
    have := (hat (.lit (.int .i64 0))).symm.trans (ht.at_ x)
    rw [if_pos hx] at this
    injection this with this
    injection this
  subst hc
  exact hMore x w' _ cnt' hx hr hlt hgr hen
end
end Go.Proofs.Ytmlicljoadcoeaa.Hand
