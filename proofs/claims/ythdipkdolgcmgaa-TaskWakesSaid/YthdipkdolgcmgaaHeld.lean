/-
  A region that draws its order and whose last operation (a store) waits for all others: what only reads may be taken first where a condition C on the world holds behind every operation but that last one. Over any program. No condition.
-/
import Derived.OrdersHeld
import Derived.StillTail
import Derived.WalkKit
namespace Go.Proofs.Ythdipkdolgcmgaa.Held

section
variable {P : Program} {ops : Array Oper} {Q : Exit → Act → World → Prop} {md : Region.Mode} {C : World → Prop} {last : Nat}

/-- Whatever order is picked from here on; behind every operation that is not number 'last' C holds. -/
def WpL (P : Program) (md : Region.Mode) (ops : Array Oper) (Q : Exit → Act → World → Prop) (C : World → Prop) (last : Nat) : Nat → Array Bool → Act → World → Prop
  | 0, listed, a, w => Region.ready md ops listed = [] ∧ Q .normal a w
  | fuel + 1, listed, a, w =>
    (Region.ready md ops listed = [] → Q .normal a w) ∧
    ∀ j ∈ Region.ready md ops listed, wpOp P ops Q j (fun a' w' => (j ≠ last → C w') ∧ WpL P md ops Q C last fuel (listed.setIfInBounds j true) a' w') a w

theorem WpL.any : ∀ (fuel : Nat) (listed : Array Bool) (a : Act) (w : World), WpL P md ops Q C last fuel listed a w → wpAny P md ops Q fuel listed a w
  | 0, _, _, _, h => h
  | fuel + 1, _, _, _, h => ⟨h.1, fun j hj => wpOp_mono (fun a' w' h' => WpL.any fuel _ a' w' h'.2) (h.2 j hj)⟩

/-- An operation that waits for one that has not come up can't come up. -/
theorem not_ready {i j : Nat} {listed : Array Bool} (hi : i ∈ Region.ready md ops listed) (hw : Region.waitsFor md ops j i = true) : j ∉ Region.ready md ops listed := by
  intro hj
  obtain ⟨oj, hoj, e, he, hb, hon⟩ := Region.waitsFor_spec hw
  obtain ⟨_, oj', hoj', hall⟩ := mem_ready.1 hj
  obtain rfl : oj = oj' := Option.some.inj (hoj.symm.trans hoj')
  have h1 := hall e he hb
  have h0 := (mem_ready.1 hi).1
  rw [hon] at h1
  rcases Nat.lt_or_ge i listed.size with h' | h'
  · simp [h'] at h0 h1; rw [h0] at h1; cases h1
  · simp [Array.getElem?_eq_none h'] at h1

theorem WpL.first {i : Nat} {oi : Oper} {v : Value} (hi : ops[i]? = some oi) (hsel : ∀ (j : Nat) (o : Oper) cs b, ops[j]? = some o → o.op ≠ .select cs b)
    (hQ : ∀ c a w, Q (.panic c) (a.put oi.dst v) w → Q (.panic c) a w) (hw : Region.waitsFor md ops last i = true) :
    ∀ (fuel : Nat) (listed : Array Bool) (a : Act) (w : World),
      (∀ j oj, ops[j]? = some oj → j ≠ i → listed.getD j true = false → (∀ e ∈ oj.after, Region.binds md e = true → e.on ≠ i) → oi.apart ops oj = true) →
      i ∈ Region.ready md ops listed → YieldsIf P ops C oi v a → C w →
      WpL P md ops Q C last fuel (listed.setIfInBounds i true) (a.put oi.dst v) w → WpL P md ops Q C last (fuel + 1) listed a w
  | 0, listed, a, w, _, hr, hy, hC, H => by
    refine ⟨fun h => (by rw [h] at hr; cases hr), fun j hj => ?_⟩
    by_cases hji : j = i
    · subst hji; exact hy.wpOp hi hC ⟨fun _ => hC, H⟩
    · have := ready_mono hj hji
      rw [H.1] at this
      cases this
  | fuel + 1, listed, a, w, hfree, hr, hy, hC, H => by
    refine ⟨fun h => (by rw [h] at hr; cases hr), fun j hj => ?_⟩
    by_cases hji : j = i
    · subst hji; exact hy.wpOp hi hC ⟨fun _ => hC, H⟩
    have hjl : j ≠ last := fun e => not_ready hr hw (e ▸ hj)
    have hjin := ready_mono hj hji
    obtain ⟨hjun, oj, hoj, hall⟩ := mem_ready.1 hj
    have hnot : ∀ e ∈ oj.after, Region.binds md e = true → e.on ≠ i := fun e he hb heq => by
      refine not_ready (md := md) (ops := ops) hr (j := j) ?_ hj
      unfold Region.waitsFor
      rw [hoj]
      exact Array.any_eq_true'.2 ⟨e, he, by simp [hb, heq]⟩
    have step := wpOp_putIf hoj (hfree j oj hoj hji hjun hnot) (fun cs b => hsel i oi cs b hi) (fun cs b => hsel j oj cs b hoj) hQ hy (H.2 j hjin)
    refine wpOp_mono (fun a' w' k => ⟨fun _ => k.2.1 hjl, WpL.first hi hsel hQ hw fuel (listed.setIfInBounds j true) a' w' ?_ (ready_mono hr (Ne.symm hji)) k.1 (k.2.1 hjl) ?_⟩) step
    · intro m om hm hmi hun hno
      refine hfree m om hm hmi ?_ hno
      by_cases hjm : j = m
      · subst hjm; exact hjun
      · rw [getD_set_ne true hjm] at hun; exact hun
    · rw [Array.setIfInBounds_comm _ _ hji]
      exact k.2.2

theorem wanted_plain (d : Option Tmp) (op : Op) (ty : TypeId) (pos : String) (aft : Array Edge) (ts : Array Value) : Region.wanted ⟨d, op, ty, pos, aft, none⟩ (yielded ops ts) = true := by simp [Region.wanted]

/-- Take number i first. -/
theorem take (i : Nat) {d : Tmp} {op : Op} {ty : TypeId} {pos : String} {aft : Array Edge} {v : Value} {fuel : Nat} {listed : Array Bool} {a : Act} {w : World} (hC : C w) (hi : ops[i]? = some ⟨some d, op, ty, pos, aft, none⟩)
    (hs : Region.noSelect ops = true) (hf : Region.free md ops listed i = true) (hr : (Region.ready md ops listed).contains i = true) (hw : Region.waitsFor md ops last i = true)
    (hQ : ∀ c a w, Q (.panic c) (a.put (some d) v) w → Q (.panic c) a w) (hy : ∀ W, C W → (execOp a.eval ⟨some d, op, ty, pos, aft, none⟩).run P W = .ok (.value v) W)
    (h : WpL P md ops Q C last fuel (listed.setIfInBounds i true) (a.put (some d) v) w) : WpL P md ops Q C last (fuel + 1) listed a w :=
  WpL.first hi (Region.noSelect_spec hs) hQ hw fuel listed a w (Region.free_spec hi hf) (by simpa using hr) (.inl ⟨wanted_plain .., hy⟩) hC h

/-- What is to be shown of number i, if it comes up next. -/
def Step (P : Program) (md : Region.Mode) (ops : Array Oper) (Q : Exit → Act → World → Prop) (C : World → Prop) (last fuel : Nat) (listed : Array Bool) (a : Act) (w : World) (i : Nat) (o : Oper) : Prop :=
  ∀ K : Act → World → Prop, Go.RowKit.Hid (∀ a' w', (i ≠ last → C w') → WpL P md ops Q C last fuel (listed.setIfInBounds i true) a' w' → K a' w') → o.wp P a w K Q
/-- The next one is number i, by force. -/
theorem only (i : Nat) {d : Option Tmp} {op : Op} {ty : TypeId} {pos : String} {aft : Array Edge} {fuel : Nat} {listed : Array Bool} {a : Act} {w : World} (hr : Region.ready md ops listed = [i]) (hi : ops[i]? = some ⟨d, op, ty, pos, aft, none⟩)
    (h : Step P md ops Q C last fuel listed a w i ⟨d, op, ty, pos, aft, none⟩) : WpL P md ops Q C last (fuel + 1) listed a w := by
  refine ⟨fun h0 => (by rw [hr] at h0; cases h0), fun j hj => ?_⟩
  rw [hr] at hj
  obtain rfl : j = i := by simpa using hj
  unfold wpOp
  simp only [hi, wanted_plain, if_true]
  exact .inl (h _ fun a' w' h1 h2 => ⟨h1, h2⟩)
/-- The next one is one of two. -/
theorem either (i k : Nat) {d d' : Option Tmp} {op op' : Op} {ty ty' : TypeId} {pos pos' : String} {aft aft' : Array Edge} {fuel : Nat} {listed : Array Bool} {a : Act} {w : World} (hr : Region.ready md ops listed = [i, k])
    (hi : ops[i]? = some ⟨d, op, ty, pos, aft, none⟩) (hk : ops[k]? = some ⟨d', op', ty', pos', aft', none⟩)
    (h : Step P md ops Q C last fuel listed a w i ⟨d, op, ty, pos, aft, none⟩) (h' : Step P md ops Q C last fuel listed a w k ⟨d', op', ty', pos', aft', none⟩) : WpL P md ops Q C last (fuel + 1) listed a w := by
  refine ⟨fun h0 => (by rw [hr] at h0; cases h0), fun j hj => ?_⟩
  rw [hr] at hj
  unfold wpOp
  rcases (by simpa using hj : j = i ∨ j = k) with rfl | rfl
  · simp only [hi, wanted_plain, if_true]
    exact .inl (h _ fun a' w' h1 h2 => ⟨h1, h2⟩)
  · simp only [hk, wanted_plain, if_true]
    exact .inl (h' _ fun a' w' h1 h2 => ⟨h1, h2⟩)
/-- All have come up. -/
theorem done {listed : Array Bool} {a : Act} {w : World} (hr : Region.ready md ops listed = []) (h : Q .normal a w) : ∀ fuel, WpL P md ops Q C last fuel listed a w
  | 0 => ⟨hr, h⟩
  | _ + 1 => ⟨fun _ => h, by rw [hr]; simp⟩
/-- The region's beginning. -/
theorem begin_ (C : World → Prop) (last : Nat) {id : Nat} {a : Act} {w : World} (hm : P.follows .mixedOrders = true) (h : WpL P .any ops Q C last ops.size (Array.replicate ops.size false) a w.drew) : (Code.region id ops true).wp P Q a w :=
  wp_region_any hm (WpL.any _ _ _ _ h)
end
end Go.Proofs.Ythdipkdolgcmgaa.Held
