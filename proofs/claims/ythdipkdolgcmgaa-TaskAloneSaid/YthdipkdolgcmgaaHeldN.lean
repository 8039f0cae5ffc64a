/-
  A region that draws its order and of which nothing breaks what is kept (its number 'last' is none of it): what is wanted and only reads may be taken first. Over any program. No condition.
-/
import Derived.Test.YthdipkdolgcmgaaHeldG
namespace Go.Proofs.Ythdipkdolgcmgaa.Held

section
variable {P : Program} {ops : Array Oper} {Q : Exit → Act → World → Prop} {md : Region.Mode} {C : World → Prop} {last : Nat}

theorem WpL.firstN {i : Nat} {oi : Oper} {v : Value} (hi : ops[i]? = some oi) (hsel : ∀ (j : Nat) (o : Oper) cs b, ops[j]? = some o → o.op ≠ .select cs b)
    (hQ : ∀ c a w, Q (.panic c) (a.put oi.dst v) w → Q (.panic c) a w) (hl : ops[last]? = none) :
    ∀ (fuel : Nat) (listed : Array Bool) (a : Act) (w : World),
      (∀ j oj, ops[j]? = some oj → j ≠ i → listed.getD j true = false → (∀ e ∈ oj.after, Region.binds md e = true → e.on ≠ i) → oi.apart ops oj = true) →
      i ∈ Region.ready md ops listed → YieldsIf P ops C oi v a → C w →
      WpL P md ops Q C last fuel (listed.setIfInBounds i true) (a.put oi.dst v) w → WpL P md ops Q C last (fuel + 1) listed a w
  | 0, listed, a, w, _, hr, hy, hC, H => by
    refine ⟨fun h => (by rw [h] at hr; cases hr), fun j hj => ?_⟩
    by_cases hji : j = i
    · subst hji; exact hy.wpOp hi hC ⟨fun _ => hC, H⟩
    · have := ready_mono hj hji
      rw [H.1] at this
      cases this
  | fuel + 1, listed, a, w, hfree, hr, hy, hC, H => by
    refine ⟨fun h => (by rw [h] at hr; cases hr), fun j hj => ?_⟩
    by_cases hji : j = i
    · subst hji; exact hy.wpOp hi hC ⟨fun _ => hC, H⟩
    have hjin := ready_mono hj hji
    obtain ⟨hjun, oj, hoj, hall⟩ := mem_ready.1 hj
    have hjl : j ≠ last := fun e => by subst e; rw [hoj] at hl; cases hl
    have hnot : ∀ e ∈ oj.after, Region.binds md e = true → e.on ≠ i := fun e he hb heq => by
      refine not_ready (md := md) (ops := ops) hr (j := j) ?_ hj
      unfold Region.waitsFor
      rw [hoj]
      exact Array.any_eq_true'.2 ⟨e, he, by simp [hb, heq]⟩
    have step := wpOp_putIf hoj (hfree j oj hoj hji hjun hnot) (fun cs b => hsel i oi cs b hi) (fun cs b => hsel j oj cs b hoj) hQ hy (H.2 j hjin)
    refine wpOp_mono (fun a' w' k => ⟨fun _ => k.2.1 hjl, WpL.firstN hi hsel hQ hl fuel (listed.setIfInBounds j true) a' w' ?_ (ready_mono hr (Ne.symm hji)) k.1 (k.2.1 hjl) ?_⟩) step
    · intro m om hm hmi hun hno
      refine hfree m om hm hmi ?_ hno
      by_cases hjm : j = m
      · subst hjm; exact hjun
      · rw [getD_set_ne true hjm] at hun; exact hun
    · rw [Array.setIfInBounds_comm _ _ hji]
      exact k.2.2
/-- Take number i first; it may be guarded, and is wanted. -/
theorem takeN (i : Nat) {d : Tmp} {op : Op} {ty : TypeId} {pos : String} {aft : Array Edge} {gd : Option (Nat × Bool)} {v : Value} {fuel : Nat} {listed : Array Bool} {a : Act} {w : World} (hC : C w) (hi : ops[i]? = some ⟨some d, op, ty, pos, aft, gd⟩)
    (hs : Region.noSelect ops = true) (hf : Region.free md ops listed i = true) (hr : (Region.ready md ops listed).contains i = true) (hl : ops[last]? = none)
    (hQ : ∀ c a w, Q (.panic c) (a.put (some d) v) w → Q (.panic c) a w) (hg : Region.wanted ⟨some d, op, ty, pos, aft, gd⟩ (yielded ops a.tmps) = true) (hy : ∀ W, C W → (execOp a.eval ⟨some d, op, ty, pos, aft, gd⟩).run P W = .ok (.value v) W)
    (h : WpL P md ops Q C last fuel (listed.setIfInBounds i true) (a.put (some d) v) w) : WpL P md ops Q C last (fuel + 1) listed a w :=
  WpL.firstN hi (Region.noSelect_spec hs) hQ hl fuel listed a w (Region.free_spec hi hf) (by simpa using hr) (.inl ⟨hg, hy⟩) hC h
/-- Number i is not wanted. -/
theorem skipN (i : Nat) {d : Tmp} {op : Op} {ty : TypeId} {pos : String} {aft : Array Edge} {gd : Option (Nat × Bool)} {fuel : Nat} {listed : Array Bool} {a : Act} {w : World} (hC : C w) (hi : ops[i]? = some ⟨some d, op, ty, pos, aft, gd⟩)
    (hs : Region.noSelect ops = true) (hf : Region.free md ops listed i = true) (hr : (Region.ready md ops listed).contains i = true) (hl : ops[last]? = none)
    (hQ : ∀ c a w, Q (.panic c) (a.put (some d) undef) w → Q (.panic c) a w) (hg : Region.wanted ⟨some d, op, ty, pos, aft, gd⟩ (yielded ops a.tmps) = false)
    (h : WpL P md ops Q C last fuel (listed.setIfInBounds i true) (a.put (some d) undef) w) : WpL P md ops Q C last (fuel + 1) listed a w :=
  WpL.firstN hi (Region.noSelect_spec hs) hQ hl fuel listed a w (Region.free_spec hi hf) (by simpa using hr) (.inr ⟨hg, rfl⟩) hC h
end
end Go.Proofs.Ythdipkdolgcmgaa.Held
