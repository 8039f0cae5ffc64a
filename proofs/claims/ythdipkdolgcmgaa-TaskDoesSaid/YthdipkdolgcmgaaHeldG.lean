/-
  A region that draws its order and whose last operation waits for all others, with guards: what is wanted and only reads may be taken first; what is not wanted yields nothing; calls come up one at a time. Over any program. No condition.
-/
import Derived.Test.YthdipkdolgcmgaaHeld
namespace Go.Proofs.Ythdipkdolgcmgaa.Held

section
variable {P : Program} {ops : Array Oper} {Q : Exit → Act → World → Prop} {md : Region.Mode} {C : World → Prop} {last : Nat}

/-- Take number i first; it may be guarded, and is wanted. -/
theorem takeG (i : Nat) {d : Tmp} {op : Op} {ty : TypeId} {pos : String} {aft : Array Edge} {gd : Option (Nat × Bool)} {v : Value} {fuel : Nat} {listed : Array Bool} {a : Act} {w : World} (hC : C w) (hi : ops[i]? = some ⟨some d, op, ty, pos, aft, gd⟩)
    (hs : Region.noSelect ops = true) (hf : Region.free md ops listed i = true) (hr : (Region.ready md ops listed).contains i = true) (hw : Region.waitsFor md ops last i = true)
    (hQ : ∀ c a w, Q (.panic c) (a.put (some d) v) w → Q (.panic c) a w) (hg : Region.wanted ⟨some d, op, ty, pos, aft, gd⟩ (yielded ops a.tmps) = true) (hy : ∀ W, C W → (execOp a.eval ⟨some d, op, ty, pos, aft, gd⟩).run P W = .ok (.value v) W)
    (h : WpL P md ops Q C last fuel (listed.setIfInBounds i true) (a.put (some d) v) w) : WpL P md ops Q C last (fuel + 1) listed a w :=
  WpL.first hi (Region.noSelect_spec hs) hQ hw fuel listed a w (Region.free_spec hi hf) (by simpa using hr) (.inl ⟨hg, hy⟩) hC h
/-- Number i is not wanted. -/
theorem skip (i : Nat) {d : Tmp} {op : Op} {ty : TypeId} {pos : String} {aft : Array Edge} {gd : Option (Nat × Bool)} {fuel : Nat} {listed : Array Bool} {a : Act} {w : World} (hC : C w) (hi : ops[i]? = some ⟨some d, op, ty, pos, aft, gd⟩)
    (hs : Region.noSelect ops = true) (hf : Region.free md ops listed i = true) (hr : (Region.ready md ops listed).contains i = true) (hw : Region.waitsFor md ops last i = true)
    (hQ : ∀ c a w, Q (.panic c) (a.put (some d) undef) w → Q (.panic c) a w) (hg : Region.wanted ⟨some d, op, ty, pos, aft, gd⟩ (yielded ops a.tmps) = false)
    (h : WpL P md ops Q C last fuel (listed.setIfInBounds i true) (a.put (some d) undef) w) : WpL P md ops Q C last (fuel + 1) listed a w :=
  WpL.first hi (Region.noSelect_spec hs) hQ hw fuel listed a w (Region.free_spec hi hf) (by simpa using hr) (.inr ⟨hg, rfl⟩) hC h
/-- The next one is number i, by force; it may be guarded, and is wanted. -/
theorem onlyG (i : Nat) {d : Option Tmp} {op : Op} {ty : TypeId} {pos : String} {aft : Array Edge} {gd : Option (Nat × Bool)} {fuel : Nat} {listed : Array Bool} {a : Act} {w : World} (hr : Region.ready md ops listed = [i]) (hi : ops[i]? = some ⟨d, op, ty, pos, aft, gd⟩)
    (hg : Region.wanted ⟨d, op, ty, pos, aft, gd⟩ (yielded ops a.tmps) = true)
    (h : Step P md ops Q C last fuel listed a w i ⟨d, op, ty, pos, aft, gd⟩) : WpL P md ops Q C last (fuel + 1) listed a w := by
  refine ⟨fun h0 => (by rw [hr] at h0; cases h0), fun j hj => ?_⟩
  rw [hr] at hj
  obtain rfl : j = i := by simpa using hj
  unfold wpOp
  simp only [hi, hg, if_true]
  exact .inl (h _ fun a' w' h1 h2 => ⟨h1, h2⟩)
end
end Go.Proofs.Ythdipkdolgcmgaa.Held
