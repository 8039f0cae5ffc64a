/-
  Lists of things of several cells that a call tells, beside the objects that it changes. Over any program. No condition.
-/
import Derived.Test.YtolooaahaofflaaDoorObj
namespace Go.Proofs.YtolooaahaofflaaDoor.Hand
open Go.ChangeShapes Go.WideShapes Go.ChangeAt Go.RowKit Mem

/-- A list that was told, in blocks of its own. -/
def SaysL {α : Type} (E : Enc α) (w w' : World) (u : Value) (l : List α) : Prop := RdL E w' (fun k => w.heap.size ≤ k) u l ∧ Below w.heap.size w w'
/-- A list that was told, and what is left. -/
def TellsL {α : Type} (E : Enc α) (R : Res) (F : Nat → Prop) (w w' : World) (u : Value) (l : List α) : Prop :=
  ∃ F' G' : Nat → Prop, R.holds w' F' ∧ RdL E w' G' u l ∧ Only F w w' ∧ (∀ k, F' k → F k ∨ w.heap.size ≤ k) ∧ (∀ k, G' k → F k ∨ w.heap.size ≤ k) ∧ ∀ k, G' k → ¬ F' k

section
variable {α : Type} {E : Enc α} {P : Program} {S : Type} {O : Ob S} {B : Nat → Prop} {w wk wn : World} {Rs : List Res} {v : Value} {s s' : S} {f : FuncId} {args : Array Value} {l : List α}
theorem SaysL.sep {u : Value} (h : Sep B w wk Rs) (hs : SaysL E wk wn u l) : Sep B w wn (told E u l :: Rs) :=
  h.add hs.2 (R := told E u l) (F := fun k => wk.heap.size ≤ k ∧ k < wn.heap.size) ⟨hs.1.mono fun _ hk hg => ⟨hg, hk⟩, fun _ hk => hk.2⟩ fun _ hk => hk.1
theorem TellsL.sep {R : Res} {F : Nat → Prop} {w w' : World} {u : Value} (h : TellsL E R F w w' u l) : Sep F w w' [told E u l, R] := by
  obtain ⟨F', G', ha, hr, ho, hF, hG, hd⟩ := h
  exact ⟨ho, fun k => G' k ∧ k < w'.heap.size, F', ⟨hr.mono fun k hk hg => ⟨hg, hk⟩, fun k hk => hk.2⟩, ⟨F', fun _ => False, ha, trivial, fun _ h => h, fun _ h => h.elim, fun _ _ h => h⟩, fun k hk => hG k hk.1, hF, fun k hk => hd k hk.1⟩
/-- What is at hand at a call's end, where the list is the first of two. -/
theorem tellsL_of {R : Res} {F : Nat → Prop} {w w' : World} {u : Value} (h : Sep F w w' [told E u l, R]) : TellsL E R F w w' u l := by
  obtain ⟨ho, F1, F2, ⟨h1, _⟩, ⟨F3, F4, h3, _, s3, _, _⟩, s1, s2, d⟩ := h
  exact ⟨F3, F1, h3, h1, ho, fun k hk => s2 k (s3 k hk), s1, fun k a b => d k a (s3 k b)⟩
theorem ob_toldL (h : Sep B w wk Rs) (i : Nat) (hi : Rs[i]? = some (ob O v s)) (hc : ∀ F, O.A wk v F s → Calls P f args wk fun e wn => ∃ u, e = .returned u ∧ SaysL E wk wn u l) :
    Calls P f args wk fun e wn => ∃ A c, e = .returned (.slice A l.length c) ∧ Sep B w wn (told E (.slice A l.length c) l :: Rs) ∧ Below wk.heap.size wk wn := by
  obtain ⟨F, hR⟩ := h.get i hi
  refine (hc F hR).mono ?_
  rintro e wn ⟨u, rfl, hs⟩
  obtain ⟨A, c, rfl⟩ := hs.1.form
  exact ⟨A, c, rfl, SaysL.sep h hs, hs.2⟩
theorem ob_tellsL (h : Sep B w wk Rs) (i : Nat) (hi : Rs[i]? = some (ob O v s)) (hc : ∀ F, O.A wk v F s → Calls P f args wk fun e wn => ∃ u, e = .returned u ∧ TellsL E (ob O v s') F wk wn u l) :
    Calls P f args wk fun e wn => ∃ A c, e = .returned (.slice A l.length c) ∧ Sep B w wn (told E (.slice A l.length c) l :: Rs.set i (ob O v s')) := by
  obtain ⟨F, hR, hn⟩ := h.splice2 i hi
  refine (hc F hR).mono ?_
  rintro e wn ⟨u, rfl, hu⟩
  obtain ⟨A, c, rfl⟩ : ∃ A c, u = .slice A l.length c := by obtain ⟨_, _, _, hr, _⟩ := hu; exact hr.form
  exact ⟨A, c, rfl, hn hu.sep⟩
/-- What one has made is what one was told. -/
theorem grow_told {e : TypeId} (h : Sep B w wk (grow E e v l :: Rs)) (hl : l.length ≤ 1000000) : Sep B w wk (told E v l :: Rs) := by
  obtain ⟨ho, F1, F2, ⟨h1, rfl⟩, h2, s1, s2, d⟩ := h
  exact ⟨ho, _, F2, ⟨h1.rd hl fun k hk => hk, fun k hk => (h1.lt k hk).2⟩, h2, s1, s2, d⟩
/-- A list of none. -/
theorem Sep.nil_told (h : Sep B w wk Rs) (E : Enc α) : Sep B w wk (told E (.slice none 0 0) [] :: Rs) := by
  obtain ⟨ho, ha⟩ := h
  exact ⟨ho, fun _ => False, _, ⟨RdL.nil _ _ _ _, fun _ h => h.elim⟩, ha, fun _ h => h.elim, fun _ h => h, fun _ h => h.elim⟩
/-- A list that is to grow, of none yet. -/
theorem Sep.growN0 (h : Sep B w wk Rs) (E : Enc α) (e : TypeId) : Sep B w wk (grow E e (.slice none 0 0) [] :: Rs) :=
  h.add (Below.refl _ _) (R := grow E e _ _) ⟨World.ownsRow_nil _ _ _ _, rfl⟩ fun k hk => by simp [Value.ownBlock] at hk
/-- A list that is written out. -/
theorem Sep.lit_told (h : Sep B w wk Rs) (e : TypeId) (l : List α) {cs : Array Value} (hc : cs.toList = l.flatMap E.cells) (hl : l.length ≤ 1000000) {n : Nat} (hn : n = l.length) : Sep B w (wk.alloc (.cells cs e)) (told E (.slice (some ⟨wk.heap.size, 0, none⟩) n n) l :: Rs) :=
  h.add (new_below0 wk _) (R := told E _ l) (F := fun b => b = wk.heap.size) ⟨litL E wk e l hc hl hn, fun k hk => by rw [hk]; simp⟩ fun k hk => Nat.le_of_eq hk.symm
theorem anyL {G : Nat → Prop} {u : Value} (h : RdL E w G u l) : RdL E w (fun _ => True) u l := h.mono fun _ _ _ => trivial
/-- A slice's length is no more than its capacity. -/
theorem fits_ownL {w : World} {b0 : Nat} {e : TypeId} {v : Value} (h : OwnL E w b0 e v l) : ∀ A n c, v = .slice A n c → n ≤ c := fun A n c he => by
  subst he
  rcases h.2 with ⟨e, hn⟩ | ⟨g, cap, cur, e, _, _, hnc, _⟩
  · injection e with _ e2 e3; omega
  · injection e with _ e2 e3; omega
end
end Go.Proofs.YtolooaahaofflaaDoor.Hand
