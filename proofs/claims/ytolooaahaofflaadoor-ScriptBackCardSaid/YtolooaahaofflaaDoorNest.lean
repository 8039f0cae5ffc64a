/-
  Lists of lists: a slice whose elements are slices, read, told, and made. Over any program. No condition.
-/
import Derived.Test.YtolooaahaofflaaDoorObjL
namespace Go.Proofs.YtolooaahaofflaaDoor.Hand
open Go.ChangeShapes Go.WideShapes Go.ChangeAt Go.RowKit Mem

/-- A list, with the place that it lies at. -/
structure Pl (α : Type) where
  A : Option Addr
  c : Nat
  l : List α
def Pl.v {α : Type} (q : Pl α) : Value := .slice q.A q.l.length q.c
def plE {α : Type} : Enc (Pl α) := ⟨1, fun q => [q.v], fun _ => rfl, by intro a u hu; simp at hu; subst hu; rfl, by omega⟩
/-- The slice value v reads as the lists ps. -/
def RdN {α : Type} (E : Enc α) (w : World) (G : Nat → Prop) (v : Value) (ps : List (List α)) : Prop := ∃ qs : List (Pl α), qs.map Pl.l = ps ∧ RdL plE w G v qs ∧ ∀ q ∈ qs, q.l.length ≤ q.c ∧ RdL E w G q.v q.l
/-- A list of lists that was told. -/
def SaysN {α : Type} (E : Enc α) (w w' : World) (u : Value) (ps : List (List α)) : Prop := RdN E w' (fun k => w.heap.size ≤ k) u ps ∧ Below w.heap.size w w'

section
variable {α : Type} {E : Enc α} {w w' wk wn : World} {G G' B : Nat → Prop} {v : Value} {ps : List (List α)} {qs : List (Pl α)} {Rs : List Res} {e : TypeId}
theorem RdN.keep (h : RdN E w G v ps) (hs : w.heap.size ≤ w'.heap.size) (hk : ∀ k, k < w.heap.size → G k → w'.heap[k]? = w.heap[k]?) : RdN E w' G v ps := by
  obtain ⟨qs, h1, h2, h3⟩ := h
  exact ⟨qs, h1, h2.keep hs hk, fun q hq => ⟨(h3 q hq).1, (h3 q hq).2.keep hs hk⟩⟩
theorem RdN.below (h : RdN E w G v ps) (hb : Below w.heap.size w w') : RdN E w' G v ps := h.keep hb.size fun k hk _ => hb.block k hk
theorem RdN.mono (h : RdN E w G v ps) (hG : ∀ k, k < w.heap.size → G k → G' k) : RdN E w G' v ps := by
  obtain ⟨qs, h1, h2, h3⟩ := h
  exact ⟨qs, h1, h2.mono hG, fun q hq => ⟨(h3 q hq).1, (h3 q hq).2.mono hG⟩⟩
theorem RdN.form (h : RdN E w G v ps) : ∃ A c, v = .slice A ps.length c := by
  obtain ⟨qs, h1, h2, _⟩ := h
  obtain ⟨A, c, e⟩ := h2.form
  rw [← h1, List.length_map]
  exact ⟨A, c, e⟩
theorem RdN.le (h : RdN E w G v ps) : ps.length ≤ 1000000 := by
  obtain ⟨qs, h1, h2, _⟩ := h
  rw [← h1, List.length_map]
  exact h2.le
theorem RdN.nil (E : Enc α) (w : World) (G : Nat → Prop) (A : Option Addr) (c : Nat) : RdN E w G (.slice A 0 c) [] := ⟨[], rfl, RdL.nil _ _ _ _, fun q hq => by cases hq⟩
/-- One of the lists: where its slice lies, and what that reads as. -/
theorem RdN.at_ {A : Option Addr} {n c : Nat} (h : RdN E w G (.slice A n c) ps) {i : Nat} {p : List α} (hi : ps[i]? = some p) :
    ∃ b off A' c', A = some ⟨b, off, none⟩ ∧ b < w.heap.size ∧ p.length ≤ c' ∧ w.cell? ⟨b, off + i, none⟩ = some (.slice A' p.length c') ∧ RdL E w G (.slice A' p.length c') p := by
  obtain ⟨qs, h1, h2, h3⟩ := h
  rw [← h1, List.getElem?_map] at hi
  obtain ⟨q, hq, rfl⟩ := Option.map_eq_some_iff.1 hi
  obtain ⟨b, off, hA, _, hb, hc⟩ := h2.at_ hq
  have h4 := hc 0 _ rfl
  rw [show off + (i * plE.sz + 0) = off + i by show off + (i * 1 + 0) = _; omega] at h4
  exact ⟨b, off, q.A, q.c, hA, hb, (h3 q (List.mem_of_getElem? hq)).1, h4, (h3 q (List.mem_of_getElem? hq)).2⟩

/-- What stands behind the first k of a slice. -/
theorem rdL_behind {l : List α} {b off n c : Nat} (h : RdL E w G (.slice (some ⟨b, off, none⟩) n c) l) (k : Nat) (hk : k ≤ n) : RdL E w G (.slice (some ⟨b, off + k * E.sz, none⟩) (n - k) (c - k)) (l.drop k) := by
  have hle := h.le
  obtain ⟨A', c', he, _, hx⟩ := h
  injection he with e1 e2 e3
  subst e1 e2 e3
  have hl : (l.drop k).length = l.length - k := List.length_drop ..
  refine ⟨some ⟨b, off + k * E.sz, none⟩, c - k, by rw [hl], by omega, fun hp => ?_⟩
  obtain ⟨b', off', hA, hG, hb, hc⟩ := hx (by omega)
  injection hA with hA
  injection hA with e1 e2
  subst e1 e2
  refine ⟨b, _, rfl, hG, hb, fun i a hi j u hu => ?_⟩
  rw [List.getElem?_drop] at hi
  have := hc (k + i) a hi j u hu
  rwa [show off + ((k + i) * E.sz + j) = off + k * E.sz + (i * E.sz + j) by rw [Nat.add_mul]; omega] at this

/-- A list of lists at hand. -/
def toldN (E : Enc α) (v : Value) (ps : List (List α)) : Res where
  holds w F := RdN E w F v ps ∧ ∀ k, F k → k < w.heap.size
  keep := fun ⟨h, e⟩ hs hk => ⟨h.keep hs hk, fun k hF => Nat.lt_of_lt_of_le (e k hF) hs⟩
  lt := fun ⟨_, e⟩ => e
/-- Lists that can be read, wherever they lie. -/
def readsP (E : Enc α) (qs : List (Pl α)) : Res where
  holds w F := (∀ q ∈ qs, q.l.length ≤ q.c ∧ RdL E w F q.v q.l) ∧ ∀ k, F k → k < w.heap.size
  keep := fun ⟨h, e⟩ hs hk => ⟨fun q hq => ⟨(h q hq).1, (h q hq).2.keep hs hk⟩, fun k hF => Nat.lt_of_lt_of_le (e k hF) hs⟩
  lt := fun ⟨_, e⟩ => e
theorem Sep.rdN (h : Sep B w wk Rs) (i : Nat) (hi : Rs[i]? = some (toldN E v ps)) : RdN E wk (fun _ => True) v ps := by
  obtain ⟨F, h1, _⟩ := h.get i hi
  exact h1.mono fun _ _ _ => trivial
theorem Sep.readsP_nil (h : Sep B w wk Rs) (E : Enc α) : Sep B w wk (readsP E [] :: Rs) := by
  obtain ⟨ho, ha⟩ := h
  exact ⟨ho, fun _ => False, _, ⟨fun x hx => (by cases hx), fun _ h => h.elim⟩, ha, fun _ h => h.elim, fun _ h => h, fun _ h => h.elim⟩
theorem Sep.readsP_at (h : Sep B w wk Rs) (i : Nat) (hi : Rs[i]? = some (readsP E qs)) {q : Pl α} (hq : q ∈ qs) : RdL E wk (fun _ => True) q.v q.l ∧ q.l.length ≤ q.c := by
  obtain ⟨F, h1, _⟩ := h.get i hi
  exact ⟨(h1 q hq).2.mono fun _ _ _ => trivial, (h1 q hq).1⟩
/-- One list more. -/
theorem Sep.readsP_add {q : Pl α} (h : Sep B w wk (told E q.v q.l :: readsP E qs :: Rs)) (hc : q.l.length ≤ q.c) : Sep B w wk (readsP E (qs ++ [q]) :: Rs) := by
  obtain ⟨ho, F1, F2, ⟨h1, e1⟩, ⟨F3, F4, ⟨h3, e3⟩, h4, s3, s4, d3⟩, s1, s2, d1⟩ := h
  refine ⟨ho, fun k => F1 k ∨ F3 k, F4, ⟨fun x hx => ?_, fun k hk => hk.elim (e1 k) (e3 k)⟩, h4, fun k hk => hk.elim (s1 k) fun hk => s2 k (s3 k hk), fun k hk => s2 k (s4 k hk), fun k a b => a.elim (fun a => d1 k a (s4 k b)) fun a => d3 k a b⟩
  rcases List.mem_append.1 hx with hx | hx
  · exact ⟨(h3 x hx).1, (h3 x hx).2.mono fun k _ hk => .inr hk⟩
  · rw [List.mem_singleton] at hx
    subst hx
    exact ⟨hc, h1.mono fun k _ hk => .inl hk⟩
/-- What one has made, with the lists in it, is what one was told. -/
theorem growN_told (h : Sep B w wk (grow plE e v qs :: readsP E qs :: Rs)) (hl : qs.length ≤ 1000000) : Sep B w wk (toldN E v (qs.map Pl.l) :: Rs) := by
  obtain ⟨ho, F1, F2, ⟨h1, rfl⟩, ⟨F3, F4, ⟨h3, e3⟩, h4, s3, s4, d3⟩, s1, s2, d1⟩ := h
  refine ⟨ho, fun k => v.ownBlock = some k ∨ F3 k, F4, ⟨⟨qs, rfl, h1.rd hl fun k hk => .inl hk, fun q hq => ⟨(h3 q hq).1, (h3 q hq).2.mono fun k _ hk => .inr hk⟩⟩, fun k hk => hk.elim (fun hk => (h1.lt k hk).2) (e3 k)⟩, h4, fun k hk => hk.elim (s1 k) fun hk => s2 k (s3 k hk), fun k hk => s2 k (s4 k hk), fun k a b => a.elim (fun a => d1 k a (s4 k b)) fun a => d3 k a b⟩
theorem SaysN.sep {u : Value} (h : Sep B w wk Rs) (hs : SaysN E wk wn u ps) : Sep B w wn (toldN E u ps :: Rs) :=
  h.add hs.2 (R := toldN E u ps) (F := fun k => wk.heap.size ≤ k ∧ k < wn.heap.size) ⟨hs.1.mono fun _ hk hg => ⟨hg, hk⟩, fun _ hk => hk.2⟩ fun _ hk => hk.1
/-- What is at hand at a call's end. -/
theorem saysN_of {u : Value} (h : Sep (fun _ => False) w wk (toldN E u ps :: Rs)) : SaysN E w wk u ps := by
  have ho := h.old
  obtain ⟨_, F1, F2, ⟨h1, _⟩, _, s1, _, _⟩ := h
  exact ⟨h1.mono fun k _ hk => (s1 k hk).resolve_left id, ho⟩
end
end Go.Proofs.YtolooaahaofflaaDoor.Hand
