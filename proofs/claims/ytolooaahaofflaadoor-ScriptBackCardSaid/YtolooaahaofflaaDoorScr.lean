/-
  Scripts as values: four numbers and two slices; items as a slice's elements (layer 17). No condition.
-/
import Derived.Test.YtolooaahaofflaaDoorScriptP
import Derived.Test.YtolooaahaofflaaDoorNest
import Derived.Test.YtolooaahaofflaaDoorCodeI
namespace Go.Proofs.YtolooaahaofflaaDoor.Scr
open Go.ChangeShapes Go.WideShapes Go.ChangeAt Go.RowKit Mem MutP CodeP ScriptP Hand RefCode CodeI

/-- Items as a slice's elements. -/
def itE : Enc It := ⟨3, fun x => [.int .i64 x.d, .int .i64 x.a, .int .i64 x.n], fun _ => rfl, by intro a u hu; simp at hu; rcases hu with rfl | rfl | rfl <;> rfl, by omega⟩
theorem it_at {w : World} {G : Nat → Prop} {A : Option Addr} {n c : Nat} {l : List It} (h : RdL itE w G (.slice A n c) l) {i : Nat} {x : It} (hi : l[i]? = some x) :
    ∃ b off, A = some ⟨b, off, none⟩ ∧ b < w.heap.size ∧ w.cell? ⟨b, off + i * 3, none⟩ = some (.int .i64 x.d) ∧ w.cell? ⟨b, off + i * 3 + 1, none⟩ = some (.int .i64 x.a) ∧ w.cell? ⟨b, off + i * 3 + 2, none⟩ = some (.int .i64 x.n) := by
  obtain ⟨b, off, hA, _, hb, hc⟩ := h.at_ hi
  exact ⟨b, off, hA, hb, hc 0 _ rfl, hc 1 _ rfl, hc 2 _ rfl⟩
theorem it_eq (x y : It) : x = y ↔ x.d = y.d ∧ x.a = y.a ∧ x.n = y.n := by
  cases x; cases y; simp
instance : DecidableEq It := fun x y => decidable_of_iff _ (it_eq x y).symm
theorem sc_eq (x y : Sc) : x = y ↔ x.r = y.r ∧ x.ps = y.ps ∧ x.xs = y.xs := by
  cases x; cases y; simp
instance : DecidableEq Sc := fun x y => decidable_of_iff _ (sc_eq x y).symm

/-- A script's value: its rooms, and the places of its two lists. -/
structure Sv where
  r0 : Int
  r1 : Int
  r2 : Int
  r3 : Int
  pA : Option Addr
  pn : Nat
  pc : Nat
  xA : Option Addr
  xn : Nat
  xc : Nat
def Sv.arr (q : Sv) : Array Value := #[.int .i64 q.r0, .int .i64 q.r1, .int .i64 q.r2, .int .i64 q.r3, .slice q.pA q.pn q.pc, .slice q.xA q.xn q.xc]
/-- The script's value q reads as the script s. -/
def RdS (w : World) (G : Nat → Prop) (q : Sv) (s : Sc) : Prop :=
  s.r = [q.r0, q.r1, q.r2, q.r3] ∧ RdN inE w G (.slice q.pA q.pn q.pc) s.ps ∧ RdL itE w G (.slice q.xA q.xn q.xc) s.xs ∧ q.pn ≤ q.pc ∧ q.xn ≤ q.xc
/-- What is small enough to be looked at. -/
def Small (s : Sc) : Prop := s.ps.length ≤ 20 ∧ (∀ p ∈ s.ps, p.length ≤ 60) ∧ s.xs.length ≤ 220
/-- A script that was told. -/
def SaysS (w w' : World) (q : Sv) (s : Sc) : Prop := RdS w' (fun k => w.heap.size ≤ k) q s ∧ Below w.heap.size w w'
theorem lenN {α : Type} {E : Enc α} {w : World} {G : Nat → Prop} {A : Option Addr} {n c : Nat} {ps : List (List α)} (h : RdN E w G (.slice A n c) ps) : n = ps.length := by
  obtain ⟨_, _, e⟩ := h.form
  injection e

section
variable {w w' wk wn : World} {G G' B : Nat → Prop} {q : Sv} {s : Sc} {Rs : List Res}
theorem RdS.keep (h : RdS w G q s) (hs : w.heap.size ≤ w'.heap.size) (hk : ∀ k, k < w.heap.size → G k → w'.heap[k]? = w.heap[k]?) : RdS w' G q s := ⟨h.1, h.2.1.keep hs hk, h.2.2.1.keep hs hk, h.2.2.2⟩
theorem RdS.below (h : RdS w G q s) (hb : Below w.heap.size w w') : RdS w' G q s := h.keep hb.size fun k hk _ => hb.block k hk
theorem RdS.mono (h : RdS w G q s) (hG : ∀ k, k < w.heap.size → G k → G' k) : RdS w G' q s := ⟨h.1, h.2.1.mono hG, h.2.2.1.mono hG, h.2.2.2⟩
theorem RdS.rooms (h : RdS w G q s) : s.r = [q.r0, q.r1, q.r2, q.r3] := h.1
theorem RdS.pn (h : RdS w G q s) : q.pn = s.ps.length := lenN h.2.1
theorem RdS.xn (h : RdS w G q s) : q.xn = s.xs.length := len_of h.2.2.1
/-- A script at hand. -/
def scr (q : Sv) (s : Sc) : Res where
  holds w F := RdS w F q s ∧ ∀ k, F k → k < w.heap.size
  keep := fun ⟨h, e⟩ hs hk => ⟨h.keep hs hk, fun k hF => Nat.lt_of_lt_of_le (e k hF) hs⟩
  lt := fun ⟨_, e⟩ => e
theorem Sep.rdS (h : Sep B w wk Rs) (i : Nat) (hi : Rs[i]? = some (scr q s)) : RdS wk (fun _ => True) q s := by
  obtain ⟨F, h1, _⟩ := h.get i hi
  exact h1.mono fun _ _ _ => trivial
theorem SaysS.sep (h : Sep B w wk Rs) (hs : SaysS wk wn q s) : Sep B w wn (scr q s :: Rs) :=
  h.add hs.2 (R := scr q s) (F := fun k => wk.heap.size ≤ k ∧ k < wn.heap.size) ⟨hs.1.mono fun _ hk hg => ⟨hg, hk⟩, fun _ hk => hk.2⟩ fun _ hk => hk.1
/-- What is at hand at a call's end. -/
theorem saysS_of (h : Sep (fun _ => False) w wk (scr q s :: Rs)) : SaysS w wk q s := by
  have ho := h.old
  obtain ⟨_, F1, F2, ⟨h1, _⟩, _, s1, _, _⟩ := h
  exact ⟨h1.mono fun k _ hk => (s1 k hk).resolve_left id, ho⟩
/-- A script's two lists, at hand, are a script. -/
theorem scr_of {s : Sc} (h : Sep B w wk (toldN inE (.slice q.pA q.pn q.pc) s.ps :: told itE (.slice q.xA q.xn q.xc) s.xs :: Rs)) (hr : s.r = [q.r0, q.r1, q.r2, q.r3]) (hp : q.pn ≤ q.pc) (hx : q.xn ≤ q.xc) : Sep B w wk (scr q s :: Rs) := by
  obtain ⟨ho, F1, F2, ⟨h1, e1⟩, ⟨F3, F4, ⟨h3, e3⟩, h4, s3, s4, d3⟩, s1, s2, d1⟩ := h
  exact ⟨ho, fun k => F1 k ∨ F3 k, F4, ⟨⟨hr, h1.mono fun k _ hk => .inl hk, h3.mono fun k _ hk => .inr hk, hp, hx⟩, fun k hk => hk.elim (e1 k) (e3 k)⟩, h4, fun k hk => hk.elim (s1 k) fun hk => s2 k (s3 k hk), fun k hk => s2 k (s4 k hk), fun k a b => a.elim (fun a => d1 k a (s4 k b)) fun a => d3 k a b⟩
/-- The script of nothing. -/
theorem rdS_zero (w : World) (G : Nat → Prop) : RdS w G ⟨0, 0, 0, 0, none, 0, 0, none, 0, 0⟩ zeroS := ⟨rfl, RdN.nil _ _ _ _ _, RdL.nil _ _ _ _, Nat.le_refl _, Nat.le_refl _⟩
theorem saysS_zero (h : Below w.heap.size w wk) : SaysS w wk ⟨0, 0, 0, 0, none, 0, 0, none, 0, 0⟩ zeroS := ⟨rdS_zero _ _, h⟩
end
end Go.Proofs.YtolooaahaofflaaDoor.Scr
