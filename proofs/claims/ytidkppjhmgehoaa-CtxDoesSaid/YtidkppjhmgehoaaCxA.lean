/-
  The landed arena of layer 6 in memory: its head, its tree, and a row of what each context has, each in blocks of its own; how a call sees it. No condition.
-/
import Derived.Test.YtidkppjhmgehoaaCtxI
import Derived.Test.YtidkppjhmgehoaaCtxQ
import Derived.Test.YtidkppjhmgehoaaTreeB
import Derived.Test.YtidkppjhmgehoaaTreeD
import Derived.Test.YtidkppjhmgehoaaInts
namespace Go.Proofs.Ytidkppjhmgehoaa.CxC
open Go.ChangeShapes Go.WideShapes Go.ChangeAt Go.RowKit Mem TreeP CtxP Hand TreeC CtxI

/-- By what one is ended when its deadline comes; nothing, if it has none. -/
def lateE (x : Cn) : Int := if x.has = true then 11 else 0
def lateZ (x : Cn) : Int := if x.has = true then cz 11 x.why else 0
/-- What a context has, as it lies. -/
def xE : Enc Cn := ⟨9, fun x => [.bool x.has, .int .i64 x.at_, .int .i64 (lateE x), .int .i64 (lateZ x), .bool x.named, .int .i64 x.key, .int .i64 x.value, .int .i64 x.e, .int .i64 x.cause], fun _ => rfl, by intro a u hu; simp at hu; rcases hu with rfl | rfl | rfl | rfl | rfl | rfl | rfl | rfl | rfl <;> rfl, by omega⟩
def endV (e c : Int) : Value := .agg #[.int .i64 e, .int .i64 c]
def dlV (h : Bool) (t e c : Int) : Value := .agg #[.bool h, .int .i64 t, .int .i64 e, .int .i64 c]
def xVal (x : Cn) : Value := .agg #[.bool x.has, .int .i64 x.at_, .int .i64 (lateE x), .int .i64 (lateZ x), .bool x.named, .int .i64 x.key, .int .i64 x.value, .int .i64 x.e, .int .i64 x.cause]
theorem xElem : Elem xE Try.prog 77 76 := elem_of (z := .agg #[.bool false, .int .i64 0, .int .i64 0, .int .i64 0, .bool false, .int .i64 0, .int .i64 0, .int .i64 0, .int .i64 0]) (bytes := 72) Try.underlying77 (by kernel_rfl) rfl (by omega)

/-- The landed tree as a thing at hand. -/
def tt (q : Nat) (T : List Nd) (M : Int) : Res where
  holds w F := TA w (.pointer (some ⟨q, 0, none⟩)) F T M
  keep := TA.keep
  lt := TA.lt

/-- The arena behind the pointer to block p. -/
def ca (p : Nat) (T : List Nd) (X : List Cn) (M : Int) : Res where
  holds w F := (∃ q u, All w F [blk p (.cells #[.pointer (some ⟨q, 0, none⟩), u] 79), tt q T M, grow xE 76 u X]) ∧ (∀ k, F k → k < w.heap.size) ∧ T.length = X.length ∧ TreeP.Ok T M
  keep := fun ⟨⟨q, u, h⟩, e, l, o⟩ hs hk => ⟨⟨q, u, h.keep hs hk⟩, fun k hF => Nat.lt_of_lt_of_le (e k hF) hs, l, o⟩
  lt := fun ⟨_, e, _⟩ => e

section
variable {B : Nat → Prop} {w w' wk : World} {Rs : List Res} {F : Nat → Prop} {p : Nat} {T : List Nd} {X : List Cn} {M : Int}
/-- Its parts at hand. -/
theorem ca_open (h : Sep B w wk (ca p T X M :: Rs)) : ∃ q u, Sep B w wk (blk p (.cells #[.pointer (some ⟨q, 0, none⟩), u] 79) :: tt q T M :: grow xE 76 u X :: Rs) ∧ T.length = X.length ∧ TreeP.Ok T M := by
  obtain ⟨ho, F1, F2, ⟨⟨q, u, ha⟩, _, hl, hok⟩, h2, s1, s2, d⟩ := h
  exact ⟨q, u, ⟨ho, (All.append ha h2 d).mono fun k _ hk => hk.elim (s1 k) (s2 k)⟩, hl, hok⟩
/-- .. and put together again. -/
theorem ca_close {q : Nat} {u : Value} (h : Sep B w wk (blk p (.cells #[.pointer (some ⟨q, 0, none⟩), u] 79) :: tt q T M :: grow xE 76 u X :: Rs)) (hl : T.length = X.length) (hok : TreeP.Ok T M) : Sep B w wk (ca p T X M :: Rs) := by
  obtain ⟨ho, F1, G1, h1, ⟨F2, G2, h2, ⟨F3, G3, h3, hr, s5, s6, d3⟩, s3, s4, d2⟩, s1, s2, d1⟩ := h
  refine ⟨ho, fun k => F1 k ∨ F2 k ∨ F3 k, G3, ⟨⟨q, u, F1, fun k => F2 k ∨ F3 k, h1, ⟨F2, F3, h2, ⟨F3, fun _ => False, h3, trivial, fun _ h => h, fun _ h => h.elim, fun _ _ h => h⟩, fun k h => .inl h, fun k h => .inr h, fun k a b => d2 k a (s5 k b)⟩, fun k h => .inl h, fun k h => .inr h, fun k a b => d1 k a (b.elim (s3 k) fun b => s4 k (s5 k b))⟩, fun k h => ?_, hl, hok⟩, hr, fun k h => ?_, fun k h => s2 k (s4 k (s6 k h)), fun k a b => ?_⟩
  · rcases h with h | h | h
    · exact (blk p _).lt h1 k h
    · exact (tt q T M).lt h2 k h
    · exact (grow xE _ u X).lt h3 k h
  · rcases h with h | h | h
    · exact s1 k h
    · exact s2 k (s3 k h)
    · exact s2 k (s4 k (s5 k h))
  · rcases a with a | a | a
    · exact d1 k a (s4 k (s6 k b))
    · exact d2 k a (s6 k b)
    · exact d3 k a b

/-- The cells of one context. -/
theorem x_cells {G : Nat → Prop} {A : Option Addr} {n c : Nat} (h : RdL xE w G (.slice A n c) X) {i : Nat} {x : Cn} (hi : X[i]? = some x) :
    ∃ b off, A = some ⟨b, off, none⟩ ∧ G b ∧ b < w.heap.size ∧ w.cell? ⟨b, off + i * 9, none⟩ = some (.bool x.has) ∧ w.cell? ⟨b, off + i * 9 + 1, none⟩ = some (.int .i64 x.at_) ∧ w.cell? ⟨b, off + i * 9 + 2, none⟩ = some (.int .i64 (lateE x)) ∧ w.cell? ⟨b, off + i * 9 + 3, none⟩ = some (.int .i64 (lateZ x)) ∧
      w.cell? ⟨b, off + i * 9 + 4, none⟩ = some (.bool x.named) ∧ w.cell? ⟨b, off + i * 9 + 5, none⟩ = some (.int .i64 x.key) ∧ w.cell? ⟨b, off + i * 9 + 6, none⟩ = some (.int .i64 x.value) ∧ w.cell? ⟨b, off + i * 9 + 7, none⟩ = some (.int .i64 x.e) ∧ w.cell? ⟨b, off + i * 9 + 8, none⟩ = some (.int .i64 x.cause) := by
  obtain ⟨b, off, hA, hG, hb, hc⟩ := h.at_ hi
  exact ⟨b, off, hA, hG, hb, hc 0 _ rfl, hc 1 _ rfl, hc 2 _ rfl, hc 3 _ rfl, hc 4 _ rfl, hc 5 _ rfl, hc 6 _ rfl, hc 7 _ rfl, hc 8 _ rfl⟩

/-- What a call that only reads wants of it. -/
structure Sees (w : World) (p : Nat) (T : List Nd) (X : List Cn) (M : Int) (q : Nat) (A : Option Addr) (c : Nat) (G : Nat → Prop) : Prop where
  c0 : w.cell? ⟨p, 0, none⟩ = some (.pointer (some ⟨q, 0, none⟩))
  c1 : w.cell? ⟨p, 1, none⟩ = some (.slice A X.length c)
  gp : G p
  lt : p < w.heap.size
  tree : View w G q T M
  glt : ∀ k, G k → k < w.heap.size
  rd : RdL xE w G (.slice A X.length c) X
  len : T.length = X.length
  ok : TreeP.Ok T M
theorem Sees.keep {q : Nat} {A : Option Addr} {c : Nat} {G : Nat → Prop} (h : Sees w p T X M q A c G) (hs : w.heap.size ≤ w'.heap.size) (hk : ∀ k, k < w.heap.size → G k → w'.heap[k]? = w.heap[k]?) : Sees w' p T X M q A c G :=
  ⟨(World.cell?_of_block (w := w) (a := ⟨p, 0, none⟩) (hk p h.lt h.gp)).trans h.c0, (World.cell?_of_block (w := w) (a := ⟨p, 1, none⟩) (hk p h.lt h.gp)).trans h.c1, h.gp, Nat.lt_of_lt_of_le h.lt hs, h.tree.keep hs hk, fun k hG => Nat.lt_of_lt_of_le (h.glt k hG) hs, h.rd.keep hs hk, h.len, h.ok⟩
theorem Sees.below {q : Nat} {A : Option Addr} {c : Nat} {G : Nat → Prop} (h : Sees w p T X M q A c G) (hb : Below w.heap.size w w') : Sees w' p T X M q A c G := h.keep hb.size fun k hk _ => hb.block k hk
theorem ca_sees (h : (ca p T X M).holds w F) : ∃ q A c, Sees w p T X M q A c F := by
  obtain ⟨⟨q, u, F1, F2, h1, ⟨F3, F4, h3, ⟨F5, F6, h5, _, s5, _, _⟩, s3, s4, _⟩, s1, s2, _⟩, hlt, hl, hok⟩ := h
  obtain ⟨hb, hF1⟩ := h1
  obtain ⟨ho, hF5⟩ := h5
  obtain ⟨A, c, rfl⟩ := ho.form
  have hm := hok.len
  have hm' := hok.m1
  obtain ⟨q', e, hv⟩ := TA.view h3
  obtain rfl : q = q' := by injection e with e; injection e with e; injection e
  have hpF : F p := s1 p (by rw [hF1])
  refine ⟨q, A, c, (cell_block hb 0).trans rfl, (cell_block hb 1).trans rfl, hpF, lt_of_block hb, ?_, hlt, ?_, hl, hok⟩
  · obtain ⟨A', c', X', g0, g1, g2, g3, g4⟩ := hv
    have hs : ∀ k, k < w.heap.size → F3 k → F k := fun k _ hk => s2 k (s3 k hk)
    exact ⟨A', c', X', g0, s2 q (s3 q g1), g2.mono hs, g3, fun i x hi => (g4 i x hi).mono hs⟩
  · exact ho.rd (by omega) fun k hk => s2 k (s4 k (s5 k (by rw [hF5]; exact hk)))
end
end Go.Proofs.Ytidkppjhmgehoaa.CxC
