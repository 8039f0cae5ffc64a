/-
  Objects behind a pointer, each in blocks of its own, with a state: what a call makes of one, and what it tells beside. Over any program. No condition.
-/
import Derived.Test.YthdipkdolgcmgaaSep
namespace Go.Proofs.Ythdipkdolgcmgaa.Hand
open Go.ChangeShapes Go.WideShapes Go.ChangeAt Go.RowKit Mem

/-- What lies behind a pointer v, in blocks of F, in state s. -/
structure Ob (S : Type) where
  A : World → Value → (Nat → Prop) → S → Prop
  ptr : ∀ {w v F s}, A w v F s → ∃ a, v = .pointer (some a)
  keep : ∀ {w w' v F s}, A w v F s → w.heap.size ≤ w'.heap.size → (∀ k, k < w.heap.size → F k → w'.heap[k]? = w.heap[k]?) → A w' v F s
  lt : ∀ {w v F s}, A w v F s → ∀ k, F k → k < w.heap.size
def ob {S : Type} (O : Ob S) (v : Value) (s : S) : Res := ⟨fun w F => O.A w v F s, O.keep, O.lt⟩

theorem litL {α : Type} (E : Enc α) (w : World) (e : TypeId) (l : List α) {cs : Array Value} (hc : cs.toList = l.flatMap E.cells) (hl : l.length ≤ 1000000) {n : Nat} (hn : n = l.length) : RdL E (w.alloc (.cells cs e)) (fun b => b = w.heap.size) (.slice (some ⟨w.heap.size, 0, none⟩) n n) l := by
  subst hn
  have hs : cs.size = l.length * E.sz := by rw [← Array.length_toList, hc, flat_length]
  have h := World.ownsRow_lit (e := e) (size := E.sz) (base := 0) w cs l.length (Nat.zero_le _) (by unfold maxLen; omega) hs
  rw [hc] at h
  exact OwnL.rd (base := 0) h hl fun k hk => by simp [Value.ownBlock] at hk; exact hk.symm
theorem All.split {w : World} : ∀ (Ss Rs : List Res) {F : Nat → Prop}, All w F (Ss ++ Rs) → ∃ F1 F2 : Nat → Prop, All w F1 Ss ∧ All w F2 Rs ∧ (∀ k, F1 k → F k) ∧ (∀ k, F2 k → F k) ∧ (∀ k, F1 k → ¬ F2 k) ∧ ∀ k, F1 k → k < w.heap.size
  | [], _, F, h => ⟨fun _ => False, F, trivial, h, fun _ h => h.elim, fun _ h => h, fun _ h => h.elim, fun _ h => h.elim⟩
  | S :: Ss, Rs, F, ⟨G1, G2, h1, h2, s1, s2, d⟩ => by
    obtain ⟨H1, H2, a1, a2, t1, t2, e, l⟩ := All.split Ss Rs h2
    refine ⟨fun k => G1 k ∨ H1 k, H2, ⟨G1, H1, h1, a1, fun k h => .inl h, fun k h => .inr h, fun k a b => d k a (t1 k b)⟩, a2, fun k h => h.elim (s1 k) fun h => s2 k (t1 k h), fun k h => s2 k (t2 k h), fun k a b => a.elim (fun a => d k a (t2 k b)) fun a => e k a b, fun k h => h.elim (S.lt h1 k) (l k)⟩
/-- Several things as one. -/
def pack (Ss : List Res) : Res where
  holds w F := All w F Ss ∧ ∀ k, F k → k < w.heap.size
  keep := fun ⟨h, e⟩ hs hk => ⟨h.keep hs hk, fun k hF => Nat.lt_of_lt_of_le (e k hF) hs⟩
  lt := fun ⟨_, e⟩ => e
/-- A thing that is one of many, by what is not told. -/
def someR {α : Type} (p : α → Prop) (R : α → Res) : Res where
  holds w F := ∃ a, p a ∧ (R a).holds w F
  keep := fun ⟨a, h, hr⟩ hs hk => ⟨a, h, (R a).keep hr hs hk⟩
  lt := fun ⟨a, _, hr⟩ => (R a).lt hr
section
variable {B : Nat → Prop} {w wk : World} {Rs Ss : List Res}
theorem Sep.unpack (h : Sep B w wk (pack Ss :: Rs)) : Sep B w wk (Ss ++ Rs) := by
  obtain ⟨ho, F1, F2, ⟨ha, _⟩, h2, s1, s2, d⟩ := h
  exact ⟨ho, (All.append ha h2 d).mono fun k _ hk => hk.elim (s1 k) (s2 k)⟩
theorem Sep.packed (h : Sep B w wk (Ss ++ Rs)) : Sep B w wk (pack Ss :: Rs) := by
  obtain ⟨ho, ha⟩ := h
  obtain ⟨F1, F2, h1, h2, s1, s2, d, l⟩ := All.split Ss Rs ha
  exact ⟨ho, F1, F2, ⟨h1, l⟩, h2, s1, s2, d⟩
theorem Sep.ex {α : Type} {p : α → Prop} {R : α → Res} (h : Sep B w wk (someR p R :: Rs)) : ∃ a, p a ∧ Sep B w wk (R a :: Rs) := by
  obtain ⟨ho, F1, F2, ⟨a, hp, hr⟩, h2, s1, s2, d⟩ := h
  exact ⟨a, hp, ho, F1, F2, hr, h2, s1, s2, d⟩
theorem Sep.hide {α : Type} {p : α → Prop} {R : α → Res} {a : α} (hp : p a) (h : Sep B w wk (R a :: Rs)) : Sep B w wk (someR p R :: Rs) := by
  obtain ⟨ho, F1, F2, hr, h2, s1, s2, d⟩ := h
  exact ⟨ho, F1, F2, ⟨a, hp, hr⟩, h2, s1, s2, d⟩
end

/-- A list that was told, in blocks of its own. -/
def Says (w w' : World) (u : Value) (l : List Int) : Prop := Rd w' (fun k => w.heap.size ≤ k) u l ∧ Below w.heap.size w w'
/-- A list that was told, and what is left. -/
def Tells (R : Res) (F : Nat → Prop) (w w' : World) (u : Value) (l : List Int) : Prop :=
  ∃ F' G' : Nat → Prop, R.holds w' F' ∧ Rd w' G' u l ∧ Only F w w' ∧ (∀ k, F' k → F k ∨ w.heap.size ≤ k) ∧ (∀ k, G' k → F k ∨ w.heap.size ≤ k) ∧ ∀ k, G' k → ¬ F' k
theorem rd_form {w : World} {G : Nat → Prop} {u : Value} {l : List Int} (h : Rd w G u l) : ∃ A c, u = .slice A l.length c := by obtain ⟨A, c, e, _⟩ := h; exact ⟨A, c, e⟩

section
variable {P : Program} {S : Type} {O : Ob S} {B : Nat → Prop} {w wk : World} {Rs : List Res} {v : Value} {s s' : S} {f : FuncId} {args : Array Value}
theorem ob_ptr (h : Sep B w wk Rs) (i : Nat) (hi : Rs[i]? = some (ob O v s)) : ∃ a, v = .pointer (some a) := by
  obtain ⟨F, hR⟩ := h.get i hi
  exact O.ptr hR
theorem ob_new (h : Sep B w wk Rs) {e0 : Value → Ending} (hc : Calls P f args wk fun e wn => ∃ v F, e = e0 v ∧ O.A wn v F s ∧ Below wk.heap.size wk wn ∧ ∀ k, F k → wk.heap.size ≤ k) :
    Calls P f args wk fun e wn => ∃ a, e = e0 (.pointer (some a)) ∧ Sep B w wn (ob O (.pointer (some a)) s :: Rs) := by
  refine hc.mono ?_
  rintro e wn ⟨v, F, rfl, ha, hb, hf⟩
  obtain ⟨a, rfl⟩ := O.ptr ha
  exact ⟨a, rfl, h.add hb (R := ob O _ _) ha hf⟩
theorem ob_to (h : Sep B w wk Rs) (i : Nat) (hi : Rs[i]? = some (ob O v s)) {e0 : Ending} (hc : ∀ F, O.A wk v F s → Calls P f args wk fun e wn => e = e0 ∧ Stays (ob O v s') F wk wn) :
    Calls P f args wk fun e wn => e = e0 ∧ Sep B w wn (Rs.set i (ob O v s')) := h.to i hi hc
theorem ob_still (h : Sep B w wk Rs) (i : Nat) (hi : Rs[i]? = some (ob O v s)) {e0 : Ending} (hc : ∀ F, O.A wk v F s → Calls P f args wk fun e wn => e = e0 ∧ Below wk.heap.size wk wn) :
    Calls P f args wk fun e wn => e = e0 ∧ Sep B w wn Rs ∧ Below wk.heap.size wk wn := by
  obtain ⟨F, hR⟩ := h.get i hi
  refine (hc F hR).mono ?_
  rintro e wn ⟨rfl, hb⟩
  exact ⟨rfl, h.next hb, hb⟩
theorem ob_told (h : Sep B w wk Rs) (i : Nat) (hi : Rs[i]? = some (ob O v s)) {l : List Int} (hc : ∀ F, O.A wk v F s → Calls P f args wk fun e wn => ∃ u, e = .returned u ∧ Says wk wn u l) :
    Calls P f args wk fun e wn => ∃ A c, e = .returned (.slice A l.length c) ∧ Sep B w wn (nums (.slice A l.length c) l :: Rs) ∧ Below wk.heap.size wk wn := by
  obtain ⟨F, hR⟩ := h.get i hi
  refine (hc F hR).mono ?_
  rintro e wn ⟨u, rfl, hr, hb⟩
  obtain ⟨A, c, rfl⟩ := rd_form hr
  exact ⟨A, c, rfl, h.add hb (R := nums _ l) (F := fun k => wk.heap.size ≤ k ∧ k < wn.heap.size) ⟨hr.mono fun k hk hg => ⟨hg, hk⟩, fun k hk => hk.2⟩ fun k hk => hk.1, hb⟩
theorem Tells.sep {R : Res} {F : Nat → Prop} {w w' : World} {u : Value} {l : List Int} (h : Tells R F w w' u l) : Sep F w w' [nums u l, R] := by
  obtain ⟨F', G', ha, hr, ho, hF, hG, hd⟩ := h
  exact ⟨ho, fun k => G' k ∧ k < w'.heap.size, F', ⟨hr.mono fun k hk hg => ⟨hg, hk⟩, fun k hk => hk.2⟩, ⟨F', fun _ => False, ha, trivial, fun _ h => h, fun _ h => h.elim, fun _ _ h => h⟩, fun k hk => hG k hk.1, hF, fun k hk => hd k hk.1⟩
theorem Sep.splice3 (h : Sep B w wk Rs) (i : Nat) {R : Res} (hi : Rs[i]? = some R) : ∃ F, R.holds wk F ∧ (∀ k, F k → B k ∨ w.heap.size ≤ k) ∧ ∀ {wn : World} {N R' : Res}, Sep F wk wn [N, R'] → Sep B w wn (N :: Rs.set i R') := by
  have hp : Rs.Perm (R :: Rs.eraseIdx i) := perm_erase Rs i hi
  obtain ⟨ho, F1, F2, h1, h2, s1, s2, d⟩ := h.perm hp
  refine ⟨F1, h1, s1, fun {wn N R'} hs => Sep.perm (Rs := [N, R'] ++ Rs.eraseIdx i) ⟨ho.trans hs.1 fun k hk hf => (s1 k hf).resolve_right (by omega), ?_⟩ ((perm_put Rs i hi).cons N)⟩
  have hk2 : All wn (fun k => F2 k ∧ k < wk.heap.size) (Rs.eraseIdx i) := (h2.mono (F' := fun k => F2 k ∧ k < wk.heap.size) fun k a b => ⟨b, a⟩).keep hs.1.size fun k a b => hs.1.block k a fun hf => d k hf b.1
  refine (All.append hs.2 hk2 fun k a b => ?_).mono fun k _ hk => ?_
  · rcases a with a | a
    · exact d k a b.1
    · omega
  · rcases hk with (hk | hk) | hk
    · exact s1 k hk
    · exact .inr (Nat.le_trans ho.size hk)
    · exact s2 k hk.1
/-- What a call does with some leaves the first one as it is. -/
theorem Sep.frame {R : Res} (h : Sep B w wk (R :: Rs)) : ∃ F1 F2 : Nat → Prop, R.holds wk F1 ∧ (∀ k, F1 k → ¬ F2 k) ∧ (∀ k, F2 k → k < wk.heap.size) ∧ Sep F2 wk wk Rs ∧ ∀ {wn : World} {Ss : List Res}, Sep F2 wk wn Ss → Sep B w wn (R :: Ss) := by
  obtain ⟨ho, F1, F2, hr, h2, s1, s2, d⟩ := h
  refine ⟨F1, fun k => F2 k ∧ k < wk.heap.size, hr, fun k a b => d k a b.1, fun k hk => hk.2, ⟨Only.refl _ _, h2.mono fun k a b => .inl ⟨b, a⟩⟩, fun {wn Ss} hs => ⟨ho.trans hs.1 fun k hk hf => (s2 k hf.1).resolve_right (by omega), F1, fun k => (F2 k ∧ k < wk.heap.size) ∨ wk.heap.size ≤ k, R.keep hr hs.1.size fun k a b => hs.1.block k a fun hf => d k b hf.1, hs.2, s1, fun k hk => ?_, fun k a b => ?_⟩⟩
  · rcases hk with hk | hk
    · exact s2 k hk.1
    · exact .inr (Nat.le_trans ho.size hk)
  · rcases b with b | b
    · exact d k a b.1
    · have := R.lt hr k a; omega
/-- .. where it reads what lay in old blocks. -/
theorem ob_tells3 (h : Sep B w wk Rs) (i : Nat) (hi : Rs[i]? = some (ob O v s)) {l : List Int} (hc : ∀ F, O.A wk v F s → (∀ k, F k → B k ∨ w.heap.size ≤ k) → Calls P f args wk fun e wn => ∃ u, e = .returned u ∧ Tells (ob O v s') F wk wn u l) :
    Calls P f args wk fun e wn => ∃ A c, e = .returned (.slice A l.length c) ∧ Sep B w wn (nums (.slice A l.length c) l :: Rs.set i (ob O v s')) := by
  obtain ⟨F, hR, hF, hn⟩ := h.splice3 i hi
  refine (hc F hR hF).mono ?_
  rintro e wn ⟨u, rfl, hu⟩
  obtain ⟨A, c, rfl⟩ : ∃ A c, u = .slice A l.length c := by obtain ⟨_, _, _, hr, _⟩ := hu; exact rd_form hr
  exact ⟨A, c, rfl, hn hu.sep⟩
theorem ob_tells (h : Sep B w wk Rs) (i : Nat) (hi : Rs[i]? = some (ob O v s)) {l : List Int} (hc : ∀ F, O.A wk v F s → Calls P f args wk fun e wn => ∃ u, e = .returned u ∧ Tells (ob O v s') F wk wn u l) :
    Calls P f args wk fun e wn => ∃ A c, e = .returned (.slice A l.length c) ∧ Sep B w wn (nums (.slice A l.length c) l :: Rs.set i (ob O v s')) := by
  obtain ⟨F, hR, hn⟩ := h.splice2 i hi
  refine (hc F hR).mono ?_
  rintro e wn ⟨u, rfl, hu⟩
  obtain ⟨A, c, rfl⟩ : ∃ A c, u = .slice A l.length c := by obtain ⟨_, _, _, hr, _⟩ := hu; exact rd_form hr
  exact ⟨A, c, rfl, hn hu.sep⟩
theorem Sep.nil_nums (h : Sep B w wk Rs) : Sep B w wk (nums (.slice none 0 0) [] :: Rs) := by
  obtain ⟨ho, ha⟩ := h
  exact ⟨ho, fun _ => False, _, ⟨Rd.nil _ _ _ _, fun _ h => h.elim⟩, ha, fun _ h => h.elim, fun _ h => h, fun _ h => h.elim⟩
theorem ob_at (h : Sep B w wk Rs) (i : Nat) (hi : Rs[i]? = some (ob O v s)) : ∃ F, O.A wk v F s := by
  obtain ⟨F, hR⟩ := h.get i hi
  exact ⟨F, hR⟩
end
end Go.Proofs.Ythdipkdolgcmgaa.Hand
