/-
  Things that a call has at hand, each in blocks of its own, over any program: what one of them becomes by a call, the others stay. No condition.
-/
import Derived.Test.YthdipkdolgcmgaaMem
import Derived.Test.YthdipkdolgcmgaaCells
import Derived.Laws.IdiomRangeMap
namespace Go.Proofs.Ythdipkdolgcmgaa.Hand
open Go.ChangeShapes Go.WideShapes Go.ChangeAt Go.RowKit Mem

/-- A thing in memory: what holds of the world, where its blocks are F. -/
structure Res where
  holds : World → (Nat → Prop) → Prop
  keep : ∀ {w w' : World} {F : Nat → Prop}, holds w F → w.heap.size ≤ w'.heap.size → (∀ k, k < w.heap.size → F k → w'.heap[k]? = w.heap[k]?) → holds w' F
  lt : ∀ {w : World} {F : Nat → Prop}, holds w F → ∀ k, F k → k < w.heap.size

/-- One block, known whole. -/
def blk (g : Nat) (o : Obj) : Res where
  holds w F := w.heap[g]? = some o ∧ F = fun b => b = g
  keep := fun ⟨h, e⟩ _ hk => ⟨(hk g (lt_of_block h) (by rw [e])).trans h, e⟩
  lt := fun ⟨h, e⟩ k hk => by rw [e] at hk; exact hk ▸ lt_of_block h
/-- A slice of int64s that was told. -/
def nums (v : Value) (xs : List Int) : Res where
  holds w F := Rd w F v xs ∧ ∀ k, F k → k < w.heap.size
  keep := fun ⟨h, e⟩ hs hk => ⟨h.keep hs hk, fun k hF => Nat.lt_of_lt_of_le (e k hF) hs⟩
  lt := fun ⟨_, e⟩ => e
/-- A slice of things of several cells that was told. -/
def told {α : Type} (E : Enc α) (v : Value) (xs : List α) : Res where
  holds w F := RdL E w F v xs ∧ ∀ k, F k → k < w.heap.size
  keep := fun ⟨h, e⟩ hs hk => ⟨h.keep hs hk, fun k hF => Nat.lt_of_lt_of_le (e k hF) hs⟩
  lt := fun ⟨_, e⟩ => e

/-- A slice that the call has made, and that may grow. -/
def grow {α : Type} (E : Enc α) (e : TypeId) (v : Value) (xs : List α) : Res where
  holds w F := OwnL E w 0 e v xs ∧ F = fun k => v.ownBlock = some k
  keep := fun ⟨h, e⟩ _ hk => ⟨h.of_blocks fun g hg hl => hk g hl (by rw [e]; exact hg), e⟩
  lt := fun ⟨h, e⟩ k hk => by rw [e] at hk; exact (h.lt k hk).2
/-- Two things as one. -/
def pair (R S : Res) : Res where
  holds w F := ∃ F1 F2 : Nat → Prop, R.holds w F1 ∧ S.holds w F2 ∧ (∀ k, F1 k → ¬ F2 k) ∧ F = fun k => F1 k ∨ F2 k
  keep := fun ⟨F1, F2, h1, h2, d, e⟩ hs hk => ⟨F1, F2, R.keep h1 hs fun k hl hF => hk k hl (by rw [e]; exact .inl hF), S.keep h2 hs fun k hl hF => hk k hl (by rw [e]; exact .inr hF), d, e⟩
  lt := fun ⟨F1, F2, h1, h2, d, e⟩ k hk => by
    rw [e] at hk
    rcases hk with hk | hk
    · exact R.lt h1 k hk
    · exact S.lt h2 k hk

/-- All of them, in blocks of F, no two in one block. -/
def All (w : World) : (Nat → Prop) → List Res → Prop
  | _, [] => True
  | F, R :: Rs => ∃ F1 F2 : Nat → Prop, R.holds w F1 ∧ All w F2 Rs ∧ (∀ k, F1 k → F k) ∧ (∀ k, F2 k → F k) ∧ ∀ k, F1 k → ¬ F2 k

theorem All.mono {w : World} : ∀ {F F' : Nat → Prop} {Rs : List Res}, All w F Rs → (∀ k, k < w.heap.size → F k → F' k) → All w F' Rs
  | _, _, [], _, _ => trivial
  | _, F', R :: _, ⟨F1, F2, h1, h2, s1, s2, d⟩, h => ⟨F1, fun k => F2 k ∧ F' k ∧ k < w.heap.size, h1, All.mono h2 fun k hk hF => ⟨hF, h k hk (s2 k hF), hk⟩, fun k hk => h k (R.lt h1 k hk) (s1 k hk), fun _ hk => hk.2.1, fun k hk hk' => d k hk hk'.1⟩
theorem All.keep {w w' : World} : ∀ {F : Nat → Prop} {Rs : List Res}, All w F Rs → w.heap.size ≤ w'.heap.size → (∀ k, k < w.heap.size → F k → w'.heap[k]? = w.heap[k]?) → All w' F Rs
  | _, [], _, _, _ => trivial
  | _, R :: _, ⟨F1, F2, h1, h2, s1, s2, d⟩, hs, hk => ⟨F1, F2, R.keep h1 hs fun k a b => hk k a (s1 k b), All.keep h2 hs fun k a b => hk k a (s2 k b), s1, s2, d⟩
/-- One of them, and what becomes of all if it alone changes, or grows by new blocks. -/
theorem All.at_ {w : World} : ∀ {F : Nat → Prop} {Rs : List Res} {i : Nat} {R : Res}, All w F Rs → Rs[i]? = some R → ∃ F1, R.holds w F1 ∧ (∀ k, F1 k → F k) ∧
    ∀ (w' : World) (R' : Res) (F' : Nat → Prop), R'.holds w' F' → w.heap.size ≤ w'.heap.size → (∀ k, k < w.heap.size → ¬ F1 k → w'.heap[k]? = w.heap[k]?) → (∀ k, F' k → F1 k ∨ w.heap.size ≤ k) → All w' (fun k => F k ∨ w.heap.size ≤ k) (Rs.set i R')
  | _, [], _, _, _, h => by simp at h
  | F, R0 :: Rs, 0, R, ⟨F1, F2, h1, h2, s1, s2, d⟩, hi => by
    obtain rfl : R0 = R := by simpa using hi
    refine ⟨F1, h1, s1, fun w' R' F' h' hs hk hF' => ⟨F', fun k => F2 k ∧ k < w.heap.size, h', ?_, fun k hk' => (hF' k hk').imp (s1 k) id, fun k hk' => .inl (s2 k hk'.1), fun k a b => ?_⟩⟩
    · exact (h2.mono (F' := fun k => F2 k ∧ k < w.heap.size) fun k a b => ⟨b, a⟩).keep hs fun k a b => hk k a fun hf => d k hf b.1
    · rcases hF' k a with h | h
      · exact d k h b.1
      · omega
  | F, R0 :: Rs, i + 1, R, ⟨F1, F2, h1, h2, s1, s2, d⟩, hi => by
    obtain ⟨G, hG, sG, hn⟩ := All.at_ (i := i) (R := R) h2 (by simpa using hi)
    refine ⟨G, hG, fun k hk => s2 k (sG k hk), fun w' R' F' h' hs hk hF' => ⟨F1, fun k => F2 k ∨ w.heap.size ≤ k, ?_, hn w' R' F' h' hs hk hF', fun k a => .inl (s1 k a), fun k a => a.imp (s2 k) id, fun k a b => ?_⟩⟩
    · exact R0.keep h1 hs fun k a b => hk k a fun hf => d k b (sG k hf)
    · rcases b with b | b
      · exact d k a b
      · have := R0.lt h1 k a; omega

/-- What a call has at hand, which began in w with leave to change the old blocks B. -/
def Sep (B : Nat → Prop) (w wk : World) (Rs : List Res) : Prop := Only B w wk ∧ All wk (fun k => B k ∨ w.heap.size ≤ k) Rs

section
variable {B : Nat → Prop} {w wk wn : World} {Rs : List Res}
theorem Sep.nil (B : Nat → Prop) (w : World) : Sep B w w [] := ⟨Only.refl _ _, trivial⟩
theorem Sep.only (h : Sep B w wk Rs) : Only B w wk := h.1
theorem Sep.old (h : Sep (fun _ => False) w wk Rs) : Below w.heap.size w wk := h.1.to_below
theorem Sep.next (h : Sep B w wk Rs) (hb : Below wk.heap.size wk wn) : Sep B w wn Rs :=
  ⟨h.1.trans (Only.of_below (F := fun _ => False) hb) fun _ _ f => f.elim, h.2.keep hb.size fun k hk _ => hb.block k hk⟩
theorem Sep.drewN (h : Sep B w wk Rs) (n : Nat) : Sep B w (wk.drewN n) Rs := h.next (below_drewN (Below.refl _ _) n)
theorem Sep.drew (h : Sep B w wk Rs) : Sep B w wk.drew Rs := h.next (Below.refl _ _).drew
/-- One more, in new blocks. -/
theorem Sep.add (h : Sep B w wk Rs) (hb : Below wk.heap.size wk wn) {R : Res} {F : Nat → Prop} (hR : R.holds wn F) (hF : ∀ k, F k → wk.heap.size ≤ k) : Sep B w wn (R :: Rs) := by
  have h' := h.next hb
  refine ⟨h'.1, F, fun k => (B k ∨ w.heap.size ≤ k) ∧ k < wk.heap.size, hR, ?_, fun k hk => .inr (Nat.le_trans h.1.size (hF k hk)), fun k hk => hk.1, fun k a b => by have := hF k a; omega⟩
  exact (h.2.mono (F' := fun k => (B k ∨ w.heap.size ≤ k) ∧ k < wk.heap.size) fun k a b => ⟨b, a⟩).keep hb.size fun k a _ => hb.block k a
theorem Sep.new (h : Sep B w wk Rs) (o : Obj) : Sep B w (wk.alloc o) (blk wk.heap.size o :: Rs) := h.add (new_below0 wk o) (R := blk wk.heap.size o) ⟨heap_alloc_new wk o, rfl⟩ fun _ hk => Nat.le_of_eq hk.symm
/-- A thing that was there, with its blocks, before the call began. -/
theorem Sep.of {R : Res} {F : Nat → Prop} (h : R.holds w F) : Sep F w w [R] := ⟨Only.refl _ _, F, fun _ => False, h, trivial, fun _ hk => .inl hk, fun _ hk => hk.elim, fun _ _ hk => hk⟩
/-- One of them. -/
theorem Sep.get (h : Sep B w wk Rs) (i : Nat) {R : Res} (hi : Rs[i]? = some R) : ∃ F, R.holds wk F := by
  obtain ⟨F1, h1, _⟩ := h.2.at_ hi
  exact ⟨F1, h1⟩
/-- One of them becomes another thing. -/
theorem Sep.upd (h : Sep B w wk Rs) (i : Nat) {R : Res} (hi : Rs[i]? = some R) : ∃ F, R.holds wk F ∧ (∀ k, F k → B k ∨ w.heap.size ≤ k) ∧
    ∀ {wn : World} (R' : Res) {F' : Nat → Prop}, R'.holds wn F' → Only F wk wn → (∀ k, F' k → F k ∨ wk.heap.size ≤ k) → Sep B w wn (Rs.set i R') := by
  obtain ⟨F, hR, hF, hn⟩ := h.2.at_ hi
  refine ⟨F, hR, hF, fun {wn} R' {F'} h' ho hF' => ⟨h.1.trans ho fun k hk hf => (hF k hf).resolve_right (by omega), ?_⟩⟩
  refine (hn wn R' F' h' ho.size ho.block hF').mono fun k _ hk => ?_
  rcases hk with hk | hk
  · exact hk
  · exact .inr (Nat.le_trans h.1.size hk)
theorem Sep.tail {R : Res} (h : Sep B w wk (R :: Rs)) : Sep B w wk Rs := by
  obtain ⟨ho, F1, F2, _, h2, _, s2, _⟩ := h
  exact ⟨ho, h2.mono fun k _ hk => s2 k hk⟩
theorem All.sub {w : World} : ∀ {F : Nat → Prop} {Rs Ss : List Res}, List.Sublist Ss Rs → All w F Rs → All w F Ss
  | _, _, _, .slnil, _ => trivial
  | _, _, _, .cons _ hs, ⟨_, _, _, h2, _, s2, _⟩ => (All.sub hs h2).mono fun k _ hk => s2 k hk
  | _, _, _, .cons_cons _ hs, ⟨F1, F2, h1, h2, s1, s2, d⟩ => ⟨F1, F2, h1, All.sub hs h2, s1, s2, d⟩
/-- Some of them. -/
theorem Sep.sub {Ss : List Res} (h : Sep B w wk Rs) (hs : List.Sublist Ss Rs) : Sep B w wk Ss := ⟨h.1, All.sub hs h.2⟩
theorem Sep.blk_at (h : Sep B w wk Rs) (i : Nat) {g : Nat} {o : Obj} (hi : Rs[i]? = some (blk g o)) : wk.heap[g]? = some o := by
  obtain ⟨F, h1, _⟩ := h.get i hi
  exact h1
theorem Sep.rd (h : Sep B w wk Rs) (i : Nat) {v : Value} {xs : List Int} (hi : Rs[i]? = some (nums v xs)) : Rd wk (fun _ => True) v xs := by
  obtain ⟨F, h1, _⟩ := h.get i hi
  exact h1.mono fun _ _ _ => trivial
theorem Sep.rdL {α : Type} {E : Enc α} (h : Sep B w wk Rs) (i : Nat) {v : Value} {xs : List α} (hi : Rs[i]? = some (told E v xs)) : RdL E wk (fun _ => True) v xs := by
  obtain ⟨F, h1, _⟩ := h.get i hi
  exact h1.mono fun _ _ _ => trivial
/-- A block of one's own gets another cell. -/
theorem Sep.set (h : Sep B w wk Rs) (i : Nat) {g : Nat} {cs : Array Value} {t : TypeId} (hi : Rs[i]? = some (blk g (.cells cs t (0, 0)))) (j : Nat) (u : Value) :
    Sep B w (wk.setCell ⟨g, j, none⟩ u) (Rs.set i (blk g (.cells (cs.setIfInBounds j u) t (0, 0)))) := by
  obtain ⟨F, ⟨h1, rfl⟩, hF, hn⟩ := h.upd i hi
  refine hn (blk g _) ⟨?_, rfl⟩ ((Only.refl (fun b => b = g) _).setCell (.inl rfl) u) fun k hk => .inl hk
  simp [World.setCell, Array.getElem?_modify, h1]
/-- A call that changes one of them. -/
theorem Sep.call (h : Sep B w wk Rs) (i : Nat) {R : Res} (hi : Rs[i]? = some R) {P : Program} {f : FuncId} {args : Array Value} {Q : Ending → Res → Prop}
    (hc : ∀ F, R.holds wk F → Calls P f args wk fun e wn => ∃ R', Q e R' ∧ ∃ F', R'.holds wn F' ∧ Only F wk wn ∧ ∀ k, F' k → F k ∨ wk.heap.size ≤ k) :
    Calls P f args wk fun e wn => ∃ R', Q e R' ∧ Sep B w wn (Rs.set i R') := by
  obtain ⟨F, hR, hF, hn⟩ := h.upd i hi
  refine (hc F hR).mono ?_
  rintro e wn ⟨R', hq, F', h', ho, hF'⟩
  exact ⟨R', hq, hn R' h' ho hF'⟩
theorem All.perm {w : World} {Rs Ss : List Res} (h : Rs.Perm Ss) : ∀ {F : Nat → Prop}, All w F Rs → All w F Ss := by
  induction h with
  | nil => intro F h; exact h
  | cons R _ ih =>
    intro F h
    obtain ⟨F1, F2, h1, h2, s1, s2, d⟩ := h
    exact ⟨F1, F2, h1, ih h2, s1, s2, d⟩
  | swap R S l =>
    intro F h
    obtain ⟨F1, F2, h1, ⟨F3, F4, h3, h4, s3, s4, d3⟩, s1, s2, d1⟩ := h
    exact ⟨F3, fun k => F1 k ∨ F4 k, h3, ⟨F1, F4, h1, h4, fun k hk => .inl hk, fun k hk => .inr hk, fun k a b => d1 k a (s4 k b)⟩, fun k hk => s2 k (s3 k hk), fun k hk => hk.elim (s1 k) fun hk => s2 k (s4 k hk), fun k a b => b.elim (fun b => d1 k b (s3 k a)) (d3 k a)⟩
  | trans _ _ ih1 ih2 => intro F h; exact ih2 (ih1 h)
/-- In another order. -/
theorem Sep.perm {Ss : List Res} (h : Sep B w wk Rs) (hp : Rs.Perm Ss) : Sep B w wk Ss := ⟨h.1, All.perm hp h.2⟩
theorem Sep.swap {R S : Res} (h : Sep B w wk (R :: S :: Rs)) : Sep B w wk (S :: R :: Rs) := h.perm (.swap ..)
/-- The first two as one. -/
theorem Sep.pair {R S : Res} (h : Sep B w wk (R :: S :: Rs)) : Sep B w wk (Hand.pair R S :: Rs) := by
  obtain ⟨ho, F1, F2, h1, ⟨F3, F4, h3, h4, s3, s4, d3⟩, s1, s2, d1⟩ := h
  refine ⟨ho, fun k => F1 k ∨ F3 k, F4, ⟨F1, F3, h1, h3, fun k a b => d1 k a (s3 k b), rfl⟩, h4, fun k hk => hk.elim (s1 k) fun hk => s2 k (s3 k hk), fun k hk => s2 k (s4 k hk), fun k a b => a.elim (fun a => d1 k a (s4 k b)) fun a => d3 k a b⟩
/-- What a call that may change the blocks F leaves of a thing. -/
def Stays (R : Res) (F : Nat → Prop) (w w' : World) : Prop := ∃ F', R.holds w' F' ∧ Only F w w' ∧ ∀ k, F' k → F k ∨ w.heap.size ≤ k
theorem Sep.left (h : Sep B w wk Rs) (i : Nat) {R : Res} (hi : Rs[i]? = some R) : Stays R B w wk := by
  obtain ⟨F, hR, hF, _⟩ := h.upd i hi
  exact ⟨F, hR, h.only, hF⟩
theorem Sep.to (h : Sep B w wk Rs) (i : Nat) {R R' : Res} (hi : Rs[i]? = some R) {P : Program} {f : FuncId} {args : Array Value} {e0 : Ending}
    (hc : ∀ F, R.holds wk F → Calls P f args wk fun e wn => e = e0 ∧ Stays R' F wk wn) : Calls P f args wk fun e wn => e = e0 ∧ Sep B w wn (Rs.set i R') := by
  obtain ⟨F, hR, _, hn⟩ := h.upd i hi
  refine (hc F hR).mono ?_
  rintro e wn ⟨rfl, F', h', ho, hF'⟩
  exact ⟨rfl, hn R' h' ho hF'⟩
theorem Sep.still (h : Sep B w wk Rs) (i : Nat) {R : Res} (hi : Rs[i]? = some R) {P : Program} {f : FuncId} {args : Array Value} {e0 : Ending}
    (hc : ∀ F, R.holds wk F → Calls P f args wk fun e wn => e = e0 ∧ Below wk.heap.size wk wn) : Calls P f args wk fun e wn => e = e0 ∧ Sep B w wn Rs := by
  obtain ⟨F, hR⟩ := h.get i hi
  refine (hc F hR).mono ?_
  rintro e wn ⟨rfl, hb⟩
  exact ⟨rfl, h.next hb⟩

theorem All.append {w : World} : ∀ {F F' : Nat → Prop} {Ss Rs : List Res}, All w F Ss → All w F' Rs → (∀ k, F k → ¬ F' k) → All w (fun k => F k ∨ F' k) (Ss ++ Rs)
  | _, _, [], _, _, h, _ => h.mono fun _ _ hk => .inr hk
  | _, _, _ :: _, _, ⟨F1, _, h1, h2, s1, s2, d⟩, h, hd => ⟨F1, _, h1, All.append h2 h fun k hk => hd k (s2 k hk), fun k hk => .inl (s1 k hk), fun k hk => hk.imp (s2 k) id, fun k a b => b.elim (d k a) (hd k (s1 k a))⟩
theorem perm_erase : ∀ (Rs : List Res) (i : Nat) {R : Res}, Rs[i]? = some R → Rs.Perm (R :: Rs.eraseIdx i)
  | [], _, _, h => by simp at h
  | r :: rs, 0, R, h => by
    obtain rfl : r = R := by simpa using h
    exact .refl _
  | r :: rs, i + 1, _, h => ((perm_erase rs i (by simpa using h)).cons r).trans (.swap ..)
theorem perm_put : ∀ (Rs : List Res) (i : Nat) {R R' : Res}, Rs[i]? = some R → (R' :: Rs.eraseIdx i).Perm (Rs.set i R')
  | [], _, _, _, h => by simp at h
  | r :: rs, 0, _, _, _ => .refl _
  | r :: rs, i + 1, _, _, h => (List.Perm.swap ..).trans ((perm_put rs i (by simpa using h)).cons r)
/-- A call that has one of them at hand, and leaves others. -/
theorem Sep.splice (h : Sep B w wk Rs) (i : Nat) {R : Res} (hi : Rs[i]? = some R) : ∃ F, R.holds wk F ∧ ∀ {wn : World} {Ss : List Res}, Sep F wk wn Ss → Sep B w wn (Ss ++ Rs.eraseIdx i) := by
  have hp : Rs.Perm (R :: Rs.eraseIdx i) := perm_erase Rs i hi
  obtain ⟨ho, F1, F2, h1, h2, s1, s2, d⟩ := h.perm hp
  refine ⟨F1, h1, fun {wn Ss} hs => ⟨ho.trans hs.1 fun k hk hf => (s1 k hf).resolve_right (by omega), ?_⟩⟩
  have hk2 : All wn (fun k => F2 k ∧ k < wk.heap.size) (Rs.eraseIdx i) := (h2.mono (F' := fun k => F2 k ∧ k < wk.heap.size) fun k a b => ⟨b, a⟩).keep hs.1.size fun k a b => hs.1.block k a fun hf => d k hf b.1
  refine (All.append hs.2 hk2 fun k a b => ?_).mono fun k _ hk => ?_
  · rcases a with a | a
    · exact d k a b.1
    · omega
  · rcases hk with (hk | hk) | hk
    · exact s1 k hk
    · exact .inr (Nat.le_trans ho.size hk)
    · exact s2 k hk.1
/-- .. that leaves it, and one thing more. -/
theorem Sep.splice2 (h : Sep B w wk Rs) (i : Nat) {R : Res} (hi : Rs[i]? = some R) : ∃ F, R.holds wk F ∧ ∀ {wn : World} {N R' : Res}, Sep F wk wn [N, R'] → Sep B w wn (N :: Rs.set i R') := by
  obtain ⟨F, hR, hn⟩ := h.splice i hi
  exact ⟨F, hR, fun {wn N R'} hs => (hn hs).perm ((perm_put Rs i hi).cons N)⟩
theorem Sep.stays {R : Res} {F : Nat → Prop} (h : Stays R F w wk) : Sep F w wk [R] := by
  obtain ⟨F', hR, ho, hF⟩ := h
  exact ⟨ho, F', fun _ => False, hR, trivial, fun k hk => hF k hk, fun k hk => hk.elim, fun k _ hk => hk⟩

section
variable {α : Type} {E : Enc α} {e : TypeId} {v : Value} {xs ys : List α}
theorem Sep.grow0 (h : Sep B w wk Rs) (E : Enc α) (e : TypeId) : Sep B w (wk.alloc (.cells #[] e)) (grow E e (.slice (some ⟨wk.heap.size, 0, none⟩) 0 0) [] :: Rs) :=
  h.add (new_below0 wk _) (R := grow E e _ _) ⟨OwnL.lit0 wk 0 e (Nat.zero_le _), rfl⟩ fun k hk => by simp [Value.ownBlock] at hk; omega
theorem Sep.grown (h : Sep B w wk Rs) (i : Nat) (hi : Rs[i]? = some (grow E e v xs)) {v' : Value} {ys : List α} (ho : OwnL E wn 0 e v' ys) (hg : wk.grownBy wn v.ownBlock) (hat : v'.ownBlock = v.ownBlock ∨ v'.ownBlock = some wk.heap.size) : Sep B w wn (Rs.set i (grow E e v' ys)) := by
  obtain ⟨F, ⟨_, rfl⟩, _, hn⟩ := h.upd i hi
  refine hn (grow E e v' ys) ⟨ho, rfl⟩ (Only.of_grown hg fun k hk _ => hk) fun k hk => ?_
  rcases hat with ha | ha
  · rw [ha] at hk; exact .inl hk
  · rw [ha] at hk; injection hk with hk; exact .inr (Nat.le_of_eq hk)
theorem Sep.own (h : Sep B w wk Rs) (i : Nat) (hi : Rs[i]? = some (grow E e v xs)) : OwnL E wk 0 e v xs := by
  obtain ⟨F, ho, _⟩ := h.get i hi
  exact ho
/-- 'append', of a slice of one's own. -/
theorem wpList_appS {P : Program} {ops : Array Oper} {rest : List Oper} {o : Oper} {a : Act} {Q : Exit → Act → World → Prop} (hgd : o.guard = none) (s x : Operand) {t : TypeId} (he : Elem E P t e)
    (ho : o.op = .call { callee := .builtin .append, args := #[s, x], argTypes := #[t, t] })
    {sv : Value} {G : Nat → Prop} (hs : a.eval s = v) (hx : a.eval x = sv) (h : Sep B w wk Rs) (i : Nat) (hi : Rs[i]? = some (grow E e v xs)) (hr : RdL E wk G sv ys) (hlen : xs.length + ys.length ≤ 1000000)
    (hK : ∀ A c wn l, Hid (l = xs ++ ys) → Sep B w wn (Rs.set i (grow E e (.slice A l.length c) l)) → wpList P ops Q rest (a.put o.dst (.slice A l.length c)) wn) : wpList P ops Q (o :: rest) a wk :=
  wpList_appL hgd s x he ho hs hx (h.own i hi) hr hlen (Nat.zero_le _) fun v' w' h2 h3 h4 => by
    obtain ⟨A, c, rfl⟩ := h2.form
    exact hK A c w' _ rfl (h.grown i hi h2 h3 h4)
end
end
end Go.Proofs.Ythdipkdolgcmgaa.Hand
