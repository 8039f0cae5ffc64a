/-
  Package ring, as it landed, is what the laws of layer 2 ask of it: 'theRing'. No condition.
-/
import Derived.Test.YtbkeodjebfkkdaaRing
import Derived.Deep.LoopGhost
namespace Go.Proofs.Ytbkeodjebfkkdaa.RingT
open Go.ChangeShapes Go.WideShapes Go.ChangeAt Go.RowKit Mem RefRing RingI RingP RingC

/-- An arena behind a pointer. -/
def RingA (w : World) (v : Value) (F : Nat → Prop) (L : List (List Int)) (N : Int) : Prop :=
  ∃ g nx pv rw, v = .pointer (some ⟨g, 0, none⟩) ∧ F = (fun b => b = g) ∧ Arr w g L.length N nx pv rw ∧ Lk L N nx pv rw

theorem RingA.ok {w : World} {v : Value} {F : Nat → Prop} {L : List (List Int)} {N : Int} (h : RingA w v F L N) : Ok L N := by
  obtain ⟨_, _, _, _, _, _, _, k⟩ := h
  exact k.ok
theorem RingA.keep {w w' : World} {v : Value} {F : Nat → Prop} {L : List (List Int)} {N : Int} (h : RingA w v F L N) (hk : ∀ k, k < w.heap.size → F k → w'.heap[k]? = w.heap[k]?) : RingA w' v F L N := by
  obtain ⟨g, nx, pv, rw, e, rfl, h, k⟩ := h
  exact ⟨g, nx, pv, rw, e, rfl, h.keep (hk g h.lt rfl), k⟩
theorem after_same {w w' : World} {v : Value} {F : Nat → Prop} {L : List (List Int)} {N : Int} (h : RingA w v F L N) (hb : Below w.heap.size w w') : After RingA w w' v F L N :=
  ⟨F, h.keep fun k hk _ => hb.block k hk, Only.of_below hb, fun _ h => .inl h⟩
theorem after_trans {w w1 w2 : World} {v : Value} {F : Nat → Prop} {L2 : List (List Int)} {N : Int} (h1 : Only F w w1) {F1 : Nat → Prop} (hF : ∀ k, F1 k → F k ∨ w.heap.size ≤ k) (h2 : After RingA w1 w2 v F1 L2 N) : After RingA w w2 v F L2 N := by
  obtain ⟨F2, a2, o2, f2⟩ := h2
  refine ⟨F2, a2, h1.trans o2 fun b hb h => (hF b h).resolve_right (by omega), fun k hk => ?_⟩
  rcases f2 k hk with h | h
  · exact hF k h
  · exact .inr (Nat.le_trans h1.size h)

theorem drop_a {w : World} {v : Value} {F : Nat → Prop} {L : List (List Int)} {N : Int} (h : RingA w v F L N) (x : Int) :
    Calls Try.prog 35 #[v, .int .i64 x] w fun e w' => e = .returned (.bool (decide (0 ≤ inL L x))) ∧ After RingA w w' v F (dropL L x) N := by
  have h' := h
  obtain ⟨g, nx, pv, rw, rfl, rfl, ha, k⟩ := h
  rcases inL_range L x with hi | ⟨i, hi, hil⟩
  · refine (drop_no ha k x hi).mono ?_
    rintro e w' ⟨rfl, rfl⟩
    refine ⟨by rw [hi]; rfl, ?_⟩
    have : dropL L x = L := by unfold dropL; rw [if_pos (by omega)]
    rw [this]
    exact after_same h' (Below.refl _ _)
  · have hx := k.ok.node hil (mem_of_inL hi).2
    obtain ⟨y, rfl⟩ := Int.eq_ofNat_of_zero_le hx.1
    refine (drop_yes ha k y i hi).mono ?_
    rintro e w' ⟨rfl, ha', ho⟩
    refine ⟨by rw [hi]; simp, ?_⟩
    have : dropL L y = L.set i ((L.getD i []).filter (fun z => z != (y : Int))) := by unfold dropL; rw [if_neg (by omega), hi]; rfl
    rw [this]
    have hk := lk_drop k hi
    exact ⟨_, ⟨g, _, _, _, rfl, rfl, by rw [List.length_set]; exact ha', hk⟩, ho, fun _ h => .inl h⟩
theorem put_a {w : World} {v : Value} {F : Nat → Prop} {L : List (List Int)} {N : Int} (h : RingA w v F L N) (r x : Int) :
    Calls Try.prog 32 #[v, .int .i64 r, .int .i64 x] w fun e w' => e = .returned (.int .i64 (putE L N r x)) ∧ After RingA w w' v F (putL L N r x false) N := by
  have h' := h
  obtain ⟨g, nx, pv, rw, rfl, rfl, ha, k⟩ := h
  by_cases hE : putE L N r x = 0
  · have hc : (0 ≤ r ∧ r < L.length) ∧ 0 ≤ x ∧ x < N := by
      unfold putE at hE
      split at hE
      · assumption
      · omega
    have hi : inL L x = -1 := by
      unfold putE at hE
      rw [if_pos hc] at hE
      rcases inL_range L x with hi | ⟨i, hi, _⟩
      · exact hi
      · rw [if_pos (by omega)] at hE; omega
    obtain ⟨i, rfl⟩ := Int.eq_ofNat_of_zero_le hc.1.1
    obtain ⟨y, rfl⟩ := Int.eq_ofNat_of_zero_le hc.2.1
    refine (put_yes ha k i y (by omega) hc.2.2 hi).mono ?_
    rintro e w' ⟨rfl, ha', ho⟩
    refine ⟨by rw [hE], ?_⟩
    have : putL L N i y false = L.set i (L.getD i [] ++ [(y : Int)]) := by unfold putL; rw [if_pos hE]; simp
    rw [this]
    exact ⟨_, ⟨g, _, _, _, rfl, rfl, by rw [List.length_set]; exact ha', lk_put k (by omega) hc.2.1 hc.2.2 hi⟩, ho, fun _ h => .inl h⟩
  · refine (put_no ha k r x hE).mono ?_
    rintro e w' ⟨rfl, rfl⟩
    refine ⟨rfl, ?_⟩
    have : putL L N r x false = L := by unfold putL; rw [if_neg hE]
    rw [this]
    exact after_same h' (Below.refl _ _)
theorem first_a {w : World} {v : Value} {F : Nat → Prop} {L : List (List Int)} {N : Int} (h : RingA w v F L N) (r : Int) :
    Calls Try.prog 39 #[v, .int .i64 r] w fun e w' => e = .returned (.int .i64 (firstL L r)) ∧ Below w.heap.size w w' := by
  obtain ⟨g, nx, pv, rw, rfl, rfl, ha, k⟩ := h
  refine (first_c ha k r).mono ?_
  rintro e w' ⟨rfl, n, rfl⟩
  exact ⟨rfl, below_drewN (Below.refl _ _) n⟩

/-- Two rows of L are others now. -/
def two (L : List (List Int)) (a b : Nat) (p q : List Int) : List (List Int) := (L.set b p).set a q

theorem two_a {L : List (List Int)} {a b : Nat} (ha : a < L.length) (p q : List Int) : (two L a b p q).getD a [] = q := by unfold two; rw [getD_set _ _ _ _ (by simpa using ha), if_pos rfl]
theorem two_setA {L : List (List Int)} {a b : Nat} (p q q' : List Int) : (two L a b p q).set a q' = two L a b p q' := by unfold two; rw [List.set_set]
theorem two_setB {L : List (List Int)} {a b : Nat} (hab : a ≠ b) (p q p' : List Int) : (two L a b p q).set b p' = two L a b p' q := by unfold two; rw [List.set_comm _ _ hab, List.set_set]
theorem two_len (L : List (List Int)) (a b : Nat) (p q : List Int) : (two L a b p q).length = L.length := by unfold two; simp
theorem two_none {L : List (List Int)} {a b : Nat} (p : List Int) {N : Int} (h : Ok (two L a b p []) N) : dropL (two L a b p []) (-1) = two L a b p [] ∧ inL (two L a b p []) (-1) = -1 := by
  have hi : inL (two L a b p []) (-1) = -1 := inL_none fun i hi hm => by have := h.node hi hm; omega
  exact ⟨by unfold dropL; rw [if_pos (by omega)], hi⟩
theorem two_first {L : List (List Int)} {a b : Nat} (ha : a < L.length) (p q : List Int) : firstL (two L a b p q) a = q.headD (-1) := by
  unfold firstL
  rw [two_len, if_pos (by omega), Int.toNat_natCast, two_a ha]
theorem two_in {L : List (List Int)} {a b : Nat} (ha : a < L.length) (p q : List Int) {N x : Int} (h : Ok (two L a b p (x :: q)) N) : inL (two L a b p (x :: q)) x = a :=
  inL_of_mem (once_of h.once) (by rw [two_len]; exact ha) (by rw [two_a ha]; simp)
theorem two_drop {L : List (List Int)} {a b : Nat} (ha : a < L.length) (p q : List Int) {N x : Int} (h : Ok (two L a b p (x :: q)) N) : dropL (two L a b p (x :: q)) x = two L a b p q := by
  have hi := two_in ha p q h
  have hn := (once_of h.once).one a (by rw [two_len]; exact ha)
  rw [two_a ha] at hn
  unfold dropL
  rw [if_neg (by omega), hi, Int.toNat_natCast, two_a ha, two_setA]
  have := filter_mid (a := []) (b := q) (x := x) hn
  simp only [List.nil_append] at this
  rw [this]
theorem two_out {L : List (List Int)} {a b : Nat} (ha : a < L.length) (p q : List Int) {N x : Int} (h : Ok (two L a b p (x :: q)) N) : inL (two L a b p q) x = -1 := by
  refine inL_none fun i hi hm => ?_
  have ho := once_of h.once
  have hxa : x ∈ (two L a b p (x :: q)).getD a [] := by rw [two_a ha]; simp
  rw [two_len] at hi
  by_cases e : i = a
  · subst e
    rw [two_a ha] at hm
    have hn := ho.one i (by rw [two_len]; exact ha)
    rw [two_a ha, List.nodup_cons] at hn
    exact hn.1 hm
  · have e2 : ∀ q, (two L a b p q).getD i [] = (L.set b p).getD i [] := by
      intro q
      unfold two
      rw [getD_set _ a _ _ (by simpa using ha), if_neg e]
    rw [e2, ← e2 (x :: q)] at hm
    exact e (ho.two i a x (by rw [two_len]; exact hi) (by rw [two_len]; exact ha) hm hxa)

section
variable {L : List (List Int)} {a b : Nat} (ha : a < L.length) (hb : b < L.length) (hab : a ≠ b)
include ha hb hab
theorem two_b (p q : List Int) : (two L a b p q).getD b [] = p := by unfold two; rw [getD_set _ _ _ _ (by simpa using ha), if_neg (Ne.symm hab), getD_set _ _ _ _ hb, if_pos rfl]
theorem two_self : two L a b (L.getD b []) (L.getD a []) = L := by
  apply List.ext_getElem?
  intro i
  unfold two
  by_cases e1 : i = a
  · subst e1; simp [ha, List.getD_eq_getElem?_getD]
  · by_cases e2 : i = b
    · subst e2; simp [hb, Ne.symm e1, List.getD_eq_getElem?_getD]
    · simp [Ne.symm e1, Ne.symm e2]
theorem two_put (p q : List Int) {N x : Int} (h : Ok (two L a b p (x :: q)) N) : putE (two L a b p q) N b x = 0 ∧ putL (two L a b p q) N b x false = two L a b (p ++ [x]) q := by
  have ho := two_out ha p q h
  have hx := h.node (i := a) (x := x) (by rw [two_len]; exact ha) (by rw [two_a ha]; simp)
  have hE : putE (two L a b p q) N b x = 0 := by
    unfold putE
    rw [two_len, if_pos ⟨by omega, hx⟩, if_neg (by omega)]
  refine ⟨hE, ?_⟩
  unfold putL
  rw [if_pos hE]
  simp only [Int.toNat_natCast, Bool.false_eq_true, if_false]
  rw [two_b ha hb hab, two_setB hab]
end

/-- What a round of Move begins with: the next node, and what is left. -/
def Turn (w wr : World) (v : Value) (F : Nat → Prop) (L : List (List Int)) (N : Int) (a b : Nat) (n : Nat) (u f : Value) : Prop :=
  (∃ x p q, u = .int .i64 x ∧ f = .bool true ∧ n = q.length + 1 ∧ p ++ x :: q = L.getD b [] ++ L.getD a [] ∧ Ok (two L a b p (x :: q)) N ∧ After RingA w wr v F (two L a b p q) N) ∨
  (u = .int .i64 (-1) ∧ f = .bool false ∧ After RingA w wr v F (two L a b (L.getD b [] ++ L.getD a []) []) N)

/-- Put, into the other row. -/
theorem turn_put {w wk : World} {v : Value} {F : Nat → Prop} {L : List (List Int)} {N : Int} {a b : Nat} (ha : a < L.length) (hb : b < L.length) (hab : a ≠ b) {p q : List Int} {x : Int}
    (hok : Ok (two L a b p (x :: q)) N) (h : After RingA w wk v F (two L a b p q) N) :
    Calls Try.prog 32 #[v, .int .i64 b, .int .i64 x] wk fun e w' => e = .returned (.int .i64 0) ∧ After RingA w w' v F (two L a b (p ++ [x]) q) N := by
  obtain ⟨F1, h1, o1, f1⟩ := h
  obtain ⟨hE, hL⟩ := two_put ha hb hab p q hok
  refine (put_a h1 b x).mono ?_
  rintro e w' ⟨rfl, h2⟩
  rw [hE]
  rw [hL] at h2
  exact ⟨rfl, after_trans o1 f1 h2⟩
theorem hasRow_a {w : World} {v : Value} {F : Nat → Prop} {L : List (List Int)} {N : Int} (h : RingA w v F L N) (r : Int) :
    Calls Try.prog 44 #[v, .int .i64 r] w fun e w' => e = .returned (.bool (decide (0 ≤ r ∧ r < L.length))) ∧ w = w' := by
  obtain ⟨g, nx, pv, rw, rfl, rfl, ha, k⟩ := h
  exact hasRow_c ha r

end Go.Proofs.Ytbkeodjebfkkdaa.RingT
