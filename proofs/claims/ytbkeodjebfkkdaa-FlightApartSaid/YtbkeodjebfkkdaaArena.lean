/-
  An arena of rows (package ring, as it landed) as a thing at hand: what each call makes of it. For the locks that stand on it. No condition.
-/
import Derived.Test.YtbkeodjebfkkdaaRingN
import Derived.Test.YtbkeodjebfkkdaaObj
namespace Go.Proofs.Ytbkeodjebfkkdaa.Arena
open Go.ChangeShapes Go.WideShapes Go.ChangeAt Go.RowKit Mem RefRing RingI RingP RingC RingT RingN Hand

/-- An arena behind a pointer: its rows, and how many nodes there may be. -/
def aren : Ob (List (List Int) × Int) where
  A w v F s := RingA w v F s.1 s.2
  ptr := fun h => by obtain ⟨g, _, _, _, e, _⟩ := h; exact ⟨_, e⟩
  keep := fun h _ hk => h.keep hk
  lt := fun h k hk => by obtain ⟨g, _, _, _, _, rfl, ha, _⟩ := h; subst hk; exact ha.lt
theorem stays_of {w w' : World} {v : Value} {F : Nat → Prop} {L : List (List Int)} {N : Int} (h : After RingA w w' v F L N) : Stays (ob aren v (L, N)) F w w' := h

section
variable {B : Nat → Prop} {w wk : World} {Rs : List Res} {v : Value} {L : List (List Int)} {N : Int} (h : Sep B w wk Rs) (i : Nat) (hi : Rs[i]? = some (ob aren v (L, N)))
include h hi
theorem a_ok : RingI.Ok L N := by
  obtain ⟨F, hR⟩ := ob_at h i hi
  exact RingA.ok hR
theorem a_put (r x : Int) : Calls Try.prog 32 #[v, .int .i64 r, .int .i64 x] wk fun e wn => e = .returned (.int .i64 (putE L N r x)) ∧ Sep B w wn (Rs.set i (ob aren v (putL L N r x false, N))) :=
  ob_to h i hi fun _ hA => put_a hA r x
theorem a_drop (x : Int) : Calls Try.prog 35 #[v, .int .i64 x] wk fun e wn => e = .returned (.bool (decide (0 ≤ inL L x))) ∧ Sep B w wn (Rs.set i (ob aren v (dropL L x, N))) :=
  ob_to h i hi fun _ hA => drop_a hA x
theorem a_in (x : Int) : Calls Try.prog 29 #[v, .int .i64 x] wk fun e wn => e = .returned (.int .i64 (inL L x)) ∧ wk = wn := by
  obtain ⟨F, hR⟩ := ob_at h i hi
  obtain ⟨g, nx, pv, rw, rfl, rfl, ha, k⟩ := hR
  exact in_l ha k x
theorem a_nodes : Calls Try.prog 43 #[v] wk fun e wn => e = .returned (.int .i64 N) ∧ wk = wn := by
  obtain ⟨F, hR⟩ := ob_at h i hi
  obtain ⟨g, nx, pv, rw, rfl, rfl, ha, k⟩ := hR
  exact nodes_c ha
theorem a_first (r : Int) : Calls Try.prog 39 #[v, .int .i64 r] wk fun e wn => e = .returned (.int .i64 (firstL L r)) ∧ ∃ n, wn = wk.drewN n := by
  obtain ⟨F, hR⟩ := ob_at h i hi
  obtain ⟨g, nx, pv, rw, rfl, rfl, ha, k⟩ := hR
  exact first_c ha k r
theorem a_says (r : Int) : Calls Try.prog 30 #[v, .int .i64 r] wk fun e wn => ∃ u, e = .returned u ∧ Says wk wn u (listL L r) := by
  obtain ⟨F, hR⟩ := ob_at h i hi
  obtain ⟨g, nx, pv, rw, rfl, rfl, ha, k⟩ := hR
  exact list_o ha k r
theorem a_fits (r : Int) : Calls Try.prog 30 #[v, .int .i64 r] wk fun e wn => ∃ A c, e = .returned (.slice A (listL L r).length c) ∧ Rd wn (fun k => wk.heap.size ≤ k) (.slice A (listL L r).length c) (listL L r) ∧ Below wk.heap.size wk wn ∧ (listL L r).length ≤ c := by
  obtain ⟨F, hR⟩ := ob_at h i hi
  obtain ⟨g, nx, pv, rw, rfl, rfl, ha, k⟩ := hR
  refine (list_f ha k r).mono ?_
  rintro e wn ⟨u, rfl, hr, hb, hf⟩
  obtain ⟨A, c, rfl⟩ := rd_form hr
  exact ⟨A, c, rfl, hr, hb, hf _ _ _ rfl⟩
theorem a_list (r : Int) : Calls Try.prog 30 #[v, .int .i64 r] wk fun e wn => ∃ A c, e = .returned (.slice A (listL L r).length c) ∧ Sep B w wn (nums (.slice A (listL L r).length c) (listL L r) :: Rs) ∧ Below wk.heap.size wk wn := by
  refine ob_told h i hi fun _ hR => ?_
  obtain ⟨g, nx, pv, rw, rfl, rfl, ha, k⟩ := hR
  exact list_o ha k r
end
section
variable {B : Nat → Prop} {w wk : World} {Rs : List Res}
theorem a_new (h : Sep B w wk Rs) (r n : Int) (h1 : 1 ≤ r) (h2 : r ≤ 1000) (h3 : 1 ≤ n) (h4 : n ≤ 1000) : Calls Try.prog 28 #[.int .i64 r, .int .i64 n] wk fun e wn => ∃ a, e = .returned (.tuple #[.pointer (some a), .int .i64 0]) ∧ Sep B w wn (ob aren (.pointer (some a)) (List.replicate r.toNat [], n) :: Rs) := by
  refine ob_new h (e0 := fun v => .returned (.tuple #[v, .int .i64 0])) ?_
  obtain ⟨r', rfl⟩ := Int.eq_ofNat_of_zero_le (by omega : 0 ≤ r)
  obtain ⟨n', rfl⟩ := Int.eq_ofNat_of_zero_le (by omega : 0 ≤ n)
  refine (new_yes r' n' wk (by omega) (by omega) (by omega) (by omega)).mono ?_
  rintro e w' ⟨rfl, h⟩
  have hb : Below wk.heap.size wk w' := by obtain ⟨_, _, _, _, hb, _⟩ := h; exact hb
  exact ⟨_, _, rfl, h.ring (by omega) (by omega), hb, fun k hk => by omega⟩
end

section
variable (W : List Int) (N x : Int)
theorem one_in : inL [W] x = if x ∈ W then 0 else -1 := by
  unfold inL
  by_cases h : x ∈ W
  · simp [List.findIdx?_cons, h]
  · simp [List.findIdx?_cons, h]
theorem one_list : listL [W] 0 = W := by unfold listL; simp
theorem one_first : firstL [W] 0 = W.headD (-1) := by unfold firstL; simp
theorem one_put (hx : 0 ≤ x ∧ x < N) (hW : x ∉ W) : putE [W] N 0 x = 0 ∧ putL [W] N 0 x false = [W ++ [x]] := by
  have hE : putE [W] N 0 x = 0 := by
    unfold putE
    rw [if_pos ⟨by simp, hx⟩, one_in, if_neg hW, if_neg (by omega)]
  refine ⟨hE, ?_⟩
  unfold putL
  rw [if_pos hE]
  rfl
theorem one_push (hx : 0 ≤ x ∧ x < N) (hW : x ∉ W) : putE [W] N 0 x = 0 ∧ putL [W] N 0 x true = [x :: W] := by
  have hE : putE [W] N 0 x = 0 := by
    unfold putE
    rw [if_pos ⟨by simp, hx⟩, one_in, if_neg hW, if_neg (by omega)]
  refine ⟨hE, ?_⟩
  unfold putL
  rw [if_pos hE]
  rfl
theorem one_drop : dropL [W] x = [W.filter fun y => decide (y ≠ x)] := by
  unfold dropL
  rw [one_in]
  by_cases h : x ∈ W
  · rw [if_pos h, if_neg (by omega)]
    have : (fun y : Int => y != x) = fun y => decide (y ≠ x) := by funext y; by_cases e : y = x <;> simp [e]
    simp [this]
  · rw [if_neg h, if_pos (by omega), List.filter_eq_self.2]
    intro y hy
    simp only [ne_eq, decide_eq_true_eq]
    rintro rfl
    exact h hy
theorem one_take (hn : W.Nodup) (h0 : ∀ y ∈ W, 0 ≤ y) : dropL [W] (firstL [W] 0) = [W.tail] := by
  rw [one_first, one_drop]
  cases W with
  | nil => rfl
  | cons y l =>
    rw [List.nodup_cons] at hn
    rw [List.headD_cons, List.filter_cons, if_neg (by simp), List.tail_cons, List.filter_eq_self.2]
    intro z hz
    simp only [ne_eq, decide_eq_true_eq]
    rintro rfl
    exact hn.1 hz
end
end Go.Proofs.Ytbkeodjebfkkdaa.Arena
