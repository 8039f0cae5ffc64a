/-
  Contracts of the functions of package ring, as it landed: an arena as the lists of its rows. Condition: the pointer's block is as 'Arr' says.
-/
import Derived.Test.YtbkeodjebfkkdaaRows
import Derived.Test.YtbkeodjebfkkdaaRingP
import Derived.StillTailTactics
import Derived.Deep.QuietTactic
import Derived.BigQuiet
import Derived.Deep.OwnRows
namespace Go.Proofs.Ytbkeodjebfkkdaa.RingC
open Go.ChangeShapes Go.WideShapes Go.ChangeAt Go.RowKit Mem RefRing RingI RingP

theorem intElem : IntElem Try.prog 33 3 := intElem_of Try.underlying33 (by kernel_rfl)

/-- The block g holds an arena's numbers: r rows, n nodes, neighbours and rows. -/
def Arr (w : World) (g : Nat) (R N : Int) (nx pv rw : Int → Int) : Prop :=
  ∃ vs : Array Value, w.heap[g]? = some (.cells vs 75 (0, 0)) ∧ vs.size = 5002 ∧ vs[0]? = some (.int .i64 R) ∧ vs[1]? = some (.int .i64 N) ∧
    (∀ i : Nat, i < 2000 → vs[2 + i]? = some (.int .i16 (nx i))) ∧ (∀ i : Nat, i < 2000 → vs[2002 + i]? = some (.int .i16 (pv i))) ∧ (∀ i : Nat, i < 1000 → vs[4002 + i]? = some (.int .i16 (rw i))) ∧
    (∀ i, 0 ≤ nx i ∧ nx i < 2000) ∧ (∀ i, 0 ≤ pv i ∧ pv i < 2000) ∧ (∀ i, -1 ≤ rw i ∧ rw i < 1000)

section
variable {w w' : World} {g : Nat} {R N : Int} {nx pv rw : Int → Int}
theorem Arr.keep (h : Arr w g R N nx pv rw) (hk : w'.heap[g]? = w.heap[g]?) : Arr w' g R N nx pv rw := by
  obtain ⟨vs, hv, hh⟩ := h
  exact ⟨vs, hk.trans hv, hh⟩
theorem Arr.drewN (h : Arr w g R N nx pv rw) (n : Nat) : Arr (w.drewN n) g R N nx pv rw := h.keep rfl
theorem Arr.lt (h : Arr w g R N nx pv rw) : g < w.heap.size := by
  obtain ⟨vs, hv, hh⟩ := h
  exact lt_of_block hv
theorem Arr.c0 (h : Arr w g R N nx pv rw) : w.cell? ⟨g, 0, none⟩ = some (.int .i64 R) := by
  obtain ⟨vs, hv, _, h0, _⟩ := h
  rw [cell_block hv, h0]
theorem Arr.c1 (h : Arr w g R N nx pv rw) : w.cell? ⟨g, 1, none⟩ = some (.int .i64 N) := by
  obtain ⟨vs, hv, _, _, h0, _⟩ := h
  rw [cell_block hv, h0]
theorem Arr.cn (h : Arr w g R N nx pv rw) {i : Nat} (hi : i < 2000) : w.cell? ⟨g, 2 + i, none⟩ = some (.int .i16 (nx i)) := by
  obtain ⟨vs, hv, _, _, _, h0, _⟩ := h
  rw [cell_block hv, h0 i hi]
theorem Arr.cp (h : Arr w g R N nx pv rw) {i : Nat} (hi : i < 2000) : w.cell? ⟨g, 2002 + i, none⟩ = some (.int .i16 (pv i)) := by
  obtain ⟨vs, hv, _, _, _, _, h0, _⟩ := h
  rw [cell_block hv, h0 i hi]
theorem Arr.cr (h : Arr w g R N nx pv rw) {i : Nat} (hi : i < 1000) : w.cell? ⟨g, 4002 + i, none⟩ = some (.int .i16 (rw i)) := by
  obtain ⟨vs, hv, _, _, _, _, _, h0, _⟩ := h
  rw [cell_block hv, h0 i hi]
theorem Arr.bn (h : Arr w g R N nx pv rw) (i : Int) : 0 ≤ nx i ∧ nx i < 2000 := by obtain ⟨vs, hv, _, _, _, _, _, _, h0, _⟩ := h; exact h0 i
theorem Arr.bp (h : Arr w g R N nx pv rw) (i : Int) : 0 ≤ pv i ∧ pv i < 2000 := by obtain ⟨vs, hv, _, _, _, _, _, _, _, h0, _⟩ := h; exact h0 i
theorem Arr.br (h : Arr w g R N nx pv rw) (i : Int) : -1 ≤ rw i ∧ rw i < 1000 := by obtain ⟨vs, hv, _, _, _, _, _, _, _, _, h0⟩ := h; exact h0 i
theorem Arr.frozen (h : Arr w g R N nx pv rw) (i : Nat) : w.frozen? ⟨g, i, none⟩ = false := by
  obtain ⟨vs, hv, _⟩ := h
  exact frozen_block hv i

theorem upd_bounds {f : Int → Int} {lo hi : Int} (h : ∀ i, lo ≤ f i ∧ f i < hi) {a b : Int} (hb : lo ≤ b ∧ b < hi) (i : Int) : lo ≤ upd f a b i ∧ upd f a b i < hi := by
  unfold upd
  split
  · exact hb
  · exact h i
theorem upd_cell {vs : Array Value} {off lim : Nat} {f : Int → Int} (h : ∀ i : Nat, i < lim → vs[off + i]? = some (.int .i16 (f i))) {a : Nat} (b : Int) (ha : off + a < vs.size) (i : Nat) (hi : i < lim) :
    (vs.setIfInBounds (off + a) (.int .i16 b))[off + i]? = some (.int .i16 (upd f a b i)) := by
  rw [Array.getElem?_setIfInBounds]
  by_cases e : i = a
  · subst e
    rw [if_pos rfl, if_pos ha, upd_at]
  · rw [if_neg (by omega), h i hi, upd_ne _ _ (by omega)]
theorem far_cell {vs : Array Value} {k j : Nat} (h : k ≠ j) (v : Value) : (vs.setIfInBounds k v)[j]? = vs[j]? := by
  rw [Array.getElem?_setIfInBounds, if_neg h]
theorem set_block {vs : Array Value} {t : TypeId} (hv : w.heap[g]? = some (.cells vs t (0, 0))) (k : Nat) (v : Value) : (w.setCell ⟨g, k, none⟩ v).heap[g]? = some (.cells (vs.setIfInBounds k v) t (0, 0)) := by
  simp [World.setCell, Array.getElem?_modify, hv]

theorem Arr.setN (h : Arr w g R N nx pv rw) {a : Nat} (ha : a < 2000) {b : Int} (hb : 0 ≤ b ∧ b < 2000) : Arr (w.setCell ⟨g, 2 + a, none⟩ (.int .i16 b)) g R N (upd nx a b) pv rw := by
  obtain ⟨vs, hv, hs, h0, h1, h2, h3, h4, h5, h6, h7⟩ := h
  refine ⟨_, set_block hv _ _, by simpa using hs, ?_, ?_, fun i hi => upd_cell h2 b (by omega) i hi, fun i hi => ?_, fun i hi => ?_, upd_bounds h5 hb, h6, h7⟩
  · rw [far_cell (by omega), h0]
  · rw [far_cell (by omega), h1]
  · rw [far_cell (by omega), h3 i hi]
  · rw [far_cell (by omega), h4 i hi]
theorem Arr.setP (h : Arr w g R N nx pv rw) {a : Nat} (ha : a < 2000) {b : Int} (hb : 0 ≤ b ∧ b < 2000) : Arr (w.setCell ⟨g, 2002 + a, none⟩ (.int .i16 b)) g R N nx (upd pv a b) rw := by
  obtain ⟨vs, hv, hs, h0, h1, h2, h3, h4, h5, h6, h7⟩ := h
  refine ⟨_, set_block hv _ _, by simpa using hs, ?_, ?_, fun i hi => ?_, fun i hi => upd_cell h3 b (by omega) i hi, fun i hi => ?_, h5, upd_bounds h6 hb, h7⟩
  · rw [far_cell (by omega), h0]
  · rw [far_cell (by omega), h1]
  · rw [far_cell (by omega), h2 i hi]
  · rw [far_cell (by omega), h4 i hi]
theorem Arr.setR (h : Arr w g R N nx pv rw) {a : Nat} (ha : a < 1000) {b : Int} (hb : -1 ≤ b ∧ b < 1000) : Arr (w.setCell ⟨g, 4002 + a, none⟩ (.int .i16 b)) g R N nx pv (upd rw a b) := by
  obtain ⟨vs, hv, hs, h0, h1, h2, h3, h4, h5, h6, h7⟩ := h
  refine ⟨_, set_block hv _ _, by simpa using hs, ?_, ?_, fun i hi => ?_, fun i hi => ?_, fun i hi => upd_cell h4 b (by omega) i hi, h5, h6, upd_bounds h7 hb⟩
  · rw [far_cell (by omega), h0]
  · rw [far_cell (by omega), h1]
  · rw [far_cell (by omega), h2 i hi]
  · rw [far_cell (by omega), h3 i hi]
end

/-- The node behind a place; -1, where the row ends. -/
def nodeAt (nx : Int → Int) (a : Int) : Int := if nx a < 1000 then nx a else -1

section
variable {w : World} {g : Nat} {R N : Int} {nx pv rw : Int → Int} (h : Arr w g R N nx pv rw)
include h
theorem nodes_c : Calls Try.prog 43 #[.pointer (some ⟨g, 0, none⟩)] w fun e w' => e = .returned (.int .i64 N) ∧ w = w' := by
  have h0 := h.c1
  clear h
  go_enter Try.func43, Try.ntmps43
  go_wp2
  go_ret
  exact ⟨rfl, rfl⟩
theorem hasRow_c (r : Int) : Calls Try.prog 44 #[.pointer (some ⟨g, 0, none⟩), .int .i64 r] w fun e w' => e = .returned (.bool (decide (0 ≤ r ∧ r < R))) ∧ w = w' := by
  have h0 := h.c0
  clear h
  by_cases hr : 0 ≤ r
  all_goals
    go_enter Try.func44, Try.ntmps44
    go_wp2
    all_goals
      go_ret
      exact ⟨ret_bool (by rw [Bool.eq_iff_iff]; simp; try omega), rfl⟩
theorem hasNode_c (r : Int) : Calls Try.prog 38 #[.pointer (some ⟨g, 0, none⟩), .int .i64 r] w fun e w' => e = .returned (.bool (decide (0 ≤ r ∧ r < N))) ∧ w = w' := by
  have h0 := h.c1
  clear h
  by_cases hr : 0 ≤ r
  all_goals
    go_enter Try.func38, Try.ntmps38
    go_wp2
    all_goals
      go_ret
      exact ⟨ret_bool (by rw [Bool.eq_iff_iff]; simp; try omega), rfl⟩
theorem behind_c (a : Nat) (ha : a < 2000) : Calls Try.prog 40 #[.pointer (some ⟨g, 2, none⟩), .int .i64 a] w fun e w' => e = .returned (.int .i64 (nodeAt nx a)) ∧ w = w' := by
  have h0 := h.cn ha
  unfold nodeAt
  have hb := h.bn a
  generalize nx a = y at *
  clear h
  go_enter Try.func40, Try.ntmps40
  go_wp2
  · go_ret
    exact ⟨rfl, rfl⟩
  · go_ret
    exact ⟨rfl, rfl⟩
theorem in_c (hN : N ≤ 1000) (x : Int) : Calls Try.prog 29 #[.pointer (some ⟨g, 0, none⟩), .int .i64 x] w fun e w' => e = .returned (.int .i64 (if 0 ≤ x ∧ x < N then rw x else -1)) ∧ w = w' := by
  have H := Lib.hid h
  by_cases hx : 0 ≤ x ∧ x < N
  · obtain ⟨k, rfl⟩ := Int.eq_ofNat_of_zero_le hx.1
    have h0 := h.cr (i := k) (by omega)
    have hb := h.br k
    have hk : k < 1000 := by omega
    have hd : decide (0 ≤ (k : Int) ∧ (k : Int) < N) = true := decide_eq_true hx
    rw [if_pos hx]
    generalize rw (k : Int) = y at *
    clear h hx
    go_enter Try.func29, Try.ntmps29
    go_wp2_with fail
    refine (hasNode_c H.out k).mono ?_
    rintro e w' ⟨rfl, rfl⟩
    rw [hd]
    clear hd
    go_wp2
    go_ret
    exact ⟨rfl, rfl⟩
  · have hd : decide (0 ≤ x ∧ x < N) = false := decide_eq_false hx
    rw [if_neg hx]
    clear h hx
    go_enter Try.func29, Try.ntmps29
    go_wp2_with fail
    refine (hasNode_c H.out x).mono ?_
    rintro e w' ⟨rfl, rfl⟩
    rw [hd]
    clear hd
    go_wp2
    go_ret
    exact ⟨rfl, rfl⟩
end
theorem end_c (w : World) (r m : Nat) (hr : r < 1000) (hm : m = 1000 + r) : Calls Try.prog 37 #[.int .i64 r] w fun e w' => e = .returned (.int .i64 m) ∧ w = w' := by
  go_enter Try.func37, Try.ntmps37
  go_wp2
  go_ret
  exact ⟨ret_int (by omega), rfl⟩

/-- The arena's block behind a call that changed nothing else. -/
def AfterB (w w' : World) (g : Nat) (R N : Int) (nx pv rw : Int → Int) : Prop := Arr w' g R N nx pv rw ∧ Only (fun b => b = g) w w'

section
variable {w : World} {g : Nat} {R N : Int} {nx pv rw : Int → Int} (h : Arr w g R N nx pv rw)
include h
theorem join_c (a b : Nat) (ha : a < 2000) (hb : b < 2000) : Calls Try.prog 36 #[.pointer (some ⟨g, 2, none⟩), .int .i64 a, .int .i64 b] w fun e w' => e = .returned (.tuple #[]) ∧ AfterB w w' g R N (upd nx a b) (upd pv b a) rw := by
  have h0 := h.cn ha
  have h1 := h.cp hb
  have f0 := h.frozen (2 + a)
  have f1 := h.frozen (2002 + b)
  have H := Lib.hid h
  clear h
  go_enter Try.func36, Try.ntmps36
  go_region
  go_end0
  exact ⟨rfl, (H.out.setN ha (by omega)).setP hb (by omega), (((Only.refl (fun b => b = g) _).setCell (.inl rfl) _).setCell (.inl rfl) _).drew⟩
theorem stand_c (r x a b : Nat) (hr : r < 1000) (hx : x < 1000) (ha : a < 2000) (hb : b < 2000) :
    Calls Try.prog 42 #[.pointer (some ⟨g, 2, none⟩), .int .i64 r, .int .i64 x, .int .i64 a, .int .i64 b] w fun e w' => e = .returned (.tuple #[]) ∧
      AfterB w w' g R N (upd (upd nx a x) x b) (upd (upd pv x a) b x) (upd rw x r) := by
  have H := Lib.hid h
  clear h
  go_enter Try.func42, Try.ntmps42
  go_wp2_with fail
  refine (join_c H.out a x ha (by omega)).mono ?_
  rintro e w1 ⟨rfl, h1, o1⟩
  have H1 := Lib.hid h1
  have O1 := Lib.hid o1
  clear h1 o1
  go_wp2_with fail
  refine (join_c H1.out x b (by omega) hb).mono ?_
  rintro e w2 ⟨rfl, h2, o2⟩
  have H2 := Lib.hid h2
  have O2 := Lib.hid (O1.out.trans o2 fun _ _ h => h)
  have c2 := h2.cr hx
  have f2 := h2.frozen (4002 + x)
  clear h2 o2
  go_wp2
  go_end0
  exact ⟨rfl, H2.out.setR hx (by omega), O2.out.setCell (.inl rfl) _⟩
end

theorem next_at {nx pv : Int → Int} : ∀ (l : List Int) (a b : Int) (j : Nat), Link nx pv a l b → 1000 ≤ b → (∀ x ∈ l, 0 ≤ x ∧ x < 1000) → j < l.length → nodeAt nx (l.getD j (-1)) = l.getD (j + 1) (-1)
  | [], _, _, j, _, _, _, hj => by simp at hj
  | x :: l, a, b, 0, hl, hb, hn, _ => by
    have h2 := hl.2.2
    cases l with
    | nil =>
      simp only [List.getD_cons_zero, List.getD_cons_succ, List.getD_nil]
      unfold nodeAt
      rw [h2.1, if_neg (by omega)]
    | cons y l =>
      simp only [List.getD_cons_zero, List.getD_cons_succ]
      unfold nodeAt
      have := hn y (by simp)
      rw [h2.1, if_pos (by omega)]
  | x :: l, a, b, j + 1, hl, hb, hn, hj => by
    simp only [List.getD_cons_succ]
    exact next_at l x b j hl.2.2 hb (fun y hy => hn y (List.mem_cons_of_mem _ hy)) (by simpa using hj)
/-- A slice's length. -/
def lenOf : Value → Nat | .slice _ n _ => n | _ => 0

theorem first_list (L : List (List Int)) (r : Int) : firstL L r = (listL L r).getD 0 (-1) := by
  unfold firstL listL
  split
  · cases L.getD r.toNat [] <;> simp
  · simp
section
variable {L : List (List Int)} {N : Int} {nx pv rw : Int → Int} (k : Lk L N nx pv rw)
include k
/-- What is gone through, of a row. -/
theorem row_walk (r : Int) (j : Nat) (hj : j < (listL L r).length) : ∃ y : Nat, (listL L r).getD j (-1) = y ∧ y < 1000 ∧ nodeAt nx y = (listL L r).getD (j + 1) (-1) := by
  unfold listL at hj ⊢
  split
  · rename_i hr
    rw [if_pos hr] at hj
    generalize hi : r.toNat = i at *
    have hil : i < L.length := by omega
    have hall : ∀ x ∈ L.getD i [], 0 ≤ x ∧ x < 1000 := fun x hx => by have := k.ok.node hil hx; have := k.ok.n1; omega
    have hm : (L.getD i []).getD j (-1) ∈ L.getD i [] := by
      rw [List.getD_eq_getElem?_getD (l := L.getD i []), List.getElem?_eq_getElem hj]
      exact List.getElem_mem hj
    have hb := hall _ hm
    obtain ⟨y, hy⟩ := Int.eq_ofNat_of_zero_le hb.1
    refine ⟨y, hy, by omega, ?_⟩
    rw [← hy]
    exact next_at (L.getD i []) _ _ j (k.ring i hil) (by omega) hall hj
  · rename_i hr
    rw [if_neg hr] at hj
    simp at hj
theorem list_len (r : Int) : (listL L r).length ≤ 1000 := by
  unfold listL
  split
  · exact k.ok.lens _ (getD_mem (by omega))
  · simp
end

theorem still_of {P : Program} {f : FuncId} {args : Array Value} {w : World} {v : Value} (h : Calls P f args w fun e w' => e = .returned v ∧ w = w') : Calls P f args w fun e w' => e = .returned v ∧ w' = w :=
  h.mono fun _ _ ⟨he, hm⟩ => ⟨he, hm.symm⟩

section
variable {w : World} {g : Nat} {L : List (List Int)} {N : Int} {nx pv rw : Int → Int} (h : Arr w g L.length N nx pv rw) (k : Lk L N nx pv rw)
include h k
theorem in_l (x : Int) : Calls Try.prog 29 #[.pointer (some ⟨g, 0, none⟩), .int .i64 x] w fun e w' => e = .returned (.int .i64 (inL L x)) ∧ w = w' := by
  have e : (if 0 ≤ x ∧ x < N then rw x else -1) = inL L x := by
    split
    · exact k.row x (by omega) (by omega)
    · refine (inL_none fun i hi hm => ?_).symm
      have := k.ok.node hi hm
      omega
  have := in_c h k.ok.n1 x
  rw [e] at this
  exact this
theorem may_c (r x : Int) : Calls Try.prog 41 #[.pointer (some ⟨g, 0, none⟩), .int .i64 r, .int .i64 x] w fun e w' => e = .returned (.int .i64 (putE L N r x)) ∧ w = w' := by
  have H := Lib.hid h
  have K := Lib.hid k
  clear h k
  by_cases hr : 0 ≤ r ∧ r < L.length
  · have hd := decide_eq_true hr
    by_cases hx : 0 ≤ x ∧ x < N
    · have hd2 := decide_eq_true hx
      rcases inL_range L x with hi | ⟨i, hi, hil⟩
      · have HE : Hid (putE L N r x = 0) := by show _ = _; unfold putE; rw [if_pos ⟨hr, hx⟩, if_neg (by omega)]
        have HI := Lib.hid hi
        clear hi
        go_enter Try.func41, Try.ntmps41
        go_wp2_with fail
        refine (hasRow_c H.out r).mono ?_
        rintro e w1 ⟨rfl, rfl⟩
        rw [hd]
        go_wp2_with fail
        refine (hasNode_c H.out x).mono ?_
        rintro e w1 ⟨rfl, rfl⟩
        rw [hd2]
        go_wp2_with fail
        refine (in_l H.out K.out x).mono ?_
        rintro e w1 ⟨rfl, rfl⟩
        rw [HI.out]
        go_wp2
        go_ret
        exact ⟨ret_int HE.out.symm, rfl⟩
      · have HE : Hid (putE L N r x = 6) := by show _ = _; unfold putE; rw [if_pos ⟨hr, hx⟩, if_pos (by omega)]
        have HI := Lib.hid hi
        clear hi
        go_enter Try.func41, Try.ntmps41
        go_wp2_with fail
        refine (hasRow_c H.out r).mono ?_
        rintro e w1 ⟨rfl, rfl⟩
        rw [hd]
        go_wp2_with fail
        refine (hasNode_c H.out x).mono ?_
        rintro e w1 ⟨rfl, rfl⟩
        rw [hd2]
        go_wp2_with fail
        refine (in_l H.out K.out x).mono ?_
        rintro e w1 ⟨rfl, rfl⟩
        rw [HI.out]
        have hne : ((i : Int) != -1) = true := by simp
        go_wp2
        go_ret
        exact ⟨ret_int HE.out.symm, rfl⟩
    · have hd2 := decide_eq_false hx
      have HE : Hid (putE L N r x = 3) := by show _ = _; unfold putE; rw [if_neg (fun h => hx h.2)]
      go_enter Try.func41, Try.ntmps41
      go_wp2_with fail
      refine (hasRow_c H.out r).mono ?_
      rintro e w1 ⟨rfl, rfl⟩
      rw [hd]
      go_wp2_with fail
      refine (hasNode_c H.out x).mono ?_
      rintro e w1 ⟨rfl, rfl⟩
      rw [hd2]
      go_wp2
      go_ret
      exact ⟨ret_int HE.out.symm, rfl⟩
  · have hd := decide_eq_false hr
    have HE : Hid (putE L N r x = 3) := by show _ = _; unfold putE; rw [if_neg (fun h => hr h.1)]
    go_enter Try.func41, Try.ntmps41
    go_wp2_with fail
    refine (hasRow_c H.out r).mono ?_
    rintro e w1 ⟨rfl, rfl⟩
    rw [hd]
    go_wp2
    go_ret
    exact ⟨ret_int HE.out.symm, rfl⟩

/-- A value that is told, where it is one of the places. -/
theorem first_c (r : Int) : Calls Try.prog 39 #[.pointer (some ⟨g, 0, none⟩), .int .i64 r] w fun e w' => e = .returned (.int .i64 (firstL L r)) ∧ ∃ n, w' = w.drewN n := by
  have H := Lib.hid h
  by_cases hr : 0 ≤ r ∧ r < L.length
  · obtain ⟨i, rfl⟩ := Int.eq_ofNat_of_zero_le hr.1
    have hil : i < L.length := by omega
    have hi : i < 1000 := by have := k.ok.rows; omega
    have hF : Hid (nodeAt nx (1000 + (i : Int)) = firstL L i) := by
      show _ = _
      unfold nodeAt
      have hk := k.ring i hil
      unfold firstL
      rw [if_pos hr]
      simp only [Int.toNat_natCast]
      rcases hl : L.getD i [] with _ | ⟨y, m⟩
      · rw [hl] at hk
        rw [if_neg (by rw [hk.1]; omega)]
        rfl
      · rw [hl] at hk
        have hy := k.ok.node hil (x := y) (by rw [hl]; simp)
        have := k.ok.n1
        rw [if_pos (by rw [hk.1]; omega), hk.1]
        rfl
    have hd := decide_eq_true hr
    obtain ⟨m, hm⟩ : ∃ m, m = 1000 + i := ⟨_, rfl⟩
    have hm2 : m < 2000 := by omega
    rw [show (1000 + (i : Int)) = (m : Int) by omega] at hF
    have HM := Lib.hid hm
    clear h k hr hm
    go_enter Try.func39, Try.ntmps39
    go_wp2_with fail
    refine (hasRow_c H.out i).mono ?_
    rintro e w1 ⟨rfl, rfl⟩
    rw [hd]
    go_wp2
    go_quiet ((first | (go_at_call 37; exact Calls.quiet_of_same (still_of (end_c _ i m hi HM.out))) | (go_at_call 40; exact quiet_left (behind_c (H.out.drewN _) m hm2))))
    go_wp2
    go_ret
    exact ⟨ret_int hF.out, _, rfl⟩
  · have HF : Hid (firstL L r = -1) := by show _ = _; unfold firstL; rw [if_neg hr]
    have hd := decide_eq_false hr
    clear h k hr
    go_enter Try.func39, Try.ntmps39
    go_wp2_with fail
    refine (hasRow_c H.out r).mono ?_
    rintro e w1 ⟨rfl, rfl⟩
    rw [hd]
    go_wp2
    go_ret
    exact ⟨ret_int HF.out.symm, 0, rfl⟩

set_option maxRecDepth 100000 in
/-- Put and Push, where the node may stand there. -/
theorem put_yes (r x : Nat) (hr : r < L.length) (hx : (x : Int) < N) (hi : inL L x = -1) :
    Calls Try.prog 32 #[.pointer (some ⟨g, 0, none⟩), .int .i64 r, .int .i64 x] w fun e w' => e = .returned (.int .i64 0) ∧
      AfterB w w' g L.length N (upd (upd nx (pv (1000 + r)) x) x (1000 + r)) (upd (upd pv x (pv (1000 + r))) (1000 + r) x) (upd rw x r) := by
  have hE : putE L N r x = 0 := by unfold putE; rw [if_pos (by omega), if_neg (by omega)]
  have H := Lib.hid h
  have K := Lib.hid k
  have HE := Lib.hid hE
  have hr' : r < 1000 := by have := k.ok.rows; omega
  have hx' : x < 1000 := by have := k.ok.n1; omega
  obtain ⟨m, hm⟩ : ∃ m, m = 1000 + r := ⟨_, rfl⟩
  have hm2 : m < 2000 := by omega
  rw [show (1000 + (r : Int)) = (m : Int) by omega]
  have hbp := h.bp m
  obtain ⟨y, hy⟩ := Int.eq_ofNat_of_zero_le hbp.1
  have hy2 : y < 2000 := by omega
  have h2 : Arr w.drew g L.length N nx pv rw := h.keep rfl
  have c2 := h2.cp hm2
  rw [hy] at c2
  have H2 := Lib.hid h2
  have O2 : Hid (Only (fun b => b = g) w w.drew) := (Only.refl _ _).drew
  have HY := Lib.hid hy
  have HM := Lib.hid hm
  rw [hy]
  clear h k hE hbp hy h2 hm
  go_enter Try.func32, Try.ntmps32
  go_wp2_with fail
  refine (may_c H.out K.out r x).mono ?_
  rintro e w1 ⟨rfl, rfl⟩
  rw [HE.out]
  go_wp2
  refine wp_region_still_tail 16 (by kernel_rfl) (by kernel_rfl) ?_
  simp only [List.take_succ_cons, List.take_zero, List.drop_succ_cons, List.drop_zero]
  change wpStill _ _ w.drew (fun a' => wpList _ _ _ _ a' w.drew) _ _
  generalize w.drew = w2 at *
  have hmI : (m : Int) < 2000 := by omega
  have hm0 : 0 ≤ (m : Int) := by omega
  have hyw : IntKind.i64.wrap (y : Int) = y := IntWalk.i64_in _ (by omega)
  repeat (first | still_step | still_call (still_of (end_c _ r m hr' HM.out)))
  refine wpStill_nil ?_
  clear hyw
  go_wp2_with fail
  refine (stand_c H2.out r x y m hr' hx' hy2 hm2).mono ?_
  rintro e w3 ⟨rfl, h3, o3⟩
  have H3 := Lib.hid h3
  have O3 := Lib.hid (O2.out.trans o3 fun _ _ h => h)
  clear h3 o3
  go_wp2
  go_ret
  exact ⟨rfl, H3.out, O3.out⟩
set_option maxRecDepth 100000 in
theorem drop_yes (x r : Nat) (hi : inL L x = r) :
    Calls Try.prog 35 #[.pointer (some ⟨g, 0, none⟩), .int .i64 x] w fun e w' => e = .returned (.bool true) ∧
      AfterB w w' g L.length N (upd nx (pv x) (nx x)) (upd pv (nx x) (pv x)) (upd rw x (-1)) := by
  have H := Lib.hid h
  have K := Lib.hid k
  have HI := Lib.hid hi
  have hx' : x < 1000 := by
    have := mem_of_inL hi
    have := k.ok.node this.1 this.2
    have := k.ok.n1
    omega
  have hbp := h.bp x
  have hbn := h.bn x
  obtain ⟨y, hy⟩ := Int.eq_ofNat_of_zero_le hbp.1
  obtain ⟨z, hz⟩ := Int.eq_ofNat_of_zero_le hbn.1
  have hy2 : y < 2000 := by omega
  have hz2 : z < 2000 := by omega
  have h2 : Arr w.drew g L.length N nx pv rw := h.keep rfl
  have c2 := h2.cp (i := x) (by omega)
  have c3 := h2.cn (i := x) (by omega)
  rw [hy] at c2
  rw [hz] at c3
  have H2 := Lib.hid h2
  have O2 : Hid (Only (fun b => b = g) w w.drew) := (Only.refl _ _).drew
  rw [hy, hz]
  clear h k hi hbp hbn hy hz h2
  go_enter Try.func35, Try.ntmps35
  go_wp2_with fail
  refine (in_l H.out K.out x).mono ?_
  rintro e w1 ⟨rfl, rfl⟩
  rw [HI.out]
  have hne : ((r : Int) == -1) = false := by simp
  go_wp2
  refine wp_region_still_tail 19 (by kernel_rfl) (by kernel_rfl) ?_
  simp only [List.take_succ_cons, List.take_zero, List.drop_succ_cons, List.drop_zero]
  change wpStill _ _ w.drew (fun a' => wpList _ _ _ _ a' w.drew) _ _
  generalize w.drew = w2 at *
  have hxI : (x : Int) < 2000 := by omega
  have hx0 : 0 ≤ (x : Int) := by omega
  have hyw : IntKind.i64.wrap (y : Int) = y := IntWalk.i64_in _ (by omega)
  have hzw : IntKind.i64.wrap (z : Int) = z := IntWalk.i64_in _ (by omega)
  repeat still_step
  refine wpStill_nil ?_
  clear hyw hzw
  go_wp2_with fail
  refine (join_c H2.out y z hy2 hz2).mono ?_
  rintro e w3 ⟨rfl, h3, o3⟩
  have H3 := Lib.hid h3
  have O3 := Lib.hid (O2.out.trans o3 fun _ _ h => h)
  have c4 := h3.cr hx'
  have f4 := h3.frozen (4002 + x)
  clear h3 o3
  go_wp2
  go_ret
  exact ⟨rfl, H3.out.setR hx' (by omega), O3.out.setCell (.inl rfl) _⟩
theorem drop_no (x : Int) (hi : inL L x = -1) :
    Calls Try.prog 35 #[.pointer (some ⟨g, 0, none⟩), .int .i64 x] w fun e w' => e = .returned (.bool false) ∧ w = w' := by
  have H := Lib.hid h
  have K := Lib.hid k
  have HI := Lib.hid hi
  clear h k hi
  go_enter Try.func35, Try.ntmps35
  go_wp2_with fail
  refine (in_l H.out K.out x).mono ?_
  rintro e w1 ⟨rfl, rfl⟩
  rw [HI.out]
  go_wp2
  go_ret
  exact ⟨rfl, rfl⟩
theorem put_no (r x : Int) (hE : putE L N r x ≠ 0) :
    Calls Try.prog 32 #[.pointer (some ⟨g, 0, none⟩), .int .i64 r, .int .i64 x] w fun e w' => e = .returned (.int .i64 (putE L N r x)) ∧ w = w' := by
  have H := Lib.hid h
  have K := Lib.hid k
  clear h k
  go_enter Try.func32, Try.ntmps32
  go_wp2_with fail
  refine (may_c H.out K.out r x).mono ?_
  rintro e w1 ⟨rfl, rfl⟩
  generalize hq0 : putE L N r x = q at *
  have HQ := Lib.hid hq0
  have hq : (q != 0) = true := by simpa using hE
  clear hE hq0
  go_wp2
  go_ret
  exact ⟨ret_int HQ.out.symm, rfl⟩
theorem list_f (r : Int) : Calls Try.prog 30 #[.pointer (some ⟨g, 0, none⟩), .int .i64 r] w fun e w' => ∃ u, e = .returned u ∧ Rd w' (fun b => w.heap.size ≤ b) u (listL L r) ∧ Below w.heap.size w w' ∧ (∀ A n c, u = .slice A n c → n ≤ c) := by
  have H := Lib.hid h
  have K := Lib.hid k
  have hF := Lib.hid (first_list L r)
  have hlen := list_len k r
  have HW := Lib.hid (row_walk k r)
  have hg := h.lt
  generalize listL L r = l at *
  clear h k
  go_enter Try.func30, Try.ntmps30
  go_wp2_with fail
  refine (first_c H.out K.out r).mono ?_
  rintro e w1 ⟨rfl, n1, rfl⟩
  rw [hF.out]
  go_wp2
  go_loopw [5, 6] (fun v t wr => ∃ j : Nat, j ≤ l.length ∧ t = .int .i64 (l.getD j (-1)) ∧ Own wr w.heap.size 3 v (l.take j) ∧ Below w.heap.size w wr) (fun v _ _ => l.length - lenOf v)
  case atStart => exact ⟨0, Nat.zero_le _, rfl, World.ownsRow_nil _ _ _ _, below_drewN (Below.refl _ _) _⟩
  case round =>
    obtain ⟨j, hj, rfl, hown, hbel⟩ := hrel
    have HO := Lib.hid hown
    have HB := Lib.hid hbel
    have hbs : w.heap.size ≤ wr.heap.size := hbel.size
    have htl : (l.take j).length ≤ 1000 := Nat.le_trans (List.length_take_le _ _) (by omega)
    clear hown hbel
    by_cases hlt : j < l.length
    · obtain ⟨y, hy, hy1, hn⟩ := HW.out j hlt
      have HS : Hid (l.take (j + 1) = l.take j ++ [(y : Int)]) := by
        show _ = _
        rw [List.take_succ_eq_append_getElem hlt, ← hy, List.getD_eq_getElem?_getD, List.getElem?_eq_getElem hlt]
        rfl
      rw [hy]
      have HN := Lib.hid hn
      have hne : ((y : Int) != -1) = true := by simp
      clear hy hn
      go_wp2_with (at_builtin; refine wpList_app rfl _ _ intElem rfl rfl rfl (HO.out.alloc _) (Rd.lit1 wr _ y (fun _ => True) trivial) (by simp; omega) (by simp; omega) ?_)
      intro v' w1 hown1 hgrow hat
      have hb1 : Below w.heap.size w w1 := Below.grown (HB.out.alloc hbs _) hgrow (by simp; omega) (fun g hg' => (World.ownsRow.lt HO.out g hg').1)
      have HA1 : Hid (Arr w1 g L.length N nx pv rw) := H.out.keep (hb1.block g hg)
      have hO1 : Own w1 w.heap.size 3 v' (l.take (j + 1)) := by rw [HS.out]; exact hown1
      have HO1 := Lib.hid hO1
      have HB1 := Lib.hid hb1
      obtain ⟨A1, c1, rfl⟩ := hO1.form
      have hl1 : (l.take (j + 1)).length = j + 1 := by simp; omega
      have HL1 := Lib.hid hl1
      clear hown1 hb1 hgrow hat hO1 hl1
      go_wp2_with fail
      refine (behind_c HA1.out y (by omega)).mono ?_
      rintro e w2 ⟨rfl, rfl⟩
      go_wp2
      go_roundw
      case rel => exact ⟨j + 1, by omega, by rw [HN.out], by simpa only [List.length_take] using HO1.out, HB1.out⟩
      case measure =>
        obtain ⟨A0, c0, h0⟩ := HO.out.form
        rw [h0]
        have h2 := HL1.out
        simp only [List.length_take, lenOf] at h2 ⊢
        omega
    · have hd : l.getD j (-1) = -1 := by rw [List.getD_eq_getElem?_getD, List.getElem?_eq_none (by omega)]; rfl
      have HS : Hid (l.take j = l) := List.take_of_length_le (by omega)
      rw [hd]
      clear hd
      go_wp2
      go_ret
      have hO := HO.out
      rw [HS.out] at hO
      refine ⟨_, rfl, hO.rd (by omega) (fun b hb => (World.ownsRow.lt hO b hb).1), HB.out, fun A n c he => ?_⟩
      subst he
      rcases hO.2 with ⟨e, hn⟩ | ⟨g, cap, cur, e, _, _, hnc, _⟩
      · injection e with _ e2 e3; omega
      · injection e with _ e2 e3; omega
theorem list_o (r : Int) : Calls Try.prog 30 #[.pointer (some ⟨g, 0, none⟩), .int .i64 r] w fun e w' => ∃ u, e = .returned u ∧ Rd w' (fun b => w.heap.size ≤ b) u (listL L r) ∧ Below w.heap.size w w' := by
  refine (list_f h k r).mono ?_
  rintro e w' ⟨u, rfl, hr, hb, _⟩
  exact ⟨u, rfl, hr, hb⟩
theorem list_c (r : Int) : Calls Try.prog 30 #[.pointer (some ⟨g, 0, none⟩), .int .i64 r] w fun e w' => ∃ u, e = .returned u ∧ Rd w' (fun b => ¬ b = g) u (listL L r) ∧ Below w.heap.size w w' := by
  have hg := h.lt
  refine (list_o h k r).mono ?_
  rintro e w' ⟨u, rfl, hr, hb⟩
  exact ⟨u, rfl, hr.mono fun b _ hb => by omega, hb⟩
end
end Go.Proofs.Ytbkeodjebfkkdaa.RingC
