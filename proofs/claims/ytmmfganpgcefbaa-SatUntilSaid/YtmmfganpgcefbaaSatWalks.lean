/-
  Contracts of the functions of package sat, for all int64 arguments, in whatever world: what each returns. Conditions: the arguments fit int64.
-/
import Derived.Test.YtmmfganpgcefbaaRows
import Derived.WalkKit
import Derived.ProofKit
import Derived.OpenShut
import Derived.IntWalk
import Derived.Lib.Hide
namespace Go.Proofs.Ytmmfganpgcefbaa.SatW
open Go.ChangeShapes Go.WideShapes Go.ChangeAt Go.RowKit

theorem ret_int {k : IntKind} {a b : Int} (h : a = b) : Ending.returned (.int k a) = .returned (.int k b) := by rw [h]

def cutv (n : Int) (a b : Bool) : Int := if a = true then 9223372036854775807 else if b = true then -9223372036854775808 else n
def satv (n : Int) : Int := if n > 9223372036854775807 then 9223372036854775807 else if n < -9223372036854775808 then -9223372036854775808 else n

theorem cut_any (n : Int) (a b : Bool) (w : World) :
    Calls Try.prog 18 #[.int .i64 n, .bool a, .bool b] w fun e w' => e = .returned (.int .i64 (cutv n a b)) ∧ w = w' := by
  cases a <;> cases b
  all_goals
    go_enter Try.func18, Try.ntmps18
    go_wp2
    go_ret
    exact ⟨rfl, rfl⟩

theorem add_any (a b : Int) (w : World) (ha : -9223372036854775808 ≤ a) (ha' : a ≤ 9223372036854775807) (hb : -9223372036854775808 ≤ b) (hb' : b ≤ 9223372036854775807) :
    Calls Try.prog 8 #[.int .i64 a, .int .i64 b] w fun e w' => e = .returned (.int .i64 (satv (a + b))) ∧ w = w' := by
  rcases (by omega : (0 < b ∧ 0 ≤ b ∧ 9223372036854775807 - b < a) ∨ (0 < b ∧ 0 ≤ b ∧ a ≤ 9223372036854775807 - b) ∨ (b ≤ 0 ∧ 0 ≤ b) ∨ (b ≤ 0 ∧ b < 0 ∧ a < -9223372036854775808 - b) ∨ (b ≤ 0 ∧ b < 0 ∧ -9223372036854775808 - b ≤ a)) with ⟨h1, h2, h3⟩ | ⟨h1, h2, h3⟩ | ⟨h1, h2⟩ | ⟨h1, h2, h3⟩ | ⟨h1, h2, h3⟩
  all_goals
    go_enter Try.func8, Try.ntmps8
    go_wp2_with (go_at_call 18; refine (cut_any _ _ _ _).mono ?_; rintro e w' ⟨rfl, rfl⟩)
    go_ret
    exact ⟨ret_int (by unfold cutv satv; simp; omega), rfl⟩

theorem sub_any (a b : Int) (w : World) (ha : -9223372036854775808 ≤ a) (ha' : a ≤ 9223372036854775807) (hb : -9223372036854775808 ≤ b) (hb' : b ≤ 9223372036854775807) :
    Calls Try.prog 10 #[.int .i64 a, .int .i64 b] w fun e w' => e = .returned (.int .i64 (satv (a - b))) ∧ w = w' := by
  rcases (by omega : (0 < b ∧ 0 ≤ b ∧ a < -9223372036854775808 + b) ∨ (0 < b ∧ 0 ≤ b ∧ -9223372036854775808 + b ≤ a) ∨ (b ≤ 0 ∧ 0 ≤ b) ∨ (b ≤ 0 ∧ b < 0 ∧ 9223372036854775807 + b < a) ∨ (b ≤ 0 ∧ b < 0 ∧ a ≤ 9223372036854775807 + b)) with ⟨h1, h2, h3⟩ | ⟨h1, h2, h3⟩ | ⟨h1, h2⟩ | ⟨h1, h2, h3⟩ | ⟨h1, h2, h3⟩
  all_goals
    go_enter Try.func10, Try.ntmps10
    go_wp2_with (go_at_call 18; refine (cut_any _ _ _ _).mono ?_; rintro e w' ⟨rfl, rfl⟩)
    go_ret
    exact ⟨ret_int (by unfold cutv satv; simp; omega), rfl⟩

theorem add_eq (a b v : Int) (w : World) (ha : -9223372036854775808 ≤ a) (ha' : a ≤ 9223372036854775807) (hb : -9223372036854775808 ≤ b) (hb' : b ≤ 9223372036854775807) (hv : Hid (satv (a + b) = v)) :
    Calls Try.prog 8 #[.int .i64 a, .int .i64 b] w fun e w' => e = .returned (.int .i64 v) ∧ w = w' := by
  have h := add_any a b w ha ha' hb hb'
  rw [hv.out] at h; exact h
theorem sub_eq (a b v : Int) (w : World) (ha : -9223372036854775808 ≤ a) (ha' : a ≤ 9223372036854775807) (hb : -9223372036854775808 ≤ b) (hb' : b ≤ 9223372036854775807) (hv : Hid (satv (a - b) = v)) :
    Calls Try.prog 10 #[.int .i64 a, .int .i64 b] w fun e w' => e = .returned (.int .i64 v) ∧ w = w' := by
  have h := sub_any a b w ha ha' hb hb'
  rw [hv.out] at h; exact h

def untilv (a b : Int) : Int := if a < b then 0 else satv (a - b)

theorem until_any (a b : Int) (w : World) (ha : -9223372036854775808 ≤ a) (ha' : a ≤ 9223372036854775807) (hb : -9223372036854775808 ≤ b) (hb' : b ≤ 9223372036854775807) :
    Calls Try.prog 12 #[.int .i64 a, .int .i64 b] w fun e w' => e = .returned (.int .i64 (untilv a b)) ∧ w = w' := by
  by_cases h : a < b
  all_goals
    go_enter Try.func12, Try.ntmps12
    go_wp2_with (go_at_call 10; refine (sub_any _ _ _ ha ha' hb hb').mono ?_; rintro e w' ⟨rfl, rfl⟩)
    go_ret
    exact ⟨ret_int (by unfold untilv; simp; omega), rfl⟩

theorem until_eq (a b v : Int) (w : World) (ha : -9223372036854775808 ≤ a) (ha' : a ≤ 9223372036854775807) (hb : -9223372036854775808 ≤ b) (hb' : b ≤ 9223372036854775807) (hv : Hid (untilv a b = v)) :
    Calls Try.prog 12 #[.int .i64 a, .int .i64 b] w fun e w' => e = .returned (.int .i64 v) ∧ w = w' := by
  have h := until_any a b w ha ha' hb hb'
  rw [hv.out] at h; exact h

def fitsv (a b c : Int) : Bool := decide (0 ≤ a ∧ 0 ≤ b ∧ 0 ≤ c ∧ a + b ≤ c)
theorem ret_bool {a b : Bool} (h : a = b) : Ending.returned (.bool a) = .returned (.bool b) := by rw [h]

theorem fits_any (a b c : Int) (w : World) (ha' : a ≤ 9223372036854775807) (hb' : b ≤ 9223372036854775807) (hc' : c ≤ 9223372036854775807) :
    Calls Try.prog 16 #[.int .i64 a, .int .i64 b, .int .i64 c] w fun e w' => e = .returned (.bool (fitsv a b c)) ∧ w = w' := by
  rcases (by omega : (a < 0) ∨ (0 ≤ a ∧ b < 0) ∨ (0 ≤ a ∧ 0 ≤ b ∧ c < 0) ∨ (0 ≤ a ∧ 0 ≤ b ∧ 0 ≤ c ∧ b ≤ c - a) ∨ (0 ≤ a ∧ 0 ≤ b ∧ 0 ≤ c ∧ c - a < b)) with h1 | ⟨h1, h2⟩ | ⟨h1, h2, h3⟩ | ⟨h1, h2, h3, h4⟩ | ⟨h1, h2, h3, h4⟩
  all_goals
    go_enter Try.func16, Try.ntmps16
    go_wp2
    go_ret
    exact ⟨ret_bool (by unfold fitsv; first | (symm; apply decide_eq_true; omega) | (symm; apply decide_eq_false; omega) | (rw [Bool.eq_iff_iff]; simp; omega)), rfl⟩

theorem fits_true (a b c : Int) (w : World) (ha' : a ≤ 9223372036854775807) (hb' : b ≤ 9223372036854775807) (hc' : c ≤ 9223372036854775807) (h : 0 ≤ a ∧ 0 ≤ b ∧ 0 ≤ c ∧ a + b ≤ c) :
    Calls Try.prog 16 #[.int .i64 a, .int .i64 b, .int .i64 c] w fun e w' => e = .returned (.bool true) ∧ w = w' :=
  (fits_any a b c w ha' hb' hc').mono fun _ _ ⟨he, hw⟩ => ⟨by rw [he]; unfold fitsv; rw [decide_eq_true h], hw⟩
theorem fits_false (a b c : Int) (w : World) (ha' : a ≤ 9223372036854775807) (hb' : b ≤ 9223372036854775807) (hc' : c ≤ 9223372036854775807) (h : a < 0 ∨ b < 0 ∨ c < 0 ∨ c < a + b) :
    Calls Try.prog 16 #[.int .i64 a, .int .i64 b, .int .i64 c] w fun e w' => e = .returned (.bool false) ∧ w = w' :=
  (fits_any a b c w ha' hb' hc').mono fun _ _ ⟨he, hw⟩ => ⟨by rw [he]; unfold fitsv; rw [decide_eq_false (by omega)], hw⟩

theorem in64 {a : Int} (h : (Lit.int .i64 a).wf = true) : -9223372036854775808 ≤ a ∧ a ≤ 9223372036854775807 := by
  have h1 : IntKind.i64.min = -9223372036854775808 := rfl
  have h2 : IntKind.i64.max = 9223372036854775807 := rfl
  simp only [Lit.wf, Bool.and_eq_true, decide_eq_true_eq] at h
  omega

def leastv (l : List Int) : Int := l.foldl min 9223372036854775807

theorem leastv_snoc (l : List Int) (x : Int) : leastv (l ++ [x]) = if x < leastv l then x else leastv l := by
  unfold leastv; rw [List.foldl_append]; simp only [List.foldl]; omega
theorem take_snoc (l : List Int) (k : Nat) (h : k < l.length) : l.take (k + 1) = l.take k ++ [l.getD k 0] := by
  rw [List.take_succ_eq_append_getElem h]; simp [List.getD, h]

theorem least_empty (a : Option Addr) (cap : Nat) (w : World) :
    Calls Try.prog 14 #[.slice a 0 cap] w fun e w' => e = .returned (.int .i64 (leastv [])) ∧ w = w' := by
  go_enter Try.func14, Try.ntmps14
  go_wp2
  refine wp_loop_rounds 1 ?_
  rw [rounds_succ]
  go_wp2
  go_ret
  exact ⟨rfl, rfl⟩

theorem least_any (b off len cap : Nat) (zs : List Int) (w : World) (hz : len ≤ zs.length) (hm : len ≤ 9223372036854775807)
    (hc : ∀ j, j < len → w.cell? ⟨b, off + j, none⟩ = some (.int .i64 (zs.getD j 0))) :
    Calls Try.prog 14 #[.slice (some ⟨b, off, none⟩) len cap] w fun e w' => e = .returned (.int .i64 (leastv (zs.take len))) ∧ w = w' := by
  go_enter Try.func14, Try.ntmps14
  go_wp2
  go_loop [3, 8] (fun t i => ∃ k : Nat, k ≤ len ∧ i = .int .i64 k ∧ t = .int .i64 (leastv (zs.take k))) (fun _ i => len - (intOf i).toNat)
  case atStart => exact ⟨0, Nat.zero_le _, rfl, rfl⟩
  case round =>
    obtain ⟨k, hk, rfl, rfl⟩ := hrel
    by_cases hlt : k < len
    · have hcell := hc k hlt
      have HS : Hid (leastv (zs.take (k + 1)) = if zs[k]?.getD 0 < leastv (zs.take k) then zs[k]?.getD 0 else leastv (zs.take k)) := by
        rw [take_snoc zs k (by omega)]; exact leastv_snoc _ _
      go_wp2
      go_round
      case rel => exact ⟨k + 1, by omega, by go_num, by rw [HS.out]⟩
      case measure => simp [intOf]; omega
    · go_wp2
      go_ret
      have : k = len := by omega
      subst this
      exact ⟨rfl, rfl⟩

theorem rleast_empty (a : Option Addr) (cap : Nat) (w : World) :
    Calls Try.prog 15 #[.slice a 0 cap] w fun e w' => e = .returned (.int .i64 (leastv [])) ∧ w = w' := by
  go_enter Try.func15, Try.ntmps15
  go_wp2
  refine wp_loop_rounds 1 ?_
  rw [rounds_succ]
  go_wp2
  go_ret
  exact ⟨rfl, rfl⟩

theorem rleast_any (b off len cap : Nat) (zs : List Int) (w : World) (hz : len ≤ zs.length) (hm : len ≤ 9223372036854775807)
    (hc : ∀ j, j < len → w.cell? ⟨b, off + j, none⟩ = some (.int .i64 (zs.getD j 0))) :
    Calls Try.prog 15 #[.slice (some ⟨b, off, none⟩) len cap] w fun e w' => e = .returned (.int .i64 (leastv (zs.take len))) ∧ w = w' := by
  go_enter Try.func15, Try.ntmps15
  go_wp2
  go_loop [3, 4] (fun t i => ∃ k : Nat, k ≤ len ∧ i = .int .i64 k ∧ t = .int .i64 (leastv (zs.take k))) (fun _ i => len - (intOf i).toNat)
  case atStart => exact ⟨0, Nat.zero_le _, rfl, rfl⟩
  case round =>
    obtain ⟨k, hk, rfl, rfl⟩ := hrel
    by_cases hlt : k < len
    · have hcell := hc k hlt
      have HS : Hid (leastv (zs.take (k + 1)) = if zs[k]?.getD 0 < leastv (zs.take k) then zs[k]?.getD 0 else leastv (zs.take k)) := by
        rw [take_snoc zs k (by omega)]; exact leastv_snoc _ _
      go_wp2
      all_goals
        go_round
        case rel => exact ⟨k + 1, by omega, by go_num, by rw [HS.out]; first | rw [if_pos ‹_›] | rw [if_neg (by omega)]⟩
        case measure => simp [intOf]; omega
    · go_wp2
      go_ret
      have : k = len := by omega
      subst this
      exact ⟨rfl, rfl⟩

theorem radd_any (a b : Int) (w : World) (ha : -9223372036854775808 ≤ a) (ha' : a ≤ 9223372036854775807) (hb : -9223372036854775808 ≤ b) (hb' : b ≤ 9223372036854775807) :
    Calls Try.prog 9 #[.int .i64 a, .int .i64 b] w fun e w' => e = .returned (.int .i64 (satv (a + b))) ∧ w = w' := by
  rcases (by omega : (0 < b ∧ 0 ≤ b ∧ 9223372036854775807 - b < a) ∨ (0 < b ∧ 0 ≤ b ∧ a ≤ 9223372036854775807 - b) ∨ (b ≤ 0 ∧ 0 ≤ b) ∨ (b ≤ 0 ∧ b < 0 ∧ a < -9223372036854775808 - b) ∨ (b ≤ 0 ∧ b < 0 ∧ -9223372036854775808 - b ≤ a)) with ⟨h1, h2, h3⟩ | ⟨h1, h2, h3⟩ | ⟨h1, h2⟩ | ⟨h1, h2, h3⟩ | ⟨h1, h2, h3⟩
  all_goals
    go_enter Try.func9, Try.ntmps9
    go_wp2
    go_ret
    exact ⟨ret_int (by unfold satv; simp; omega), rfl⟩

theorem rsub_any (a b : Int) (w : World) (ha : -9223372036854775808 ≤ a) (ha' : a ≤ 9223372036854775807) (hb : -9223372036854775808 ≤ b) (hb' : b ≤ 9223372036854775807) :
    Calls Try.prog 11 #[.int .i64 a, .int .i64 b] w fun e w' => e = .returned (.int .i64 (satv (a - b))) ∧ w = w' := by
  rcases (by omega : (0 < b ∧ 0 ≤ b ∧ a < -9223372036854775808 + b) ∨ (0 < b ∧ 0 ≤ b ∧ -9223372036854775808 + b ≤ a) ∨ (b ≤ 0 ∧ 0 ≤ b) ∨ (b ≤ 0 ∧ b < 0 ∧ 9223372036854775807 + b < a) ∨ (b ≤ 0 ∧ b < 0 ∧ a ≤ 9223372036854775807 + b)) with ⟨h1, h2, h3⟩ | ⟨h1, h2, h3⟩ | ⟨h1, h2⟩ | ⟨h1, h2, h3⟩ | ⟨h1, h2, h3⟩
  all_goals
    go_enter Try.func11, Try.ntmps11
    go_wp2
    go_ret
    exact ⟨ret_int (by unfold satv; simp; omega), rfl⟩

theorem runtil_any (a b : Int) (w : World) (ha : -9223372036854775808 ≤ a) (ha' : a ≤ 9223372036854775807) (hb : -9223372036854775808 ≤ b) (hb' : b ≤ 9223372036854775807) :
    Calls Try.prog 13 #[.int .i64 a, .int .i64 b] w fun e w' => e = .returned (.int .i64 (untilv a b)) ∧ w = w' := by
  by_cases h : a < b
  all_goals
    go_enter Try.func13, Try.ntmps13
    go_wp2_with (go_at_call 11; refine (rsub_any _ _ _ ha ha' hb hb').mono ?_; rintro e w' ⟨rfl, rfl⟩)
    go_ret
    exact ⟨ret_int (by unfold untilv; simp; omega), rfl⟩

theorem satv_in (n : Int) : -9223372036854775808 ≤ satv n ∧ satv n ≤ 9223372036854775807 := by unfold satv; omega

theorem satv_cases (n : Int) : (n > 9223372036854775807 ∧ satv n = 9223372036854775807) ∨ (n < -9223372036854775808 ∧ satv n = -9223372036854775808) ∨ (-9223372036854775808 ≤ n ∧ n ≤ 9223372036854775807 ∧ satv n = n) := by
  unfold satv; omega

theorem rfits_any (a b c : Int) (w : World) (ha : -9223372036854775808 ≤ a) (ha' : a ≤ 9223372036854775807) (hb : -9223372036854775808 ≤ b) (hb' : b ≤ 9223372036854775807) (hc' : c ≤ 9223372036854775807) :
    Calls Try.prog 17 #[.int .i64 a, .int .i64 b, .int .i64 c] w fun e w' => e = .returned (.bool (fitsv a b c)) ∧ w = w' := by
  rcases (by omega : (a < 0) ∨ (0 ≤ a ∧ b < 0) ∨ (0 ≤ a ∧ 0 ≤ b ∧ c < 0) ∨ (0 ≤ a ∧ 0 ≤ b ∧ 0 ≤ c)) with h1 | ⟨h1, h2⟩ | ⟨h1, h2, h3⟩ | ⟨h1, h2, h3⟩
  all_goals
    go_enter Try.func17, Try.ntmps17
    go_wp2_with (first | (go_at_call 9; refine (radd_any _ _ _ ha ha' hb hb').mono ?_; rintro e w' ⟨rfl, rfl⟩) | (go_at_call 11; refine (rsub_any _ _ _ (by omega) (by omega) hb hb').mono ?_; rintro e w' ⟨rfl, rfl⟩))
    all_goals
      go_ret
      exact ⟨ret_bool (by
        rw [Bool.eq_iff_iff]; unfold fitsv
        have s1 := satv_cases (a + b)
        have s2 := satv_cases (9223372036854775807 - b)
        generalize satv (a + b) = x at *
        generalize satv (9223372036854775807 - b) = y at *
        simp; omega), rfl⟩

theorem aw1 (w : World) : Calls Try.prog 8 #[.int .i64 9223372036854775807, .int .i64 1] w fun e w' => e = .returned (.int .i64 9223372036854775807) ∧ w = w' := add_any _ _ w (by omega) (by omega) (by omega) (by omega)
theorem aw2 (w : World) : Calls Try.prog 8 #[.int .i64 2, .int .i64 3] w fun e w' => e = .returned (.int .i64 5) ∧ w = w' := add_any _ _ w (by omega) (by omega) (by omega) (by omega)
theorem aw3 (w : World) : Calls Try.prog 10 #[.int .i64 0, .int .i64 (-9223372036854775808)] w fun e w' => e = .returned (.int .i64 9223372036854775807) ∧ w = w' := sub_any _ _ w (by omega) (by omega) (by omega) (by omega)
theorem aw4 (w : World) : Calls Try.prog 10 #[.int .i64 (-5), .int .i64 2] w fun e w' => e = .returned (.int .i64 (-7)) ∧ w = w' := sub_any _ _ w (by omega) (by omega) (by omega) (by omega)
theorem aw5 (w : World) : Calls Try.prog 12 #[.int .i64 3, .int .i64 8] w fun e w' => e = .returned (.int .i64 0) ∧ w = w' := until_any _ _ w (by omega) (by omega) (by omega) (by omega)
theorem aw6 (w : World) : Calls Try.prog 12 #[.int .i64 8, .int .i64 3] w fun e w' => e = .returned (.int .i64 5) ∧ w = w' := until_any _ _ w (by omega) (by omega) (by omega) (by omega)
theorem aw7 (w : World) : Calls Try.prog 14 #[.slice none 0 0] w fun e w' => e = .returned (.int .i64 9223372036854775807) ∧ w = w' := least_empty none 0 w
theorem aw8 (b : Nat) (w : World) (h0 : w.cell? ⟨b, 0, none⟩ = some (.int .i64 4)) (h1 : w.cell? ⟨b, 1, none⟩ = some (.int .i64 (-2))) (h2 : w.cell? ⟨b, 2, none⟩ = some (.int .i64 9)) :
    Calls Try.prog 14 #[.slice (some ⟨b, 0, none⟩) 3 3] w fun e w' => e = .returned (.int .i64 (-2)) ∧ w = w' := by
  have hv : leastv (List.take 3 [4, -2, 9]) = -2 := by decide
  rw [← hv]
  exact least_any b 0 3 3 [4, -2, 9] w (by simp) (by omega) (fun j hj => by
    match j, hj with
    | 0, _ => exact h0
    | 1, _ => exact h1
    | 2, _ => exact h2)
theorem aw9 (w : World) : Calls Try.prog 16 #[.int .i64 2, .int .i64 3, .int .i64 5] w fun e w' => e = .returned (.bool true) ∧ w = w' := fits_any _ _ _ w (by omega) (by omega) (by omega)
theorem aw10 (w : World) : Calls Try.prog 16 #[.int .i64 3, .int .i64 3, .int .i64 5] w fun e w' => e = .returned (.bool false) ∧ w = w' := fits_any _ _ _ w (by omega) (by omega) (by omega)
theorem aw11 (w : World) : Calls Try.prog 16 #[.int .i64 (-1), .int .i64 1, .int .i64 5] w fun e w' => e = .returned (.bool false) ∧ w = w' := fits_any _ _ _ w (by omega) (by omega) (by omega)

theorem awake_below (w : World) : Calls Try.prog 7 #[] w fun e w' => e = .returned (.bool true) ∧ Below w.heap.size w w' := by
  go_enter Try.func7, Try.ntmps7
  go_wp2_with (first
    | (go_at_call 8; (first | (with_reducible refine (aw1 _).mono ?_) | (with_reducible refine (aw2 _).mono ?_)); rintro e w' ⟨rfl, rfl⟩)
    | (go_at_call 10; (first | (with_reducible refine (aw3 _).mono ?_) | (with_reducible refine (aw4 _).mono ?_)); rintro e w' ⟨rfl, rfl⟩)
    | (go_at_call 12; (first | (with_reducible refine (aw5 _).mono ?_) | (with_reducible refine (aw6 _).mono ?_)); rintro e w' ⟨rfl, rfl⟩)
    | (go_at_call 14; (first | (with_reducible refine (aw7 _).mono ?_) | (refine (aw8 _ _ (by go_simp) (by go_simp) (by go_simp)).mono ?_)); rintro e w' ⟨rfl, rfl⟩)
    | (go_at_call 16; (first | (with_reducible refine (aw9 _).mono ?_) | (with_reducible refine (aw10 _).mono ?_) | (with_reducible refine (aw11 _).mono ?_)); rintro e w' ⟨rfl, rfl⟩))
  go_ret
  exact ⟨rfl, (Below.refl _ _).alloc (Nat.le_refl _) _⟩
theorem grown_of_below {w w' : World} (h : Below w.heap.size w w') (hf : ∀ a, w'.frozen? a = w.frozen? a) : Grown w w' := ⟨h.frame _, hf, h.size⟩
theorem awake_any (w : World) : Calls Try.prog 7 #[] w fun e w' => e = .returned (.bool true) ∧ Grown w w' := by
  go_enter Try.func7, Try.ntmps7
  go_wp2_with (first
    | (go_at_call 8; (first | (with_reducible refine (aw1 _).mono ?_) | (with_reducible refine (aw2 _).mono ?_)); rintro e w' ⟨rfl, rfl⟩)
    | (go_at_call 10; (first | (with_reducible refine (aw3 _).mono ?_) | (with_reducible refine (aw4 _).mono ?_)); rintro e w' ⟨rfl, rfl⟩)
    | (go_at_call 12; (first | (with_reducible refine (aw5 _).mono ?_) | (with_reducible refine (aw6 _).mono ?_)); rintro e w' ⟨rfl, rfl⟩)
    | (go_at_call 14; (first | (with_reducible refine (aw7 _).mono ?_) | (refine (aw8 _ _ (by go_simp) (by go_simp) (by go_simp)).mono ?_)); rintro e w' ⟨rfl, rfl⟩)
    | (go_at_call 16; (first | (with_reducible refine (aw9 _).mono ?_) | (with_reducible refine (aw10 _).mono ?_) | (with_reducible refine (aw11 _).mono ?_)); rintro e w' ⟨rfl, rfl⟩))
  go_ret
  exact ⟨rfl, by repeat (first | exact Grown.refl _ | apply Grown.drew | apply Grown.alloc)⟩
end Go.Proofs.Ytmmfganpgcefbaa.SatW
