/-
  A stable sort as plain mathematics, second part: blocks in order, and two of them made one. No condition.
-/
import Derived.Test.YtidkppjhmgehoaaSortP
namespace Go.Proofs.Ytidkppjhmgehoaa.SortP

section
variable {κ : Int → Int} {n B k e : Nat} {g g' : Nat → Int}
theorem div_in {x : Nat} (h1 : k * B ≤ x) (h2 : x < k * B + B) : x / B = k := by
  have hB : 0 < B := by omega
  rw [Nat.div_eq_iff hB]; omega
theorem div_bounds (hB : 0 < B) (x : Nat) : x / B * B ≤ x ∧ x < x / B * B + B := ⟨Nat.div_mul_le_self x B, Nat.lt_div_mul_add hB⟩

/-- In order by blocks, of the first m. -/
def BlkTo (κ : Int → Int) (B m : Nat) (f : Nat → Int) : Prop := ∀ s t, s < t → t < m → s / B = t / B → κ (f s) ≤ κ (f t)
theorem blkto_step (hB : 0 < B) (h : BlkTo κ B (k * B) g) (m : Mrg κ n (k * B) e g g') (he : e ≤ k * B + B) : BlkTo κ B e g' := fun s t hst ht hd => by
  by_cases h1 : t < k * B
  · rw [m.out s (by omega), m.out t (by omega)]
    exact h s t hst h1 hd
  · have h2 : t / B = k := div_in (by omega) (by omega)
    rw [h2] at hd
    have h3 := (div_bounds hB s).1
    rw [hd] at h3
    exact m.srt s t h3 hst ht
/-- What is left of the blocks. -/
def Rest (κ : Int → Int) (B n z : Nat) (f : Nat → Int) : Prop := ∀ s t, z ≤ s → s < t → t < n → s / B = t / B → κ (f s) ≤ κ (f t)
theorem rest_srt {z : Nat} (h : Rest κ B n z g) (j : Nat) (hz : z ≤ j * B) (he : e ≤ j * B + B) (hen : e ≤ n) : Srt κ g (j * B) e := fun s t h1 h2 h3 =>
  h s t (by omega) h2 (by omega) (by rw [div_in h1 (by omega), div_in (k := j) (by omega : j * B ≤ t) (by omega)])

/-- Pairs of blocks, the first k of which are made one. -/
structure Half (κ : Int → Int) (B n k : Nat) (f : Nat → Int) : Prop where
  done : BlkTo κ (2 * B) (k * (2 * B)) f
  rest : Rest κ B n (k * (2 * B)) f
theorem two_mul (k B : Nat) : k * (2 * B) = 2 * k * B := by rw [Nat.mul_comm 2 k, Nat.mul_assoc]
theorem half_start (h : Blk κ n B g) : Half κ B n 0 g := ⟨fun s t _ h2 _ => by omega, fun s t _ h2 h3 h4 => h s t h2 h3 h4⟩
theorem half_left (h : Half κ B n k g) (he : e ≤ k * (2 * B) + B) (hen : e ≤ n) : Srt κ g (k * (2 * B)) e := by
  have := rest_srt h.rest (2 * k) (by rw [two_mul]; exact Nat.le_refl _) (e := e) (by rw [← two_mul]; exact he) hen
  rw [← two_mul] at this
  exact this
theorem half_right (h : Half κ B n k g) (he : e ≤ k * (2 * B) + 2 * B) (hen : e ≤ n) : Srt κ g (k * (2 * B) + B) e := by
  have e1 : (2 * k + 1) * B = k * (2 * B) + B := by rw [Nat.succ_mul, two_mul]
  have := rest_srt h.rest (2 * k + 1) (by rw [e1]; omega) (e := e) (by rw [e1]; omega) hen
  rw [e1] at this
  exact this
theorem half_step (hB : 0 < B) (h : Half κ B n k g) (m : Mrg κ n (k * (2 * B)) (k * (2 * B) + 2 * B) g g') : Half κ B n (k + 1) g' := by
  have e1 : (k + 1) * (2 * B) = k * (2 * B) + 2 * B := Nat.succ_mul _ _
  refine ⟨by rw [e1]; exact blkto_step (by omega) h.done m (Nat.le_refl _), fun s t h1 h2 h3 h4 => ?_⟩
  rw [e1] at h1
  rw [m.out s (by omega), m.out t (by omega)]
  exact h.rest s t (by omega) h2 h3 h4
theorem half_end (hB : 0 < B) (h : Half κ B n k g) (m : Mrg κ n (k * (2 * B)) n g g') (hn : n ≤ k * (2 * B) + 2 * B) : Blk κ n (2 * B) g' := fun s t h1 h2 h3 => blkto_step (by omega) h.done m hn s t h1 h2 h3
theorem half_short (hB : 0 < B) (h : Half κ B n k g) (hn : n ≤ k * (2 * B) + B) : Blk κ n (2 * B) g := fun s t h1 h2 h3 => by
  by_cases h4 : t < k * (2 * B)
  · exact h.done s t h1 h4 h3
  · have h5 : t / (2 * B) = k := div_in (by omega) (by omega)
    rw [h5] at h3
    have h6 := (div_bounds (B := 2 * B) (by omega) s).1
    rw [h3] at h6
    exact half_left h (e := n) hn (Nat.le_refl _) s t h6 h1 h2
end
end Go.Proofs.Ytidkppjhmgehoaa.SortP
