/-
  A stable sort as plain mathematics: rows as functions of their places; what swaps, moves, rotations and merges make of them. No condition.
-/
import Derived.Test.YtidkppjhmgehoaaMem
namespace Go.Proofs.Ytidkppjhmgehoaa.SortP

def tab (n : Nat) (f : Nat → Int) : List Int := (List.range n).map f
def swp (f : Nat → Int) (i j : Nat) : Nat → Int := fun t => if t = i then f j else if t = j then f i else f t
theorem tab_len (n : Nat) (f : Nat → Int) : (tab n f).length = n := by simp [tab]
theorem tab_get {n i : Nat} {f : Nat → Int} (h : i < n) : (tab n f)[i]? = some (f i) := by
  unfold tab
  rw [List.getElem?_map, List.getElem?_range h]
  rfl
theorem tab_out {n i : Nat} {f : Nat → Int} (h : n ≤ i) : (tab n f)[i]? = none := List.getElem?_eq_none (by rw [tab_len]; exact h)
theorem tab_congr {n : Nat} {f g : Nat → Int} (h : ∀ i, i < n → f i = g i) : tab n f = tab n g := by
  unfold tab
  exact List.map_congr_left fun i hi => h i (List.mem_range.1 hi)
theorem tab_swp {n i j : Nat} {f : Nat → Int} (hi : i < n) (hj : j < n) : ((tab n f).set i (f j)).set j (f i) = tab n (swp f i j) := by
  refine List.ext_getElem? fun t => ?_
  rw [List.getElem?_set, List.getElem?_set]
  simp only [List.length_set, tab_len]
  rcases Nat.lt_or_ge t n with ht | ht
  · rw [tab_get (f := swp f i j) ht]
    unfold swp
    by_cases h1 : j = t
    · subst h1
      rw [if_pos rfl, if_pos hj]
      by_cases h2 : j = i
      · subst h2; simp
      · rw [if_neg h2, if_pos rfl]
    · rw [if_neg h1]
      by_cases h2 : i = t
      · subst h2
        rw [if_pos rfl, if_pos hi, if_pos rfl]
      · rw [if_neg h2, tab_get ht, if_neg fun h => h2 h.symm, if_neg fun h => h1 h.symm]
  · rw [if_neg (by omega), if_neg (by omega), tab_out ht, tab_out ht]
theorem swp_perm {n i j : Nat} {f : Nat → Int} (hi : i < n) (hj : j < n) : (tab n (swp f i j)).Perm (tab n f) := by
  rw [← tab_swp hi hj]
  have h1 : (tab n f)[i]'(by rw [tab_len]; exact hi) = f i := by simp [tab]
  have h2 : (tab n f)[j]'(by rw [tab_len]; exact hj) = f j := by simp [tab]
  have := List.set_set_perm (as := tab n f) (i := i) (j := j) (by rw [tab_len]; exact hi) (by rw [tab_len]; exact hj)
  rw [h1, h2] at this
  exact this
theorem swp_comm (f : Nat → Int) (i j : Nat) : swp f i j = swp f j i := by
  funext t
  unfold swp
  by_cases h1 : t = i
  · by_cases h2 : t = j
    · subst h1; subst h2; simp
    · simp [h1]
      intro h; rw [← h]
  · simp [h1]

section
variable (κ : Int → Int)
/-- In order, from a to b. -/
def Srt (f : Nat → Int) (a b : Nat) : Prop := ∀ s t, a ≤ s → s < t → t < b → κ (f s) ≤ κ (f t)
/-- Those of one key stand by their numbers. -/
def Stb (n : Nat) (f : Nat → Int) : Prop := ∀ s t, s < t → t < n → κ (f s) = κ (f t) → f s < f t
/-- f' is f, from a to b in order, elsewhere as it was. -/
structure Mrg (n a b : Nat) (f f' : Nat → Int) : Prop where
  perm : (tab n f').Perm (tab n f)
  out : ∀ t, t < a ∨ b ≤ t → f' t = f t
  inn : ∀ t, a ≤ t → t < b → ∃ s, a ≤ s ∧ s < b ∧ f' t = f s
  srt : Srt κ f' a b
  stb : Stb κ n f'
end
section
variable {κ : Int → Int} {n : Nat} {f : Nat → Int}
theorem stb_map {σ : Nat → Nat} (h : Stb κ n f) (hs : ∀ s t, s < t → t < n → (σ s < σ t ∧ σ t < n) ∨ κ (f (σ s)) ≠ κ (f (σ t))) : Stb κ n (fun t => f (σ t)) := fun s t hst ht he => by
  rcases hs s t hst ht with ⟨h1, h2⟩ | h1
  · exact h _ _ h1 h2 he
  · exact absurd he h1
theorem swp_map (i j : Nat) : swp f i j = fun t => f (if t = i then j else if t = j then i else t) := by
  funext t
  unfold swp
  split
  · rfl
  · split <;> rfl
theorem stb_swp {i : Nat} (h : Stb κ n f) (hi : i + 1 < n) (hk : κ (f (i + 1)) < κ (f i)) : Stb κ n (swp f (i + 1) i) := by
  rw [swp_map]
  refine stb_map h fun s t hst ht => ?_
  by_cases h1 : s = i + 1
  · left; subst h1; rw [if_pos rfl, if_neg (by omega), if_neg (by omega)]; omega
  · rw [if_neg h1]
    by_cases h2 : s = i
    · subst h2
      rw [if_pos rfl]
      by_cases h3 : t = s + 1
      · right; subst h3; rw [if_pos rfl]; omega
      · left; rw [if_neg h3, if_neg (by omega)]; omega
    · rw [if_neg h2]
      left
      by_cases h3 : t = i + 1
      · rw [if_pos h3]; omega
      · rw [if_neg h3]
        by_cases h4 : t = i
        · rw [if_pos h4]; omega
        · rw [if_neg h4]; omega

/-- One of those in order, j, is on its way down. -/
def Ins (κ : Int → Int) (f : Nat → Int) (a i j : Nat) : Prop := (∀ s t, a ≤ s → s < t → t ≤ i → s ≠ j → t ≠ j → κ (f s) ≤ κ (f t)) ∧ ∀ t, j < t → t ≤ i → κ (f j) ≤ κ (f t)
theorem ins_start {a i : Nat} (h : Srt κ f a i) : Ins κ f a i i := ⟨fun s t h1 h2 h3 h4 h5 => h s t h1 h2 (by omega), fun t h1 h2 => by omega⟩
theorem ins_step {a i j : Nat} (h : Ins κ f a i (j + 1)) (hj : a ≤ j) (hk : κ (f (j + 1)) < κ (f j)) (hi : j + 1 ≤ i) : Ins κ (swp f (j + 1) j) a i j := by
  obtain ⟨h1, h2⟩ := h
  have e1 : swp f (j + 1) j (j + 1) = f j := by simp [swp]
  have e2 : swp f (j + 1) j j = f (j + 1) := by simp [swp]
  have e3 : ∀ t, t ≠ j → t ≠ j + 1 → swp f (j + 1) j t = f t := fun t ha hb => by simp [swp, ha, hb]
  refine ⟨fun s t ha hst ht hs ht2 => ?_, fun t hjt ht => ?_⟩
  · by_cases hs1 : s = j + 1
    · subst hs1
      rw [e1, e3 t ht2 (by omega)]
      exact h1 j t hj (by omega) ht (by omega) (by omega)
    · rw [e3 s hs hs1]
      by_cases ht1 : t = j + 1
      · subst ht1
        rw [e1]
        exact h1 s j ha (by omega) (by omega) (by omega) (by omega)
      · rw [e3 t ht2 ht1]
        exact h1 s t ha hst ht hs1 ht1
  · rw [e2]
    by_cases ht1 : t = j + 1
    · subst ht1; rw [e1]; omega
    · rw [e3 t (by omega) ht1]
      exact h2 t (by omega) ht
theorem ins_end {a i j : Nat} (h : Ins κ f a i j) (hji : j ≤ i) (hj : j ≤ a ∨ κ (f (j - 1)) ≤ κ (f j)) : Srt κ f a (i + 1) := fun s t ha hst ht => by
  obtain ⟨h1, h2⟩ := h
  by_cases hs : s = j
  · subst hs; exact h2 t hst (by omega)
  · by_cases ht2 : t = j
    · subst ht2
      rcases hj with hj | hj
      · omega
      · by_cases hs2 : s = t - 1
        · subst hs2; exact hj
        · exact Int.le_trans (h1 s (t - 1) ha (by omega) (by omega) (by omega) (by omega)) hj
    · exact h1 s t ha hst (by omega) hs ht2

/-- The one at a goes up to k; the one at m goes down to k. -/
def bub (f : Nat → Int) (a k : Nat) : Nat → Int := fun t => if a ≤ t ∧ t < k then f (t + 1) else if t = k then f a else f t
def sub (f : Nat → Int) (m k : Nat) : Nat → Int := fun t => if k < t ∧ t ≤ m then f (t - 1) else if t = k then f m else f t
theorem bub_start (f : Nat → Int) (a : Nat) : bub f a a = f := by
  funext t; unfold bub; rw [if_neg (by omega)]; split
  · next h => rw [h]
  · rfl
theorem sub_start (f : Nat → Int) (m : Nat) : sub f m m = f := by
  funext t; unfold sub; rw [if_neg (by omega)]; split
  · next h => rw [h]
  · rfl
theorem bub_step (f : Nat → Int) {a k : Nat} (h : a ≤ k) : swp (bub f a k) k (k + 1) = bub f a (k + 1) := by
  funext t
  unfold swp bub
  by_cases h1 : t = k
  · subst h1; rw [if_pos rfl, if_neg (by omega), if_neg (by omega), if_pos (by omega)]
  · by_cases h2 : t = k + 1
    · subst h2; simp
    · rw [if_neg h1, if_neg h2, if_neg h2, if_neg h1]
      by_cases h3 : a ≤ t ∧ t < k
      · rw [if_pos h3, if_pos (by omega)]
      · rw [if_neg h3, if_neg (by omega)]
theorem sub_step (f : Nat → Int) {m k : Nat} (h : k + 1 ≤ m) : swp (sub f m (k + 1)) (k + 1) k = sub f m k := by
  funext t
  unfold swp sub
  by_cases h1 : t = k + 1
  · subst h1; simp; omega
  · by_cases h2 : t = k
    · subst h2; simp
    · rw [if_neg h1, if_neg h2, if_neg h1, if_neg h2]
      by_cases h3 : k + 1 < t ∧ t ≤ m
      · rw [if_pos h3, if_pos (by omega)]
      · rw [if_neg h3, if_neg (by omega)]
theorem bub_perm (f : Nat → Int) {n a : Nat} : ∀ k, a ≤ k → k < n → (tab n (bub f a k)).Perm (tab n f)
  | 0, h, _ => by
    obtain rfl : a = 0 := by omega
    rw [bub_start]
  | k + 1, h, hk => by
    by_cases ha : a = k + 1
    · subst ha; rw [bub_start]
    · rw [← bub_step f (by omega)]
      exact (swp_perm (by omega) (by omega)).trans (bub_perm f k (by omega) (by omega))
theorem sub_perm (f : Nat → Int) {n m : Nat} (hm : m < n) : ∀ d k, m - k = d → k ≤ m → (tab n (sub f m k)).Perm (tab n f)
  | 0, k, h, h2 => by
    obtain rfl : m = k := by omega
    rw [sub_start]
  | d + 1, k, h, h2 => by
    rw [← sub_step f (by omega)]
    exact (swp_perm (by omega) (by omega)).trans (sub_perm f hm d (k + 1) (by omega) (by omega))
/-- One that stood ahead of those in order has its place. -/
theorem bub_mrg {a b i : Nat} (h : Stb κ n f) (hs : Srt κ f (a + 1) b) (hb : b ≤ n) (h1 : a + 1 ≤ i) (h2 : i ≤ b) (hl : i = a + 1 ∨ κ (f (i - 1)) < κ (f a)) (hr : i = b ∨ κ (f a) ≤ κ (f i)) : Mrg κ n a b f (bub f a (i - 1)) := by
  have hlo : ∀ t, a < t → t < i → κ (f t) < κ (f a) := fun t ht hti => by
    rcases hl with hl | hl
    · omega
    · by_cases he : t = i - 1
      · subst he; exact hl
      · exact Int.lt_of_le_of_lt (hs t (i - 1) (by omega) (by omega) (by omega)) hl
  have hhi : ∀ t, i ≤ t → t < b → κ (f a) ≤ κ (f t) := fun t ht htb => by
    rcases hr with hr | hr
    · omega
    · by_cases he : t = i
      · subst he; exact hr
      · exact Int.le_trans hr (hs i t (by omega) (by omega) htb)
  have hmap : bub f a (i - 1) = fun t => f (if a ≤ t ∧ t < i - 1 then t + 1 else if t = i - 1 then a else t) := by
    funext t; unfold bub; split
    · rfl
    · split <;> rfl
  refine ⟨bub_perm f _ (by omega) (by omega), fun t ht => ?_, fun t h3 h4 => ?_, fun s t h3 h4 h5 => ?_, ?_⟩
  · unfold bub; rw [if_neg (by omega), if_neg (by omega)]
  · rw [hmap]
    by_cases h5 : a ≤ t ∧ t < i - 1
    · exact ⟨t + 1, by omega, by omega, by simp only; rw [if_pos h5]⟩
    · by_cases h6 : t = i - 1
      · exact ⟨a, by omega, by omega, by simp only; rw [if_neg h5, if_pos h6]⟩
      · exact ⟨t, h3, h4, by simp only; rw [if_neg h5, if_neg h6]⟩
  · unfold bub
    by_cases h6 : s < i - 1
    · rw [if_pos ⟨h3, h6⟩]
      by_cases h7 : t < i - 1
      · rw [if_pos ⟨by omega, h7⟩]; exact hs _ _ (by omega) (by omega) (by omega)
      · rw [if_neg (by omega)]
        by_cases h8 : t = i - 1
        · rw [if_pos h8]; exact Int.le_of_lt (hlo _ (by omega) (by omega))
        · rw [if_neg h8]; exact hs _ _ (by omega) (by omega) h5
    · rw [if_neg (by omega), if_neg (show ¬ (a ≤ t ∧ t < i - 1) by omega), if_neg (show ¬ t = i - 1 by omega)]
      by_cases h8 : s = i - 1
      · rw [if_pos h8]; exact hhi _ (by omega) h5
      · rw [if_neg h8]; exact hs _ _ (by omega) h4 h5
  · rw [hmap]
    refine stb_map h fun s t h3 h4 => ?_
    by_cases h5 : a ≤ t ∧ t < i - 1
    · rw [if_pos h5]
      by_cases h6 : a ≤ s
      · rw [if_pos ⟨h6, by omega⟩]; left; omega
      · rw [if_neg (by omega), if_neg (by omega)]; left; omega
    · rw [if_neg h5]
      by_cases h7 : t = i - 1
      · rw [if_pos h7]
        by_cases h6 : a ≤ s
        · rw [if_pos ⟨h6, by omega⟩]; right; exact Int.ne_of_lt (hlo _ (by omega) (by omega))
        · rw [if_neg (by omega), if_neg (by omega)]; left; omega
      · rw [if_neg h7]
        by_cases h6 : a ≤ s ∧ s < i - 1
        · rw [if_pos h6]; left; omega
        · rw [if_neg h6]
          by_cases h8 : s = i - 1
          · rw [if_pos h8]; left; omega
          · rw [if_neg h8]; left; omega
theorem sub_mrg {a m i : Nat} (h : Stb κ n f) (hs : Srt κ f a m) (hb : m + 1 ≤ n) (h1 : a ≤ i) (h2 : i ≤ m) (hl : i = a ∨ κ (f (i - 1)) ≤ κ (f m)) (hr : i = m ∨ κ (f m) < κ (f i)) : Mrg κ n a (m + 1) f (sub f m i) := by
  have hlo : ∀ t, a ≤ t → t < i → κ (f t) ≤ κ (f m) := fun t ht hti => by
    rcases hl with hl | hl
    · omega
    · by_cases he : t = i - 1
      · subst he; exact hl
      · exact Int.le_trans (hs t (i - 1) (by omega) (by omega) (by omega)) hl
  have hhi : ∀ t, i ≤ t → t < m → κ (f m) < κ (f t) := fun t ht htb => by
    rcases hr with hr | hr
    · omega
    · by_cases he : t = i
      · subst he; exact hr
      · exact Int.lt_of_lt_of_le hr (hs i t (by omega) (by omega) htb)
  have hmap : sub f m i = fun t => f (if i < t ∧ t ≤ m then t - 1 else if t = i then m else t) := by
    funext t; unfold sub; split
    · rfl
    · split <;> rfl
  refine ⟨sub_perm f (by omega) _ _ rfl h2, fun t ht => ?_, fun t h3 h4 => ?_, fun s t h3 h4 h5 => ?_, ?_⟩
  · unfold sub; rw [if_neg (by omega), if_neg (by omega)]
  · rw [hmap]
    by_cases h5 : i < t ∧ t ≤ m
    · exact ⟨t - 1, by omega, by omega, by simp only; rw [if_pos h5]⟩
    · by_cases h6 : t = i
      · exact ⟨m, by omega, by omega, by simp only; rw [if_neg h5, if_pos h6]⟩
      · exact ⟨t, h3, h4, by simp only; rw [if_neg h5, if_neg h6]⟩
  · unfold sub
    by_cases h6 : i < s
    · rw [if_pos ⟨h6, by omega⟩, if_pos ⟨by omega, by omega⟩]; exact hs _ _ (by omega) (by omega) (by omega)
    · rw [if_neg (by omega)]
      by_cases h8 : s = i
      · rw [if_pos h8, if_pos ⟨by omega, by omega⟩]; exact Int.le_of_lt (hhi _ (by omega) (by omega))
      · rw [if_neg h8]
        by_cases h7 : i < t
        · rw [if_pos ⟨h7, by omega⟩]
          by_cases h9 : s = t - 1
          · omega
          · exact hs _ _ (by omega) (by omega) (by omega)
        · rw [if_neg (show ¬ (i < t ∧ t ≤ m) by omega)]
          by_cases h9 : t = i
          · rw [if_pos h9]; exact hlo _ (by omega) (by omega)
          · rw [if_neg h9]; exact hs _ _ (by omega) h4 (by omega)
  · rw [hmap]
    refine stb_map h fun s t h3 h4 => ?_
    by_cases h5 : i < t ∧ t ≤ m
    · rw [if_pos h5]
      by_cases h6 : i < s
      · rw [if_pos ⟨h6, by omega⟩]; left; omega
      · rw [if_neg (by omega)]
        by_cases h8 : s = i
        · rw [if_pos h8]; right; exact Int.ne_of_lt (hhi _ (by omega) (by omega))
        · rw [if_neg h8]; left; omega
    · rw [if_neg h5]
      by_cases h7 : t = i
      · rw [if_pos h7, if_neg (by omega), if_neg (by omega)]; left; omega
      · rw [if_neg h7]
        by_cases h6 : i < s ∧ s ≤ m
        · rw [if_pos h6]; left; omega
        · rw [if_neg h6]
          by_cases h8 : s = i
          · rw [if_pos h8]; left; omega
          · rw [if_neg h8]; left; omega

/-- Two ranges change places; two neighbours do. -/
def srσ (a b i : Nat) (t : Nat) : Nat := if a ≤ t ∧ t < a + i then t - a + b else if b ≤ t ∧ t < b + i then t - b + a else t
def rotσ (a m b : Nat) (t : Nat) : Nat := if a ≤ t ∧ t < a + (b - m) then t + (m - a) else if a + (b - m) ≤ t ∧ t < b then t - (b - m) else t
theorem sr_zero (a b : Nat) : srσ a b 0 = id := by funext t; unfold srσ; rw [if_neg (by omega), if_neg (by omega)]; rfl
theorem sr_step (f : Nat → Int) {a b i : Nat} (h : a + i < b) : swp (fun t => f (srσ a b i t)) (a + i) (b + i) = fun t => f (srσ a b (i + 1) t) := by
  rw [swp_map]
  funext t
  congr 1
  unfold srσ
  repeat' split
  all_goals omega
theorem sr_perm (f : Nat → Int) {n a b : Nat} : ∀ i, a + i ≤ b → b + i ≤ n → (tab n fun t => f (srσ a b i t)).Perm (tab n f)
  | 0, _, _ => by rw [sr_zero]; exact List.Perm.refl _
  | i + 1, h1, h2 => by
    rw [← sr_step f (by omega)]
    exact (swp_perm (by omega) (by omega)).trans (sr_perm f i (by omega) (by omega))
theorem rot_less {m i j : Nat} (hi : j < i) (_hj : 0 < j) (hm : i ≤ m) (t : Nat) : srσ (m - i) m j (rotσ (m - (i - j)) m (m + j) t) = rotσ (m - i) m (m + j) t := by
  unfold rotσ srσ
  repeat' split
  all_goals omega
theorem rot_more {m i j : Nat} (hi : i < j) (_hj : 0 < i) (hm : i ≤ m) (t : Nat) : srσ (m - i) (m + j - i) i (rotσ (m - i) m (m + (j - i)) t) = rotσ (m - i) m (m + j) t := by
  unfold rotσ srσ
  repeat' split
  all_goals omega
theorem rot_same {m i : Nat} (_hj : 0 < i) (hm : i ≤ m) (t : Nat) : srσ (m - i) m i t = rotσ (m - i) m (m + i) t := by
  unfold rotσ srσ
  repeat' split
  all_goals omega
theorem rot_stb {a m b : Nat} (h : Stb κ n f) (_ham : a ≤ m) (_hmb : m ≤ b) (hb : b ≤ n) (hk : ∀ s t, a ≤ s → s < m → m ≤ t → t < b → κ (f t) < κ (f s)) : Stb κ n fun t => f (rotσ a m b t) := by
  refine stb_map h fun s t h3 h4 => ?_
  by_cases hx : (m ≤ rotσ a m b s ∧ rotσ a m b s < b) ∧ a ≤ rotσ a m b t ∧ rotσ a m b t < m
  · right
    exact Int.ne_of_lt (hk _ _ hx.2.1 hx.2.2 hx.1.1 hx.1.2)
  · left
    unfold rotσ at hx ⊢
    by_cases h1 : a ≤ s ∧ s < a + (b - m)
    · rw [if_pos h1] at hx ⊢
      by_cases h2 : a ≤ t ∧ t < a + (b - m)
      · rw [if_pos h2] at hx ⊢; omega
      · rw [if_neg h2] at hx ⊢
        by_cases h5 : a + (b - m) ≤ t ∧ t < b
        · rw [if_pos h5] at hx ⊢; omega
        · rw [if_neg h5] at hx ⊢; omega
    · rw [if_neg h1] at hx ⊢
      by_cases h6 : a + (b - m) ≤ s ∧ s < b
      · rw [if_pos h6] at hx ⊢
        rw [if_neg (show ¬ (a ≤ t ∧ t < a + (b - m)) by omega)] at hx ⊢
        by_cases h5 : a + (b - m) ≤ t ∧ t < b
        · rw [if_pos h5] at hx ⊢; omega
        · rw [if_neg h5] at hx ⊢; omega
      · rw [if_neg h6] at hx ⊢
        by_cases h2 : a ≤ t ∧ t < a + (b - m)
        · rw [if_pos h2] at hx ⊢; omega
        · rw [if_neg h2] at hx ⊢
          by_cases h5 : a + (b - m) ≤ t ∧ t < b
          · rw [if_pos h5] at hx ⊢; omega
          · rw [if_neg h5] at hx ⊢; omega

/-- A merge of a part, or nothing to merge. -/
def Part (κ : Int → Int) (n a m b : Nat) (f f' : Nat → Int) : Prop := if a < m ∧ m < b then Mrg κ n a b f f' else f' = f
theorem part_mrg {a m b : Nat} {f' : Nat → Int} (h : Part κ n a m b f f') (ham : a ≤ m) (hmb : m ≤ b) (h1 : Srt κ f a m) (h2 : Srt κ f m b) (hs : Stb κ n f) : Mrg κ n a b f f' := by
  unfold Part at h
  split at h
  · exact h
  · next hn =>
    subst h
    refine ⟨.refl _, fun _ _ => rfl, fun t h3 h4 => ⟨t, h3, h4, rfl⟩, ?_, hs⟩
    by_cases he : a = m
    · subst he; exact h2
    · obtain rfl : m = b := by omega
      exact h1

/-- The place where two rows are cut crosswise. -/
structure Cutp (κ : Int → Int) (f : Nat → Int) (a m b s : Nat) : Prop where
  lo : a ≤ s
  hi : s ≤ m
  mid : s ≤ (a + b) / 2
  end_ : m ≤ (a + b) / 2 + m - s
  endb : (a + b) / 2 + m - s ≤ b
  left : a < s → (a + b) / 2 + m - s < b → κ (f (s - 1)) ≤ κ (f ((a + b) / 2 + m - s))
  right : s < m → m < (a + b) / 2 + m - s → κ (f ((a + b) / 2 + m - s - 1)) < κ (f s)
theorem sym_join {a m b s : Nat} {f1 f2 f3 : Nat → Int} (ham : a < m) (hmb : m < b) (hb : b ≤ n) (h1 : Srt κ f a m) (h2 : Srt κ f m b) (hs : Stb κ n f) (hc : Cutp κ f a m b s)
    (e1 : ∀ t, f1 t = f (rotσ s m ((a + b) / 2 + m - s) t)) (hp : (tab n f1).Perm (tab n f)) (g2 : Part κ n a s ((a + b) / 2) f1 f2) (g3 : Part κ n ((a + b) / 2) ((a + b) / 2 + m - s) b f2 f3) : Mrg κ n a b f f3 := by
  obtain ⟨c1, c2, c3, c4, c5, c6, c7⟩ := hc
  have hq0 : a ≤ (a + b) / 2 ∧ (a + b) / 2 ≤ b := by omega
  generalize hq : (a + b) / 2 = q at *
  generalize he : q + m - s = e at *
  have hse : s + (e - m) = q := by omega
  have hleft : ∀ x y, a ≤ x → x < s → e ≤ y → y < b → κ (f x) ≤ κ (f y) := fun x y hx hxs hy hyb => by
    have hm := c6 (by omega) (by omega)
    have : κ (f x) ≤ κ (f (s - 1)) := by
      by_cases hx1 : x = s - 1
      · subst hx1; exact Int.le_refl _
      · exact h1 _ _ hx (by omega) (by omega)
    have : κ (f e) ≤ κ (f y) := by
      by_cases hy1 : y = e
      · subst hy1; exact Int.le_refl _
      · exact h2 _ _ (by omega) (by omega) hyb
    omega
  have hright : ∀ x y, s ≤ x → x < m → m ≤ y → y < e → κ (f y) < κ (f x) := fun x y hx hxs hy hyb => by
    have hm := c7 (by omega) (by omega)
    have : κ (f s) ≤ κ (f x) := by
      by_cases hx1 : x = s
      · subst hx1; exact Int.le_refl _
      · exact h1 _ _ (by omega) (by omega) (by omega)
    have : κ (f y) ≤ κ (f (e - 1)) := by
      by_cases hy1 : y = e - 1
      · subst hy1; exact Int.le_refl _
      · exact h2 _ _ (by omega) (by omega) (by omega)
    omega
  have r1 : ∀ t, t < s → f1 t = f t := fun t ht => by rw [e1]; unfold rotσ; rw [if_neg (by omega), if_neg (by omega)]
  have r2 : ∀ t, s ≤ t → t < q → f1 t = f (t + (m - s)) := fun t h3 h4 => by rw [e1]; unfold rotσ; rw [if_pos (by omega)]
  have r3 : ∀ t, q ≤ t → t < e → f1 t = f (t - (e - m)) := fun t h3 h4 => by rw [e1]; unfold rotσ; rw [if_neg (by omega), if_pos (by omega)]
  have r4 : ∀ t, e ≤ t → f1 t = f t := fun t h3 => by rw [e1]; unfold rotσ; rw [if_neg (by omega), if_neg (by omega)]
  have ef : f1 = fun t => f (rotσ s m e t) := funext e1
  have hs1 : Stb κ n f1 := by rw [ef]; exact rot_stb hs c2 c4 (by omega) fun x y hx1 hx2 hy1 hy2 => hright x y hx1 hx2 hy1 hy2
  have s1 : Srt κ f1 a s := fun x y h3 h4 h5 => by rw [r1 x (by omega), r1 y h5]; exact h1 _ _ h3 h4 (by omega)
  have s2 : Srt κ f1 s q := fun x y h3 h4 h5 => by rw [r2 x h3 (by omega), r2 y (by omega) h5]; exact h2 _ _ (by omega) (by omega) (by omega)
  have s3 : Srt κ f1 q e := fun x y h3 h4 h5 => by rw [r3 x h3 (by omega), r3 y (by omega) h5]; exact h1 _ _ (by omega) (by omega) (by omega)
  have s4 : Srt κ f1 e b := fun x y h3 h4 h5 => by rw [r4 x h3, r4 y (by omega)]; exact h2 _ _ (by omega) (by omega) h5
  have cross : ∀ x y, a ≤ x → x < q → q ≤ y → y < b → κ (f1 x) ≤ κ (f1 y) := fun x y h3 h4 h5 h6 => by
    by_cases hx : x < s
    · rw [r1 x hx]
      by_cases hy : y < e
      · rw [r3 y h5 hy]; exact h1 _ _ h3 (by omega) (by omega)
      · rw [r4 y (by omega)]; exact hleft _ _ h3 hx (by omega) h6
    · rw [r2 x (by omega) h4]
      by_cases hy : y < e
      · rw [r3 y h5 hy]; exact Int.le_of_lt (hright _ _ (by omega) (by omega) (by omega) (by omega))
      · rw [r4 y (by omega)]; exact h2 _ _ (by omega) (by omega) h6
  have m2 := part_mrg g2 c1 c3 s1 s2 hs1
  have t3 : Srt κ f2 q e := fun x y h3 h4 h5 => by rw [m2.out x (by omega), m2.out y (by omega)]; exact s3 x y h3 h4 h5
  have t4 : Srt κ f2 e b := fun x y h3 h4 h5 => by rw [m2.out x (by omega), m2.out y (by omega)]; exact s4 x y h3 h4 h5
  have m3 := part_mrg g3 (by omega) c5 t3 t4 m2.stb
  have inn1 : ∀ t, a ≤ t → t < b → ∃ x, a ≤ x ∧ x < b ∧ f1 t = f x := fun t h3 h4 => by
    rw [e1]
    refine ⟨_, ?_, ?_, rfl⟩ <;> (unfold rotσ; repeat' split) <;> omega
  have inn2 : ∀ t, a ≤ t → t < b → ∃ x, a ≤ x ∧ x < b ∧ f2 t = f1 x := fun t h3 h4 => by
    by_cases ht : t < q
    · obtain ⟨x, hx1, hx2, hx3⟩ := m2.inn t h3 ht
      exact ⟨x, hx1, by omega, hx3⟩
    · exact ⟨t, h3, h4, m2.out t (by omega)⟩
  refine ⟨m3.perm.trans (m2.perm.trans hp), fun t ht => ?_, fun t h3 h4 => ?_, fun x y h3 h4 h5 => ?_, m3.stb⟩
  · rw [m3.out t (by omega), m2.out t (by omega)]
    rcases ht with ht | ht
    · exact r1 t (by omega)
    · exact r4 t (by omega)
  · have : ∃ x, a ≤ x ∧ x < b ∧ f3 t = f2 x := by
      by_cases ht : q ≤ t
      · obtain ⟨x, hx1, hx2, hx3⟩ := m3.inn t ht h4
        exact ⟨x, by omega, hx2, hx3⟩
      · exact ⟨t, h3, h4, m3.out t (by omega)⟩
    obtain ⟨x, hx1, hx2, hx3⟩ := this
    obtain ⟨y, hy1, hy2, hy3⟩ := inn2 x hx1 hx2
    obtain ⟨z, hz1, hz2, hz3⟩ := inn1 y hy1 hy2
    exact ⟨z, hz1, hz2, by rw [hx3, hy3, hz3]⟩
  · by_cases hx : x < q
    · rw [m3.out x (by omega)]
      by_cases hy : y < q
      · rw [m3.out y (by omega)]; exact m2.srt x y h3 h4 hy
      · obtain ⟨z, hz1, hz2, hz3⟩ := m3.inn y (by omega) h5
        rw [hz3, m2.out z (by omega)]
        obtain ⟨v, hv1, hv2, hv3⟩ := m2.inn x h3 hx
        rw [hv3]
        exact cross _ _ hv1 hv2 hz1 hz2
    · exact m3.srt x y (by omega) h4 h5

theorem sym_mid {a m b s : Nat} {f1 : Nat → Int} (ham : a < m) (hmb : m < b) (hb : b ≤ n) (h1 : Srt κ f a m) (h2 : Srt κ f m b) (hs : Stb κ n f) (hc : Cutp κ f a m b s)
    (e1 : ∀ t, f1 t = f (rotσ s m ((a + b) / 2 + m - s) t)) : Srt κ f1 a s ∧ Srt κ f1 s ((a + b) / 2) ∧ Srt κ f1 ((a + b) / 2) ((a + b) / 2 + m - s) ∧ Srt κ f1 ((a + b) / 2 + m - s) b ∧ Stb κ n f1 := by
  obtain ⟨c1, c2, c3, c4, c5, c6, c7⟩ := hc
  have hq0 : a ≤ (a + b) / 2 ∧ (a + b) / 2 ≤ b := by omega
  generalize hq : (a + b) / 2 = q at *
  generalize he : q + m - s = e at *
  have hse : s + (e - m) = q := by omega
  have hright : ∀ x y, s ≤ x → x < m → m ≤ y → y < e → κ (f y) < κ (f x) := fun x y hx hxs hy hyb => by
    have hm := c7 (by omega) (by omega)
    have : κ (f s) ≤ κ (f x) := by
      by_cases hx1 : x = s
      · subst hx1; exact Int.le_refl _
      · exact h1 _ _ (by omega) (by omega) (by omega)
    have : κ (f y) ≤ κ (f (e - 1)) := by
      by_cases hy1 : y = e - 1
      · subst hy1; exact Int.le_refl _
      · exact h2 _ _ (by omega) (by omega) (by omega)
    omega
  have r1 : ∀ t, t < s → f1 t = f t := fun t ht => by rw [e1]; unfold rotσ; rw [if_neg (by omega), if_neg (by omega)]
  have r2 : ∀ t, s ≤ t → t < q → f1 t = f (t + (m - s)) := fun t h3 h4 => by rw [e1]; unfold rotσ; rw [if_pos (by omega)]
  have r3 : ∀ t, q ≤ t → t < e → f1 t = f (t - (e - m)) := fun t h3 h4 => by rw [e1]; unfold rotσ; rw [if_neg (by omega), if_pos (by omega)]
  have r4 : ∀ t, e ≤ t → f1 t = f t := fun t h3 => by rw [e1]; unfold rotσ; rw [if_neg (by omega), if_neg (by omega)]
  have ef : f1 = fun t => f (rotσ s m e t) := funext e1
  have hs1 : Stb κ n f1 := by rw [ef]; exact rot_stb hs c2 c4 (by omega) fun x y hx1 hx2 hy1 hy2 => hright x y hx1 hx2 hy1 hy2
  exact ⟨fun x y h3 h4 h5 => by rw [r1 x (by omega), r1 y h5]; exact h1 _ _ h3 h4 (by omega), fun x y h3 h4 h5 => by rw [r2 x h3 (by omega), r2 y (by omega) h5]; exact h2 _ _ (by omega) (by omega) (by omega),
    fun x y h3 h4 h5 => by rw [r3 x h3 (by omega), r3 y (by omega) h5]; exact h1 _ _ (by omega) (by omega) (by omega), fun x y h3 h4 h5 => by rw [r4 x h3, r4 y (by omega)]; exact h2 _ _ (by omega) (by omega) h5, hs1⟩
theorem sym_mid2 {a s q e b : Nat} {f1 f2 : Nat → Int} (h : Srt κ f1 a s ∧ Srt κ f1 s q ∧ Srt κ f1 q e ∧ Srt κ f1 e b ∧ Stb κ n f1) (g : Part κ n a s q f1 f2) (h1 : a ≤ s) (h2 : s ≤ q) (h3 : q ≤ e) (_h4 : e ≤ b) : Srt κ f2 q e ∧ Srt κ f2 e b ∧ Stb κ n f2 ∧ (tab n f2).Perm (tab n f1) := by
  obtain ⟨s1, s2, s3, s4, hs1⟩ := h
  have m2 := part_mrg g h1 h2 s1 s2 hs1
  exact ⟨fun x y h3 h4 h5 => by rw [m2.out x (by omega), m2.out y (by omega)]; exact s3 x y h3 h4 h5, fun x y h3 h4 h5 => by rw [m2.out x (by omega), m2.out y (by omega)]; exact s4 x y h3 h4 h5, m2.stb, m2.perm⟩
theorem rot_id {s m e : Nat} (h : s ≤ m) (h2 : m ≤ e) (hn : ¬ (s < m ∧ m < e)) (t : Nat) : rotσ s m e t = t := by
  unfold rotσ
  repeat' split
  all_goals omega
/-- In order by blocks of one length. -/
def Blk (κ : Int → Int) (n B : Nat) (f : Nat → Int) : Prop := ∀ s t, s < t → t < n → s / B = t / B → κ (f s) ≤ κ (f t)
theorem blk_all {B : Nat} (h : Blk κ n B f) (hB : n ≤ B) : Srt κ f 0 n := fun s t _ h2 h3 => h s t h2 h3 (by rw [Nat.div_eq_of_lt (by omega), Nat.div_eq_of_lt (by omega)])
theorem blk_srt {B k : Nat} (h : Blk κ n B f) (hB : 0 < B) {b : Nat} (hb : b ≤ k * B + B) (hbn : b ≤ n) : Srt κ f (k * B) b := fun s t h1 h2 h3 => by
  have e : ∀ x, k * B ≤ x → x < k * B + B → x / B = k := fun x hx hy => by
    rw [Nat.div_eq_iff hB]; omega
  exact h s t h2 (by omega) (by rw [e s h1 (by omega), e t (by omega) (by omega)])

/-- In order, and those of one key by their numbers. -/
def Lex (κ : Int → Int) (x y : Int) : Prop := κ x < κ y ∨ (κ x = κ y ∧ x < y)
theorem lex_of (h : Srt κ f 0 n) (hs : Stb κ n f) : (tab n f).Pairwise (Lex κ) := by
  rw [List.pairwise_iff_getElem]
  intro i j hi hj hij
  rw [tab_len] at hi hj
  have e1 : (tab n f)[i]'(by rw [tab_len]; exact hi) = f i := by simp [tab]
  have e2 : (tab n f)[j]'(by rw [tab_len]; exact hj) = f j := by simp [tab]
  rw [e1, e2]
  have := h i j (by omega) hij hj
  by_cases he : κ (f i) = κ (f j)
  · exact .inr ⟨he, hs i j hij hj he⟩
  · exact .inl (by omega)
end
end Go.Proofs.Ytidkppjhmgehoaa.SortP
