/-
  The library's stable sort of numbers by a comparison that reads elsewhere: its row in memory, two of its parts. Condition: the comparison answers by a key, and changes nothing.
-/
import Derived.Test.YtidkppjhmgehoaaSortP
import Derived.Test.YtidkppjhmgehoaaInts
import Derived.Test.YtidkppjhmgehoaaGrow
import Derived.Deep.QuietTactic
import Derived.BigQuiet
import Derived.BigRegion
import Derived.Deep.LoopGhost
namespace Go.Proofs.Ytidkppjhmgehoaa.SortC
open Go.ChangeShapes Go.WideShapes Go.ChangeAt Go.RowKit Mem Hand SortP

/-- Numbers in a block of the call's own. -/
def Row (w : World) (b c n : Nat) (f : Nat → Int) : Prop := OwnL intE w 0 3 (.slice (some ⟨b, 0, none⟩) n c) (tab n f)
/-- .. where nothing else has changed. -/
structure At (w wr : World) (b c n : Nat) (f : Nat → Int) : Prop where
  row : Row wr b c n f
  only : Only (fun k => k = b) w wr

section
variable {w wr : World} {b c n : Nat} {f : Nat → Int}
theorem Row.cell (h : Row w b c n f) {i : Nat} (hi : i < n) : w.cell? ⟨b, i, none⟩ = some (.int .i64 (f i)) := by
  have := World.ownsRow.cells h (g := b) rfl (i * intE.sz + 0) (.int .i64 (f i)) (flat_get (E := intE) (tab n f) i (f i) (tab_get hi) 0 _ rfl)
  rw [add_plain, show 0 + (i * intE.sz + 0) = i from by show 0 + (i * 1 + 0) = i; omega] at this
  exact this
theorem Row.frozen (h : Row w b c n f) (i : Nat) : w.frozen? ⟨b, i, none⟩ = false := by
  rcases h.2 with ⟨h', _⟩ | ⟨g, cap, cur, h', hb, hg, _⟩
  · injection h' with h'; cases h'
  · have : b = g := by injection h' with h'; injection h' with h'; injection h'
    subst this
    exact frozen_block hg i
theorem Row.lt (h : Row w b c n f) : b < w.heap.size := (OwnL.lt h b rfl).2
theorem Row.set1 {l : List Int} (h : OwnL intE w 0 3 (.slice (some ⟨b, 0, none⟩) n c) l) {i : Nat} {x : Int} (hi : i < l.length) : OwnL intE (w.setCell ⟨b, i, none⟩ (.int .i64 x)) 0 3 (.slice (some ⟨b, 0, none⟩) n c) (l.set i x) := by
  have := own_setc (E := intE) h (k := i) (x := l[i]) (x' := x) (j := 0) (u := .int .i64 x) (List.getElem?_eq_getElem hi) (by show 0 < 1; omega) rfl
  rw [show i * intE.sz + 0 = i from by show i * 1 + 0 = i; omega] at this
  exact this
theorem Row.swap (h : Row w b c n f) {i j : Nat} (hi : i < n) (hj : j < n) : Row ((w.setCell ⟨b, i, none⟩ (.int .i64 (f j))).setCell ⟨b, j, none⟩ (.int .i64 (f i))) b c n (swp f i j) := by
  unfold Row
  rw [← tab_swp hi hj]
  exact Row.set1 (Row.set1 h (by rw [tab_len]; exact hi)) (by rw [List.length_set, tab_len]; exact hj)
theorem At.swap (h : At w wr b c n f) {i j : Nat} (hi : i < n) (hj : j < n) : At w ((wr.setCell ⟨b, i, none⟩ (.int .i64 (f j))).setCell ⟨b, j, none⟩ (.int .i64 (f i))) b c n (swp f i j) :=
  ⟨h.row.swap hi hj, (h.only.setCell (.inl rfl) _).setCell (.inl rfl) _⟩
theorem At.drew (h : At w wr b c n f) : At w wr.drew b c n f := ⟨h.row, h.only.drew⟩
theorem At.drewN (h : At w wr b c n f) (d : Nat) : At w (wr.drewN d) b c n f := ⟨h.row, h.only.drewN d⟩
theorem At.cast {g : Nat → Int} (h : At w wr b c n f) (e : ∀ t, f t = g t) : At w wr b c n g := by
  obtain rfl : f = g := funext e
  exact h
end

/-- What the comparison answers. -/
def cmpV (x y : Int) : Int := if x < y then -1 else if y < x then 1 else 0
theorem cmp_neg (x y : Int) : decide (cmpV x y < 0) = decide (x < y) := by
  unfold cmpV
  by_cases h1 : x < y
  · simp [h1]
  · by_cases h2 : y < x <;> simp [h1, h2]
/-- It answers so wherever only block b has changed, for numbers of D. -/
def Cmps (w : World) (b q : Nat) (κ : Int → Int) (D : Int → Prop) : Prop :=
  ∀ wr, Only (fun k => k = b) w wr → ∀ x y, D x → D y → Calls Try.prog 55 #[.int .i64 x, .int .i64 y, .pointer (some ⟨q, 0, none⟩)] wr fun e w2 => e = .returned (.int .i64 (cmpV (κ x) (κ y))) ∧ ∃ d, w2 = wr.drewN d
def cmpF (q : Nat) : Value := .func (.func 55) #[] #[.pointer (some ⟨q, 0, none⟩)]

set_option maxRecDepth 100000 in
set_option maxHeartbeats 1000000 in
/-- Two ranges change places. -/
theorem swaps_c {w wk : World} {b c n : Nat} {f : Nat → Int} (h : At w wk b c n f) (hn : n ≤ 100000) (u : Value) {a m k : Nat} (h1 : a + k ≤ m) (h2 : m + k ≤ n) :
    Calls Try.prog 80 #[.slice (some ⟨b, 0, none⟩) n c, .int .i64 a, .int .i64 m, .int .i64 k, u] wk fun e wn => e = .returned (.tuple #[]) ∧ At w wn b c n (fun t => f (srσ a m k t)) := by
  have H := Lib.hid h
  clear h
  go_enter Try.func80, Try.ntmps80
  go_wp2
  go_loopw [10] (fun t wr => ∃ i : Nat, i ≤ k ∧ t = .int .i64 i ∧ Hid (At w wr b c n (fun t => f (srσ a m i t)))) (fun t _ => k - (intOf t).toNat)
  case atStart => exact ⟨0, Nat.zero_le _, rfl, by show At _ _ _ _ _ _; exact H.out.cast fun t => by rw [sr_zero]; rfl⟩
  case round =>
    obtain ⟨i, hi, rfl, HA⟩ := hrel
    clear H
    by_cases hlt : i < k
    · have ha := HA.out.row.cell (i := a + i) (by omega)
      have hm := HA.out.row.cell (i := m + i) (by omega)
      have HN : Hid (swp (fun t => f (srσ a m i t)) (a + i) (m + i) = fun t => f (srσ a m (i + 1) t)) := sr_step f (by omega)
      have HS : Hid (At w ((wr.setCell ⟨b, a + i, none⟩ (.int .i64 (f (srσ a m i (m + i))))).setCell ⟨b, m + i, none⟩ (.int .i64 (f (srσ a m i (a + i))))) b c n (swp (fun t => f (srσ a m i t)) (a + i) (m + i))) := HA.out.swap (by omega) (by omega)
      have f0 := HA.out.row.frozen (a + i)
      have f1 := HA.out.row.frozen (m + i)
      generalize f (srσ a m i (m + i)) = y at *
      generalize f (srσ a m i (a + i)) = x at *
      have e0 : (a : Int) + (i : Int) = ((a + i : Nat) : Int) := by omega
      have e1 : (m : Int) + (i : Int) = ((m + i : Nat) : Int) := by omega
      have hne : a + i ≠ m + i := by omega
      have hx1 : a + i < n := by omega
      have hx2 : m + i < n := by omega
      rw [HN.out] at HS
      clear HN HA
      generalize a + i = p at *
      generalize m + i = r at *
      have i0 : (0 : Int) ≤ (p : Int) := by omega
      have i1 : (p : Int) < (n : Int) := by omega
      have i2 : (0 : Int) ≤ (r : Int) := by omega
      have i3 : (r : Int) < (n : Int) := by omega
      go_wp2_with fail
      go_region
      go_wp2
      go_roundw
      case rel => exact ⟨i + 1, by omega, by go_num, HS.out.drew⟩
      case measure => simp [intOf]; omega
    · obtain rfl : i = k := by omega
      go_wp2
      go_end0
      exact ⟨rfl, HA.out⟩

set_option maxRecDepth 100000 in
set_option maxHeartbeats 1000000 in
/-- Two neighbours change places. -/
theorem rotate_c {w wk : World} {b c n : Nat} {f : Nat → Int} (h : At w wk b c n f) (hn : n ≤ 100000) (u : Value) {a m e : Nat} (h1 : a < m) (h2 : m < e) (h3 : e ≤ n) :
    Calls Try.prog 79 #[.slice (some ⟨b, 0, none⟩) n c, .int .i64 a, .int .i64 m, .int .i64 e, u] wk fun r wn => r = .returned (.tuple #[]) ∧ ∃ g, At w wn b c n g ∧ (∀ t, g t = f (rotσ a m e t)) ∧ (tab n g).Perm (tab n f) := by
  have H := Lib.hid h
  have e0 : (m : Int) - (a : Int) = ((m - a : Nat) : Int) := by omega
  have e1 : (e : Int) - (m : Int) = ((e - m : Nat) : Int) := by omega
  clear h
  go_enter Try.func79, Try.ntmps79
  go_wp2
  go_loopw [10, 11] (fun s t wr => ∃ i j : Nat, 0 < i ∧ 0 < j ∧ a + i ≤ m ∧ m + j ≤ e ∧ s = .int .i64 i ∧ t = .int .i64 j ∧ Hid (∃ g, At w wr b c n g ∧ (∀ t, g (rotσ (m - i) m (m + j) t) = f (rotσ a m e t)) ∧ (tab n g).Perm (tab n f))) (fun s t _ => (intOf s).toNat + (intOf t).toNat)
  case atStart =>
    refine ⟨m - a, e - m, by omega, by omega, by omega, by omega, by go_num, by go_num, ?_⟩
    exact ⟨f, H.out, fun t => by rw [show m - (m - a) = a from by omega, show m + (e - m) = e from by omega], .refl _⟩
  case round =>
    obtain ⟨i, j, hi, hj, hia, hje, rfl, rfl, HG⟩ := hrel
    obtain ⟨g, hA, hg, hp⟩ := HG.out
    have HA := Lib.hid hA
    have HGE := Lib.hid hg
    have HP := Lib.hid hp
    clear HG H hA hg hp e0 e1
    rcases (by omega : j < i ∨ i < j ∨ i = j) with hlt | hlt | hlt
    · have hne : ((i : Int) == (j : Int)) = false := by rw [beq_eq_false_iff_ne]; omega
      have e2 : (m : Int) - (i : Int) = ((m - i : Nat) : Int) := by omega
      have e3 : (i : Int) - (j : Int) = ((i - j : Nat) : Int) := by omega
      have HS := Lib.hid (swaps_c HA.out hn u (a := m - i) (m := m) (k := j) (by omega) (by omega))
      have HR := Lib.hid (rot_less hlt hj (show i ≤ m by omega))
      have HPP := Lib.hid (sr_perm (n := n) g (a := m - i) (b := m) j (by omega) (by omega))
      go_wp2_with fail
      refine HS.out.mono ?_
      rintro r w1 ⟨rfl, h1⟩
      have H1 := Lib.hid h1
      clear h1 HS HA
      go_wp2
      go_roundw
      case rel =>
        refine ⟨i - j, j, by omega, hj, by omega, hje, by go_num, rfl, ?_⟩
        exact ⟨_, H1.out, fun t => by simp only [HR.out]; exact HGE.out t, HPP.out.trans HP.out⟩
      case measure => simp [intOf]; omega
    · have hne : ((i : Int) == (j : Int)) = false := by rw [beq_eq_false_iff_ne]; omega
      have e2 : (m : Int) - (i : Int) = ((m - i : Nat) : Int) := by omega
      have e3 : (j : Int) - (i : Int) = ((j - i : Nat) : Int) := by omega
      have HR := Lib.hid (rot_more hlt hi (show i ≤ m by omega))
      obtain ⟨mj, hmj⟩ : ∃ mj, mj = m + j := ⟨_, rfl⟩
      rw [← hmj] at HR HGE
      have e4 : (m : Int) + (j : Int) = (mj : Int) := by omega
      have e5 : (mj : Int) - (i : Int) = ((mj - i : Nat) : Int) := by omega
      have HS := Lib.hid (swaps_c HA.out hn u (a := m - i) (m := mj - i) (k := i) (by omega) (by omega))
      have HPP := Lib.hid (sr_perm (n := n) g (a := m - i) (b := mj - i) i (by omega) (by omega))
      clear hmj
      go_wp2_with fail
      refine HS.out.mono ?_
      rintro r w1 ⟨rfl, h1⟩
      have H1 := Lib.hid h1
      clear h1 HS HA
      go_wp2
      go_roundw
      case rel =>
        refine ⟨i, j - i, hi, by omega, hia, by omega, rfl, by go_num, ?_⟩
        exact ⟨_, H1.out, fun t => by simp only [HR.out]; exact HGE.out t, HPP.out.trans HP.out⟩
      case measure => simp [intOf]; omega
    · subst hlt
      have hne : ((i : Int) == (i : Int)) = true := by simp
      have e2 : (m : Int) - (i : Int) = ((m - i : Nat) : Int) := by omega
      have HS := Lib.hid (swaps_c HA.out hn u (a := m - i) (m := m) (k := i) (by omega) (by omega))
      have HR := Lib.hid (rot_same hi (show i ≤ m by omega))
      have HPP := Lib.hid (sr_perm (n := n) g (a := m - i) (b := m) i (by omega) (by omega))
      go_wp2_with fail
      refine HS.out.mono ?_
      rintro r w1 ⟨rfl, h1⟩
      have H1 := Lib.hid h1
      clear h1 HS HA
      go_wp2
      go_end0
      exact ⟨rfl, _, H1.out, fun t => by simp only [HR.out]; exact HGE.out t, HPP.out.trans HP.out⟩

section
variable {w : World} {b q : Nat} {κ : Int → Int} {D : Int → Prop}
/-- What a number compared with another one tells, wherever the row stands. -/
theorem Cmps.at_ (hC : Cmps w b q κ D) {wk : World} {c n : Nat} {f : Nat → Int} (h : At w wk b c n f) (hD : ∀ t, t < n → D (f t)) {i j : Nat} (hi : i < n) (hj : j < n) (d : Nat) :
    Calls Try.prog 55 #[.int .i64 (f i), .int .i64 (f j), .pointer (some ⟨q, 0, none⟩)] (wk.drewN d) fun e w2 => e = .returned (.int .i64 (cmpV (κ (f i)) (κ (f j)))) ∧ ∃ m, w2 = (wk.drewN d).drewN m :=
  hC _ (h.only.drewN d) _ _ (hD i hi) (hD j hj)
theorem perm_D {n : Nat} {f g : Nat → Int} (hp : (tab n g).Perm (tab n f)) (hD : ∀ t, t < n → D (f t)) : ∀ t, t < n → D (g t) := fun t ht => by
  have : g t ∈ tab n f := hp.mem_iff.1 (List.mem_of_getElem? (tab_get ht))
  unfold tab at this
  rw [List.mem_map] at this
  obtain ⟨s, hs, e⟩ := this
  rw [← e]
  exact hD s (List.mem_range.1 hs)

set_option maxRecDepth 100000 in
set_option maxHeartbeats 1000000 in
/-- A part by insertion. -/
theorem insert_c (hC : Cmps w b q κ D) {wk : World} {c n : Nat} {f : Nat → Int} (h : At w wk b c n f) (hD : ∀ t, t < n → D (f t)) (hs : Stb κ n f) (hn : n ≤ 100000) {a e : Nat} (h1 : a ≤ e) (h2 : e ≤ n) :
    Calls Try.prog 76 #[.slice (some ⟨b, 0, none⟩) n c, .int .i64 a, .int .i64 e, cmpF q] wk fun r wn => r = .returned (.tuple #[]) ∧ ∃ g, At w wn b c n g ∧ Mrg κ n a e f g := by
  have H := Lib.hid h
  have HC := Lib.hid hC
  have HD := Lib.hid hD
  have HS := Lib.hid hs
  clear h hC hD hs
  unfold cmpF
  go_enter Try.func76, Try.ntmps76
  go_wp2
  go_loopw [8] (fun t wr => ∃ i : Nat, a < i ∧ (i ≤ e ∨ i = a + 1) ∧ t = .int .i64 i ∧ Hid (∃ g, At w wr b c n g ∧ Mrg κ n a i f g)) (fun t _ => e - (intOf t).toNat)
  case atStart =>
    refine ⟨a + 1, by omega, by omega, by go_num, ?_⟩
    exact ⟨f, H.out, .refl _, fun _ _ => rfl, fun t h3 h4 => ⟨t, h3, h4, rfl⟩, fun s t h3 h4 h5 => by omega, HS.out⟩
  case round =>
    obtain ⟨i, hai, hie, rfl, HG⟩ := hrel
    clear H
    by_cases hlt : i < e
    · have hie' : i < n := by omega
      clear hie
      go_wp2
      go_loopw [9] (fun t wr => ∃ j : Nat, a ≤ j ∧ j ≤ i ∧ t = .int .i64 j ∧ Hid (∃ g, At w wr b c n g ∧ Ins κ g a i j ∧ Stb κ n g ∧ (tab n g).Perm (tab n f) ∧ (∀ t, t < a ∨ i < t → g t = f t) ∧ ∀ t, a ≤ t → t ≤ i → ∃ s, a ≤ s ∧ s ≤ i ∧ g t = f s)) (fun t _ => (intOf t).toNat)
      case atStart =>
        obtain ⟨g, hA, hm⟩ := HG.out
        refine ⟨i, by omega, Nat.le_refl _, rfl, ?_⟩
        refine ⟨g, hA, ins_start hm.srt, hm.stb, hm.perm, fun t ht => hm.out t (by omega), fun t h3 h4 => ?_⟩
        by_cases ht : t < i
        · obtain ⟨s, h5, h6, h7⟩ := hm.inn t h3 ht
          exact ⟨s, h5, by omega, h7⟩
        · exact ⟨t, h3, h4, hm.out t (by omega)⟩
      case round =>
        obtain ⟨j, haj, hji, rfl, HI⟩ := hrel
        clear HG
        obtain ⟨g, hA, hI, hst, hp, hout, hin⟩ := HI.out
        have HA := Lib.hid hA
        have HIN := Lib.hid hI
        have HST := Lib.hid hst
        have HP := Lib.hid hp
        have HOUT := Lib.hid hout
        have HINN := Lib.hid hin
        have HE : Hid ((j ≤ a ∨ κ (g (j - 1)) ≤ κ (g j)) → Mrg κ n a (i + 1) f g) := fun hj => ⟨hp, fun t ht => hout t (by omega), fun t h3 h4 => by obtain ⟨s, h5, h6, h7⟩ := hin t h3 (by omega); exact ⟨s, h5, by omega, h7⟩, ins_end hI hji hj, hst⟩
        clear hA hI hst hp hout hin HI
        by_cases hja : a < j
        · obtain ⟨k, rfl⟩ : ∃ k, j = k + 1 := ⟨j - 1, by omega⟩
          have ck := HA.out.row.cell (i := k) (by omega)
          have cj := HA.out.row.cell (i := k + 1) (by omega)
          have fk := HA.out.row.frozen k
          have fj := HA.out.row.frozen (k + 1)
          have HSW : Hid (At w ((wr.setCell ⟨b, k + 1, none⟩ (.int .i64 (g k))).setCell ⟨b, k, none⟩ (.int .i64 (g (k + 1)))) b c n (swp g (k + 1) k)) := HA.out.swap (by omega) (by omega)
          have HN : Hid (κ (g (k + 1)) < κ (g k) → Ins κ (swp g (k + 1) k) a i k ∧ Stb κ n (swp g (k + 1) k)) := fun hk => ⟨ins_step HIN.out (by omega) hk hji, stb_swp HST.out (by omega) hk⟩
          have HSP : Hid ((tab n (swp g (k + 1) k)).Perm (tab n g)) := swp_perm (by omega) (by omega)
          have HSO : Hid (∀ t, t < a ∨ i < t → swp g (k + 1) k t = f t) := fun t ht => by rw [show swp g (k + 1) k t = g t from by unfold swp; rw [if_neg (by omega), if_neg (by omega)]]; exact HOUT.out t ht
          have HSI : Hid (∀ t, a ≤ t → t ≤ i → ∃ s, a ≤ s ∧ s ≤ i ∧ swp g (k + 1) k t = f s) := fun t h3 h4 => by
            by_cases ht : t = k + 1
            · subst ht; simp only [swp, if_pos]; exact HINN.out k (by omega) (by omega)
            · by_cases ht2 : t = k
              · subst ht2; rw [show swp g (t + 1) t t = g (t + 1) from by simp [swp]]; exact HINN.out (t + 1) (by omega) (by omega)
              · rw [show swp g (k + 1) k t = g t from by simp [swp, ht, ht2]]; exact HINN.out t h3 h4
          have HCC : Hid (∀ d, Calls Try.prog 55 #[.int .i64 (g (k + 1)), .int .i64 (g k), .pointer (some ⟨q, 0, none⟩)] (wr.drewN d) fun e w2 => e = .returned (.int .i64 (cmpV (κ (g (k + 1))) (κ (g k)))) ∧ ∃ m, w2 = (wr.drewN d).drewN m) := HC.out.at_ HA.out (perm_D HP.out HD.out) (by omega) (by omega)
          have hcn := cmp_neg (κ (g (k + 1))) (κ (g k))
          have HDW : Hid (∀ d, At w (wr.drewN d) b c n g) := fun d => HA.out.drewN d
          have HPP := Lib.hid (HSP.out.trans HP.out)
          have ej : ((k + 1 : Nat) : Int) = (k : Int) + 1 := by omega
          have hwp : IntKind.i64.wrap (k : Int) = (k : Int) := by rw [IntKind.wrap_i64]; omega
          have jz : (k : Int) + 1 < (n : Int) := by omega
          have jz1 : (k : Int) < (n : Int) := by omega
          have jz2 : (a : Int) < (k : Int) + 1 := by omega
          have p0 : (0 : Int) ≤ (k : Int) + 1 := by omega
          have q0 : (0 : Int) ≤ (k : Int) := by omega
          have e0 : ((k : Int) + 1).toNat = k + 1 := by omega
          simp only [Nat.add_sub_cancel] at HE
          generalize hx : g (k + 1) = x at *
          generalize hy : g k = y at *
          generalize hkx : κ x = kx at *
          generalize hky : κ y = ky at *
          clear HIN HST HP HOUT HINN HSP HA hx hy hkx hky
          rw [ej]
          obtain ⟨v, hv⟩ : ∃ v, cmpV kx ky = v := ⟨_, rfl⟩
          rw [hv] at hcn HCC
          clear hv
          by_cases hk : kx < ky
          · rw [decide_eq_true hk] at hcn
            have HNN := Lib.hid (HN.out hk)
            clear HN HE hk
            go_wp2_with fail
            go_quiet ((go_at_call 55; exact Calls.quiet_of (HCC.out _)))
            go_wp2_with fail
            have cj2 : (wr.drewN nq).cell? ⟨b, k + 1, none⟩ = some (.int .i64 x) := cj
            have ck2 : (wr.drewN nq).cell? ⟨b, k, none⟩ = some (.int .i64 y) := ck
            have fj2 : (wr.drewN nq).frozen? ⟨b, k + 1, none⟩ = false := fj
            have fk2 : (wr.drewN nq).frozen? ⟨b, k, none⟩ = false := fk
            have HSW2 : Hid (At w (((wr.drewN nq).setCell ⟨b, k + 1, none⟩ (.int .i64 y)).setCell ⟨b, k, none⟩ (.int .i64 x)) b c n (swp g (k + 1) k)) := HSW.out.drewN nq
            clear cj ck fj fk HSW HDW HCC
            generalize wr.drewN nq = w2 at *
            obtain ⟨j1, hj1⟩ : ∃ j1, j1 = k + 1 := ⟨_, rfl⟩
            have hne : j1 ≠ k := by omega
            rw [← hj1] at cj2 fj2 e0 HSW2 HNN HSO HSI HPP
            clear hj1
            go_region
            all_goals go_wp2
            go_roundw
            case rel => exact ⟨k, by omega, by omega, by go_num, _, HSW2.out.drew, HNN.out.1, HNN.out.2, HPP.out, HSO.out, HSI.out⟩
            case measure => simp [intOf]
          · rw [decide_eq_false hk] at hcn
            have HEE := Lib.hid (HE.out (.inr (by omega)))
            clear HN HE hk
            go_wp2_with fail
            go_quiet ((go_at_call 55; exact Calls.quiet_of (HCC.out _)))
            go_wp2
            go_roundw
            case rel => exact ⟨i + 1, by omega, by omega, by go_num, _, HDW.out _, HEE.out⟩
            case measure => simp [intOf]; omega
        · have HEE := Lib.hid (HE.out (.inl (by omega)))
          have hd : decide ((j : Int) > (a : Int)) = false := decide_eq_false (by omega)
          have hd' : ¬ (a : Int) < (j : Int) := by omega
          clear HE HIN HST HP HOUT HINN
          go_wp2_with fail
          go_region
          all_goals go_wp2
          go_roundw
          case rel => exact ⟨i + 1, by omega, by omega, by go_num, _, HA.out.drew, HEE.out⟩
          case measure => simp [intOf]; omega
    · have HX : Hid (∃ g, At w wr b c n g ∧ Mrg κ n a e f g) := by
        obtain ⟨g, hA, hm⟩ := HG.out
        rcases hie with hie | hie
        · obtain rfl : i = e := by omega
          exact ⟨g, hA, hm⟩
        · refine ⟨g, hA, hm.perm, fun t ht => ?_, fun t h3 h4 => ?_, fun s t h3 h4 h5 => hm.srt s t h3 h4 (by omega), hm.stb⟩
          · by_cases ht2 : t = a
            · obtain ⟨s, h5, h6, h7⟩ := hm.inn t (by omega) (by omega)
              rw [h7, show s = t from by omega]
            · exact hm.out t (by omega)
          · obtain ⟨s, h5, h6, h7⟩ := hm.inn t h3 (by omega)
            exact ⟨s, h5, by omega, h7⟩
      clear HG
      go_wp2
      go_end0
      exact ⟨rfl, HX.out⟩
end
end Go.Proofs.Ytidkppjhmgehoaa.SortC
