/-
  Contracts of the functions of package countermandref02 (the document's answer for layer 2): an arena of the reference, as the lists of its rows. Condition: the pointer's blocks are as 'RA' says.
-/
import Derived.Test.YtaoagoklgjcdcaaRows
import Derived.Test.YtaoagoklgjcdcaaMem
import Derived.Test.YtaoagoklgjcdcaaHeld
import Derived.Deep.QuietTactic
import Derived.BigQuiet
import Derived.Deep.RegionHeld3
import Derived.Deep.RegionLaw
import Derived.Deep.AppendLies
import Derived.Deep.OwnRows
namespace Go.Proofs.Ytaoagoklgjcdcaa.RefRing
open Go.ChangeShapes Go.WideShapes Go.ChangeAt Go.RowKit Mem

/-- The reference's arena behind the pointer to block p: rows L, N nodes; its rows' headers lie in block q; all its blocks are in G. -/
def RA (w : World) (G : Nat → Prop) (p q : Nat) (L : List (List Int)) (N : Int) : Prop :=
  w.heap[p]? = some (.cells #[.slice (some ⟨q, 0, none⟩) L.length L.length, .int .i64 N] 61 (0, 0)) ∧
  p ≠ q ∧ G p ∧ G q ∧ L.length ≤ 1000 ∧ 0 ≤ N ∧ N ≤ 1000 ∧
  ∃ vs : Array Value, w.heap[q]? = some (.cells vs 38 (0, 0)) ∧ vs.size = L.length ∧
    ∀ i, i < L.length → Rd w (fun b => G b ∧ b ≠ p ∧ b ≠ q) (vs.getD i undef) (L.getD i [])

theorem RA.keep {w w' : World} {G : Nat → Prop} {p q : Nat} {L : List (List Int)} {N : Int} (h : RA w G p q L N) (hs : w.heap.size ≤ w'.heap.size) (hk : ∀ k, k < w.heap.size → G k → w'.heap[k]? = w.heap[k]?) : RA w' G p q L N := by
  obtain ⟨hp, hne, gp, gq, hl, hn0, hn1, vs, hq, hv, hr⟩ := h
  exact ⟨(hk p (lt_of_block hp) gp).trans hp, hne, gp, gq, hl, hn0, hn1, vs, (hk q (lt_of_block hq) gq).trans hq, hv, fun i hi => (hr i hi).keep hs fun k hb hg => hk k hb hg.1⟩
theorem RA.mono {w : World} {G G' : Nat → Prop} {p q : Nat} {L : List (List Int)} {N : Int} (h : RA w G p q L N) (hG : ∀ k, k < w.heap.size → G k → G' k) : RA w G' p q L N := by
  obtain ⟨hp, hne, gp, gq, hl, hn0, hn1, vs, hq, hv, hr⟩ := h
  exact ⟨hp, hne, hG p (lt_of_block hp) gp, hG q (lt_of_block hq) gq, hl, hn0, hn1, vs, hq, hv, fun i hi => (hr i hi).mono fun k hb hg => ⟨hG k hb hg.1, hg.2⟩⟩
theorem RA.head {w : World} {G : Nat → Prop} {p q : Nat} {L : List (List Int)} {N : Int} (h : RA w G p q L N) :
    w.cell? ⟨p, 0, none⟩ = some (.slice (some ⟨q, 0, none⟩) L.length L.length) ∧ w.cell? ⟨p, 1, none⟩ = some (.int .i64 N) :=
  ⟨by rw [cell_block h.1]; rfl, by rw [cell_block h.1]; rfl⟩
theorem RA.row {w : World} {G : Nat → Prop} {p q : Nat} {L : List (List Int)} {N : Int} (h : RA w G p q L N) {i : Nat} (hi : i < L.length) :
    ∃ A c, w.cell? ⟨q, i, none⟩ = some (.slice A (L.getD i []).length c) ∧ (L.getD i []).length ≤ 1000000 ∧
      (0 < (L.getD i []).length → ∃ b off, A = some ⟨b, off, none⟩ ∧ (G b ∧ b ≠ p ∧ b ≠ q) ∧ b < w.heap.size ∧ ∀ j, j < (L.getD i []).length → w.cell? ⟨b, off + j, none⟩ = some (.int .i64 ((L.getD i []).getD j 0))) := by
  obtain ⟨hp, hne, gp, gq, hl, hn0, hn1, vs, hq, hv, hr⟩ := h
  obtain ⟨A, c, e, hm, hx⟩ := hr i hi
  refine ⟨A, c, ?_, hm, hx⟩
  rw [cell_block hq, ← e]
  simp [Array.getD, hv, hi]

/-- Is there such a row? -/
def rowB (L : List (List Int)) (n : Int) : Bool := decide (0 ≤ n ∧ n < L.length)

theorem row_any {w : World} {G : Nat → Prop} {p q : Nat} {L : List (List Int)} {N : Int} (h : RA w G p q L N) (n : Int) :
    Calls Try.prog 38 #[.pointer (some ⟨p, 0, none⟩), .int .i64 n] w fun e w' => e = .returned (.bool (rowB L n)) ∧ w = w' := by
  obtain ⟨h0, h1⟩ := h.head
  by_cases hn : 0 ≤ n
  · obtain ⟨k, rfl⟩ := Int.eq_ofNat_of_zero_le hn
    go_enter Try.func38, Try.ntmps38
    go_wp2
    all_goals
      go_ret
      exact ⟨ret_bool (by unfold rowB; rw [Bool.eq_iff_iff]; simp; try omega), rfl⟩
  · have hn' : n < 0 := by omega
    go_enter Try.func38, Try.ntmps38
    go_wp2
    all_goals
      go_ret
      exact ⟨ret_bool (by unfold rowB; rw [Bool.eq_iff_iff]; simp; try omega), rfl⟩

/-- Which row holds x; -1: none. -/
def inL (L : List (List Int)) (x : Int) : Int := match L.findIdx? (fun l => l.contains x) with | some i => i | none => -1

theorem inL_at {L : List (List Int)} {x : Int} {i k : Nat} (hi : i < L.length) (hno : ∀ i', i' < i → ¬ x ∈ L.getD i' []) (hk : k < (L.getD i []).length) (hx : (L.getD i []).getD k 0 = x) : inL L x = i := by
  unfold inL
  have : L.findIdx? (fun l => l.contains x) = some i := by
    rw [List.findIdx?_eq_some_iff_getElem]
    refine ⟨hi, ?_, ?_⟩
    · simp only [List.getD_eq_getElem?_getD, List.getElem?_eq_getElem hi, Option.getD_some] at hk hx
      rw [List.getElem?_eq_getElem hk, Option.getD_some] at hx
      simpa using (hx ▸ List.getElem_mem hk)
    · intro j hj
      have := hno j hj
      simp only [List.getD_eq_getElem?_getD, List.getElem?_eq_getElem (Nat.lt_trans hj hi), Option.getD_some] at this
      simpa using this
  rw [this]
theorem inL_none {L : List (List Int)} {x : Int} (hno : ∀ i', i' < L.length → ¬ x ∈ L.getD i' []) : inL L x = -1 := by
  unfold inL
  have : L.findIdx? (fun l => l.contains x) = none := by
    rw [List.findIdx?_eq_none_iff]
    intro l hl
    obtain ⟨i, hi, rfl⟩ := List.getElem_of_mem hl
    have := hno i hi
    simp only [List.getD_eq_getElem?_getD, List.getElem?_eq_getElem hi, Option.getD_some] at this
    simpa using this
  rw [this]
theorem not_mem_of {l : List Int} {x : Int} (h : ∀ k, k < l.length → l.getD k 0 ≠ x) : ¬ x ∈ l := by
  intro hm
  obtain ⟨k, hk, rfl⟩ := List.getElem_of_mem hm
  exact h k hk (by simp [List.getD_eq_getElem?_getD, List.getElem?_eq_getElem hk])

theorem in_any {w : World} {G : Nat → Prop} {p q : Nat} {L : List (List Int)} {N : Int} (h : RA w G p q L N) (x : Int) :
    Calls Try.prog 32 #[.pointer (some ⟨p, 0, none⟩), .int .i64 x] w fun e w' => e = .returned (.int .i64 (inL L x)) ∧ w = w' := by
  obtain ⟨h0, h1⟩ := h.head
  have hL : L.length ≤ 1000 := h.2.2.2.2.1
  have H := Lib.hid h
  clear h
  go_enter Try.func32, Try.ntmps32
  go_wp2
  go_loop [5] (fun t => ∃ i : Nat, i ≤ L.length ∧ t = .int .i64 i ∧ Hid (∀ i', i' < i → ¬ x ∈ L.getD i' [])) (fun t => L.length - (intOf t).toNat)
  case atStart => exact ⟨0, Nat.zero_le _, rfl, fun i' hi' => absurd hi' (by omega)⟩
  case round =>
    obtain ⟨i, hi, rfl, hno⟩ := hrel
    by_cases hlt : i < L.length
    · obtain ⟨A, c, hrow, hm, hx⟩ := H.out.row hlt
      generalize hl : L.getD i [] = l at hrow hm hx
      have HL := Lib.hid hl
      have HX := Lib.hid hx
      clear hl hx
      go_wp2
      go_loop [6] (fun t => ∃ k : Nat, k ≤ l.length ∧ t = .int .i64 k ∧ Hid (∀ k', k' < k → l.getD k' 0 ≠ x)) (fun t => l.length - (intOf t).toNat)
      case atStart => exact ⟨0, Nat.zero_le _, rfl, fun k' hk' => absurd hk' (by omega)⟩
      case round =>
        obtain ⟨k, hk, rfl, hne⟩ := hrel
        by_cases hkl : k < l.length
        · obtain ⟨b, off, rfl, hg, hb, hc⟩ := HX.out (by omega)
          have hcell := hc k hkl
          have HC := Lib.hid hc
          clear hc
          generalize hy : l.getD k 0 = y at hcell
          have HY := Lib.hid hy
          clear hy
          by_cases hxk : y = x
          · have hxk' : (y == x) = true := by simpa using hxk
            have HK : Hid (l.getD k 0 = x) := HY.out.trans hxk
            clear hxk
            go_wp2
            go_ret
            exact ⟨ret_int (inL_at hlt hno.out (by rw [HL.out]; exact hkl) (by rw [HL.out]; exact HK.out)).symm, rfl⟩
          · have hxk' : (y == x) = false := by simpa using hxk
            have HK : Hid (l.getD k 0 ≠ x) := fun e => hxk (HY.out.symm.trans e)
            clear hxk
            go_wp2
            go_round
            case rel => exact ⟨k + 1, by omega, by go_num, fun k' hk' => by
              rcases Nat.lt_or_ge k' k with h | h
              · exact hne.out k' h
              · obtain rfl : k' = k := by omega
                exact HK.out⟩
            case measure => simp [intOf]; omega
        · go_wp2
          go_round
          case rel => exact ⟨i + 1, by omega, by go_num, fun i' hi' => by
            rcases Nat.lt_or_ge i' i with h | h
            · exact hno.out i' h
            · obtain rfl : i' = i := by omega
              rw [HL.out]
              exact not_mem_of fun k' hk' => hne.out k' (by omega)⟩
          case measure => simp [intOf]; omega
    · go_wp2
      go_ret
      exact ⟨ret_int (inL_none fun i' hi' => hno.out i' (by omega)).symm, rfl⟩

theorem row_true {w : World} {G : Nat → Prop} {p q : Nat} {L : List (List Int)} {N : Int} (h : RA w G p q L N) (i : Nat) (hi : i < L.length) :
    Calls Try.prog 38 #[.pointer (some ⟨p, 0, none⟩), .int .i64 i] w fun e w' => e = .returned (.bool true) ∧ w = w' :=
  (row_any h i).mono fun _ _ ⟨he, hw⟩ => ⟨by rw [he]; exact ret_bool (by unfold rowB; simpa using hi), hw⟩
theorem row_false {w : World} {G : Nat → Prop} {p q : Nat} {L : List (List Int)} {N : Int} (h : RA w G p q L N) (n : Int) (hn : n < 0 ∨ (L.length : Int) ≤ n) :
    Calls Try.prog 38 #[.pointer (some ⟨p, 0, none⟩), .int .i64 n] w fun e w' => e = .returned (.bool false) ∧ w = w' :=
  (row_any h n).mono fun _ _ ⟨he, hw⟩ => ⟨by rw [he]; exact ret_bool (by unfold rowB; simp; omega), hw⟩

/-- A row's first one; -1: none. -/
def firstL (L : List (List Int)) (n : Int) : Int := if 0 ≤ n ∧ n < L.length then (L.getD n.toNat []).headD (-1) else -1
/-- A row's nodes. -/
def listL (L : List (List Int)) (n : Int) : List Int := if 0 ≤ n ∧ n < L.length then L.getD n.toNat [] else []

theorem first_any {w : World} {G : Nat → Prop} {p q : Nat} {L : List (List Int)} {N : Int} (h : RA w G p q L N) (n : Int) :
    Calls Try.prog 31 #[.pointer (some ⟨p, 0, none⟩), .int .i64 n] w fun e w' => e = .returned (.int .i64 (firstL L n)) ∧ w = w' := by
  obtain ⟨h0, h1⟩ := h.head
  have hL : L.length ≤ 1000 := h.2.2.2.2.1
  have H := Lib.hid h
  clear h
  rcases (by omega : (n < 0 ∨ (L.length : Int) ≤ n) ∨ (0 ≤ n ∧ n < L.length)) with hn | ⟨hn, hn'⟩
  · have HF : Hid (firstL L n = -1) := by show _ = _; unfold firstL; rw [if_neg (by omega)]
    have HN := Lib.hid hn
    clear hn
    go_enter Try.func31, Try.ntmps31
    go_wp2_with (go_at_call 38; refine (row_false H.out _ HN.out).mono ?_; rintro e w' ⟨rfl, rfl⟩)
    go_ret
    exact ⟨ret_int HF.out.symm, rfl⟩
  · obtain ⟨i, rfl⟩ := Int.eq_ofNat_of_zero_le hn
    have hi : i < L.length := by omega
    obtain ⟨A, c, hrow, hm, hx⟩ := H.out.row hi
    have HF : Hid (firstL L i = (L.getD i []).headD (-1)) := by show _ = _; unfold firstL; rw [if_pos ⟨hn, hn'⟩]; rfl
    generalize hl : L.getD i [] = l at hrow hm hx HF
    clear hl
    have HX := Lib.hid hx
    clear hx
    cases l with
    | nil =>
      go_enter Try.func31, Try.ntmps31
      go_wp2_with (go_at_call 38; refine (row_true H.out _ hi).mono ?_; rintro e w' ⟨rfl, rfl⟩)
      go_ret
      exact ⟨ret_int HF.out.symm, rfl⟩
    | cons y ys =>
      obtain ⟨b, off, rfl, hg, hb, hc⟩ := HX.out (by simp)
      have hcell := hc 0 (by simp)
      have hcell' : w.cell? ⟨b, off, none⟩ = some (.int .i64 y) := by simpa using hcell
      have hlen : (((y :: ys).length : Int) == 0) = false := by simp; omega
      generalize hll : (y :: ys).length = ll at *
      have hpos : 0 < ll := by rw [← hll]; simp
      have hlen2 : ((ll : Int) == 0) = false := hlen
      clear hcell hc hlen HX hll
      go_enter Try.func31, Try.ntmps31
      go_wp2_with (go_at_call 38; refine (row_true H.out _ hi).mono ?_; rintro e w' ⟨rfl, rfl⟩)
      go_ret
      exact ⟨ret_int HF.out.symm, rfl⟩

theorem list_any {w : World} {G : Nat → Prop} {p q : Nat} {L : List (List Int)} {N : Int} (h : RA w G p q L N) (n : Int) :
    Calls Try.prog 30 #[.pointer (some ⟨p, 0, none⟩), .int .i64 n] w fun e w' => ∃ v, e = .returned v ∧ Rd w' G v (listL L n) ∧ Below w.heap.size w w' := by
  obtain ⟨h0, h1⟩ := h.head
  have hL : L.length ≤ 1000 := h.2.2.2.2.1
  have H := Lib.hid h
  clear h
  rcases (by omega : (n < 0 ∨ (L.length : Int) ≤ n) ∨ (0 ≤ n ∧ n < L.length)) with hn | ⟨hn, hn'⟩
  · have HF : Hid (listL L n = []) := by show _ = _; unfold listL; rw [if_neg (by omega)]
    have HN := Lib.hid hn
    clear hn
    go_enter Try.func30, Try.ntmps30
    go_wp2_with (go_at_call 38; refine (row_false H.out _ HN.out).mono ?_; rintro e w' ⟨rfl, rfl⟩)
    go_ret
    exact ⟨_, rfl, by rw [HF.out]; exact Rd.nil _ _ _ _, (Below.refl _ _).alloc (Nat.le_refl _) _⟩
  · obtain ⟨i, rfl⟩ := Int.eq_ofNat_of_zero_le hn
    have hi : i < L.length := by omega
    obtain ⟨A, c, hrow, hm, hx⟩ := H.out.row hi
    have HF : Hid (listL L i = L.getD i []) := by show _ = _; unfold listL; rw [if_pos ⟨hn, hn'⟩]; rfl
    have HR : Hid (Rd w G (.slice A (L.getD i []).length c) (L.getD i [])) := by
      refine Rd.mono (G := fun b => G b ∧ b ≠ p ∧ b ≠ q) ⟨A, c, rfl, hm, hx⟩ fun k _ hg => hg.1
    generalize hl : L.getD i [] = l at *
    clear hl hx
    go_enter Try.func30, Try.ntmps30
    go_wp2_with (go_at_call 38; refine (row_true H.out _ hi).mono ?_; rintro e w' ⟨rfl, rfl⟩)
    go_ret
    exact ⟨_, rfl, by rw [HF.out]; exact HR.out, Below.refl _ _⟩

theorem take_getD (l : List Int) (k : Nat) (h : k < l.length) : l.take (k + 1) = l.take k ++ [l.getD k 0] := by
  rw [List.take_succ_eq_append_getElem h]; simp [List.getD, h]
theorem same_any {w : World} {G G' : Nat → Prop} {va vb : Value} {xs ys : List Int} (ha : Rd w G va xs) (hb : Rd w G' vb ys) :
    Calls Try.prog 20 #[va, vb] w fun e w' => e = .returned (.bool (decide (xs = ys))) ∧ ∃ n, w' = w.drewN n := by
  obtain ⟨A, ca, rfl, hma, hxa⟩ := ha
  obtain ⟨B, cb, rfl, hmb, hxb⟩ := hb
  by_cases hlen : xs.length = ys.length
  · have HA := Lib.hid hxa
    have HB := Lib.hid hxb
    clear hxa hxb
    have HL := Lib.hid hlen
    obtain ⟨m, hm⟩ : ∃ m, xs.length = m := ⟨_, rfl⟩
    have hm2 : ys.length = m := by omega
    have HM := Lib.hid hm
    have HM2 := Lib.hid hm2
    rw [hm, hm2]
    rw [hm] at hma
    clear hm hm2 hlen hmb
    go_enter Try.func20, Try.ntmps20
    go_wp2
    go_loopw [5] (fun t W => ∃ k n : Nat, k ≤ m ∧ t = .int .i64 k ∧ Hid (xs.take k = ys.take k) ∧ W = w.drewN n) (fun t _ => m - (intOf t).toNat)
    case atStart => exact ⟨0, 0, Nat.zero_le _, rfl, rfl, rfl⟩
    case round =>
      obtain ⟨k, n, hk, rfl, heq, rfl⟩ := hrel
      by_cases hlt : k < m
      · obtain ⟨b, off, rfl, _, _, hca⟩ := HA.out (by rw [HM.out]; omega)
        obtain ⟨b', off', rfl, _, _, hcb⟩ := HB.out (by rw [HM2.out]; omega)
        have c1 := hca k (by rw [HM.out]; exact hlt)
        have c2 := hcb k (by rw [HM2.out]; exact hlt)
        clear hca hcb
        generalize hy : xs.getD k 0 = y at c1
        generalize hz : ys.getD k 0 = z at c2
        have HY := Lib.hid hy
        have HZ := Lib.hid hz
        clear hy hz
        by_cases hyz : y = z
        · have hbz : (y != z) = false := by simpa using hyz
          have HE : Hid (xs.take (k + 1) = ys.take (k + 1)) := by
            show _ = _
            rw [take_getD xs k (by rw [HM.out]; exact hlt), take_getD ys k (by rw [HM2.out]; exact hlt), heq.out, HY.out, HZ.out, hyz]
          clear hyz
          go_wp2
          go_quiet (fail)
          go_wp2
          go_roundw
          case rel => exact ⟨k + 1, _, by omega, by go_num, HE, rfl⟩
          case measure => simp [intOf]; omega
        · have hbz : (y != z) = true := by simpa using hyz
          have HE : Hid (xs ≠ ys) := by
            show ¬ _
            rintro rfl
            exact hyz (HY.out.symm.trans HZ.out)
          clear hyz
          go_wp2
          go_quiet (fail)
          go_wp2
          go_ret
          exact ⟨ret_bool (by symm; exact decide_eq_false HE.out), _, World.drewN_drewN _ _ _⟩
      · go_wp2
        go_ret
        exact ⟨ret_bool (by symm; apply decide_eq_true; have := heq.out; rwa [List.take_of_length_le (by rw [HM.out]; omega), List.take_of_length_le (by rw [HM2.out]; omega)] at this), _, rfl⟩
  · have hne : ((xs.length : Int) != (ys.length : Int)) = true := by rw [bne_iff_ne]; omega
    go_enter Try.func20, Try.ntmps20
    go_wp2
    go_ret
    exact ⟨ret_bool (by symm; apply decide_eq_false; intro e; exact hlen (by rw [e])), 0, rfl⟩

theorem intElem : IntElem Try.prog 38 3 := intElem_of Try.underlying38 (by kernel_rfl)

theorem RA.set {w : World} {G : Nat → Prop} {p q : Nat} {L : List (List Int)} {N : Int} (h : RA w G p q L N) {i : Nat} (hi : i < L.length) {v : Value} {l' : List Int} (hv : Rd w (fun b => G b ∧ b ≠ p ∧ b ≠ q) v l') :
    RA (w.setCell ⟨q, i, none⟩ v) G p q (L.set i l') N := by
  obtain ⟨hp, hne, gp, gq, hl, hn0, hn1, vs, hq, hvs, hr⟩ := h
  have far : ∀ k, k ≠ q → (w.setCell ⟨q, i, none⟩ v).heap[k]? = w.heap[k]? := fun k hk => Below.heap_setCell w _ _ k hk
  have hs : w.heap.size ≤ (w.setCell ⟨q, i, none⟩ v).heap.size := by simp [World.setCell]
  have hq' : (w.setCell ⟨q, i, none⟩ v).heap[q]? = some (.cells (vs.setIfInBounds i v) 38 (0, 0)) := by
    simp [World.setCell, Array.getElem?_modify, hq]
  refine ⟨by rw [far p hne, hp, List.length_set], hne, gp, gq, by rw [List.length_set]; exact hl, hn0, hn1, vs.setIfInBounds i v, hq', by simp [hvs], fun j hj => ?_⟩
  rw [List.length_set] at hj
  by_cases hij : j = i
  · subst hij
    have e1 : (vs.setIfInBounds j v).getD j undef = v := by simp [Array.getD, hvs, hj]
    have e2 : (L.set j l').getD j [] = l' := by simp [List.getD_eq_getElem?_getD, hj]
    rw [e1, e2]
    exact hv.keep hs fun k _ hk => far k hk.2.2
  · have e1 : (vs.setIfInBounds i v).getD j undef = vs.getD j undef := by
      have hne' : i ≠ j := fun e => hij e.symm
      simp [Array.getD, hvs, hj, hne']
    have e2 : (L.set i l').getD j [] = L.getD j [] := by
      have hne' : i ≠ j := fun e => hij e.symm
      simp [List.getD_eq_getElem?_getD, hne']
    rw [e1, e2]
    exact (hr j hj).keep hs fun k _ hk => far k hk.2.2

/-- The rows without x. -/
def dropL (L : List (List Int)) (x : Int) : List (List Int) := if inL L x < 0 then L else L.set (inL L x).toNat ((L.getD (inL L x).toNat []).filter (fun y => y != x))

theorem inL_range (L : List (List Int)) (x : Int) : inL L x = -1 ∨ (∃ i : Nat, inL L x = i ∧ i < L.length) := by
  unfold inL
  split
  · next i h =>
    rw [List.findIdx?_eq_some_iff_getElem] at h
    exact .inr ⟨i, rfl, h.1⟩
  · exact .inl rfl

theorem filter_snoc (l : List Int) (k : Nat) (h : k < l.length) (x : Int) : (l.take (k + 1)).filter (fun y => y != x) = (l.take k).filter (fun y => y != x) ++ (if l.getD k 0 = x then [] else [l.getD k 0]) := by
  rw [take_getD l k h, List.filter_append]
  congr 1
  by_cases hx : l.getD k 0 = x
  · rw [if_pos hx, hx]; simp
  · rw [if_neg hx]; generalize l.getD k 0 = y at hx; simp [hx]

theorem in_neg {w : World} {G : Nat → Prop} {p q : Nat} {L : List (List Int)} {N : Int} (h : RA w G p q L N) (x : Int) (v : Int) (hv : Hid (inL L x = v)) :
    Calls Try.prog 32 #[.pointer (some ⟨p, 0, none⟩), .int .i64 x] w fun e w' => e = .returned (.int .i64 v) ∧ w = w' := by
  have := in_any h x
  rw [hv.out] at this
  exact this

set_option maxHeartbeats 400000 in
theorem drop_any {w : World} {G : Nat → Prop} {p q : Nat} {L : List (List Int)} {N : Int} (h : RA w G p q L N) (hG : ∀ b, w.heap.size ≤ b → G b) (x : Int) :
    Calls Try.prog 28 #[.pointer (some ⟨p, 0, none⟩), .int .i64 x] w fun e w' => e = .returned (.bool (decide (0 ≤ inL L x))) ∧ RA w' G p q (dropL L x) N ∧ Only (fun b => b = q) w w' := by
  rcases inL_range L x with hin | ⟨i, hin, hi⟩
  · have HF : Hid (dropL L x = L) := by show _ = _; unfold dropL; rw [if_pos (by omega)]
    have HI := Lib.hid hin
    clear hin
    have H := Lib.hid h
    clear h
    have HG := Lib.hid hG
    clear hG
    go_enter Try.func28, Try.ntmps28
    go_wp2_with (go_at_call 32; refine (in_neg H.out x (-1) HI).mono ?_; rintro e w' ⟨rfl, rfl⟩)
    go_ret
    exact ⟨ret_bool (by rw [HI.out]; rfl), by rw [HF.out]; exact H.out, Only.refl _ _⟩
  · obtain ⟨h0, h1⟩ := h.head
    obtain ⟨A, c, hrow, hm, hx⟩ := h.row hi
    have HF : Hid (dropL L x = L.set i ((L.getD i []).filter (fun y => y != x))) := by show _ = _; unfold dropL; rw [if_neg (by omega), hin]; rfl
    generalize hl : L.getD i [] = l at hrow hm hx HF
    clear hl
    have hpb : p < w.heap.size := lt_of_block h.1
    have hqb : q < w.heap.size := by obtain ⟨_, _, _, _, _, _, _, vs, hq, _⟩ := h; exact lt_of_block hq
    have hqf : w.frozen? ⟨q, i, none⟩ = false := by obtain ⟨_, _, _, _, _, _, _, vs, hq, _⟩ := h; exact frozen_block hq i
    have hL : L.length ≤ 1000 := h.2.2.2.2.1
    have HI := Lib.hid hin
    have HX := Lib.hid hx
    have H := Lib.hid h
    have HG := Lib.hid hG
    clear hin hx h hG
    go_enter Try.func28, Try.ntmps28
    go_wp2_with (go_at_call 32; refine (in_neg H.out x i HI).mono ?_; rintro e w' ⟨rfl, rfl⟩)
    go_loopw [6, 7] (fun v t wr => ∃ k : Nat, k ≤ l.length ∧ t = .int .i64 k ∧ Own wr w.heap.size 3 v ((l.take k).filter (fun y => y != x)) ∧ Below w.heap.size w wr) (fun _ t _ => l.length - (intOf t).toNat)
    case atStart => exact ⟨0, Nat.zero_le _, rfl, Own.lit0 w _ _ (Nat.le_refl _), (Below.refl _ _).alloc (Nat.le_refl _) _⟩
    case round =>
      obtain ⟨k, hk, rfl, hown, hbel⟩ := hrel
      have c0 := (hbel.cell (p := ⟨p, 0, none⟩) hpb).trans h0
      have c1 := (hbel.cell (p := ⟨q, i, none⟩) hqb).trans hrow
      have HO := Lib.hid hown
      have HB := Lib.hid hbel
      have hfl : ((l.take k).filter (fun y => y != x)).length ≤ k := Nat.le_trans (List.length_filter_le _ _) (List.length_take_le _ _)
      have hbs : w.heap.size ≤ wr.heap.size := hbel.size
      clear hown hbel
      by_cases hkl : k < l.length
      · obtain ⟨b, off, rfl, hg, hb, hc⟩ := HX.out (by omega)
        have c2 := (HB.out.cell (p := ⟨b, off + k, none⟩) hb).trans (hc k hkl)
        have HS : Hid _ := filter_snoc l k hkl x
        generalize hy : l.getD k 0 = y at c2 HS
        clear hy hc
        by_cases hxy : y = x
        · have hn : (y != x) = false := by simpa using hxy
          have HS2 : Hid ((l.take (k + 1)).filter (fun y => y != x) = (l.take k).filter (fun y => y != x)) := by
            have := HS.out; rw [if_pos hxy, List.append_nil] at this; exact this
          clear hxy HS
          go_wp2
          go_roundw
          case rel => exact ⟨k + 1, by omega, by go_num, by rw [HS2.out]; exact HO.out, HB.out⟩
          case measure => simp [intOf]; omega
        · have hn : (y != x) = true := by simpa using hxy
          have HS2 : Hid ((l.take (k + 1)).filter (fun y => y != x) = (l.take k).filter (fun y => y != x) ++ [y]) := by
            have := HS.out; rw [if_neg hxy] at this; exact this
          clear hxy HS
          go_wp2_with (at_builtin; refine wpList_app rfl _ _ intElem rfl rfl rfl (HO.out.alloc _) (Rd.lit1 wr _ y (fun _ => True) trivial) (by simp; omega) (by simp; omega) ?_)
          intro v' w1 hown1 hgrow hat
          have hb1 : Below w.heap.size w w1 := Below.grown (HB.out.alloc hbs _) hgrow (by simp; omega) (fun g hg' => (World.ownsRow.lt HO.out g hg').1)
          have HO1 := Lib.hid hown1
          have HB1 := Lib.hid hb1
          clear hown1 hb1 hgrow hat
          go_wp2
          go_roundw
          case rel => exact ⟨k + 1, by omega, by go_num, by rw [HS2.out]; exact HO1.out, HB1.out⟩
          case measure => simp [intOf]; omega
      · have HS : Hid (l.take k = l) := List.take_of_length_le (by omega)
        have fq := (HB.out.frozen (p := ⟨q, i, none⟩) hqb).trans hqf
        obtain ⟨Ao, co, rfl⟩ := HO.out.form
        go_wp2
        go_ret
        have hO := HO.out
        rw [HS.out] at hO ⊢
        refine ⟨ret_bool (by rw [HI.out]; simp), ?_, ?_⟩
        · rw [HF.out]
          refine RA.set (H.out.keep hbs fun k hk _ => HB.out.block k hk) hi (hO.rd (Nat.le_trans (List.length_filter_le _ _) hm) fun g hg => ?_)
          have := (World.ownsRow.lt hO g hg).1
          exact ⟨HG.out g this, by omega, by omega⟩
        · exact Only.setCell (F := fun b => b = q) (a := ⟨q, i, none⟩) (Only.of_below HB.out) (.inl rfl) _

/-- What Put answers, and the rows behind it. -/
def putE (L : List (List Int)) (N r x : Int) : Int := if (0 ≤ r ∧ r < L.length) ∧ 0 ≤ x ∧ x < N then (if 0 ≤ inL L x then 6 else 0) else 3
def putL (L : List (List Int)) (N r x : Int) (ahead : Bool) : List (List Int) :=
  if putE L N r x = 0 then L.set r.toNat (if ahead = true then x :: L.getD r.toNat [] else L.getD r.toNat [] ++ [x]) else L

theorem kept_app (w : World) (x : Int) (w1 : World) (p q i : Nat) (L : List (List Int)) (A : Option Addr) (l : List Int) (c : Nat)
    (hgrow : (w.alloc (.cells #[.int .i64 x] 3)).drew.grownBy w1 (some w.heap.size)) (hpb : p < w.heap.size) (hqb : q < w.heap.size) (h0 : w.cell? ⟨p, 0, none⟩ = some (.slice (some ⟨q, 0, none⟩) L.length L.length))
    (hrow : w.cell? ⟨q, i, none⟩ = some (.slice A l.length c)) (hqf : w.frozen? ⟨q, i, none⟩ = false) :
    Below w.heap.size w w1 ∧ w1.cell? ⟨p, 0, none⟩ = some (.slice (some ⟨q, 0, none⟩) L.length L.length) ∧ w1.cell? ⟨q, i, none⟩ = some (.slice A l.length c) ∧ w1.frozen? ⟨q, i, none⟩ = false := by
  have hb : Below w.heap.size w w1 := Below.grown (new_below w _) hgrow (by simp) (fun k hk => by injection hk with hk; omega)
  exact ⟨hb, (hb.cell (p := ⟨p, 0, none⟩) hpb).trans h0, (hb.cell (p := ⟨q, i, none⟩) hqb).trans hrow, (hb.frozen (p := ⟨q, i, none⟩) hqb).trans hqf⟩

set_option maxHeartbeats 1000000 in
theorem put_any {w : World} {G : Nat → Prop} {p q : Nat} {L : List (List Int)} {N : Int} (h : RA w G p q L N) (hG : ∀ b, w.heap.size ≤ b → G b) (hlens : ∀ l ∈ L, l.length ≤ 1000) (r x : Int) (ahead : Bool) :
    Calls Try.prog 26 #[.pointer (some ⟨p, 0, none⟩), .int .i64 r, .int .i64 x, .bool ahead] w fun e w' => e = .returned (.int .i64 (putE L N r x)) ∧ RA w' G p q (putL L N r x ahead) N ∧ Only (fun b => b = q) w w' := by
  obtain ⟨h0, h1⟩ := h.head
  have hN0 : 0 ≤ N := h.2.2.2.2.2.1
  have hN1 : N ≤ 1000 := h.2.2.2.2.2.2.1
  rcases (by omega : (r < 0 ∨ (L.length : Int) ≤ r) ∨ (0 ≤ r ∧ r < L.length)) with hr | ⟨hr, hr'⟩
  · have HE : Hid (putE L N r x = 3) := by show _ = _; unfold putE; rw [if_neg (by omega)]
    have HR := Lib.hid hr
    have H := Lib.hid h
    clear hr h hG hlens
    go_enter Try.func26, Try.ntmps26
    go_wp2_with (go_at_call 38; refine (row_false H.out _ HR.out).mono ?_; rintro e w' ⟨rfl, rfl⟩)
    go_ret
    exact ⟨ret_int HE.out.symm, by unfold putL; rw [if_neg (by rw [HE.out]; decide)]; exact H.out, Only.refl _ _⟩
  · obtain ⟨i, rfl⟩ := Int.eq_ofNat_of_zero_le hr
    have hi : i < L.length := by omega
    rcases (by omega : (x < 0 ∨ (0 ≤ x ∧ N ≤ x)) ∨ (0 ≤ x ∧ x < N)) with hx | ⟨hx, hx'⟩
    · have HE : Hid (putE L N i x = 3) := by show _ = _; unfold putE; rw [if_neg (by omega)]
      have H := Lib.hid h
      clear h hG hlens
      rcases hx with hx | ⟨hx, hx'⟩
      all_goals
        go_enter Try.func26, Try.ntmps26
        go_wp2_with (go_at_call 38; refine (row_true H.out _ hi).mono ?_; rintro e w' ⟨rfl, rfl⟩)
        go_ret
        exact ⟨ret_int HE.out.symm, by unfold putL; rw [if_neg (by rw [HE.out]; decide)]; exact H.out, Only.refl _ _⟩
    · obtain ⟨v, hv⟩ : ∃ v, inL L x = v := ⟨_, rfl⟩
      have HV := Lib.hid hv
      rcases (by omega : 0 ≤ v ∨ v < 0) with hv0 | hv0
      · have HE : Hid (putE L N i x = 6) := by show _ = _; unfold putE; rw [if_pos ⟨⟨hr, hr'⟩, hx, hx'⟩, if_pos (by omega)]
        have H := Lib.hid h
        clear h hG hlens hv
        go_enter Try.func26, Try.ntmps26
        go_wp2_with (first
          | (go_at_call 38; refine (row_true H.out _ hi).mono ?_; rintro e w' ⟨rfl, rfl⟩)
          | (go_at_call 32; refine (in_neg H.out x v HV).mono ?_; rintro e w' ⟨rfl, rfl⟩))
        go_ret
        exact ⟨ret_int HE.out.symm, by unfold putL; rw [if_neg (by rw [HE.out]; decide)]; exact H.out, Only.refl _ _⟩
      · have HE : Hid (putE L N i x = 0) := by show _ = _; unfold putE; rw [if_pos ⟨⟨hr, hr'⟩, hx, hx'⟩, if_neg (by omega)]
        have HP : Hid (putL L N i x ahead = L.set i (if ahead = true then x :: L.getD i [] else L.getD i [] ++ [x])) := by show _ = _; unfold putL; rw [if_pos HE.out]; rfl
        obtain ⟨A, c, hrow, hm, hxx⟩ := h.row hi
        have HRD : Hid (Rd w (fun b => G b ∧ b ≠ p ∧ b ≠ q) (.slice A (L.getD i []).length c) (L.getD i [])) := ⟨A, c, rfl, hm, hxx⟩
        have hll : (L.getD i []).length ≤ 1000 := hlens _ (by simp [List.getD_eq_getElem?_getD, hi])
        generalize hl : L.getD i [] = l at hrow hm hxx HRD HP hll
        have hpb : p < w.heap.size := lt_of_block h.1
        have hqb : q < w.heap.size := by obtain ⟨_, _, _, _, _, _, _, vs, hq, _⟩ := h; exact lt_of_block hq
        have hqf : w.frozen? ⟨q, i, none⟩ = false := by obtain ⟨_, _, _, _, _, _, _, vs, hq, _⟩ := h; exact frozen_block hq i
        have hpq : p ≠ q := h.2.1
        have H := Lib.hid h
        have HG := Lib.hid hG
        clear h hG hlens hv hxx hl
        cases ahead
        · have HPf : Hid (putL L N i x false = L.set i (l ++ [x])) := by show _ = _; have := HP.out; simpa using this
          clear HP
          go_enter Try.func26, Try.ntmps26
          go_wp2_with (first
            | (go_at_call 38; refine (row_true H.out _ hi).mono ?_; rintro e w' ⟨rfl, rfl⟩)
            | (go_at_call 32; refine (in_neg H.out x v HV).mono ?_; rintro e w' ⟨rfl, rfl⟩))
          have i0 : (0 : Int) ≤ (i : Int) := by omega
          have i1 : (i : Int) < (L.length : Int) := by omega
          refine Held.begin_ (fun W : World => W.cell? ⟨p, 0, none⟩ = some (.slice (some ⟨q, 0, none⟩) L.length L.length) ∧ W.cell? ⟨q, i, none⟩ = some (.slice A l.length c)) 18 (by kernel_rfl) ?_
          have hC : (fun W : World => W.cell? ⟨p, 0, none⟩ = some (.slice (some ⟨q, 0, none⟩) L.length L.length) ∧ W.cell? ⟨q, i, none⟩ = some (.slice A l.length c)) w.drew := ⟨h0, hrow⟩
          refine Held.take 0 (v := ?_) hC rfl (by kernel_rfl) (by kernel_rfl) (by kernel_rfl) (by kernel_rfl) (fun _ _ _ h => h) ?_ ?_; rotate_left; · (intro W hW; obtain ⟨k0, k1⟩ := hW; go_simp <;> with_reducible rfl)
          try simp only [Act.put, List.setIfInBounds_toArray, List.set_cons_zero, List.set_cons_succ]
          refine Held.take 1 (v := ?_) hC rfl (by kernel_rfl) (by kernel_rfl) (by kernel_rfl) (by kernel_rfl) (fun _ _ _ h => h) ?_ ?_; rotate_left; · (intro W hW; obtain ⟨k0, k1⟩ := hW; go_simp <;> with_reducible rfl)
          try simp only [Act.put, List.setIfInBounds_toArray, List.set_cons_zero, List.set_cons_succ]
          refine Held.take 2 (v := ?_) hC rfl (by kernel_rfl) (by kernel_rfl) (by kernel_rfl) (by kernel_rfl) (fun _ _ _ h => h) ?_ ?_; rotate_left; · (intro W hW; obtain ⟨k0, k1⟩ := hW; go_simp <;> with_reducible rfl)
          try simp only [Act.put, List.setIfInBounds_toArray, List.set_cons_zero, List.set_cons_succ]
          refine Held.take 3 (v := ?_) hC rfl (by kernel_rfl) (by kernel_rfl) (by kernel_rfl) (by kernel_rfl) (fun _ _ _ h => h) ?_ ?_; rotate_left; · (intro W hW; obtain ⟨k0, k1⟩ := hW; go_simp <;> with_reducible rfl)
          try simp only [Act.put, List.setIfInBounds_toArray, List.set_cons_zero, List.set_cons_succ]
          refine Held.take 4 (v := ?_) hC rfl (by kernel_rfl) (by kernel_rfl) (by kernel_rfl) (by kernel_rfl) (fun _ _ _ h => h) ?_ ?_; rotate_left; · (intro W hW; obtain ⟨k0, k1⟩ := hW; go_simp <;> with_reducible rfl)
          try simp only [Act.put, List.setIfInBounds_toArray, List.set_cons_zero, List.set_cons_succ]
          refine Held.take 6 (v := ?_) hC rfl (by kernel_rfl) (by kernel_rfl) (by kernel_rfl) (by kernel_rfl) (fun _ _ _ h => h) ?_ ?_; rotate_left; · (intro W hW; obtain ⟨k0, k1⟩ := hW; go_simp <;> with_reducible rfl)
          try simp only [Act.put, List.setIfInBounds_toArray, List.set_cons_zero, List.set_cons_succ]
          refine Held.take 7 (v := ?_) hC rfl (by kernel_rfl) (by kernel_rfl) (by kernel_rfl) (by kernel_rfl) (fun _ _ _ h => h) ?_ ?_; rotate_left; · (intro W hW; obtain ⟨k0, k1⟩ := hW; go_simp <;> with_reducible rfl)
          try simp only [Act.put, List.setIfInBounds_toArray, List.set_cons_zero, List.set_cons_succ]
          refine Held.take 8 (v := ?_) hC rfl (by kernel_rfl) (by kernel_rfl) (by kernel_rfl) (by kernel_rfl) (fun _ _ _ h => h) ?_ ?_; rotate_left; · (intro W hW; obtain ⟨k0, k1⟩ := hW; go_simp <;> with_reducible rfl)
          try simp only [Act.put, List.setIfInBounds_toArray, List.set_cons_zero, List.set_cons_succ]
          refine Held.take 9 (v := ?_) hC rfl (by kernel_rfl) (by kernel_rfl) (by kernel_rfl) (by kernel_rfl) (fun _ _ _ h => h) ?_ ?_; rotate_left; · (intro W hW; obtain ⟨k0, k1⟩ := hW; go_simp <;> with_reducible rfl)
          try simp only [Act.put, List.setIfInBounds_toArray, List.set_cons_zero, List.set_cons_succ]
          refine Held.take 10 (v := ?_) hC rfl (by kernel_rfl) (by kernel_rfl) (by kernel_rfl) (by kernel_rfl) (fun _ _ _ h => h) ?_ ?_; rotate_left; · (intro W hW; obtain ⟨k0, k1⟩ := hW; go_simp <;> with_reducible rfl)
          try simp only [Act.put, List.setIfInBounds_toArray, List.set_cons_zero, List.set_cons_succ]
          refine Held.take 11 (v := ?_) hC rfl (by kernel_rfl) (by kernel_rfl) (by kernel_rfl) (by kernel_rfl) (fun _ _ _ h => h) ?_ ?_; rotate_left; · (intro W hW; obtain ⟨k0, k1⟩ := hW; go_simp <;> with_reducible rfl)
          try simp only [Act.put, List.setIfInBounds_toArray, List.set_cons_zero, List.set_cons_succ]
          refine Held.take 12 (v := ?_) hC rfl (by kernel_rfl) (by kernel_rfl) (by kernel_rfl) (by kernel_rfl) (fun _ _ _ h => h) ?_ ?_; rotate_left; · (intro W hW; obtain ⟨k0, k1⟩ := hW; go_simp <;> with_reducible rfl)
          try simp only [Act.put, List.setIfInBounds_toArray, List.set_cons_zero, List.set_cons_succ]
          refine Held.take 14 (v := ?_) hC rfl (by kernel_rfl) (by kernel_rfl) (by kernel_rfl) (by kernel_rfl) (fun _ _ _ h => h) ?_ ?_; rotate_left; · (intro W hW; obtain ⟨k0, k1⟩ := hW; go_simp <;> with_reducible rfl)
          try simp only [Act.put, List.setIfInBounds_toArray, List.set_cons_zero, List.set_cons_succ]
          refine Held.either 5 15 (by kernel_rfl) rfl rfl ?_ ?_
          intro K hK
          go_simp
          refine hK.out _ _ (fun _ => ⟨((new_below w _).cell (p := ⟨p, 0, none⟩) hpb).trans h0, ((new_below w _).cell (p := ⟨q, i, none⟩) hqb).trans hrow⟩) ?_
          clear hK K
          try simp only [Act.put, List.setIfInBounds_toArray, List.set_cons_zero, List.set_cons_succ]
          refine Held.either 13 15 (by kernel_rfl) rfl rfl ?_ ?_
          intro K hK
          refine wp_app (.tmp 51) (.tmp 58) intElem (by rfl) (by rfl) (by rfl) (Own.lit0 w _ _ (Nat.le_refl _)).drew (HRD.out.below (new_below w _)) (by simp; omega) (by simp) ?_
          intro v1 w1 hown1 hgrow hat
          have hbel : Below w.heap.size w w1 := Below.grown (new_below w _) hgrow (by simp) (fun k hk => by simp [Value.ownBlock] at hk; omega)
          have hown2 : Own w1 w.heap.size 3 v1 l := hown1
          obtain ⟨Ao, co, rfl⟩ := hown2.form
          have hws : w.heap.size ≤ w1.heap.size := hbel.size
          clear hown1 hgrow hat
          have kk : (fun W : World => W.cell? ⟨p, 0, none⟩ = some (.slice (some ⟨q, 0, none⟩) L.length L.length) ∧ W.cell? ⟨q, i, none⟩ = some (.slice A l.length c)) w1 := ⟨(hbel.cell (p := ⟨p, 0, none⟩) hpb).trans h0, (hbel.cell (p := ⟨q, i, none⟩) hqb).trans hrow⟩
          have HO := Lib.hid hown2
          have HB := Lib.hid hbel
          clear hown2 hbel
          have KK := Lib.hid kk
          clear kk
          refine hK.out _ _ (fun _ => KK.out) ?_
          clear hK K
          try simp only [Act.put, List.setIfInBounds_toArray, List.set_cons_zero, List.set_cons_succ]
          refine Held.only 15 (by kernel_rfl) rfl ?_
          intro K hK
          go_simp
          have HB2 : Hid (Below w.heap.size w (w1.alloc (.cells #[.int .i64 x] 3))) := HB.out.alloc hws _
          have HO2 : Hid (Own (w1.alloc (.cells #[.int .i64 x] 3)) w.heap.size 3 (.slice Ao l.length co) l) := HO.out.alloc _
          have HR2 : Hid (Rd (w1.alloc (.cells #[.int .i64 x] 3)) (fun _ => True) (.slice (some ⟨w1.heap.size, 0, none⟩) 1 1) [x]) := Rd.lit1 w1 _ x _ trivial
          refine hK.out _ _ (fun _ => ⟨(HB2.out.cell (p := ⟨p, 0, none⟩) hpb).trans h0, (HB2.out.cell (p := ⟨q, i, none⟩) hqb).trans hrow⟩) ?_
          clear hK K
          try simp only [Act.put, List.setIfInBounds_toArray, List.set_cons_zero, List.set_cons_succ]
          rotate_left
          intro K hK
          go_simp
          refine hK.out _ _ (fun _ => ⟨((two_new w _ x).2.2.1.cell (p := ⟨p, 0, none⟩) hpb).trans h0, ((two_new w _ x).2.2.1.cell (p := ⟨q, i, none⟩) hqb).trans hrow⟩) ?_
          clear hK K
          try simp only [Act.put, List.setIfInBounds_toArray, List.set_cons_zero, List.set_cons_succ]
          refine Held.only 13 (by kernel_rfl) rfl ?_
          intro K hK
          refine wp_app (.tmp 51) (.tmp 58) intElem (by rfl) (by rfl) (by rfl) (two_new w _ x).1 (HRD.out.below (two_new w _ x).2.2.1) (by simp; omega) (by simp; omega) ?_
          intro v1 w1 hown1 hgrow hat
          have hbel : Below w.heap.size w w1 := Below.grown (two_new w _ x).2.2.1 hgrow (by simp; omega) (fun k hk => by simp [Value.ownBlock] at hk; omega)
          have hown2 : Own w1 w.heap.size 3 v1 l := hown1
          obtain ⟨Ao, co, rfl⟩ := hown2.form
          have HR2 := Lib.hid (((two_new w 3 x).2.1).grown hgrow (fun k hk => by simp [Value.ownBlock] at hk; simp; omega))
          clear hown1 hgrow hat
          have HO2 := Lib.hid hown2
          have HB2 := Lib.hid hbel
          clear hown2 hbel
          refine hK.out _ _ (fun _ => ⟨(HB2.out.cell (p := ⟨p, 0, none⟩) hpb).trans h0, (HB2.out.cell (p := ⟨q, i, none⟩) hqb).trans hrow⟩) ?_
          clear hK K
          try simp only [Act.put, List.setIfInBounds_toArray, List.set_cons_zero, List.set_cons_succ]
          rotate_left
          intro K hK
          go_simp
          refine hK.out _ _ (fun _ => ⟨((new_below w _).cell (p := ⟨p, 0, none⟩) hpb).trans h0, ((new_below w _).cell (p := ⟨q, i, none⟩) hqb).trans hrow⟩) ?_
          clear hK K
          try simp only [Act.put, List.setIfInBounds_toArray, List.set_cons_zero, List.set_cons_succ]
          refine Held.only 5 (by kernel_rfl) rfl ?_
          intro K hK
          go_simp
          refine hK.out _ _ (fun _ => ⟨((two_new w _ x).2.2.2.2.2.cell (p := ⟨p, 0, none⟩) hpb).trans h0, ((two_new w _ x).2.2.2.2.2.cell (p := ⟨q, i, none⟩) hqb).trans hrow⟩) ?_
          clear hK K
          try simp only [Act.put, List.setIfInBounds_toArray, List.set_cons_zero, List.set_cons_succ]
          refine Held.only 13 (by kernel_rfl) rfl ?_
          intro K hK
          refine wp_app (.tmp 51) (.tmp 58) intElem (by rfl) (by rfl) (by rfl) (two_new w _ x).2.2.2.1 (HRD.out.below (two_new w _ x).2.2.2.2.2) (by simp; omega) (by simp; omega) ?_
          intro v1 w1 hown1 hgrow hat
          have hbel : Below w.heap.size w w1 := Below.grown (two_new w _ x).2.2.2.2.2 hgrow (by simp; omega) (fun k hk => by simp [Value.ownBlock] at hk; omega)
          have hown2 : Own w1 w.heap.size 3 v1 l := hown1
          obtain ⟨Ao, co, rfl⟩ := hown2.form
          have HR2 := Lib.hid (((two_new w 3 x).2.2.2.2.1).grown hgrow (fun k hk => by simp [Value.ownBlock] at hk; simp; omega))
          clear hown1 hgrow hat
          have HO2 := Lib.hid hown2
          have HB2 := Lib.hid hbel
          clear hown2 hbel
          refine hK.out _ _ (fun _ => ⟨(HB2.out.cell (p := ⟨p, 0, none⟩) hpb).trans h0, (HB2.out.cell (p := ⟨q, i, none⟩) hqb).trans hrow⟩) ?_
          clear hK K
          try simp only [Act.put, List.setIfInBounds_toArray, List.set_cons_zero, List.set_cons_succ]
          all_goals
            have hws2 := HB2.out.size
            refine Held.only 16 (by kernel_rfl) rfl ?_
            intro K hK
            refine wp_app (.tmp 59) (.tmp 61) intElem (by rfl) (by rfl) (by rfl) HO2.out HR2.out (by simp; omega) hws2 ?_
            intro v3 w3 hown3 hgrow hat
            have hbel : Below w.heap.size w w3 := Below.grown HB2.out hgrow hws2 (fun k hk => (World.ownsRow.lt HO2.out k hk).1)
            obtain ⟨A3, c3, rfl⟩ := hown3.form
            obtain ⟨k0, k1⟩ : (fun W : World => W.cell? ⟨p, 0, none⟩ = some (.slice (some ⟨q, 0, none⟩) L.length L.length) ∧ W.cell? ⟨q, i, none⟩ = some (.slice A l.length c)) w3 := ⟨(hbel.cell (p := ⟨p, 0, none⟩) hpb).trans h0, (hbel.cell (p := ⟨q, i, none⟩) hqb).trans hrow⟩
            have fq : w3.frozen? ⟨q, i, none⟩ = false := (hbel.frozen (p := ⟨q, i, none⟩) hqb).trans hqf
            have HO3 := Lib.hid hown3
            have HB3 := Lib.hid hbel
            clear hown3 hbel hgrow hat
            refine hK.out _ _ (fun _ => ⟨k0, k1⟩) ?_
            clear hK K
            try simp only [Act.put, List.setIfInBounds_toArray, List.set_cons_zero, List.set_cons_succ]
            refine Held.only 17 (by kernel_rfl) rfl ?_
            intro K hK
            go_simp
            refine hK.out _ _ (fun _ => ⟨k0, k1⟩) ?_
            clear hK K
            try simp only [Act.put, List.setIfInBounds_toArray, List.set_cons_zero, List.set_cons_succ]
            refine Held.only 18 (by kernel_rfl) rfl ?_
            intro K hK
            go_simp
            refine hK.out _ _ (fun h => absurd rfl h) ?_
            clear hK K
            try simp only [Act.put, List.setIfInBounds_toArray, List.set_cons_zero, List.set_cons_succ]
            refine Held.done (by kernel_rfl) ?_ _
            go_wp2
            go_ret
            refine ⟨ret_int HE.out.symm, ?_, Only.setCell (F := fun b => b = q) (a := ⟨q, i, none⟩) (Only.of_below HB3.out) (.inl rfl) _⟩
            rw [HPf.out]
            have hO3 := HO3.out
            rw [show (l ++ [x]).length = l.length + 1 from by simp] at hO3
            refine RA.set (H.out.keep HB3.out.size fun k hk _ => HB3.out.block k hk) hi (hO3.rd (by simp; omega) fun g hg => ?_)
            have := (World.ownsRow.lt hO3 g hg).1
            exact ⟨HG.out g this, by omega, by omega⟩
        · have HPt : Hid (putL L N i x true = L.set i (x :: l)) := by show _ = _; have := HP.out; simpa using this
          clear HP
          go_enter Try.func26, Try.ntmps26
          go_wp2_with (first
            | (go_at_call 38; refine (row_true H.out _ hi).mono ?_; rintro e w' ⟨rfl, rfl⟩)
            | (go_at_call 32; refine (in_neg H.out x v HV).mono ?_; rintro e w' ⟨rfl, rfl⟩))
          have n0 := World.new_ne w ⟨p, 0, none⟩ h0
          have n1 := World.new_ne w ⟨q, i, none⟩ hrow
          have i0 : (0 : Int) ≤ (i : Int) := by omega
          have i1 : (i : Int) < (L.length : Int) := by omega
          refine Held.begin_ (fun W : World => W.cell? ⟨p, 0, none⟩ = some (.slice (some ⟨q, 0, none⟩) L.length L.length) ∧ W.cell? ⟨q, i, none⟩ = some (.slice A l.length c)) 16 (by kernel_rfl) ?_
          have hC : (fun W : World => W.cell? ⟨p, 0, none⟩ = some (.slice (some ⟨q, 0, none⟩) L.length L.length) ∧ W.cell? ⟨q, i, none⟩ = some (.slice A l.length c)) w.drew := ⟨h0, hrow⟩
          refine Held.take 0 (v := ?_) hC rfl (by kernel_rfl) (by kernel_rfl) (by kernel_rfl) (by kernel_rfl) (fun _ _ _ h => h) ?_ ?_; rotate_left; · (intro W hW; obtain ⟨k0, k1⟩ := hW; go_simp <;> with_reducible rfl)
          try simp only [Act.put, List.setIfInBounds_toArray, List.set_cons_zero, List.set_cons_succ]
          refine Held.take 1 (v := ?_) hC rfl (by kernel_rfl) (by kernel_rfl) (by kernel_rfl) (by kernel_rfl) (fun _ _ _ h => h) ?_ ?_; rotate_left; · (intro W hW; obtain ⟨k0, k1⟩ := hW; go_simp <;> with_reducible rfl)
          try simp only [Act.put, List.setIfInBounds_toArray, List.set_cons_zero, List.set_cons_succ]
          refine Held.take 2 (v := ?_) hC rfl (by kernel_rfl) (by kernel_rfl) (by kernel_rfl) (by kernel_rfl) (fun _ _ _ h => h) ?_ ?_; rotate_left; · (intro W hW; obtain ⟨k0, k1⟩ := hW; go_simp <;> with_reducible rfl)
          try simp only [Act.put, List.setIfInBounds_toArray, List.set_cons_zero, List.set_cons_succ]
          refine Held.take 3 (v := ?_) hC rfl (by kernel_rfl) (by kernel_rfl) (by kernel_rfl) (by kernel_rfl) (fun _ _ _ h => h) ?_ ?_; rotate_left; · (intro W hW; obtain ⟨k0, k1⟩ := hW; go_simp <;> with_reducible rfl)
          try simp only [Act.put, List.setIfInBounds_toArray, List.set_cons_zero, List.set_cons_succ]
          refine Held.take 4 (v := ?_) hC rfl (by kernel_rfl) (by kernel_rfl) (by kernel_rfl) (by kernel_rfl) (fun _ _ _ h => h) ?_ ?_; rotate_left; · (intro W hW; obtain ⟨k0, k1⟩ := hW; go_simp <;> with_reducible rfl)
          try simp only [Act.put, List.setIfInBounds_toArray, List.set_cons_zero, List.set_cons_succ]
          refine Held.take 5 (v := ?_) hC rfl (by kernel_rfl) (by kernel_rfl) (by kernel_rfl) (by kernel_rfl) (fun _ _ _ h => h) ?_ ?_; rotate_left; · (intro W hW; obtain ⟨k0, k1⟩ := hW; go_simp <;> with_reducible rfl)
          try simp only [Act.put, List.setIfInBounds_toArray, List.set_cons_zero, List.set_cons_succ]
          refine Held.take 7 (v := ?_) hC rfl (by kernel_rfl) (by kernel_rfl) (by kernel_rfl) (by kernel_rfl) (fun _ _ _ h => h) ?_ ?_; rotate_left; · (intro W hW; obtain ⟨k0, k1⟩ := hW; go_simp <;> with_reducible rfl)
          try simp only [Act.put, List.setIfInBounds_toArray, List.set_cons_zero, List.set_cons_succ]
          refine Held.take 8 (v := ?_) hC rfl (by kernel_rfl) (by kernel_rfl) (by kernel_rfl) (by kernel_rfl) (fun _ _ _ h => h) ?_ ?_; rotate_left; · (intro W hW; obtain ⟨k0, k1⟩ := hW; go_simp <;> with_reducible rfl)
          try simp only [Act.put, List.setIfInBounds_toArray, List.set_cons_zero, List.set_cons_succ]
          refine Held.take 9 (v := ?_) hC rfl (by kernel_rfl) (by kernel_rfl) (by kernel_rfl) (by kernel_rfl) (fun _ _ _ h => h) ?_ ?_; rotate_left; · (intro W hW; obtain ⟨k0, k1⟩ := hW; go_simp <;> with_reducible rfl)
          try simp only [Act.put, List.setIfInBounds_toArray, List.set_cons_zero, List.set_cons_succ]
          refine Held.take 10 (v := ?_) hC rfl (by kernel_rfl) (by kernel_rfl) (by kernel_rfl) (by kernel_rfl) (fun _ _ _ h => h) ?_ ?_; rotate_left; · (intro W hW; obtain ⟨k0, k1⟩ := hW; go_simp <;> with_reducible rfl)
          try simp only [Act.put, List.setIfInBounds_toArray, List.set_cons_zero, List.set_cons_succ]
          refine Held.take 11 (v := ?_) hC rfl (by kernel_rfl) (by kernel_rfl) (by kernel_rfl) (by kernel_rfl) (fun _ _ _ h => h) ?_ ?_; rotate_left; · (intro W hW; obtain ⟨k0, k1⟩ := hW; go_simp <;> with_reducible rfl)
          try simp only [Act.put, List.setIfInBounds_toArray, List.set_cons_zero, List.set_cons_succ]
          refine Held.take 12 (v := ?_) hC rfl (by kernel_rfl) (by kernel_rfl) (by kernel_rfl) (by kernel_rfl) (fun _ _ _ h => h) ?_ ?_; rotate_left; · (intro W hW; obtain ⟨k0, k1⟩ := hW; go_simp <;> with_reducible rfl)
          try simp only [Act.put, List.setIfInBounds_toArray, List.set_cons_zero, List.set_cons_succ]
          refine Held.take 13 (v := ?_) hC rfl (by kernel_rfl) (by kernel_rfl) (by kernel_rfl) (by kernel_rfl) (fun _ _ _ h => h) ?_ ?_; rotate_left; · (intro W hW; obtain ⟨k0, k1⟩ := hW; go_simp <;> with_reducible rfl)
          try simp only [Act.put, List.setIfInBounds_toArray, List.set_cons_zero, List.set_cons_succ]
          refine Held.only 6 (by kernel_rfl) rfl ?_
          intro K hK
          go_simp
          refine hK.out _ _ (fun _ => ⟨((new_below w _).cell (p := ⟨p, 0, none⟩) hpb).trans h0, ((new_below w _).cell (p := ⟨q, i, none⟩) hqb).trans hrow⟩) ?_
          clear hK K
          try simp only [Act.put, List.setIfInBounds_toArray, List.set_cons_zero, List.set_cons_succ]
          refine Held.only 14 (by kernel_rfl) rfl ?_
          intro K hK
          refine wp_app (.tmp 36) (.tmp 43) intElem (by rfl) (by rfl) (by rfl) (Own.lit1 w _ _ x (Nat.le_refl _)).drew (HRD.out.below (new_below w _)) (by simp; omega) (by simp) ?_
          intro v' w1 hown1 hgrow hat
          obtain ⟨hbel, k0, k1, fq⟩ := kept_app w x w1 p q i L A l c hgrow hpb hqb h0 hrow hqf
          obtain ⟨Ao, co, rfl⟩ := hown1.form
          have HO := Lib.hid hown1
          have HB := Lib.hid hbel
          clear hown1 hbel hgrow hat
          refine hK.out _ _ (fun _ => ⟨k0, k1⟩) ?_
          clear hK K
          try simp only [Act.put, List.setIfInBounds_toArray, List.set_cons_zero, List.set_cons_succ]
          refine Held.only 15 (by kernel_rfl) rfl ?_
          intro K hK
          go_simp
          refine hK.out _ _ (fun _ => ⟨k0, k1⟩) ?_
          clear hK K
          try simp only [Act.put, List.setIfInBounds_toArray, List.set_cons_zero, List.set_cons_succ]
          refine Held.only 16 (by kernel_rfl) rfl ?_
          intro K hK
          go_simp
          refine hK.out _ _ (fun h => absurd rfl h) ?_
          clear hK K
          try simp only [Act.put, List.setIfInBounds_toArray, List.set_cons_zero, List.set_cons_succ]
          refine Held.done (by kernel_rfl) ?_ _
          go_wp2
          go_ret
          refine ⟨ret_int HE.out.symm, ?_, Only.setCell (F := fun b => b = q) (a := ⟨q, i, none⟩) (Only.of_below HB.out) (.inl rfl) _⟩
          rw [HPt.out]
          refine RA.set (H.out.keep HB.out.size fun k hk _ => HB.out.block k hk) hi (HO.out.rd (by simp; omega) fun g hg => ?_)
          have := (World.ownsRow.lt HO.out g hg).1
          exact ⟨HG.out g this, by omega, by omega⟩

theorem take_any {w : World} {G : Nat → Prop} {p q : Nat} {L : List (List Int)} {N : Int} (h : RA w G p q L N) (hG : ∀ b, w.heap.size ≤ b → G b) (r : Int) :
    Calls Try.prog 27 #[.pointer (some ⟨p, 0, none⟩), .int .i64 r] w fun e w' => e = .returned (.tuple #[.int .i64 (firstL L r), .bool (decide (0 ≤ inL L (firstL L r)))]) ∧ RA w' G p q (dropL L (firstL L r)) N ∧ Only (fun b => b = q) w w' := by
  have H := Lib.hid h
  have HG := Lib.hid hG
  clear h hG
  go_enter Try.func27, Try.ntmps27
  go_wp2_with (first
    | (go_at_call 31; refine (first_any H.out r).mono ?_; rintro e w' ⟨rfl, rfl⟩)
    | (go_at_call 28; refine (drop_any H.out HG.out (firstL L r)).mono ?_; rintro e w' ⟨rfl, hra, hon⟩))
  go_ret2
  exact ⟨rfl, hra, hon⟩

/-- What Move answers, and the rows behind it. -/
def moveE (L : List (List Int)) (a b : Int) : Int := if (0 ≤ a ∧ a < L.length) ∧ 0 ≤ b ∧ b < L.length then (if a = b then 1 else 0) else 3
def moveL (L : List (List Int)) (a b : Int) : List (List Int) := if moveE L a b = 0 then (L.set b.toNat (L.getD b.toNat [] ++ L.getD a.toNat [])).set a.toNat [] else L

set_option maxHeartbeats 1000000 in
theorem move_any {w : World} {G : Nat → Prop} {p q : Nat} {L : List (List Int)} {N : Int} (h : RA w G p q L N) (hG : ∀ b, w.heap.size ≤ b → G b) (hlens : ∀ l ∈ L, l.length ≤ 1000) (a b : Int) :
    Calls Try.prog 29 #[.pointer (some ⟨p, 0, none⟩), .int .i64 a, .int .i64 b] w fun e w' => e = .returned (.int .i64 (moveE L a b)) ∧ RA w' G p q (moveL L a b) N ∧ Only (fun b => b = q) w w' := by
  obtain ⟨h0, h1⟩ := h.head
  rcases (by omega : (a < 0 ∨ (L.length : Int) ≤ a) ∨ (0 ≤ a ∧ a < L.length)) with hr | ⟨hr, hr'⟩
  · have HE : Hid (moveE L a b = 3) := by show _ = _; unfold moveE; rw [if_neg (by omega)]
    have HR := Lib.hid hr
    have H := Lib.hid h
    clear hr h hG hlens
    go_enter Try.func29, Try.ntmps29
    go_wp2_with (go_at_call 38; refine (row_false H.out _ HR.out).mono ?_; rintro e w' ⟨rfl, rfl⟩)
    go_ret
    exact ⟨ret_int HE.out.symm, by unfold moveL; rw [if_neg (by rw [HE.out]; decide)]; exact H.out, Only.refl _ _⟩
  obtain ⟨i, rfl⟩ := Int.eq_ofNat_of_zero_le hr
  have hi : i < L.length := by omega
  rcases (by omega : (b < 0 ∨ (L.length : Int) ≤ b) ∨ (0 ≤ b ∧ b < L.length)) with hb | ⟨hb, hb'⟩
  · have HE : Hid (moveE L i b = 3) := by show _ = _; unfold moveE; rw [if_neg (by omega)]
    have HR := Lib.hid hb
    have H := Lib.hid h
    have hib : (i : Int) ≠ b := by omega
    clear hb h hG hlens
    go_enter Try.func29, Try.ntmps29
    go_wp2_with (go_at_call 38; (first | (with_reducible refine (row_true H.out i hi).mono ?_) | (with_reducible refine (row_false H.out b HR.out).mono ?_)); rintro e w' ⟨rfl, rfl⟩)
    go_ret
    exact ⟨ret_int HE.out.symm, by unfold moveL; rw [if_neg (by rw [HE.out]; decide)]; exact H.out, Only.refl _ _⟩
  obtain ⟨j, rfl⟩ := Int.eq_ofNat_of_zero_le hb
  have hj : j < L.length := by omega
  by_cases hij : i = j
  · subst hij
    have HE : Hid (moveE L i i = 1) := by show _ = _; unfold moveE; rw [if_pos ⟨⟨hr, hr'⟩, hb, hb'⟩, if_pos rfl]
    have H := Lib.hid h
    clear h hG hlens
    go_enter Try.func29, Try.ntmps29
    go_wp2_with (go_at_call 38; refine (row_true H.out i hi).mono ?_; rintro e w' ⟨rfl, rfl⟩)
    go_ret
    exact ⟨ret_int HE.out.symm, by unfold moveL; rw [if_neg (by rw [HE.out]; decide)]; exact H.out, Only.refl _ _⟩
  have HE : Hid (moveE L i j = 0) := by show _ = _; unfold moveE; rw [if_pos ⟨⟨hr, hr'⟩, hb, hb'⟩, if_neg (by omega)]
  have HP : Hid (moveL L i j = (L.set j (L.getD j [] ++ L.getD i [])).set i []) := by show _ = _; unfold moveL; rw [if_pos HE.out]; rfl
  have heq : ((i : Int) == (j : Int)) = false := by simp; omega
  obtain ⟨A, c, hrow, hm, hxx⟩ := h.row hi
  obtain ⟨A', c', hrow', hm', hxx'⟩ := h.row hj
  have HRD : Hid (Rd w (fun b => G b ∧ b ≠ p ∧ b ≠ q) (.slice A (L.getD i []).length c) (L.getD i [])) := ⟨A, c, rfl, hm, hxx⟩
  have HRD' : Hid (Rd w (fun b => G b ∧ b ≠ p ∧ b ≠ q) (.slice A' (L.getD j []).length c') (L.getD j [])) := ⟨A', c', rfl, hm', hxx'⟩
  have hll : (L.getD i []).length ≤ 1000 := hlens _ (by simp [List.getD_eq_getElem?_getD, hi])
  have hll' : (L.getD j []).length ≤ 1000 := hlens _ (by simp [List.getD_eq_getElem?_getD, hj])
  generalize hl : L.getD i [] = l at hrow hm hxx HRD HP hll
  generalize hl' : L.getD j [] = l' at hrow' hm' hxx' HRD' HP hll'
  have hpb : p < w.heap.size := lt_of_block h.1
  have hqb : q < w.heap.size := by obtain ⟨_, _, _, _, _, _, _, vs, hq, _⟩ := h; exact lt_of_block hq
  have hqf : w.frozen? ⟨q, i, none⟩ = false := by obtain ⟨_, _, _, _, _, _, _, vs, hq, _⟩ := h; exact frozen_block hq i
  have hqf' : w.frozen? ⟨q, j, none⟩ = false := by obtain ⟨_, _, _, _, _, _, _, vs, hq, _⟩ := h; exact frozen_block hq j
  have hpq : p ≠ q := h.2.1
  have H := Lib.hid h
  have HG := Lib.hid hG
  clear h hG hlens hxx hxx' hl hl'
  have i0 : (0 : Int) ≤ (i : Int) := by omega
  have i1 : (i : Int) < (L.length : Int) := by omega
  have j0 : (0 : Int) ≤ (j : Int) := by omega
  have j1 : (j : Int) < (L.length : Int) := by omega
  have hji : j ≠ i := fun e => hij e.symm
  go_enter Try.func29, Try.ntmps29
  go_wp2_with (go_at_call 38; (first | (with_reducible refine (row_true H.out i hi).mono ?_) | (with_reducible refine (row_true H.out j hj).mono ?_)); rintro e w' ⟨rfl, rfl⟩)
  refine Held.begin_ (fun W : World => W.cell? ⟨p, 0, none⟩ = some (.slice (some ⟨q, 0, none⟩) L.length L.length) ∧ W.cell? ⟨q, i, none⟩ = some (.slice A l.length c) ∧ W.cell? ⟨q, j, none⟩ = some (.slice A' l'.length c')) 23 (by kernel_rfl) ?_
  have hC : (fun W : World => W.cell? ⟨p, 0, none⟩ = some (.slice (some ⟨q, 0, none⟩) L.length L.length) ∧ W.cell? ⟨q, i, none⟩ = some (.slice A l.length c) ∧ W.cell? ⟨q, j, none⟩ = some (.slice A' l'.length c')) w.drew := ⟨h0, hrow, hrow'⟩
  refine Held.take 0 (v := ?_) hC rfl (by kernel_rfl) (by kernel_rfl) (by kernel_rfl) (by kernel_rfl) (fun _ _ _ h => h) ?_ ?_; rotate_left; · (intro W hW; obtain ⟨k0, k1, k2⟩ := hW; go_simp <;> with_reducible rfl)
  try simp only [Act.put, List.setIfInBounds_toArray, List.set_cons_zero, List.set_cons_succ]
  refine Held.take 1 (v := ?_) hC rfl (by kernel_rfl) (by kernel_rfl) (by kernel_rfl) (by kernel_rfl) (fun _ _ _ h => h) ?_ ?_; rotate_left; · (intro W hW; obtain ⟨k0, k1, k2⟩ := hW; go_simp <;> with_reducible rfl)
  try simp only [Act.put, List.setIfInBounds_toArray, List.set_cons_zero, List.set_cons_succ]
  refine Held.take 2 (v := ?_) hC rfl (by kernel_rfl) (by kernel_rfl) (by kernel_rfl) (by kernel_rfl) (fun _ _ _ h => h) ?_ ?_; rotate_left; · (intro W hW; obtain ⟨k0, k1, k2⟩ := hW; go_simp <;> with_reducible rfl)
  try simp only [Act.put, List.setIfInBounds_toArray, List.set_cons_zero, List.set_cons_succ]
  refine Held.take 3 (v := ?_) hC rfl (by kernel_rfl) (by kernel_rfl) (by kernel_rfl) (by kernel_rfl) (fun _ _ _ h => h) ?_ ?_; rotate_left; · (intro W hW; obtain ⟨k0, k1, k2⟩ := hW; go_simp <;> with_reducible rfl)
  try simp only [Act.put, List.setIfInBounds_toArray, List.set_cons_zero, List.set_cons_succ]
  refine Held.take 4 (v := ?_) hC rfl (by kernel_rfl) (by kernel_rfl) (by kernel_rfl) (by kernel_rfl) (fun _ _ _ h => h) ?_ ?_; rotate_left; · (intro W hW; obtain ⟨k0, k1, k2⟩ := hW; go_simp <;> with_reducible rfl)
  try simp only [Act.put, List.setIfInBounds_toArray, List.set_cons_zero, List.set_cons_succ]
  refine Held.take 6 (v := ?_) hC rfl (by kernel_rfl) (by kernel_rfl) (by kernel_rfl) (by kernel_rfl) (fun _ _ _ h => h) ?_ ?_; rotate_left; · (intro W hW; obtain ⟨k0, k1, k2⟩ := hW; go_simp <;> with_reducible rfl)
  try simp only [Act.put, List.setIfInBounds_toArray, List.set_cons_zero, List.set_cons_succ]
  refine Held.take 7 (v := ?_) hC rfl (by kernel_rfl) (by kernel_rfl) (by kernel_rfl) (by kernel_rfl) (fun _ _ _ h => h) ?_ ?_; rotate_left; · (intro W hW; obtain ⟨k0, k1, k2⟩ := hW; go_simp <;> with_reducible rfl)
  try simp only [Act.put, List.setIfInBounds_toArray, List.set_cons_zero, List.set_cons_succ]
  refine Held.take 8 (v := ?_) hC rfl (by kernel_rfl) (by kernel_rfl) (by kernel_rfl) (by kernel_rfl) (fun _ _ _ h => h) ?_ ?_; rotate_left; · (intro W hW; obtain ⟨k0, k1, k2⟩ := hW; go_simp <;> with_reducible rfl)
  try simp only [Act.put, List.setIfInBounds_toArray, List.set_cons_zero, List.set_cons_succ]
  refine Held.take 9 (v := ?_) hC rfl (by kernel_rfl) (by kernel_rfl) (by kernel_rfl) (by kernel_rfl) (fun _ _ _ h => h) ?_ ?_; rotate_left; · (intro W hW; obtain ⟨k0, k1, k2⟩ := hW; go_simp <;> with_reducible rfl)
  try simp only [Act.put, List.setIfInBounds_toArray, List.set_cons_zero, List.set_cons_succ]
  refine Held.take 10 (v := ?_) hC rfl (by kernel_rfl) (by kernel_rfl) (by kernel_rfl) (by kernel_rfl) (fun _ _ _ h => h) ?_ ?_; rotate_left; · (intro W hW; obtain ⟨k0, k1, k2⟩ := hW; go_simp <;> with_reducible rfl)
  try simp only [Act.put, List.setIfInBounds_toArray, List.set_cons_zero, List.set_cons_succ]
  refine Held.take 11 (v := ?_) hC rfl (by kernel_rfl) (by kernel_rfl) (by kernel_rfl) (by kernel_rfl) (fun _ _ _ h => h) ?_ ?_; rotate_left; · (intro W hW; obtain ⟨k0, k1, k2⟩ := hW; go_simp <;> with_reducible rfl)
  try simp only [Act.put, List.setIfInBounds_toArray, List.set_cons_zero, List.set_cons_succ]
  refine Held.take 12 (v := ?_) hC rfl (by kernel_rfl) (by kernel_rfl) (by kernel_rfl) (by kernel_rfl) (fun _ _ _ h => h) ?_ ?_; rotate_left; · (intro W hW; obtain ⟨k0, k1, k2⟩ := hW; go_simp <;> with_reducible rfl)
  try simp only [Act.put, List.setIfInBounds_toArray, List.set_cons_zero, List.set_cons_succ]
  refine Held.take 14 (v := ?_) hC rfl (by kernel_rfl) (by kernel_rfl) (by kernel_rfl) (by kernel_rfl) (fun _ _ _ h => h) ?_ ?_; rotate_left; · (intro W hW; obtain ⟨k0, k1, k2⟩ := hW; go_simp <;> with_reducible rfl)
  try simp only [Act.put, List.setIfInBounds_toArray, List.set_cons_zero, List.set_cons_succ]
  refine Held.take 15 (v := ?_) hC rfl (by kernel_rfl) (by kernel_rfl) (by kernel_rfl) (by kernel_rfl) (fun _ _ _ h => h) ?_ ?_; rotate_left; · (intro W hW; obtain ⟨k0, k1, k2⟩ := hW; go_simp <;> with_reducible rfl)
  try simp only [Act.put, List.setIfInBounds_toArray, List.set_cons_zero, List.set_cons_succ]
  refine Held.take 16 (v := ?_) hC rfl (by kernel_rfl) (by kernel_rfl) (by kernel_rfl) (by kernel_rfl) (fun _ _ _ h => h) ?_ ?_; rotate_left; · (intro W hW; obtain ⟨k0, k1, k2⟩ := hW; go_simp <;> with_reducible rfl)
  try simp only [Act.put, List.setIfInBounds_toArray, List.set_cons_zero, List.set_cons_succ]
  refine Held.take 17 (v := ?_) hC rfl (by kernel_rfl) (by kernel_rfl) (by kernel_rfl) (by kernel_rfl) (fun _ _ _ h => h) ?_ ?_; rotate_left; · (intro W hW; obtain ⟨k0, k1, k2⟩ := hW; go_simp <;> with_reducible rfl)
  try simp only [Act.put, List.setIfInBounds_toArray, List.set_cons_zero, List.set_cons_succ]
  refine Held.take 18 (v := ?_) hC rfl (by kernel_rfl) (by kernel_rfl) (by kernel_rfl) (by kernel_rfl) (fun _ _ _ h => h) ?_ ?_; rotate_left; · (intro W hW; obtain ⟨k0, k1, k2⟩ := hW; go_simp <;> with_reducible rfl)
  try simp only [Act.put, List.setIfInBounds_toArray, List.set_cons_zero, List.set_cons_succ]
  refine Held.take 19 (v := ?_) hC rfl (by kernel_rfl) (by kernel_rfl) (by kernel_rfl) (by kernel_rfl) (fun _ _ _ h => h) ?_ ?_; rotate_left; · (intro W hW; obtain ⟨k0, k1, k2⟩ := hW; go_simp <;> with_reducible rfl)
  try simp only [Act.put, List.setIfInBounds_toArray, List.set_cons_zero, List.set_cons_succ]
  refine Held.take 20 (v := ?_) hC rfl (by kernel_rfl) (by kernel_rfl) (by kernel_rfl) (by kernel_rfl) (fun _ _ _ h => h) ?_ ?_; rotate_left; · (intro W hW; obtain ⟨k0, k1, k2⟩ := hW; go_simp <;> with_reducible rfl)
  try simp only [Act.put, List.setIfInBounds_toArray, List.set_cons_zero, List.set_cons_succ]
  refine Held.only 5 (by kernel_rfl) rfl ?_
  intro K hK
  go_simp
  refine hK.out _ _ (fun _ => ⟨((new_below w _).cell (p := ⟨p, 0, none⟩) hpb).trans h0, ((new_below w _).cell (p := ⟨q, i, none⟩) hqb).trans hrow, ((new_below w _).cell (p := ⟨q, j, none⟩) hqb).trans hrow'⟩) ?_
  clear hK K
  try simp only [Act.put, List.setIfInBounds_toArray, List.set_cons_zero, List.set_cons_succ]
  refine Held.only 13 (by kernel_rfl) rfl ?_
  intro K hK
  refine wp_app (.tmp 25) (.tmp 32) intElem (by rfl) (by rfl) (by rfl) (Own.lit0 w _ _ (Nat.le_refl _)).drew (HRD'.out.below (new_below w _)) (by simp; omega) (by simp) ?_
  intro v1 w1 hown1 hgrow hat
  have hbel : Below w.heap.size w w1 := Below.grown (new_below w _) hgrow (by simp) (fun k hk => by simp [Value.ownBlock] at hk; omega)
  have hown2 : Own w1 w.heap.size 3 v1 l' := hown1
  obtain ⟨Ao, co, rfl⟩ := hown2.form
  have hws : w.heap.size ≤ w1.heap.size := hbel.size
  clear hown1 hgrow hat
  have HO := Lib.hid hown2
  have HB := Lib.hid hbel
  clear hown2 hbel
  refine hK.out _ _ (fun _ => ⟨(HB.out.cell (p := ⟨p, 0, none⟩) hpb).trans h0, (HB.out.cell (p := ⟨q, i, none⟩) hqb).trans hrow, (HB.out.cell (p := ⟨q, j, none⟩) hqb).trans hrow'⟩) ?_
  clear hK K
  try simp only [Act.put, List.setIfInBounds_toArray, List.set_cons_zero, List.set_cons_succ]
  refine Held.only 21 (by kernel_rfl) rfl ?_
  intro K hK
  refine wp_app (.tmp 33) (.tmp 40) intElem (by rfl) (by rfl) (by rfl) HO.out (HRD.out.below HB.out) (by omega) hws ?_
  intro v3 w3 hown3 hgrow hat
  have hbel : Below w.heap.size w w3 := Below.grown HB.out hgrow hws (fun k hk => (World.ownsRow.lt HO.out k hk).1)
  obtain ⟨A3, c3, rfl⟩ := hown3.form
  obtain ⟨k0, k1, k2⟩ : (fun W : World => W.cell? ⟨p, 0, none⟩ = some (.slice (some ⟨q, 0, none⟩) L.length L.length) ∧ W.cell? ⟨q, i, none⟩ = some (.slice A l.length c) ∧ W.cell? ⟨q, j, none⟩ = some (.slice A' l'.length c')) w3 := ⟨(hbel.cell (p := ⟨p, 0, none⟩) hpb).trans h0, (hbel.cell (p := ⟨q, i, none⟩) hqb).trans hrow, (hbel.cell (p := ⟨q, j, none⟩) hqb).trans hrow'⟩
  have fq : w3.frozen? ⟨q, i, none⟩ = false := (hbel.frozen (p := ⟨q, i, none⟩) hqb).trans hqf
  have fq' : w3.frozen? ⟨q, j, none⟩ = false := (hbel.frozen (p := ⟨q, j, none⟩) hqb).trans hqf'
  have HO3 := Lib.hid hown3
  have HB3 := Lib.hid hbel
  clear hown3 hbel hgrow hat
  refine hK.out _ _ (fun _ => ⟨k0, k1, k2⟩) ?_
  clear hK K
  try simp only [Act.put, List.setIfInBounds_toArray, List.set_cons_zero, List.set_cons_succ]
  refine Held.only 22 (by kernel_rfl) rfl ?_
  intro K hK
  go_simp
  refine hK.out _ _ (fun _ => ⟨k0, k1, k2⟩) ?_
  clear hK K
  try simp only [Act.put, List.setIfInBounds_toArray, List.set_cons_zero, List.set_cons_succ]
  refine Held.only 23 (by kernel_rfl) rfl ?_
  intro K hK
  go_simp
  refine hK.out _ _ (fun h => absurd rfl h) ?_
  clear hK K
  try simp only [Act.put, List.setIfInBounds_toArray, List.set_cons_zero, List.set_cons_succ]
  refine Held.done (by kernel_rfl) ?_ _
  go_wp2
  go_ret
  refine ⟨ret_int HE.out.symm, ?_, Only.setCell (F := fun b => b = q) (a := ⟨q, i, none⟩) (Only.setCell (F := fun b => b = q) (a := ⟨q, j, none⟩) (Only.of_below HB3.out) (.inl rfl) _) (.inl rfl) _⟩
  rw [HP.out]
  have hO3 := HO3.out
  rw [show (l' ++ l).length = l'.length + l.length from by simp] at hO3
  refine RA.set (RA.set (H.out.keep HB3.out.size fun k hk _ => HB3.out.block k hk) hj (hO3.rd (by simp; omega) fun g hg => ?_)) (by simpa using hi) (Rd.nil _ _ _ _)
  have := (World.ownsRow.lt hO3 g hg).1
  exact ⟨HG.out g this, by omega, by omega⟩

theorem new_no (r n : Int) (w : World) (h : r < 1 ∨ 1000 < r ∨ n < 1 ∨ 1000 < n) :
    Calls Try.prog 8 #[.int .i64 r, .int .i64 n] w fun e w' => e = .returned (.tuple #[.pointer none, .int .i64 1]) ∧ w = w' := by
  rcases (by omega : r < 1 ∨ (1 ≤ r ∧ 1000 < r) ∨ (1 ≤ r ∧ r ≤ 1000 ∧ n < 1) ∨ (1 ≤ r ∧ r ≤ 1000 ∧ 1 ≤ n ∧ 1000 < n)) with h1 | ⟨h1, h2⟩ | ⟨h1, h2, h3⟩ | ⟨h1, h2, h3, h4⟩
  all_goals
    clear h
    go_enter Try.func8, Try.ntmps8
    go_wp2
    go_ret2
    exact ⟨rfl, rfl⟩

theorem new_yes (r n : Int) (w : World) (h1 : 1 ≤ r) (h2 : r ≤ 1000) (h3 : 1 ≤ n) (h4 : n ≤ 1000) :
    Calls Try.prog 8 #[.int .i64 r, .int .i64 n] w fun e w' => ∃ p q, e = .returned (.tuple #[.pointer (some ⟨p, 0, none⟩), .int .i64 0]) ∧ RA w' (fun b => w.heap.size ≤ b) p q (List.replicate r.toNat []) n ∧ Below w.heap.size w w' := by
  obtain ⟨k, rfl⟩ := Int.eq_ofNat_of_zero_le (by omega : 0 ≤ r)
  have hmk := fun W => run_make_row' (P := Try.prog) 59 38 (.slice none 0 0) 24 Try.underlying59 (by kernel_rfl) rfl .i64 .i64 k (by omega) (by omega) W
  go_enter Try.func8, Try.ntmps8
  go_wp2
  go_ret2
  refine ⟨w.heap.size + 1, w.heap.size, rfl, ?_, ((Below.refl _ _).alloc (Nat.le_refl _) _).alloc (by simp) _⟩
  have hb1 : ((w.alloc (.cells (madeCells #[.slice none 0 0] k) 38)).alloc (.cells #[.slice (some ⟨w.heap.size, 0, none⟩) k k, .int .i64 n] 61)).heap[w.heap.size + 1]? = some (.cells #[.slice (some ⟨w.heap.size, 0, none⟩) k k, .int .i64 n] 61 (0, 0)) := by
    have := heap_alloc_new (w.alloc (.cells (madeCells #[.slice none 0 0] k) 38)) (.cells #[.slice (some ⟨w.heap.size, 0, none⟩) k k, .int .i64 n] 61)
    simpa using this
  have hb0 : ((w.alloc (.cells (madeCells #[.slice none 0 0] k) 38)).alloc (.cells #[.slice (some ⟨w.heap.size, 0, none⟩) k k, .int .i64 n] 61)).heap[w.heap.size]? = some (.cells (madeCells #[.slice none 0 0] k) 38 (0, 0)) := by
    rw [Below.heap_alloc _ _ _ (by simp)]
    exact heap_alloc_new w _
  refine ⟨by simpa using hb1, by omega, by omega, by omega, by simp; omega, by omega, by omega, madeCells #[.slice none 0 0] k, hb0, by simp [size_madeCells], fun j hj => ?_⟩
  have hj' : j < k := by simpa using hj
  have e1 : (madeCells #[Value.slice none 0 0] k).getD j undef = .slice none 0 0 := by simp [madeCells, Array.getD, hj', Nat.mod_one]
  have e2 : (List.replicate (k : Int).toNat ([] : List Int)).getD j [] = [] := by simp [List.getD_eq_getElem?_getD, hj']
  rw [e1, e2]
  exact Rd.nil _ _ _ _
end Go.Proofs.Ytaoagoklgjcdcaa.RefRing
