/-
  Package once, as it landed, over its arena of one row: who does it stands first there, behind that one those who wait. No condition.
-/
import Derived.Test.YtlepedhfnkamkaaArena
import Derived.Test.YtlepedhfnkamkaaOnceI
import Derived.Deep.LoopGhost
namespace Go.Proofs.Ytlepedhfnkamkaa.OnceA
open Go.ChangeShapes Go.WideShapes Go.ChangeAt Go.RowKit Mem MutP OnceP Hand RefMut Arena

/-- A thing: its own block, and its arena of one row. -/
def oa (g : Nat) (va : Value) (S D : Int) (W : List Int) (N : Int) : List Res := [blk g (.cells #[.int .i64 S, va] 56 (0, 0)), ob aren va ([rowO D W], N)]
theorem in_row {S D : Int} {W : List Int} {N t : Int} (h : OnceP.Ok S D W N) : (RefRing.inL [rowO D W] t == 0) = (inL W t || (decide (0 ≤ D) && decide (D = t))) := by
  rw [one_in]
  rcases h.is with ⟨_, hD⟩ | ⟨_, rfl, rfl⟩
  · rw [row_yes hD, decide_eq_true hD]
    unfold inL
    by_cases h1 : t ∈ W
    · simp [h1]
    · by_cases h2 : D = t
      · simp [h2]
      · rw [if_neg (by simp [h1]; exact fun e => h2 e.symm)]
        simp [h1, h2]
  · rw [row_no]
    simp [inL]
theorem first_row {S D : Int} {W : List Int} {N : Int} (h : OnceP.Ok S D W N) : RefRing.firstL [rowO D W] 0 = D := by
  rw [one_first]
  rcases h.is with ⟨_, hD⟩ | ⟨_, rfl, rfl⟩
  · rw [row_yes hD]; rfl
  · rw [row_no]; rfl
/-- A list that can be read, without its first. -/
theorem rd_tail {w : World} {G : Nat → Prop} {A A' : Option Addr} {n c c' : Nat} {x : Int} {W : List Int} (h : Rd w G (.slice A n c) (x :: W)) {b off : Nat} (hA0 : A = some ⟨b, off, none⟩) (hA : 0 < W.length → A' = some ⟨b, off + 1, none⟩) : Rd w G (.slice A' W.length c') W := by
  obtain ⟨A1, c1, e, hm, hx⟩ := h
  injection e with e1 e2 e3
  subst e1
  obtain ⟨b1, off1, e, hF, hb, hc⟩ := hx (by simp)
  rw [hA0] at e
  injection e with e
  injection e with e e'
  subst e e'
  simp only [List.length_cons] at hm hc
  refine ⟨A', c', rfl, by omega, fun h0 => ⟨b, off + 1, hA h0, hF, hb, fun j hj => ?_⟩⟩
  have h1 := hc (j + 1) (by omega)
  rw [show off + 1 + j = off + (j + 1) by omega]
  exact h1

section
variable {B : Nat → Prop} {w wk : World} {Rs : List Res} {g : Nat} {va : Value} {S D : Int} {W : List Int} {N : Int}
theorem oa_ptr (h : Sep B w wk (oa g va S D W N ++ Rs)) : ∃ a, va = .pointer (some a) := ob_ptr (O := aren) h 1 rfl
theorem oa_c (h : Sep B w wk (oa g va S D W N ++ Rs)) : wk.cell? ⟨g, 0, none⟩ = some (.int .i64 S) ∧ wk.cell? ⟨g, 1, none⟩ = some va := ⟨(cell_block (h.blk_at 0 rfl) 0).trans rfl, (cell_block (h.blk_at 0 rfl) 1).trans rfl⟩

set_option maxRecDepth 100000 in
theorem state_s (h : Sep B w wk (oa g va S D W N ++ Rs)) :
    Calls Try.prog 14 #[.pointer (some ⟨g, 0, none⟩)] wk fun e wn => e = .returned (.int .i64 S) ∧ wk = wn := by
  obtain ⟨c0, _⟩ := oa_c h
  clear h
  go_enter Try.func14, Try.ntmps14
  go_wp2
  go_ret
  exact ⟨rfl, rfl⟩

set_option maxRecDepth 100000 in
theorem by_s (h : Sep B w wk (oa g va S D W N ++ Rs)) (hok : OnceP.Ok S D W N) :
    Calls Try.prog 15 #[.pointer (some ⟨g, 0, none⟩)] wk fun e wn => e = .returned (.int .i64 D) ∧ ∃ n, wn = wk.drewN n := by
  obtain ⟨_, c1⟩ := oa_c h
  have HA := Lib.hid (a_first h 1 rfl 0)
  obtain ⟨a, rfl⟩ := oa_ptr h
  rw [first_row hok] at HA
  clear h hok
  go_enter Try.func15, Try.ntmps15
  go_wp2_with fail
  refine HA.out.mono ?_
  rintro e w1 ⟨rfl, n, rfl⟩
  go_wp2
  go_ret
  exact ⟨rfl, _, rfl⟩

set_option maxRecDepth 100000 in
theorem has_s (h : Sep B w wk (oa g va S D W N ++ Rs)) (t : Int) :
    Calls Try.prog 27 #[.pointer (some ⟨g, 0, none⟩), .int .i64 t] wk fun e wn => e = .returned (.bool (nameM N t)) ∧ wk = wn := by
  obtain ⟨_, c1⟩ := oa_c h
  have HA := Lib.hid (a_nodes h 1 rfl)
  obtain ⟨a, rfl⟩ := oa_ptr h
  clear h
  rcases (by omega : t < 0 ∨ (0 ≤ t ∧ t < N) ∨ (0 ≤ t ∧ N ≤ t)) with h1 | ⟨h1, h2⟩ | ⟨h1, h2⟩
  · have HE : Hid (nameM N t = false) := by show _ = _; unfold nameM; exact decide_eq_false (by omega)
    have d0 : decide (t ≥ 0) = false := by simp; omega
    go_enter Try.func27, Try.ntmps27
    go_wp2
    go_ret
    exact ⟨ret_bool HE.out.symm, rfl⟩
  · have HE : Hid (nameM N t = true) := name_iff.2 ⟨h1, h2⟩
    go_enter Try.func27, Try.ntmps27
    go_wp2_with fail
    refine HA.out.mono ?_
    rintro e w1 ⟨rfl, rfl⟩
    go_wp2
    go_ret
    exact ⟨ret_bool HE.out.symm, rfl⟩
  · have HE : Hid (nameM N t = false) := by show _ = _; unfold nameM; exact decide_eq_false (by omega)
    have d1 : decide (t < N) = false := by simp; omega
    go_enter Try.func27, Try.ntmps27
    go_wp2_with fail
    refine HA.out.mono ?_
    rintro e w1 ⟨rfl, rfl⟩
    go_wp2
    go_ret
    exact ⟨ret_bool HE.out.symm, rfl⟩

/-- Whether it is being done by t. -/
def doesB (D t : Int) : Bool := decide (0 ≤ D ∧ D = t)
set_option maxRecDepth 100000 in
theorem waits_s (h : Sep B w wk (oa g va S D W N ++ Rs)) (hok : OnceP.Ok S D W N) (t : Int) :
    Calls Try.prog 25 #[.pointer (some ⟨g, 0, none⟩), .int .i64 t] wk fun e wn => e = .returned (.bool (inL W t)) ∧ ∃ n, wn = wk.drewN n := by
  obtain ⟨_, c1⟩ := oa_c h
  have HA := Lib.hid (a_in h 1 rfl t)
  have HB := Lib.hid (by_s h hok)
  have hq := in_row (t := t) hok
  have hni : inL W t = true → D ≠ t ∧ 0 ≤ D := fun hi => by
    have hm : t ∈ W := by unfold inL at hi; simpa using hi
    have hD := (hok.in_name hm).1
    exact ⟨fun e => hok.not_in hD (by rw [e]; exact hm), hD⟩
  obtain ⟨a, rfl⟩ := oa_ptr h
  clear h hok
  generalize RefRing.inL [rowO D W] t = q at *
  cases hi : inL W t with
  | true =>
    rw [hi, Bool.true_or] at hq
    have hD : (D != t) = true := by have := (hni hi).1; simpa using this
    clear hni hi
    go_enter Try.func25, Try.ntmps25
    go_wp2_with fail
    refine HA.out.mono ?_
    rintro e w1 ⟨rfl, rfl⟩
    go_wp2_with fail
    refine HB.out.mono ?_
    rintro e w1 ⟨rfl, n, rfl⟩
    go_wp2
    go_ret
    exact ⟨rfl, _, rfl⟩
  | false =>
    rw [hi, Bool.false_or] at hq
    clear hni hi
    by_cases hD : 0 ≤ D ∧ D = t
    · obtain ⟨hD, rfl⟩ := hD
      have hq2 : (q == 0) = true := by rw [hq]; simpa using hD
      clear hq
      go_enter Try.func25, Try.ntmps25
      go_wp2_with fail
      refine HA.out.mono ?_
      rintro e w1 ⟨rfl, rfl⟩
      go_wp2_with fail
      refine HB.out.mono ?_
      rintro e w1 ⟨rfl, n, rfl⟩
      go_wp2
      go_ret
      exact ⟨rfl, _, rfl⟩
    · have hq2 : (q == 0) = false := by
        rw [hq]
        by_cases h1 : 0 ≤ D
        · by_cases h2 : D = t
          · exact absurd ⟨h1, h2⟩ hD
          · simp [h2]
        · simp [h1]
      clear hq hD
      go_enter Try.func25, Try.ntmps25
      go_wp2_with fail
      refine HA.out.mono ?_
      rintro e w1 ⟨rfl, rfl⟩
      go_wp2
      go_ret
      exact ⟨rfl, 0, rfl⟩

set_option maxRecDepth 100000 in
theorem does_s (h : Sep B w wk (oa g va S D W N ++ Rs)) (hok : OnceP.Ok S D W N) (t : Int) :
    Calls Try.prog 28 #[.pointer (some ⟨g, 0, none⟩), .int .i64 t] wk fun e wn => e = .returned (.bool (doesB D t)) ∧ ∃ n, wn = wk.drewN n := by
  obtain ⟨_, c1⟩ := oa_c h
  have HA := Lib.hid (a_in h 1 rfl t)
  have HB := Lib.hid (by_s h hok)
  have hq := in_row (t := t) hok
  have hni : inL W t = true → D ≠ t ∧ 0 ≤ D := fun hi => by
    have hm : t ∈ W := by unfold inL at hi; simpa using hi
    have hD := (hok.in_name hm).1
    exact ⟨fun e => hok.not_in hD (by rw [e]; exact hm), hD⟩
  obtain ⟨a, rfl⟩ := oa_ptr h
  clear h hok
  generalize RefRing.inL [rowO D W] t = q at *
  by_cases hD : 0 ≤ D ∧ D = t
  · have HE : Hid (doesB D t = true) := by show _ = _; unfold doesB; exact decide_eq_true hD
    obtain ⟨hD, rfl⟩ := hD
    have hq2 : (q == 0) = true := by rw [hq]; simp [hD]
    clear hq hni
    go_enter Try.func28, Try.ntmps28
    go_wp2_with fail
    refine HA.out.mono ?_
    rintro e w1 ⟨rfl, rfl⟩
    go_wp2_with fail
    refine HB.out.mono ?_
    rintro e w1 ⟨rfl, n, rfl⟩
    go_wp2
    go_ret
    exact ⟨ret_bool HE.out.symm, _, rfl⟩
  · have HE : Hid (doesB D t = false) := by show _ = _; unfold doesB; exact decide_eq_false hD
    cases hi : inL W t with
    | true =>
      rw [hi, Bool.true_or] at hq
      have hD : (D == t) = false := by have := (hni hi).1; simpa using this
      clear hni hi
      go_enter Try.func28, Try.ntmps28
      go_wp2_with fail
      refine HA.out.mono ?_
      rintro e w1 ⟨rfl, rfl⟩
      go_wp2_with fail
      refine HB.out.mono ?_
      rintro e w1 ⟨rfl, n, rfl⟩
      go_wp2
      go_ret
      exact ⟨ret_bool HE.out.symm, _, rfl⟩
    | false =>
      rw [hi, Bool.false_or] at hq
      have hq2 : (q == 0) = false := by
        rw [hq]
        by_cases h1 : 0 ≤ D
        · by_cases h2 : D = t
          · exact absurd ⟨h1, h2⟩ hD
          · simp [h2]
        · simp [h1]
      clear hq hD hni hi
      go_enter Try.func28, Try.ntmps28
      go_wp2_with fail
      refine HA.out.mono ?_
      rintro e w1 ⟨rfl, rfl⟩
      go_wp2
      go_ret
      exact ⟨ret_bool HE.out.symm, 0, rfl⟩

set_option maxRecDepth 100000 in
theorem may_s (h : Sep B w wk (oa g va S D W N ++ Rs)) (hok : OnceP.Ok S D W N) (t : Int) :
    Calls Try.prog 30 #[.pointer (some ⟨g, 0, none⟩), .int .i64 t] wk fun e wn => e = .returned (.int .i64 (begE D W N t)) ∧ ∃ n, wn = wk.drewN n := by
  have H := Lib.hid h
  have HO := Lib.hid hok
  clear h hok
  by_cases hn : nameM N t = true
  · have hn' : ¬ nameM N t = false := by rw [hn]; simp
    have hN := Lib.hid hn
    cases hi : inL W t with
    | true =>
      have HE : Hid (begE D W N t = 6) := by show _ = _; unfold begE; rw [if_neg hn', if_pos hi]
      have HI := Lib.hid hi
      rw [HE.out]
      clear hn hn' hi
      go_enter Try.func30, Try.ntmps30
      go_wp2_with fail
      refine (has_s H.out t).mono ?_
      rw [hN.out]
      rintro e w1 ⟨rfl, rfl⟩
      go_wp2_with fail
      refine (waits_s H.out HO.out t).mono ?_
      rw [HI.out]
      rintro e w1 ⟨rfl, n, rfl⟩
      go_wp2
      go_ret
      exact ⟨rfl, _, rfl⟩
    | false =>
      have hi' : ¬ inL W t = true := by rw [hi]; simp
      have HI := Lib.hid hi
      by_cases hD : D = t
      · have HE : Hid (begE D W N t = 4) := by show _ = _; unfold begE; rw [if_neg hn', if_neg hi', if_pos hD]
        have HD : Hid (doesB D t = true) := by show _ = _; unfold doesB; exact decide_eq_true ⟨by have := (name_iff.1 hn).1; omega, hD⟩
        rw [HE.out]
        clear hn hn' hi hi' hD
        go_enter Try.func30, Try.ntmps30
        go_wp2_with fail
        refine (has_s H.out t).mono ?_
        rw [hN.out]
        rintro e w1 ⟨rfl, rfl⟩
        go_wp2_with fail
        refine (waits_s H.out HO.out t).mono ?_
        rw [HI.out]
        rintro e w1 ⟨rfl, n, rfl⟩
        go_wp2_with fail
        refine (does_s (H.out.drewN n) HO.out t).mono ?_
        rw [HD.out]
        rintro e w1 ⟨rfl, n2, rfl⟩
        go_wp2
        go_ret
        exact ⟨rfl, _, rfl⟩
      · have HE : Hid (begE D W N t = 0) := by show _ = _; unfold begE; rw [if_neg hn', if_neg hi', if_neg hD]
        have HD : Hid (doesB D t = false) := by show _ = _; unfold doesB; exact decide_eq_false fun e => hD e.2
        rw [HE.out]
        clear hn hn' hi hi' hD
        go_enter Try.func30, Try.ntmps30
        go_wp2_with fail
        refine (has_s H.out t).mono ?_
        rw [hN.out]
        rintro e w1 ⟨rfl, rfl⟩
        go_wp2_with fail
        refine (waits_s H.out HO.out t).mono ?_
        rw [HI.out]
        rintro e w1 ⟨rfl, n, rfl⟩
        go_wp2_with fail
        refine (does_s (H.out.drewN n) HO.out t).mono ?_
        rw [HD.out]
        rintro e w1 ⟨rfl, n2, rfl⟩
        go_wp2
        go_ret
        exact ⟨rfl, _, rfl⟩
  · have hn' : nameM N t = false := by simpa using hn
    have HE : Hid (begE D W N t = 3) := by show _ = _; unfold begE; rw [if_pos hn']
    have hN := Lib.hid hn'
    rw [HE.out]
    clear hn hn'
    go_enter Try.func30, Try.ntmps30
    go_wp2_with fail
    refine (has_s H.out t).mono ?_
    rw [hN.out]
    rintro e w1 ⟨rfl, rfl⟩
    go_wp2
    go_ret
    exact ⟨rfl, 0, rfl⟩

set_option maxRecDepth 100000 in
theorem waiting_s (h : Sep B w wk (oa g va S D W N ++ Rs)) (hok : OnceP.Ok S D W N) :
    Calls Try.prog 16 #[.pointer (some ⟨g, 0, none⟩)] wk fun e wn => ∃ u, e = .returned u ∧ Says wk wn u W := by
  obtain ⟨_, c1⟩ := oa_c h
  have ha := a_fits h 1 rfl 0
  rw [one_list] at ha
  have hwl := hok.wlen
  obtain ⟨a, rfl⟩ := oa_ptr h
  clear h
  rcases hok.is with ⟨rfl, hD⟩ | ⟨_, rfl, rfl⟩
  · rw [row_yes hD, List.length_cons] at ha
    have HA := Lib.hid ha
    clear ha hD hok
    go_enter Try.func16, Try.ntmps16
    go_wp2_with fail
    refine HA.out.mono ?_
    rintro e w1 ⟨A1, cc, rfl, h1, hb1, hf⟩
    have HR := Lib.hid h1
    have HB := Lib.hid hb1
    obtain ⟨A2, c2, e, _, hx⟩ := h1
    injection e with e1 e2 e3
    subst e1
    obtain ⟨b, off, rfl, _, hbl, _⟩ := hx (by simp)
    clear HA hx hb1 e2 e3
    go_wp2
    all_goals
      go_ret
      refine ⟨_, rfl, rd_tail HR.out rfl ?_, HB.out⟩
      intro h0
      first | rfl | omega
  · rw [row_no] at ha
    have HA := Lib.hid ha
    clear ha hok
    go_enter Try.func16, Try.ntmps16
    go_wp2_with fail
    refine HA.out.mono ?_
    rintro e w1 ⟨A1, cc, rfl, h1, hb1, hf⟩
    have HB := Lib.hid hb1
    clear HA h1 hb1 hf
    go_wp2
    go_ret
    exact ⟨_, rfl, Rd.nil _ _ _ _, HB.out⟩

set_option maxRecDepth 100000 in
theorem leave_s (h : Sep B w wk (oa g va S D W N ++ Rs)) (hok : OnceP.Ok S D W N) (t : Int) :
    Calls Try.prog 18 #[.pointer (some ⟨g, 0, none⟩), .int .i64 t] wk fun e wn => e = .returned (.bool (inL W t)) ∧ Sep B w wn (oa g va S D (withoutL W t) N ++ Rs) := by
  obtain ⟨_, c1⟩ := oa_c h
  obtain ⟨a, rfl⟩ := oa_ptr h
  have H := Lib.hid h
  have HO := Lib.hid hok
  have hg := lt_of_block (h.blk_at 0 rfl)
  clear h hok
  cases hi : inL W t with
  | true =>
    have hm : t ∈ W := by unfold inL at hi; simpa using hi
    have hD := (HO.out.in_name hm).1
    have hne : D ≠ t := fun e => HO.out.not_in hD (by rw [e]; exact hm)
    have HE : Hid (decide (0 ≤ RefRing.inL [rowO D W] t) = true) := by
      show _ = _
      rw [one_in, if_pos (by rw [row_yes hD]; exact List.mem_cons_of_mem _ hm)]
      rfl
    have HF : Hid (RefRing.dropL [rowO D W] t = [rowO D (withoutL W t)]) := by
      show _ = _
      rw [one_drop, row_yes hD, row_yes hD, List.filter_cons, if_pos (by simpa using hne)]
      rfl
    have HI := Lib.hid hi
    have HC : Hid (∀ n, (wk.drewN n).cell? ⟨g, 1, none⟩ = some (.pointer (some a))) := fun n => c1
    clear hm hD hne hi c1
    go_enter Try.func18, Try.ntmps18
    go_wp2_with fail
    refine (waits_s H.out HO.out t).mono ?_
    rw [HI.out]
    rintro e w1 ⟨rfl, n, rfl⟩
    have c1 := HC.out n
    go_wp2_with fail
    refine (a_drop (H.out.drewN n) 1 rfl t).mono ?_
    rw [HE.out, HF.out]
    rintro e w2 ⟨rfl, h2⟩
    have H2 : Hid (Sep B w w2 (oa g (.pointer (some a)) S D (withoutL W t) N ++ Rs)) := h2
    clear h2 H c1
    go_wp2
    go_ret
    exact ⟨rfl, H2.out⟩
  | false =>
    have HI := Lib.hid hi
    rw [without_id hi]
    clear hi
    go_enter Try.func18, Try.ntmps18
    go_wp2_with fail
    refine (waits_s H.out HO.out t).mono ?_
    rw [HI.out]
    rintro e w1 ⟨rfl, n, rfl⟩
    have H2 := Lib.hid (H.out.drewN n)
    clear H
    go_wp2
    go_ret
    exact ⟨rfl, H2.out⟩
end
end Go.Proofs.Ytlepedhfnkamkaa.OnceA
