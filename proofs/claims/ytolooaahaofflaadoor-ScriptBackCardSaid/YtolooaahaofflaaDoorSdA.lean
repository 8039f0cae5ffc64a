/-
  What package script does as it landed, first part: Right, what its parts may be (function literals handed to the library's ContainsFunc). Condition: the table of package code lies as it was written.
-/
import Derived.Test.YtolooaahaofflaaDoorCdH
import Derived.Test.YtolooaahaofflaaDoorRefScrC
namespace Go.Proofs.YtolooaahaofflaaDoor.ScA
open Go.ChangeShapes Go.WideShapes Go.ChangeAt Go.RowKit Mem MutP CodeP ScriptP Hand RefCode CodeI Scr CodeT CdA RefScr

theorem number_k (x many : Int) (w : World) : Calls Tryd.prog 33 #[.int .i64 x, .int .i64 many] w fun e w' => e = .returned (.bool (decide (0 ≤ x ∧ x < many))) ∧ w = w' := by
  obtain ⟨r, hr⟩ : ∃ r, decide (0 ≤ x ∧ x < many) = r := ⟨_, rfl⟩
  rw [hr]
  rcases (by omega : x < 0 ∨ (0 ≤ x ∧ x < many) ∨ (0 ≤ x ∧ many ≤ x)) with h0 | ⟨h0, h1⟩ | ⟨h0, h1⟩
  · obtain rfl : r = false := by rw [← hr]; exact decide_eq_false (by omega)
    have d0 : decide (x ≥ 0) = false := decide_eq_false (by omega)
    clear hr
    go_enter Tryd.func33, Tryd.ntmps33
    go_wp2
    go_ret
    exact ⟨rfl, rfl⟩
  · obtain rfl : r = true := by rw [← hr]; exact decide_eq_true ⟨h0, h1⟩
    have d0 : decide (x ≥ 0) = true := decide_eq_true h0
    have d1 : decide (x < many) = true := decide_eq_true h1
    clear hr
    go_enter Tryd.func33, Tryd.ntmps33
    go_wp2
    go_ret
    exact ⟨rfl, rfl⟩
  · obtain rfl : r = false := by rw [← hr]; exact decide_eq_false (by omega)
    have d0 : decide (x ≥ 0) = true := decide_eq_true h0
    have d1 : decide (x < many) = false := decide_eq_false (by omega)
    clear hr
    go_enter Tryd.func33, Tryd.ntmps33
    go_wp2
    go_ret
    exact ⟨rfl, rfl⟩
theorem many_k (n : Int) (w : World) : Calls Tryd.prog 28 #[.int .i64 n] w fun e w' => e = .returned (.bool (decide (1 ≤ n ∧ n ≤ 8))) ∧ w = w' := by
  obtain ⟨r, hr⟩ : ∃ r, decide (1 ≤ n ∧ n ≤ 8) = r := ⟨_, rfl⟩
  rw [hr]
  rcases (by omega : n < 1 ∨ (1 ≤ n ∧ n ≤ 8) ∨ (1 ≤ n ∧ 8 < n)) with h0 | ⟨h0, h1⟩ | ⟨h0, h1⟩
  · obtain rfl : r = false := by rw [← hr]; exact decide_eq_false (by omega)
    have d0 : decide (n ≥ 1) = false := decide_eq_false (by omega)
    clear hr
    go_enter Tryd.func28, Tryd.ntmps28
    go_wp2
    go_ret
    exact ⟨rfl, rfl⟩
  · obtain rfl : r = true := by rw [← hr]; exact decide_eq_true ⟨h0, h1⟩
    have d0 : decide (n ≥ 1) = true := decide_eq_true h0
    have d1 : decide (n ≤ 8) = true := decide_eq_true h1
    clear hr
    go_enter Tryd.func28, Tryd.ntmps28
    go_wp2
    go_ret
    exact ⟨rfl, rfl⟩
  · obtain rfl : r = false := by rw [← hr]; exact decide_eq_false (by omega)
    have d0 : decide (n ≥ 1) = true := decide_eq_true h0
    have d1 : decide (n ≤ 8) = false := decide_eq_false (by omega)
    clear hr
    go_enter Tryd.func28, Tryd.ntmps28
    go_wp2
    go_ret
    exact ⟨rfl, rfl⟩

set_option maxRecDepth 100000 in
theorem right_k (x : It) (w : World) : Calls Tryd.prog 13 #[.agg #[.int .i64 x.d, .int .i64 x.a, .int .i64 x.n]] w fun e w' => e = .returned (.bool (rightI x)) ∧ Below w.heap.size w w' := by
  obtain ⟨d, a, n⟩ := x
  have HB : Hid (Below w.heap.size w (w.alloc (.cells #[.int .i64 d, .int .i64 a, .int .i64 n] 23))) := new_below0 w _
  obtain ⟨r, hr⟩ : ∃ r, rightI ⟨d, a, n⟩ = r := ⟨_, rfl⟩
  have HR := Lib.hid hr
  rw [hr]
  clear hr
  by_cases h2 : d = 2
  · subst h2
    obtain rfl : r = decide (a = 0) := HR.out.symm
    clear HR
    obtain ⟨z, hz⟩ : ∃ z, decide (a = 0) = z := ⟨_, rfl⟩
    have e0 : (a == 0) = z := by rw [← hz]; by_cases h : a = 0 <;> simp [h]
    rw [hz]
    clear hz
    go_enter Tryd.func13, Tryd.ntmps13
    go_wp2
    go_ret
    exact ⟨rfl, HB.out⟩
  have g2 : (d == 2) = false := by simpa using h2
  have HR2 : Hid (r = decide ((d = 0 ∨ d = 1) ∧ n = 0 ∧ 0 ≤ a ∧ a < (if d = 1 then 16 else 8))) := by
    show _ = _
    rw [← HR.out]
    unfold rightI
    exact if_neg h2
  clear HR
  by_cases h1 : d = 1
  · subst h1
    have HC := Lib.hid (number_k a 16)
    obtain ⟨q, hq⟩ : ∃ q, decide (0 ≤ a ∧ a < 16) = q := ⟨_, rfl⟩
    have HQ : Hid (r = (q && decide (n = 0))) := by
      show _ = _
      rw [HR2.out, ← hq]
      by_cases hn : n = 0 <;> by_cases ha : 0 ≤ a ∧ a < 16 <;> simp [hn, ha]
    rw [hq] at HC
    clear HR2 hq h2
    cases q
    · obtain rfl : r = false := HQ.out
      go_enter Tryd.func13, Tryd.ntmps13
      go_wp2_with fail
      refine (HC.out _).mono ?_
      rintro e w1 ⟨rfl, rfl⟩
      go_wp2
      go_ret
      exact ⟨rfl, HB.out⟩
    · obtain ⟨z, hz⟩ : ∃ z, decide (n = 0) = z := ⟨_, rfl⟩
      have e0 : (n == 0) = z := by rw [← hz]; by_cases h : n = 0 <;> simp [h]
      rw [hz] at HQ
      obtain rfl : r = z := HQ.out
      clear hz HQ
      go_enter Tryd.func13, Tryd.ntmps13
      go_wp2_with fail
      refine (HC.out _).mono ?_
      rintro e w1 ⟨rfl, rfl⟩
      go_wp2
      go_ret
      exact ⟨rfl, HB.out⟩
  have g1 : (d == 1) = false := by simpa using h1
  by_cases h0 : d = 0
  · subst h0
    have HC := Lib.hid (number_k a 8)
    obtain ⟨q, hq⟩ : ∃ q, decide (0 ≤ a ∧ a < 8) = q := ⟨_, rfl⟩
    have HQ : Hid (r = (q && decide (n = 0))) := by
      show _ = _
      rw [HR2.out, ← hq]
      by_cases hn : n = 0 <;> by_cases ha : 0 ≤ a ∧ a < 8 <;> simp [hn, ha]
    rw [hq] at HC
    clear HR2 hq h2
    cases q
    · obtain rfl : r = false := HQ.out
      go_enter Tryd.func13, Tryd.ntmps13
      go_wp2_with fail
      refine (HC.out _).mono ?_
      rintro e w1 ⟨rfl, rfl⟩
      go_wp2
      go_ret
      exact ⟨rfl, HB.out⟩
    · obtain ⟨z, hz⟩ : ∃ z, decide (n = 0) = z := ⟨_, rfl⟩
      have e0 : (n == 0) = z := by rw [← hz]; by_cases h : n = 0 <;> simp [h]
      rw [hz] at HQ
      obtain rfl : r = z := HQ.out
      clear hz HQ
      go_enter Tryd.func13, Tryd.ntmps13
      go_wp2_with fail
      refine (HC.out _).mono ?_
      rintro e w1 ⟨rfl, rfl⟩
      go_wp2
      go_ret
      exact ⟨rfl, HB.out⟩
  have g0 : (d == 0) = false := by simpa using h0
  obtain rfl : r = false := HR2.out.trans (decide_eq_false (fun hh => by omega))
  clear HR2 h2 h1 h0
  go_enter Tryd.func13, Tryd.ntmps13
  go_wp2
  go_ret
  exact ⟨rfl, HB.out⟩

set_option maxRecDepth 100000 in
set_option maxHeartbeats 1000000 in
theorem rooms_k (r0 r1 r2 r3 : Int) (w : World) : Calls Tryd.prog 20 #[.agg #[.int .i64 r0, .int .i64 r1, .int .i64 r2, .int .i64 r3]] w fun e w' => e = .returned (.bool ([r0, r1, r2, r3].all fun x => decide (0 ≤ x))) ∧ Below w.heap.size w w' := by
  obtain ⟨wa, hwa⟩ : ∃ wa : World, wa = w.alloc (.cells #[.int .i64 r0, .int .i64 r1, .int .i64 r2, .int .i64 r3] 24) := ⟨_, rfl⟩
  have HB : Hid (Below w.heap.size w (w.alloc (.cells #[.int .i64 r0, .int .i64 r1, .int .i64 r2, .int .i64 r3] 24))) := new_below0 w _
  clear hwa wa
  obtain ⟨r, hr⟩ : ∃ r, ([r0, r1, r2, r3].all fun x => decide (0 ≤ x)) = r := ⟨_, rfl⟩
  have HR := Lib.hid hr
  rw [hr]
  clear hr
  go_enter Tryd.func20, Tryd.ntmps20
  go_wp2
  go_loopw [6] (fun t wr => ∃ i : Nat, i ≤ 4 ∧ t = .int .i64 (i : Int) ∧ Hid (Below w.heap.size w wr) ∧ Hid (∀ x ∈ [r0, r1, r2, r3].take i, 0 ≤ x)) (fun t _ => 4 - (intOf t).toNat)
  case atStart => exact ⟨0, Nat.zero_le _, rfl, HB, by show ∀ x ∈ _, _; simp⟩
  case round =>
    obtain ⟨i, hi, rfl, HS, HA⟩ := hrel
    clear HB
    rcases (by omega : i = 0 ∨ i = 1 ∨ i = 2 ∨ i = 3 ∨ i = 4) with rfl | rfl | rfl | rfl | rfl
    · rw [show ((0 : Nat) : Int) = 0 from rfl]
      have ix : ∀ W, (Instr.index 24 (.agg #[.int .i64 r0, .int .i64 r1, .int .i64 r2, .int .i64 r3]) (.int .i64 0)).run Tryd.prog W = .ok (.int .i64 r0) W := fun _ => by kernel_rfl
      rcases (by omega : r0 < 0 ∨ 0 ≤ r0) with h | h
      · have d0 : decide (r0 < 0) = true := decide_eq_true h
        have HF : Hid (r = false) := by
          show _ = _
          rw [← HR.out]
          simp
          omega
        clear h
        go_wp2
        go_ret
        exact ⟨ret_bool HF.out.symm, HS.out⟩
      · have d0 : decide (r0 < 0) = false := decide_eq_false (by omega)
        have HN : Hid (∀ x ∈ [r0, r1, r2, r3].take (0 + 1), 0 ≤ x) := by
          intro x hx
          have h1 := HA.out
          simp at h1 hx
          omega
        clear h HA
        go_wp2
        go_roundw
        case rel => exact ⟨0 + 1, by omega, rfl, HS, HN⟩
        case measure => simp [intOf]
    · rw [show ((1 : Nat) : Int) = 1 from rfl]
      have ix : ∀ W, (Instr.index 24 (.agg #[.int .i64 r0, .int .i64 r1, .int .i64 r2, .int .i64 r3]) (.int .i64 1)).run Tryd.prog W = .ok (.int .i64 r1) W := fun _ => by kernel_rfl
      rcases (by omega : r1 < 0 ∨ 0 ≤ r1) with h | h
      · have d0 : decide (r1 < 0) = true := decide_eq_true h
        have HF : Hid (r = false) := by
          show _ = _
          rw [← HR.out]
          simp
          omega
        clear h
        go_wp2
        go_ret
        exact ⟨ret_bool HF.out.symm, HS.out⟩
      · have d0 : decide (r1 < 0) = false := decide_eq_false (by omega)
        have HN : Hid (∀ x ∈ [r0, r1, r2, r3].take (1 + 1), 0 ≤ x) := by
          intro x hx
          have h1 := HA.out
          simp at h1 hx
          omega
        clear h HA
        go_wp2
        go_roundw
        case rel => exact ⟨1 + 1, by omega, rfl, HS, HN⟩
        case measure => simp [intOf]
    · rw [show ((2 : Nat) : Int) = 2 from rfl]
      have ix : ∀ W, (Instr.index 24 (.agg #[.int .i64 r0, .int .i64 r1, .int .i64 r2, .int .i64 r3]) (.int .i64 2)).run Tryd.prog W = .ok (.int .i64 r2) W := fun _ => by kernel_rfl
      rcases (by omega : r2 < 0 ∨ 0 ≤ r2) with h | h
      · have d0 : decide (r2 < 0) = true := decide_eq_true h
        have HF : Hid (r = false) := by
          show _ = _
          rw [← HR.out]
          simp
          omega
        clear h
        go_wp2
        go_ret
        exact ⟨ret_bool HF.out.symm, HS.out⟩
      · have d0 : decide (r2 < 0) = false := decide_eq_false (by omega)
        have HN : Hid (∀ x ∈ [r0, r1, r2, r3].take (2 + 1), 0 ≤ x) := by
          intro x hx
          have h1 := HA.out
          simp at h1 hx
          omega
        clear h HA
        go_wp2
        go_roundw
        case rel => exact ⟨2 + 1, by omega, rfl, HS, HN⟩
        case measure => simp [intOf]
    · rw [show ((3 : Nat) : Int) = 3 from rfl]
      have ix : ∀ W, (Instr.index 24 (.agg #[.int .i64 r0, .int .i64 r1, .int .i64 r2, .int .i64 r3]) (.int .i64 3)).run Tryd.prog W = .ok (.int .i64 r3) W := fun _ => by kernel_rfl
      rcases (by omega : r3 < 0 ∨ 0 ≤ r3) with h | h
      · have d0 : decide (r3 < 0) = true := decide_eq_true h
        have HF : Hid (r = false) := by
          show _ = _
          rw [← HR.out]
          simp
          omega
        clear h
        go_wp2
        go_ret
        exact ⟨ret_bool HF.out.symm, HS.out⟩
      · have d0 : decide (r3 < 0) = false := decide_eq_false (by omega)
        have HN : Hid (∀ x ∈ [r0, r1, r2, r3].take (3 + 1), 0 ≤ x) := by
          intro x hx
          have h1 := HA.out
          simp at h1 hx
          omega
        clear h HA
        go_wp2
        go_roundw
        case rel => exact ⟨3 + 1, by omega, rfl, HS, HN⟩
        case measure => simp [intOf]
    · have HF : Hid (r = true) := by
        show _ = _
        rw [← HR.out, List.all_eq_true]
        exact fun x hx => decide_eq_true (HA.out x hx)
      go_wp2
      go_ret
      exact ⟨ret_bool HF.out.symm, HS.out⟩

theorem kElemX : Elem itE Tryd.prog 26 23 := elem_of (z := .agg #[.int .i64 0, .int .i64 0, .int .i64 0]) (bytes := 24) Tryd.underlying26 (by kernel_rfl) rfl (by omega)
theorem kElemP : Elem (plE (α := In)) Tryd.prog 25 57 := elem_of (z := .slice none 0 0) (bytes := 24) Tryd.underlying25 (by kernel_rfl) rfl (by omega)

set_option maxRecDepth 100000 in
theorem wrongX_k (x : It) (w : World) : Calls Tryd.prog 42 #[.agg #[.int .i64 x.d, .int .i64 x.a, .int .i64 x.n]] w fun e w' => e = .returned (.bool (!rightI x)) ∧ Below w.heap.size w w' := by
  have HR := Lib.hid (right_k x (w.alloc (.cells #[.int .i64 x.d, .int .i64 x.a, .int .i64 x.n] 23)))
  have HB : Hid (Below w.heap.size w (w.alloc (.cells #[.int .i64 x.d, .int .i64 x.a, .int .i64 x.n] 23))) := new_below0 w _
  generalize rightI x = r at *
  go_enter Tryd.func42, Tryd.ntmps42
  go_wp2_with fail
  refine HR.out.mono ?_
  rintro e w1 ⟨rfl, hb⟩
  have HB1 : Hid (Below w.heap.size w w1) := HB.out.trans (hb.mono (by simp))
  clear hb HB HR
  go_wp2
  go_ret
  exact ⟨rfl, HB1.out⟩
set_option maxRecDepth 100000 in
theorem wrongP_k {w : World} {G : Nat → Prop} {A : Option Addr} {n c : Nat} {l : List In} (hT : Tab w) (h : RdL inE w G (.slice A n c) l) : Calls Tryd.prog 39 #[.slice A n c] w fun e w' => e = .returned (.bool (!mayB l)) ∧ Below w.heap.size w w' := by
  have HR := Lib.hid (may_l hT h)
  generalize mayB l = r at *
  clear hT h
  go_enter Tryd.func39, Tryd.ntmps39
  go_wp2_with fail
  refine HR.out.mono ?_
  rintro e w1 ⟨rfl, hb⟩
  have HB1 := Lib.hid hb
  clear hb HR
  go_wp2
  go_ret
  exact ⟨rfl, HB1.out⟩

set_option maxRecDepth 100000 in
set_option maxHeartbeats 1000000 in
theorem indexX_k {w : World} {G : Nat → Prop} {A : Option Addr} {n c : Nat} {l : List It} (h : RdL itE w G (.slice A n c) l) :
    Calls Tryd.prog 56 #[.slice A n c, .func (.func 42) #[] #[]] w fun e w' => ∃ d : Int, e = .returned (.int .i64 d) ∧ Below w.heap.size w w' ∧ decide (d ≥ 0) = !(l.all rightI) := by
  obtain rfl := len_of h
  have hlen := h.le
  have HR := Lib.hid h
  clear h
  go_enter Tryd.func56, Tryd.ntmps56
  go_wp2
  go_loopw [8] (fun t W => ∃ j : Nat, j ≤ l.length ∧ t = .int .i64 j ∧ Hid (Below w.heap.size w W) ∧ Hid ((l.take j).all rightI = true)) (fun t _ => l.length - (intOf t).toNat)
  case atStart => exact ⟨0, Nat.zero_le _, rfl, Below.refl _ _, by show List.all _ _ = _; simp⟩
  case round =>
    obtain ⟨j, hj, rfl, HB, HA⟩ := hrel
    by_cases hlt : j < l.length
    · have hg : l[j]? = some l[j] := List.getElem?_eq_getElem hlt
      generalize l[j] = x at hg
      have HTk : Hid (l.take (j + 1) = l.take j ++ [x]) := take_snocI l j x hg
      have HG : Hid (x ∈ l) := List.mem_of_getElem? hg
      obtain ⟨b, off, rfl, hb, c0, c1, c2⟩ := it_at HR.out hg
      have q0 := (HB.out.cell (p := ⟨b, off + j * 3, none⟩) hb).trans c0
      have q1 := (HB.out.cell (p := ⟨b, off + j * 3 + 1, none⟩) hb).trans c1
      have q2 := (HB.out.cell (p := ⟨b, off + j * 3 + 2, none⟩) hb).trans c2
      have HC := Lib.hid (fun W => wrongX_k x W)
      clear c0 c1 c2 hb
      have j0 : (0 : Int) ≤ (j : Int) := by omega
      have j1 : (j : Int) < (l.length : Int) := by omega
      clear hg
      cases hp : rightI x with
      | true =>
        rw [hp] at HC
        have HN : Hid ((l.take (j + 1)).all rightI = true) := by
          show _ = _
          rw [HTk.out, List.all_append, HA.out]
          simp [hp]
        clear hp
        go_wp2_with fail
        refine (HC.out _).mono ?_
        rintro e w1 ⟨rfl, hb1⟩
        have HB1 : Hid (Below w.heap.size w w1) := HB.out.trans (hb1.mono HB.out.size)
        clear hb1 HC HB HA
        go_wp2
        go_roundw
        case rel => exact ⟨j + 1, by omega, by go_num, HB1, HN⟩
        case measure => simp [intOf]; omega
      | false =>
        rw [hp] at HC
        have HN : Hid (l.all rightI = false) := by
          show _ = _
          rw [Bool.eq_false_iff]
          intro ha
          rw [List.all_eq_true.1 ha x HG.out] at hp
          cases hp
        clear hp
        go_wp2_with fail
        refine (HC.out _).mono ?_
        rintro e w1 ⟨rfl, hb1⟩
        have HB1 : Hid (Below w.heap.size w w1) := HB.out.trans (hb1.mono HB.out.size)
        clear hb1 HC HB HA
        go_wp2
        go_ret
        exact ⟨_, rfl, HB1.out, by rw [HN.out]; simp⟩
    · have HN : Hid (l.all rightI = true) := by
        have := HA.out
        rwa [List.take_of_length_le (by omega)] at this
      go_wp2
      go_ret
      exact ⟨_, rfl, HB.out, by rw [HN.out]; simp⟩

theorem containsX_k {w : World} {G : Nat → Prop} {A : Option Addr} {n c : Nat} {l : List It} (h : RdL itE w G (.slice A n c) l) :
    Calls Tryd.prog 43 #[.slice A n c, .func (.func 42) #[] #[]] w fun e w' => e = .returned (.bool !(l.all rightI)) ∧ Below w.heap.size w w' := by
  have HI := Lib.hid (indexX_k h)
  generalize (!(l.all rightI)) = r at *
  clear h
  go_enter Tryd.func43, Tryd.ntmps43
  go_wp2_with fail
  refine HI.out.mono ?_
  rintro e w1 ⟨d, rfl, hb, hd⟩
  have HB := Lib.hid hb
  have HD := Lib.hid hd
  clear hb hd HI
  go_wp2
  go_ret
  exact ⟨ret_bool HD.out, HB.out⟩

set_option maxRecDepth 100000 in
set_option maxHeartbeats 1000000 in
theorem indexP_k {w : World} {G : Nat → Prop} {A : Option Addr} {n c : Nat} {l : List (List In)} (hT : Tab w) (h : RdN inE w G (.slice A n c) l) :
    Calls Tryd.prog 55 #[.slice A n c, .func (.func 39) #[] #[]] w fun e w' => ∃ d : Int, e = .returned (.int .i64 d) ∧ Below w.heap.size w w' ∧ decide (d ≥ 0) = !(l.all mayB) := by
  obtain rfl := lenN h
  have hlen := h.le
  have HR := Lib.hid h
  have HT := Lib.hid hT
  clear hT h
  go_enter Tryd.func55, Tryd.ntmps55
  go_wp2
  go_loopw [8] (fun t W => ∃ j : Nat, j ≤ l.length ∧ t = .int .i64 j ∧ Hid (Below w.heap.size w W) ∧ Hid ((l.take j).all mayB = true)) (fun t _ => l.length - (intOf t).toNat)
  case atStart => exact ⟨0, Nat.zero_le _, rfl, Below.refl _ _, by show List.all _ _ = _; simp⟩
  case round =>
    obtain ⟨j, hj, rfl, HB, HA⟩ := hrel
    by_cases hlt : j < l.length
    · have hg : l[j]? = some l[j] := List.getElem?_eq_getElem hlt
      generalize l[j] = x at hg
      have HTk : Hid (l.take (j + 1) = l.take j ++ [x]) := take_snocI l j x hg
      have HG : Hid (x ∈ l) := List.mem_of_getElem? hg
      obtain ⟨b, off, A', c', rfl, hb, _, e0, hrd⟩ := (HR.out.below HB.out).at_ hg
      have HC := Lib.hid (wrongP_k (HT.out.next HB.out) hrd)
      obtain ⟨m, hm⟩ : ∃ m, x.length = m := ⟨_, rfl⟩
      rw [hm] at e0 HC
      clear hb hrd hm
      have j0 : (0 : Int) ≤ (j : Int) := by omega
      have j1 : (j : Int) < (l.length : Int) := by omega
      clear hg
      cases hp : mayB x with
      | true =>
        rw [hp] at HC
        have HN : Hid ((l.take (j + 1)).all mayB = true) := by
          show _ = _
          rw [HTk.out, List.all_append, HA.out]
          simp [hp]
        clear hp
        go_wp2_with fail
        refine HC.out.mono ?_
        rintro e w1 ⟨rfl, hb1⟩
        have HB1 : Hid (Below w.heap.size w w1) := HB.out.trans (hb1.mono HB.out.size)
        clear hb1 HC HB HA
        go_wp2
        go_roundw
        case rel => exact ⟨j + 1, by omega, by go_num, HB1, HN⟩
        case measure => simp [intOf]; omega
      | false =>
        rw [hp] at HC
        have HN : Hid (l.all mayB = false) := by
          show _ = _
          rw [Bool.eq_false_iff]
          intro ha
          rw [List.all_eq_true.1 ha x HG.out] at hp
          cases hp
        clear hp
        go_wp2_with fail
        refine HC.out.mono ?_
        rintro e w1 ⟨rfl, hb1⟩
        have HB1 : Hid (Below w.heap.size w w1) := HB.out.trans (hb1.mono HB.out.size)
        clear hb1 HC HB HA
        go_wp2
        go_ret
        exact ⟨_, rfl, HB1.out, by rw [HN.out]; simp⟩
    · have HN : Hid (l.all mayB = true) := by
        have := HA.out
        rwa [List.take_of_length_le (by omega)] at this
      go_wp2
      go_ret
      exact ⟨_, rfl, HB.out, by rw [HN.out]; simp⟩

theorem containsP_k {w : World} {G : Nat → Prop} {A : Option Addr} {n c : Nat} {l : List (List In)} (hT : Tab w) (h : RdN inE w G (.slice A n c) l) :
    Calls Tryd.prog 41 #[.slice A n c, .func (.func 39) #[] #[]] w fun e w' => e = .returned (.bool !(l.all mayB)) ∧ Below w.heap.size w w' := by
  have HI := Lib.hid (indexP_k hT h)
  generalize (!(l.all mayB)) = r at *
  clear hT h
  go_enter Tryd.func41, Tryd.ntmps41
  go_wp2_with fail
  refine HI.out.mono ?_
  rintro e w1 ⟨d, rfl, hb, hd⟩
  have HB := Lib.hid hb
  have HD := Lib.hid hd
  clear hb hd HI
  go_wp2
  go_ret
  exact ⟨ret_bool HD.out, HB.out⟩

set_option maxRecDepth 100000 in
theorem programs_k {w : World} {G : Nat → Prop} {A : Option Addr} {n c : Nat} {l : List (List In)} (hT : Tab w) (h : RdN inE w G (.slice A n c) l) :
    Calls Tryd.prog 21 #[.slice A n c] w fun e w' => e = .returned (.bool (decide (1 ≤ l.length ∧ l.length ≤ 8) && l.all mayB)) ∧ Below w.heap.size w w' := by
  obtain rfl := lenN h
  have HL := Lib.hid (many_k l.length)
  have HC := Lib.hid (containsP_k hT h)
  have HD : Hid (decide (1 ≤ (l.length : Int) ∧ (l.length : Int) ≤ 8) = decide (1 ≤ l.length ∧ l.length ≤ 8)) := decide_eq_decide.2 (by omega)
  generalize l.all mayB = a at *
  rw [HD.out] at HL
  generalize decide (1 ≤ l.length ∧ l.length ≤ 8) = b at *
  clear hT h HD
  cases b
  · have HB : Hid (Below w.heap.size w w) := Below.refl _ _
    go_enter Tryd.func21, Tryd.ntmps21
    go_wp2_with fail
    refine (HL.out _).mono ?_
    rintro e w1 ⟨rfl, rfl⟩
    go_wp2
    go_ret
    exact ⟨rfl, HB.out⟩
  · go_enter Tryd.func21, Tryd.ntmps21
    go_wp2_with fail
    refine (HL.out _).mono ?_
    rintro e w1 ⟨rfl, rfl⟩
    go_wp2_with fail
    refine HC.out.mono ?_
    rintro e w1 ⟨rfl, hb⟩
    have HB := Lib.hid hb
    clear hb HC
    go_wp2
    go_ret
    exact ⟨ret_bool (by simp), HB.out⟩

set_option maxRecDepth 100000 in
theorem items_k {w : World} {G : Nat → Prop} {A : Option Addr} {n c : Nat} {l : List It} (h : RdL itE w G (.slice A n c) l) :
    Calls Tryd.prog 22 #[.slice A n c] w fun e w' => e = .returned (.bool (decide (l.length ≤ 200) && l.all rightI)) ∧ Below w.heap.size w w' := by
  obtain rfl := len_of h
  have HC := Lib.hid (containsX_k h)
  generalize l.all rightI = a at *
  clear h
  by_cases h : l.length ≤ 200
  · have d0 : decide ((l.length : Int) ≤ 200) = true := decide_eq_true (by omega)
    have d1 : decide (l.length ≤ 200) = true := decide_eq_true h
    rw [d1]
    clear h
    go_enter Tryd.func22, Tryd.ntmps22
    go_wp2_with fail
    refine HC.out.mono ?_
    rintro e w1 ⟨rfl, hb⟩
    have HB := Lib.hid hb
    clear hb HC
    go_wp2
    go_ret
    exact ⟨ret_bool (by simp), HB.out⟩
  · have d0 : decide ((l.length : Int) ≤ 200) = false := decide_eq_false (by omega)
    have d1 : decide (l.length ≤ 200) = false := decide_eq_false h
    rw [d1]
    have HB : Hid (Below w.heap.size w w) := Below.refl _ _
    clear h
    go_enter Tryd.func22, Tryd.ntmps22
    go_wp2
    go_ret
    exact ⟨rfl, HB.out⟩
end Go.Proofs.YtolooaahaofflaaDoor.ScA
