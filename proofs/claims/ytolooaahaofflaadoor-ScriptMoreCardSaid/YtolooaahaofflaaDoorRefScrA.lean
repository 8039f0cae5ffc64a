/-
  Contracts of the functions of package countermandref17 (the document's answer for layer 17), first part: Right, May. Condition: what the script reads as, and that it is small.
-/
import Derived.Test.YtolooaahaofflaaDoorScr
namespace Go.Proofs.YtolooaahaofflaaDoor.RefScr
open Go.ChangeShapes Go.WideShapes Go.ChangeAt Go.RowKit Mem MutP CodeP ScriptP Hand RefCode CodeI Scr

set_option maxRecDepth 100000 in
theorem right_s (x : It) (w : World) : Calls Tryd.prog 14 #[.agg #[.int .i64 x.d, .int .i64 x.a, .int .i64 x.n]] w fun e w' => e = .returned (.bool (rightI x)) ∧ Below w.heap.size w w' := by
  obtain ⟨d, a, n⟩ := x
  have HB : Hid (Below w.heap.size w (w.alloc (.cells #[.int .i64 d, .int .i64 a, .int .i64 n] 47))) := new_below0 w _
  obtain ⟨r, hr⟩ : ∃ r, rightI ⟨d, a, n⟩ = r := ⟨_, rfl⟩
  have HR := Lib.hid hr
  rw [hr]
  clear hr
  by_cases h2 : d = 2
  · subst h2
    obtain rfl : r = decide (a = 0) := HR.out.symm
    clear HR
    by_cases ha : a = 0
    · subst ha
      go_enter Tryd.func14, Tryd.ntmps14
      go_wp2
      go_ret
      exact ⟨rfl, HB.out⟩
    · have e0 : (a == 0) = false := by simpa using ha
      have HF : Hid (decide (a = 0) = false) := decide_eq_false ha
      rw [HF.out]
      clear ha HF
      go_enter Tryd.func14, Tryd.ntmps14
      go_wp2
      go_ret
      exact ⟨rfl, HB.out⟩
  have g2 : (d == 2) = false := by simpa using h2
  have HR2 : Hid (r = decide ((d = 0 ∨ d = 1) ∧ n = 0 ∧ 0 ≤ a ∧ a < (if d = 1 then 16 else 8))) := by
    show _ = _
    rw [← HR.out]
    unfold rightI
    exact if_neg h2
  clear HR
  by_cases h1 : d = 1
  · subst h1
    rcases (by omega : n ≠ 0 ∨ (n = 0 ∧ a < 0) ∨ (n = 0 ∧ 0 ≤ a ∧ 16 ≤ a) ∨ (n = 0 ∧ 0 ≤ a ∧ a < 16)) with h | ⟨rfl, h⟩ | ⟨rfl, h, h3⟩ | ⟨rfl, h, h3⟩
    · obtain rfl : r = false := HR2.out.trans (decide_eq_false (fun hh => h hh.2.1))
      have e0 : (n == 0) = false := by simpa using h
      clear HR2 h h2
      go_enter Tryd.func14, Tryd.ntmps14
      go_wp2
      go_ret
      exact ⟨rfl, HB.out⟩
    · obtain rfl : r = false := HR2.out.trans (decide_eq_false (fun hh => by omega))
      have e0 : decide (a ≥ 0) = false := decide_eq_false (by omega)
      clear HR2 h2
      go_enter Tryd.func14, Tryd.ntmps14
      go_wp2
      go_ret
      exact ⟨rfl, HB.out⟩
    · obtain rfl : r = false := HR2.out.trans (decide_eq_false (fun hh => by have := hh.2.2.2; simp at this; omega))
      have e0 : decide (a ≥ 0) = true := decide_eq_true h
      have e1 : decide (a < 16) = false := decide_eq_false (by omega)
      clear HR2 h2
      go_enter Tryd.func14, Tryd.ntmps14
      go_wp2
      go_ret
      exact ⟨rfl, HB.out⟩
    · obtain rfl : r = true := HR2.out.trans (decide_eq_true ⟨.inr rfl, rfl, h, by simpa using h3⟩)
      have e0 : decide (a ≥ 0) = true := decide_eq_true h
      have e1 : decide (a < 16) = true := decide_eq_true h3
      clear HR2 h2
      go_enter Tryd.func14, Tryd.ntmps14
      go_wp2
      go_ret
      exact ⟨rfl, HB.out⟩
  have g1 : (d == 1) = false := by simpa using h1
  rw [if_neg h1] at HR2
  by_cases h0 : d = 0
  · subst h0
    rcases (by omega : n ≠ 0 ∨ (n = 0 ∧ a < 0) ∨ (n = 0 ∧ 0 ≤ a ∧ 8 ≤ a) ∨ (n = 0 ∧ 0 ≤ a ∧ a < 8)) with h | ⟨rfl, h⟩ | ⟨rfl, h, h3⟩ | ⟨rfl, h, h3⟩
    · obtain rfl : r = false := HR2.out.trans (decide_eq_false (fun hh => h hh.2.1))
      have e0 : (n == 0) = false := by simpa using h
      clear HR2 h h2 h1
      go_enter Tryd.func14, Tryd.ntmps14
      go_wp2
      go_ret
      exact ⟨rfl, HB.out⟩
    · obtain rfl : r = false := HR2.out.trans (decide_eq_false (fun hh => by omega))
      have e0 : decide (a ≥ 0) = false := decide_eq_false (by omega)
      clear HR2 h2 h1
      go_enter Tryd.func14, Tryd.ntmps14
      go_wp2
      go_ret
      exact ⟨rfl, HB.out⟩
    · obtain rfl : r = false := HR2.out.trans (decide_eq_false (fun hh => by omega))
      have e0 : decide (a ≥ 0) = true := decide_eq_true h
      have e1 : decide (a < 8) = false := decide_eq_false (by omega)
      clear HR2 h2 h1
      go_enter Tryd.func14, Tryd.ntmps14
      go_wp2
      go_ret
      exact ⟨rfl, HB.out⟩
    · obtain rfl : r = true := HR2.out.trans (decide_eq_true ⟨.inl rfl, rfl, h, h3⟩)
      have e0 : decide (a ≥ 0) = true := decide_eq_true h
      have e1 : decide (a < 8) = true := decide_eq_true h3
      clear HR2 h2 h1
      go_enter Tryd.func14, Tryd.ntmps14
      go_wp2
      go_ret
      exact ⟨rfl, HB.out⟩
  · have g0 : (d == 0) = false := by simpa using h0
    obtain rfl : r = false := HR2.out.trans (decide_eq_false (fun hh => by omega))
    clear HR2 h2 h1 h0
    go_enter Tryd.func14, Tryd.ntmps14
    go_wp2
    go_ret
    exact ⟨rfl, HB.out⟩

theorem progs_take {ps : List (List In)} {i : Nat} {p : List In} (h : ps[i]? = some p) : (progsL (ps.take (i + 1))).length = (progsL (ps.take i)).length + (1 + 11 * p.length) := by
  rw [take_snocI ps i p h]
  unfold progsL
  rw [List.flatMap_append, List.length_append, List.flatMap_cons, List.flatMap_nil, List.append_nil, bytes_len]
theorem progs_small : ∀ {ps : List (List In)}, (∀ p ∈ ps, p.length ≤ 60) → (progsL ps).length ≤ 700 * ps.length
  | [], _ => by simp [progsL]
  | p :: ps, h => by
    have ih := progs_small fun q hq => h q (List.mem_cons_of_mem _ hq)
    have hp := h p (List.mem_cons_self ..)
    unfold progsL at *
    rw [List.flatMap_cons, List.length_append, bytes_len, List.length_cons]
    omega
theorem mayS_no {s : Sc} (h : ¬ ((∀ x ∈ s.r, 0 ≤ x) ∧ (∀ p ∈ s.ps, mayB p = true) ∧ (∀ x ∈ s.xs, rightI x = true) ∧ (1 ≤ s.ps.length ∧ s.ps.length ≤ 8) ∧ s.xs.length ≤ 200 ∧ longS s ≤ 4000)) : mayS s = false := by
  rw [Bool.eq_false_iff]
  exact fun hm => h (mayS_iff.1 hm)

set_option maxRecDepth 100000 in
set_option maxHeartbeats 2000000 in
theorem may_s {w : World} {G : Nat → Prop} {q : Sv} {s : Sc} (h : RdS w G q s) (hs : Small s) :
    Calls Tryd.prog 16 #[.agg q.arr] w fun e w' => e = .returned (.bool (mayS s)) ∧ Below w.heap.size w w' := by
  obtain ⟨r0, r1, r2, r3, pA, pn, pc, xA, xn, xc⟩ := q
  have hpn := h.pn
  have hxn := h.xn
  obtain ⟨hr, hp, hx, hpc, hxc⟩ := h
  simp only at hpn hxn hr hp hx hpc hxc
  have HP := Lib.hid hp
  have HX := Lib.hid hx
  have HRR := Lib.hid hr
  have HPN := Lib.hid hpn
  have HXN := Lib.hid hxn
  have HSM := Lib.hid hs
  have bpn : pn ≤ 20 := by rw [hpn]; exact hs.1
  have bxn : xn ≤ 220 := by rw [hxn]; exact hs.2.2
  unfold Sv.arr
  simp only
  have S0 : Hid (Sep (fun _ => False) w (w.alloc (.cells #[.int .i64 r0, .int .i64 r1, .int .i64 r2, .int .i64 r3, .slice pA pn pc, .slice xA xn xc] 39)) [blk w.heap.size (.cells #[.int .i64 r0, .int .i64 r1, .int .i64 r2, .int .i64 r3, .slice pA pn pc, .slice xA xn xc] 39)]) := (Sep.nil _ _).new _
  obtain ⟨r, hrr⟩ : ∃ r, mayS s = r := ⟨_, rfl⟩
  have HM := Lib.hid hrr
  obtain ⟨L0, hL0⟩ : ∃ L0 : Nat, 33 + 10 * xn = L0 := ⟨_, rfl⟩
  have HL0 := Lib.hid hL0
  have bL0 : L0 ≤ 2300 := by omega
  have w1 : IntKind.i64.wrap (10 * (xn : Int)) = 10 * (xn : Int) := IntWalk.i64_in _ (by omega)
  have w2 : IntKind.i64.wrap (33 + 10 * (xn : Int)) = (L0 : Int) := by rw [IntWalk.i64_in _ (by omega)]; omega
  rw [hrr]
  clear hp hx hr hpn hxn hrr hs hL0 hpc hxc
  go_enter Tryd.func16, Tryd.ntmps16
  go_wp2
  clear w1 w2
  go_loopw [4] (fun t wr => ∃ i : Nat, i ≤ 4 ∧ t = .int .i64 (i : Int) ∧ wr = w.alloc (.cells #[.int .i64 r0, .int .i64 r1, .int .i64 r2, .int .i64 r3, .slice pA pn pc, .slice xA xn xc] 39) ∧ Hid (∀ x ∈ s.r.take i, 0 ≤ x)) (fun t _ => 4 - (intOf t).toNat)
  case atStart => exact ⟨0, Nat.zero_le _, rfl, rfl, by show ∀ x ∈ _, _; simp⟩
  case round =>
    obtain ⟨i, hi, rfl, rfl, HA⟩ := hrel
    rcases (by omega : i < 4 ∨ 4 ≤ i) with h4 | h4
    · obtain ⟨x, hx, hk⟩ : ∃ x, s.r[i]? = some x ∧ (w.alloc (.cells #[.int .i64 r0, .int .i64 r1, .int .i64 r2, .int .i64 r3, .slice pA pn pc, .slice xA xn xc] 39)).cell? ⟨w.heap.size, i, none⟩ = some (.int .i64 x) := by
        have hb := S0.out.blk_at 0 rfl
        rw [HRR.out]
        rcases (by omega : i = 0 ∨ i = 1 ∨ i = 2 ∨ i = 3) with rfl | rfl | rfl | rfl
        · exact ⟨r0, rfl, (cell_block hb 0).trans rfl⟩
        · exact ⟨r1, rfl, (cell_block hb 1).trans rfl⟩
        · exact ⟨r2, rfl, (cell_block hb 2).trans rfl⟩
        · exact ⟨r3, rfl, (cell_block hb 3).trans rfl⟩
      have i0 : (0 : Int) ≤ (i : Int) := by omega
      have i4 : (i : Int) < 4 := by omega
      have d0 : decide ((i : Int) < 4) = true := decide_eq_true i4
      have HT : Hid (s.r.take (i + 1) = s.r.take i ++ [x]) := take_snocI _ i x hx
      have HME : Hid (x ∈ s.r) := List.mem_of_getElem? hx
      clear hx
      rcases (by omega : x < 0 ∨ 0 ≤ x) with hneg | hneg
      · have d1 : decide (x < 0) = true := decide_eq_true hneg
        have HF : Hid (r = false) := HM.out.symm.trans (mayS_no fun hh => by have := hh.1 x HME.out; omega)
        go_wp2
        go_ret
        exact ⟨ret_bool HF.out.symm, S0.out.old⟩
      · have d1 : decide (x < 0) = false := decide_eq_false (by omega)
        have HA2 : Hid (∀ y ∈ s.r.take (i + 1), 0 ≤ y) := fun y hy => by
          rw [HT.out] at hy
          rcases List.mem_append.1 hy with hy | hy
          · exact HA.out y hy
          · rw [List.mem_singleton] at hy; rw [hy]; exact hneg
        clear hneg
        go_wp2
        go_roundw
        case rel => exact ⟨i + 1, by omega, by go_num, by first | rfl | trivial, HA2⟩
        case measure => simp [intOf]; omega
    · have HALL : Hid (∀ x ∈ s.r, 0 ≤ x) := by
        have := HA.out
        rwa [List.take_of_length_le (by rw [HRR.out]; simpa using h4)] at this
      have d0 : decide ((i : Int) < 4) = false := decide_eq_false (by omega)
      clear HA hi h4
      go_wp2
      go_loopw [3, 5] (fun u v wr => ∃ (i L : Nat), i ≤ pn ∧ v = .int .i64 (i : Int) ∧ u = .int .i64 (L : Int) ∧ Hid (L = L0 + (progsL (s.ps.take i)).length) ∧ Hid (Sep (fun _ => False) w wr [blk w.heap.size (.cells #[.int .i64 r0, .int .i64 r1, .int .i64 r2, .int .i64 r3, .slice pA pn pc, .slice xA xn xc] 39)]) ∧ Hid (∀ p ∈ s.ps.take i, mayB p = true)) (fun _ v _ => pn - (intOf v).toNat)
      case atStart => exact ⟨0, L0, Nat.zero_le _, rfl, rfl, by show _ = _; simp [progsL], S0, by show ∀ x ∈ _, _; simp⟩
      case round =>
        obtain ⟨i, L, hi, rfl, rfl, HL, HS, HA⟩ := hrel
        clear S0
        have k4 : wr.cell? ⟨w.heap.size, 4, none⟩ = some (.slice pA pn pc) := (cell_block (HS.out.blk_at 0 rfl) 4).trans rfl
        have k5 : wr.cell? ⟨w.heap.size, 5, none⟩ = some (.slice xA xn xc) := (cell_block (HS.out.blk_at 0 rfl) 5).trans rfl
        rcases (by omega : i < pn ∨ i = pn) with h4 | rfl
        · obtain ⟨p, hp⟩ : ∃ p, s.ps[i]? = some p := ⟨_, List.getElem?_eq_getElem (by rw [← HPN.out]; exact h4)⟩
          obtain ⟨b, off, A', c', rfl, hb, hpc, e0, hrd⟩ := (HP.out.below HS.out.old).at_ hp
          have HT : Hid (s.ps.take (i + 1) = s.ps.take i ++ [p]) := take_snocI _ i p hp
          have HTL : Hid ((progsL (s.ps.take (i + 1))).length = (progsL (s.ps.take i)).length + (1 + 11 * p.length)) := progs_take hp
          have HME : Hid (p ∈ s.ps) := List.mem_of_getElem? hp
          have bL : L ≤ 2300 + 700 * 20 := by
            rw [HL.out]
            have h1 := progs_small (ps := s.ps.take i) fun q hq => HSM.out.2.1 q (List.mem_of_mem_take hq)
            rw [List.length_take] at h1
            have := HSM.out.1
            omega
          have bp : p.length ≤ 60 := HSM.out.2.1 p HME.out
          obtain ⟨m, hm⟩ : ∃ m, p.length = m := ⟨_, rfl⟩
          have HPL := Lib.hid hm
          have HC := Lib.hid (may_c hrd)
          rw [hm] at e0 bp HC
          have i0 : (0 : Int) ≤ (i : Int) := by omega
          have i1 : (i : Int) < (pn : Int) := by omega
          have d0 : decide ((i : Int) < (pn : Int)) = true := decide_eq_true i1
          have d1 : decide (i < pn) = true := decide_eq_true h4
          clear hp hm hrd hpc
          cases hmb : mayB p with
          | false =>
            have HF : Hid (r = false) := HM.out.symm.trans (mayS_no fun hh => by have := hh.2.1 p HME.out; rw [hmb] at this; cases this)
            rw [hmb] at HC
            clear hmb
            go_wp2_with fail
            refine HC.out.mono ?_
            rintro e w3 ⟨rfl, h3⟩
            have HB3 : Hid (Below w.heap.size w w3) := (HS.out.next h3).old
            clear h3
            go_wp2
            go_ret
            exact ⟨ret_bool HF.out.symm, HB3.out⟩
          | true =>
            have HA2 : Hid (∀ y ∈ s.ps.take (i + 1), mayB y = true) := fun y hy => by
              rw [HT.out] at hy
              rcases List.mem_append.1 hy with hy | hy
              · exact HA.out y hy
              · rw [List.mem_singleton] at hy; rw [hy]; exact hmb
            rw [hmb] at HC
            clear hmb
            obtain ⟨L1, hL1⟩ : ∃ L1 : Nat, L + 1 = L1 := ⟨_, rfl⟩
            obtain ⟨M, hM⟩ : ∃ M : Nat, 11 * m = M := ⟨_, rfl⟩
            obtain ⟨L2, hL2⟩ : ∃ L2 : Nat, L1 + M = L2 := ⟨_, rfl⟩
            have w3 : IntKind.i64.wrap ((L : Int) + 1) = (L1 : Int) := by rw [IntWalk.i64_in _ (by omega)]; omega
            have w4 : IntKind.i64.wrap (11 * (m : Int)) = (M : Int) := by rw [IntWalk.i64_in _ (by omega)]; omega
            have w5 : IntKind.i64.wrap ((L1 : Int) + (M : Int)) = (L2 : Int) := by rw [IntWalk.i64_in _ (by omega)]; omega
            have HL2 : Hid (L2 = L0 + (progsL (s.ps.take (i + 1))).length) := by
              show _ = _
              rw [HTL.out, HPL.out, ← hL2, ← hL1, ← hM, HL.out]
              omega
            clear hL1 hM hL2 bL bp
            go_wp2_with fail
            refine HC.out.mono ?_
            rintro e w6 ⟨rfl, h3⟩
            have S6 := Lib.hid (HS.out.next h3)
            have k4' : w6.cell? ⟨w.heap.size, 4, none⟩ = some (.slice (some ⟨b, off, none⟩) pn pc) := (cell_block (S6.out.blk_at 0 rfl) 4).trans rfl
            have e0' : w6.cell? ⟨b, off + i, none⟩ = some (.slice A' m c') := (h3.cell (p := ⟨b, off + i, none⟩) hb).trans e0
            clear h3 HS k4 k5 e0
            go_wp2
            go_roundw
            case rel => exact ⟨i + 1, L2, by omega, by go_num, rfl, HL2, S6, HA2⟩
            case measure => simp [intOf]; omega
        · have HALP : Hid (∀ p ∈ s.ps, mayB p = true) := by
            have := HA.out
            rwa [List.take_of_length_le (by rw [← HPN.out]; omega)] at this
          have HLL : Hid (L = longS s) := by
            show _ = _
            rw [HL.out, List.take_of_length_le (by rw [← HPN.out]; omega), ← HL0.out, HXN.out]
            unfold longS
            omega
          have bL : L ≤ 2300 + 700 * 20 := by
            rw [HL.out, List.take_of_length_le (by rw [← HPN.out]; omega)]
            have h1 := progs_small (ps := s.ps) HSM.out.2.1
            have := HSM.out.1
            omega
          have d0 : decide ((i : Int) < (i : Int)) = false := decide_eq_false (by omega)
          clear HA hi HL
          go_wp2
          go_loopw [6] (fun v wr => ∃ (j : Nat), j ≤ xn ∧ v = .int .i64 (j : Int) ∧ Hid (Sep (fun _ => False) w wr [blk w.heap.size (.cells #[.int .i64 r0, .int .i64 r1, .int .i64 r2, .int .i64 r3, .slice pA i pc, .slice xA xn xc] 39)]) ∧ Hid (∀ x ∈ s.xs.take j, rightI x = true)) (fun v _ => xn - (intOf v).toNat)
          case atStart => exact ⟨0, Nat.zero_le _, rfl, HS, by show ∀ x ∈ _, _; simp⟩
          case round =>
            obtain ⟨j, hj, rfl, HS2, HA⟩ := hrel
            clear HS k4 k5
            have k4 : wr.cell? ⟨w.heap.size, 4, none⟩ = some (.slice pA i pc) := (cell_block (HS2.out.blk_at 0 rfl) 4).trans rfl
            have k5 : wr.cell? ⟨w.heap.size, 5, none⟩ = some (.slice xA xn xc) := (cell_block (HS2.out.blk_at 0 rfl) 5).trans rfl
            rcases (by omega : j < xn ∨ xn ≤ j) with h4 | h4
            · obtain ⟨x, hx⟩ : ∃ x, s.xs[j]? = some x := ⟨_, List.getElem?_eq_getElem (by rw [← HXN.out]; exact h4)⟩
              have HT : Hid (s.xs.take (j + 1) = s.xs.take j ++ [x]) := take_snocI _ j x hx
              have HME : Hid (x ∈ s.xs) := List.mem_of_getElem? hx
              obtain ⟨b, off, rfl, hb, e0, e1, e2⟩ := it_at (HX.out.below HS2.out.old) hx
              have HC := Lib.hid (right_s x wr)
              have j0 : (0 : Int) ≤ (j : Int) := by omega
              have j1 : (j : Int) < (xn : Int) := by omega
              have d1 : decide ((j : Int) < (xn : Int)) = true := decide_eq_true j1
              have d2 : decide (j < xn) = true := decide_eq_true h4
              clear hx hb
              cases hrx : rightI x with
              | false =>
                have HF : Hid (r = false) := HM.out.symm.trans (mayS_no fun hh => by have := hh.2.2.1 x HME.out; rw [hrx] at this; cases this)
                rw [hrx] at HC
                clear hrx
                go_wp2_with fail
                refine HC.out.mono ?_
                rintro e w3 ⟨rfl, h3⟩
                have HB3 : Hid (Below w.heap.size w w3) := (HS2.out.next h3).old
                clear h3
                go_wp2
                go_ret
                exact ⟨ret_bool HF.out.symm, HB3.out⟩
              | true =>
                have HA2 : Hid (∀ y ∈ s.xs.take (j + 1), rightI y = true) := fun y hy => by
                  rw [HT.out] at hy
                  rcases List.mem_append.1 hy with hy | hy
                  · exact HA.out y hy
                  · rw [List.mem_singleton] at hy; rw [hy]; exact hrx
                rw [hrx] at HC
                clear hrx
                go_wp2_with fail
                refine HC.out.mono ?_
                rintro e w3 ⟨rfl, h3⟩
                have S3 := Lib.hid (HS2.out.next h3)
                clear h3
                go_wp2
                go_roundw
                case rel => exact ⟨j + 1, by omega, by go_num, S3, HA2⟩
                case measure => simp [intOf]; omega
            · have d1 : decide ((j : Int) < (xn : Int)) = false := decide_eq_false (by omega)
              have d2 : decide (j < xn) = false := decide_eq_false (by omega)
              have HALX : Hid (∀ x ∈ s.xs, rightI x = true) := by
                have := HA.out
                rwa [List.take_of_length_le (by rw [← HXN.out]; omega)] at this
              clear HA hj h4
              rcases (by omega : i < 1 ∨ (1 ≤ i ∧ 8 < i) ∨ (1 ≤ i ∧ i ≤ 8 ∧ 200 < xn) ∨ (1 ≤ i ∧ i ≤ 8 ∧ xn ≤ 200 ∧ 4000 < L) ∨ (1 ≤ i ∧ i ≤ 8 ∧ xn ≤ 200 ∧ L ≤ 4000)) with h1 | ⟨h1, h2⟩ | ⟨h1, h2, h3⟩ | ⟨h1, h2, h3, h4⟩ | ⟨h1, h2, h3, h4⟩
              · have HF : Hid (r = false) := HM.out.symm.trans (mayS_no fun hh => by have := hh.2.2.2.1; rw [← HPN.out] at this; omega)
                have c1 : decide ((i : Int) ≥ 1) = false := decide_eq_false (by omega)
                have c2 : decide (1 ≤ i) = false := decide_eq_false (by omega)
                clear h1
                go_wp2
                go_ret
                exact ⟨ret_bool HF.out.symm, HS2.out.old⟩
              · have HF : Hid (r = false) := HM.out.symm.trans (mayS_no fun hh => by have := hh.2.2.2.1; rw [← HPN.out] at this; omega)
                have c1 : decide ((i : Int) ≥ 1) = true := decide_eq_true (by omega)
                have c2 : decide (1 ≤ i) = true := decide_eq_true h1
                have c3 : decide ((i : Int) ≤ 8) = false := decide_eq_false (by omega)
                have c4 : decide (i ≤ 8) = false := decide_eq_false (by omega)
                clear h1 h2
                go_wp2
                go_ret
                exact ⟨ret_bool HF.out.symm, HS2.out.old⟩
              · have HF : Hid (r = false) := HM.out.symm.trans (mayS_no fun hh => by have := hh.2.2.2.2.1; rw [← HXN.out] at this; omega)
                have c1 : decide ((i : Int) ≥ 1) = true := decide_eq_true (by omega)
                have c2 : decide (1 ≤ i) = true := decide_eq_true h1
                have c3 : decide ((i : Int) ≤ 8) = true := decide_eq_true (by omega)
                have c4 : decide (i ≤ 8) = true := decide_eq_true h2
                have c5 : decide ((xn : Int) ≤ 200) = false := decide_eq_false (by omega)
                have c6 : decide (xn ≤ 200) = false := decide_eq_false (by omega)
                clear h1 h2 h3
                go_wp2
                go_ret
                exact ⟨ret_bool HF.out.symm, HS2.out.old⟩
              · have HF : Hid (r = false) := HM.out.symm.trans (mayS_no fun hh => by have := hh.2.2.2.2.2; rw [← HLL.out] at this; omega)
                have c1 : decide ((i : Int) ≥ 1) = true := decide_eq_true (by omega)
                have c2 : decide (1 ≤ i) = true := decide_eq_true h1
                have c3 : decide ((i : Int) ≤ 8) = true := decide_eq_true (by omega)
                have c4 : decide (i ≤ 8) = true := decide_eq_true h2
                have c5 : decide ((xn : Int) ≤ 200) = true := decide_eq_true (by omega)
                have c6 : decide (xn ≤ 200) = true := decide_eq_true h3
                have c7 : decide ((L : Int) ≤ 4000) = false := decide_eq_false (by omega)
                have c8 : decide (L ≤ 4000) = false := decide_eq_false (by omega)
                clear h1 h2 h3 h4
                go_wp2
                go_ret
                exact ⟨ret_bool HF.out.symm, HS2.out.old⟩
              · have HF : Hid (r = true) := HM.out.symm.trans (mayS_iff.2 ⟨HALL.out, HALP.out, HALX.out, by rw [← HPN.out]; exact ⟨h1, h2⟩, by rw [← HXN.out]; exact h3, by rw [← HLL.out]; exact h4⟩)
                have c1 : decide ((i : Int) ≥ 1) = true := decide_eq_true (by omega)
                have c2 : decide (1 ≤ i) = true := decide_eq_true h1
                have c3 : decide ((i : Int) ≤ 8) = true := decide_eq_true (by omega)
                have c4 : decide (i ≤ 8) = true := decide_eq_true h2
                have c5 : decide ((xn : Int) ≤ 200) = true := decide_eq_true (by omega)
                have c6 : decide (xn ≤ 200) = true := decide_eq_true h3
                have c7 : decide ((L : Int) ≤ 4000) = true := decide_eq_true (by omega)
                have c8 : decide (L ≤ 4000) = true := decide_eq_true h4
                clear h1 h2 h3 h4
                go_wp2
                go_ret
                exact ⟨ret_bool HF.out.symm, HS2.out.old⟩
end Go.Proofs.YtolooaahaofflaaDoor.RefScr
