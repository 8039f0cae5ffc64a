/-
  The contract of countermandref02.Same alone: two slices of int64s are held against each other. Condition: what the slices read as.
-/
import Derived.Test.YthdipkdolgcmgaaRows
import Derived.Test.YthdipkdolgcmgaaMem
import Derived.Deep.QuietTactic
import Derived.BigQuiet
namespace Go.Proofs.Ythdipkdolgcmgaa.SameI
open Go.ChangeShapes Go.WideShapes Go.ChangeAt Go.RowKit Mem

theorem take_getD (l : List Int) (k : Nat) (h : k < l.length) : l.take (k + 1) = l.take k ++ [l.getD k 0] := by
  rw [List.take_succ_eq_append_getElem h]; simp [List.getD, h]
theorem same_any {w : World} {G G' : Nat → Prop} {va vb : Value} {xs ys : List Int} (ha : Rd w G va xs) (hb : Rd w G' vb ys) :
    Calls Try.prog 17 #[va, vb] w fun e w' => e = .returned (.bool (decide (xs = ys))) ∧ ∃ n, w' = w.drewN n := by
  obtain ⟨A, ca, rfl, hma, hxa⟩ := ha
  obtain ⟨B, cb, rfl, hmb, hxb⟩ := hb
  by_cases hlen : xs.length = ys.length
  · have HA := Lib.hid hxa
    have HB := Lib.hid hxb
    clear hxa hxb
    have HL := Lib.hid hlen
    obtain ⟨m, hm⟩ : ∃ m, xs.length = m := ⟨_, rfl⟩
    have hm2 : ys.length = m := by omega
    have HM := Lib.hid hm
    have HM2 := Lib.hid hm2
    rw [hm, hm2]
    rw [hm] at hma
    clear hm hm2 hlen hmb
    go_enter Try.func17, Try.ntmps17
    go_wp2
    go_loopw [5] (fun t W => ∃ k n : Nat, k ≤ m ∧ t = .int .i64 k ∧ Hid (xs.take k = ys.take k) ∧ W = w.drewN n) (fun t _ => m - (intOf t).toNat)
    case atStart => exact ⟨0, 0, Nat.zero_le _, rfl, rfl, rfl⟩
    case round =>
      obtain ⟨k, n, hk, rfl, heq, rfl⟩ := hrel
      by_cases hlt : k < m
      · obtain ⟨b, off, rfl, _, _, hca⟩ := HA.out (by rw [HM.out]; omega)
        obtain ⟨b', off', rfl, _, _, hcb⟩ := HB.out (by rw [HM2.out]; omega)
        have c1 := hca k (by rw [HM.out]; exact hlt)
        have c2 := hcb k (by rw [HM2.out]; exact hlt)
        clear hca hcb
        generalize hy : xs.getD k 0 = y at c1
        generalize hz : ys.getD k 0 = z at c2
        have HY := Lib.hid hy
        have HZ := Lib.hid hz
        clear hy hz
        by_cases hyz : y = z
        · have hbz : (y != z) = false := by simpa using hyz
          have HE : Hid (xs.take (k + 1) = ys.take (k + 1)) := by
            show _ = _
            rw [take_getD xs k (by rw [HM.out]; exact hlt), take_getD ys k (by rw [HM2.out]; exact hlt), heq.out, HY.out, HZ.out, hyz]
          clear hyz
          go_wp2
          go_quiet (fail)
          go_wp2
          go_roundw
          case rel => exact ⟨k + 1, _, by omega, by go_num, HE, rfl⟩
          case measure => simp [intOf]; omega
        · have hbz : (y != z) = true := by simpa using hyz
          have HE : Hid (xs ≠ ys) := by
            show ¬ _
            rintro rfl
            exact hyz (HY.out.symm.trans HZ.out)
          clear hyz
          go_wp2
          go_quiet (fail)
          go_wp2
          go_ret
          exact ⟨ret_bool (by symm; exact decide_eq_false HE.out), _, World.drewN_drewN _ _ _⟩
      · go_wp2
        go_ret
        exact ⟨ret_bool (by symm; apply decide_eq_true; have := heq.out; rwa [List.take_of_length_le (by rw [HM.out]; omega), List.take_of_length_le (by rw [HM2.out]; omega)] at this), _, rfl⟩
  · have hne : ((xs.length : Int) != (ys.length : Int)) = true := by rw [bne_iff_ne]; omega
    go_enter Try.func17, Try.ntmps17
    go_wp2
    go_ret
    exact ⟨ret_bool (by symm; apply decide_eq_false; intro e; exact hlen (by rw [e])), 0, rfl⟩
end Go.Proofs.Ythdipkdolgcmgaa.SameI
