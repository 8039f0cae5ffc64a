/-
  Contracts of the functions of package countermandref16 (the document's answer for layer 16), fourth part: SameBytes, Same; the law's own Own. Condition: what the slices read as.
-/
import Derived.Test.YtolooaahaofflaaDoorRefCodeC
import Derived.Laws.StructEq
namespace Go.Proofs.YtolooaahaofflaaDoor.RefCode
open Go.ChangeShapes Go.WideShapes Go.ChangeAt Go.RowKit Mem MutP CodeP Hand

theorem inHeld : Tryd.prog.stoodInHeld 88 = false := by kernel_rfl
theorem inGuard : Tryd.prog.eqGuardType Tryd.prog.depth 88 = false := by kernel_rfl
theorem in_eq (x y : In) : x = y ↔ x.o = y.o ∧ x.a = y.a ∧ x.b = y.b ∧ x.n = y.n := by
  cases x; cases y; simp
instance : DecidableEq In := fun x y => decidable_of_iff _ (in_eq x y).symm
/-- '!=' of two instructions. -/
theorem run_neq_in (W : World) (xo xa xb xn yo ya yb yn : Int) :
    (binOp .neq 88 (.agg #[.int .i64 xo, .int .i64 xa, .int .i64 xb, .int .i64 xn]) (.agg #[.int .i64 yo, .int .i64 ya, .int .i64 yb, .int .i64 yn])).run Tryd.prog W = .ok (.bool (!decide ((⟨xo, xa, xb, xn⟩ : In) = ⟨yo, ya, yb, yn⟩))) W := by
  have hut : Tryd.prog.underlying 88 = some (.struct (Tryd.prog.fieldsOf 88)) := by simp only [Program.fieldsOf, Tryd.underlying88]
  rw [run_neq_struct, run_equalIn_agg _ 9999 _ _ _ hut inHeld]
  simp only [Program.fieldsOf, Tryd.underlying88]
  have h3 := Tryd.underlying3
  have h4 := Tryd.underlying2
  simp [go_sem, h3, h4]
  by_cases e1 : xo = yo <;> by_cases e2 : xa = ya <;> by_cases e3 : xb = yb <;> by_cases e4 : xn = yn <;> simp [e1, e2, e3, e4]

theorem same_c {w : World} {G G' : Nat → Prop} {va vb : Value} {xs ys : List In} (ha : RdL inE w G va xs) (hb : RdL inE w G' vb ys) :
    Calls Tryd.prog 35 #[va, vb] w fun e w' => e = .returned (.bool (decide (xs = ys))) ∧ ∃ n, w' = w.drewN n := by
  have hma := ha.le
  obtain ⟨A, ca, rfl⟩ := ha.form
  obtain ⟨B, cb, rfl⟩ := hb.form
  by_cases hlen : xs.length = ys.length
  · have HA := Lib.hid ha
    have HB := Lib.hid hb
    clear ha hb
    obtain ⟨m, hm⟩ : ∃ m, xs.length = m := ⟨_, rfl⟩
    have hm2 : ys.length = m := by omega
    have HM := Lib.hid hm
    have HM2 := Lib.hid hm2
    rw [hm] at hma HA ⊢
    rw [hm2] at HB ⊢
    clear hm hm2 hlen
    go_enter Tryd.func35, Tryd.ntmps35
    go_wp2
    go_loopw [5] (fun t W => ∃ k n : Nat, k ≤ m ∧ t = .int .i64 k ∧ Hid (xs.take k = ys.take k) ∧ W = w.drewN n) (fun t _ => m - (intOf t).toNat)
    case atStart => exact ⟨0, 0, Nat.zero_le _, rfl, rfl, rfl⟩
    case round =>
      obtain ⟨k, n, hk, rfl, heq, rfl⟩ := hrel
      by_cases hlt : k < m
      · have hx : xs[k]? = some (xs[k]'(by have := HM.out; omega)) := List.getElem?_eq_getElem _
        have hy : ys[k]? = some (ys[k]'(by have := HM2.out; omega)) := List.getElem?_eq_getElem _
        generalize xs[k]'_ = x at hx
        generalize ys[k]'_ = y at hy
        obtain ⟨b, off, rfl, _, c0, c1, c2, c3⟩ := in_at HA.out hx
        obtain ⟨b', off', rfl, _, d0, d1, d2, d3⟩ := in_at HB.out hy
        have HX := Lib.hid hx
        have HY := Lib.hid hy
        clear hx hy
        obtain ⟨xo, xa, xb, xn⟩ := x
        obtain ⟨yo, ya, yb, yn⟩ := y
        simp only at c0 c1 c2 c3 d0 d1 d2 d3
        have ii0 : (0 : Int) ≤ (k : Int) := by omega
        have ii1 : (k : Int) < (m : Int) := by omega
        have hgu := inGuard
        by_cases hxy : (⟨xo, xa, xb, xn⟩ : In) = ⟨yo, ya, yb, yn⟩
        · have hneq := fun W => run_neq_in W xo xa xb xn yo ya yb yn
          rw [decide_eq_true hxy] at hneq
          have HE : Hid (xs.take (k + 1) = ys.take (k + 1)) := by
            show _ = _
            rw [take_snocI xs k _ HX.out, take_snocI ys k _ HY.out, heq.out, hxy]
          clear hxy
          go_wp2
          go_quiet (fail)
          go_wp2
          go_roundw
          case rel => exact ⟨k + 1, _, by omega, by go_num, HE, rfl⟩
          case measure => simp [intOf]; omega
        · have hneq := fun W => run_neq_in W xo xa xb xn yo ya yb yn
          rw [decide_eq_false hxy] at hneq
          have HE : Hid (xs ≠ ys) := by
            show ¬ _
            rintro rfl
            rw [HX.out] at HY
            exact hxy (Option.some.inj HY.out)
          clear hxy
          go_wp2
          go_quiet (fail)
          go_wp2
          go_ret
          exact ⟨ret_bool (by symm; exact decide_eq_false HE.out), _, World.drewN_drewN _ _ _⟩
      · go_wp2
        go_ret
        exact ⟨ret_bool (by symm; apply decide_eq_true; have := heq.out; rwa [List.take_of_length_le (by rw [HM.out]; omega), List.take_of_length_le (by rw [HM2.out]; omega)] at this), _, rfl⟩
  · have hne : ((xs.length : Int) != (ys.length : Int)) = true := by rw [bne_iff_ne]; omega
    clear ha hb
    go_enter Tryd.func35, Tryd.ntmps35
    go_wp2
    go_ret
    exact ⟨ret_bool (by symm; apply decide_eq_false; intro e; exact hlen (by rw [e])), 0, rfl⟩

theorem bytes_c {w : World} {G G' : Nat → Prop} {va vb : Value} {xs ys : List Int} (ha : RdL byE w G va xs) (hb : RdL byE w G' vb ys) :
    Calls Tryd.prog 17 #[va, vb] w fun e w' => e = .returned (.bool (decide (xs = ys))) ∧ ∃ n, w' = w.drewN n := by
  have hma := ha.le
  obtain ⟨A, ca, rfl⟩ := ha.form
  obtain ⟨B, cb, rfl⟩ := hb.form
  by_cases hlen : xs.length = ys.length
  · have HA := Lib.hid ha
    have HB := Lib.hid hb
    clear ha hb
    obtain ⟨m, hm⟩ : ∃ m, xs.length = m := ⟨_, rfl⟩
    have hm2 : ys.length = m := by omega
    have HM := Lib.hid hm
    have HM2 := Lib.hid hm2
    rw [hm] at hma HA ⊢
    rw [hm2] at HB ⊢
    clear hm hm2 hlen
    go_enter Tryd.func17, Tryd.ntmps17
    go_wp2
    go_loopw [5] (fun t W => ∃ k n : Nat, k ≤ m ∧ t = .int .i64 k ∧ Hid (xs.take k = ys.take k) ∧ W = w.drewN n) (fun t _ => m - (intOf t).toNat)
    case atStart => exact ⟨0, 0, Nat.zero_le _, rfl, rfl, rfl⟩
    case round =>
      obtain ⟨k, n, hk, rfl, heq, rfl⟩ := hrel
      by_cases hlt : k < m
      · have hx : xs[k]? = some (xs[k]'(by have := HM.out; omega)) := List.getElem?_eq_getElem _
        have hy : ys[k]? = some (ys[k]'(by have := HM2.out; omega)) := List.getElem?_eq_getElem _
        generalize xs[k]'_ = x at hx
        generalize ys[k]'_ = y at hy
        obtain ⟨b, off, rfl, _, c0⟩ := by_at HA.out hx
        obtain ⟨b', off', rfl, _, d0⟩ := by_at HB.out hy
        have HX := Lib.hid hx
        have HY := Lib.hid hy
        clear hx hy
        have ii0 : (0 : Int) ≤ (k : Int) := by omega
        have ii1 : (k : Int) < (m : Int) := by omega
        by_cases hxy : x = y
        · have hbz : (x != y) = false := by simpa using hxy
          have HE : Hid (xs.take (k + 1) = ys.take (k + 1)) := by
            show _ = _
            rw [take_snocI xs k _ HX.out, take_snocI ys k _ HY.out, heq.out, hxy]
          clear hxy
          go_wp2
          go_quiet (fail)
          go_wp2
          go_roundw
          case rel => exact ⟨k + 1, _, by omega, by go_num, HE, rfl⟩
          case measure => simp [intOf]; omega
        · have hbz : (x != y) = true := by simpa using hxy
          have HE : Hid (xs ≠ ys) := by
            show ¬ _
            rintro rfl
            rw [HX.out] at HY
            exact hxy (Option.some.inj HY.out)
          clear hxy
          go_wp2
          go_quiet (fail)
          go_wp2
          go_ret
          exact ⟨ret_bool (by symm; exact decide_eq_false HE.out), _, World.drewN_drewN _ _ _⟩
      · go_wp2
        go_ret
        exact ⟨ret_bool (by symm; apply decide_eq_true; have := heq.out; rwa [List.take_of_length_le (by rw [HM.out]; omega), List.take_of_length_le (by rw [HM2.out]; omega)] at this), _, rfl⟩
  · have hne : ((xs.length : Int) != (ys.length : Int)) = true := by rw [bne_iff_ne]; omega
    clear ha hb
    go_enter Tryd.func17, Tryd.ntmps17
    go_wp2
    go_ret
    exact ⟨ret_bool (by symm; apply decide_eq_false; intro e; exact hlen (by rw [e])), 0, rfl⟩

end Go.Proofs.YtolooaahaofflaaDoor.RefCode
