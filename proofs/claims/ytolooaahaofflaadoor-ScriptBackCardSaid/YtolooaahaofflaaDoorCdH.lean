/-
  What package code does as it landed, eighth part: Same (the library's Equal); all of it as the laws ask. Condition: the table lies as it was written.
-/
import Derived.Test.YtolooaahaofflaaDoorCdG
import Derived.Laws.StructEq
namespace Go.Proofs.YtolooaahaofflaaDoor.CdA
open Go.ChangeShapes Go.WideShapes Go.ChangeAt Go.RowKit Mem MutP CodeP Hand RefCode CodeT CodeI

theorem ciHeld : Tryd.prog.stoodInHeld 56 = false := by kernel_rfl
theorem ciGuard : Tryd.prog.eqGuardType Tryd.prog.depth 56 = false := by kernel_rfl
/-- '!=' of two instructions. -/
theorem run_neq_ci (W : World) (xo xa xb xn yo ya yb yn : Int) :
    (binOp .neq 56 (.agg #[.int .i64 xo, .int .i64 xa, .int .i64 xb, .int .i64 xn]) (.agg #[.int .i64 yo, .int .i64 ya, .int .i64 yb, .int .i64 yn])).run Tryd.prog W = .ok (.bool (!decide ((⟨xo, xa, xb, xn⟩ : In) = ⟨yo, ya, yb, yn⟩))) W := by
  have hut : Tryd.prog.underlying 56 = some (.struct (Tryd.prog.fieldsOf 56)) := by simp only [Program.fieldsOf, Tryd.underlying56]
  rw [run_neq_struct, run_equalIn_agg _ 9999 _ _ _ hut ciHeld]
  simp only [Program.fieldsOf, Tryd.underlying56]
  have h3 := Tryd.underlying3
  have h4 := Tryd.underlying2
  simp [go_sem, h3, h4]
  by_cases e1 : xo = yo <;> by_cases e2 : xa = ya <;> by_cases e3 : xb = yb <;> by_cases e4 : xn = yn <;> simp [e1, e2, e3, e4]

theorem equal_l {w : World} {G G' : Nat → Prop} {va vb : Value} {xs ys : List In} (ha : RdL inE w G va xs) (hb : RdL inE w G' vb ys) :
    Calls Tryd.prog 50 #[va, vb] w fun e w' => e = .returned (.bool (decide (xs = ys))) ∧ ∃ n, w' = w.drewN n := by
  have hma := ha.le
  obtain ⟨A, ca, rfl⟩ := ha.form
  obtain ⟨B, cb, rfl⟩ := hb.form
  by_cases hlen : xs.length = ys.length
  · have HA := Lib.hid ha
    have HB := Lib.hid hb
    clear ha hb
    obtain ⟨m, hm⟩ : ∃ m, xs.length = m := ⟨_, rfl⟩
    have hm2 : ys.length = m := by omega
    have HM := Lib.hid hm
    have HM2 := Lib.hid hm2
    rw [hm] at hma HA ⊢
    rw [hm2] at HB ⊢
    clear hm hm2 hlen
    go_enter Tryd.func50, Tryd.ntmps50
    go_wp2
    go_loopw [13] (fun t W => ∃ k n : Nat, k ≤ m ∧ t = .int .i64 k ∧ Hid (xs.take k = ys.take k) ∧ W = w.drewN n) (fun t _ => m - (intOf t).toNat)
    case atStart => exact ⟨0, 0, Nat.zero_le _, rfl, rfl, rfl⟩
    case round =>
      obtain ⟨k, n, hk, rfl, heq, rfl⟩ := hrel
      by_cases hlt : k < m
      · have hx : xs[k]? = some (xs[k]'(by have := HM.out; omega)) := List.getElem?_eq_getElem _
        have hy : ys[k]? = some (ys[k]'(by have := HM2.out; omega)) := List.getElem?_eq_getElem _
        generalize xs[k]'_ = x at hx
        generalize ys[k]'_ = y at hy
        obtain ⟨b, off, rfl, _, c0, c1, c2, c3⟩ := in_at HA.out hx
        obtain ⟨b', off', rfl, _, d0, d1, d2, d3⟩ := in_at HB.out hy
        have HX := Lib.hid hx
        have HY := Lib.hid hy
        clear hx hy
        obtain ⟨xo, xa, xb, xn⟩ := x
        obtain ⟨yo, ya, yb, yn⟩ := y
        simp only at c0 c1 c2 c3 d0 d1 d2 d3
        have ii0 : (0 : Int) ≤ (k : Int) := by omega
        have ii1 : (k : Int) < (m : Int) := by omega
        have hgu := ciGuard
        by_cases hxy : (⟨xo, xa, xb, xn⟩ : In) = ⟨yo, ya, yb, yn⟩
        · have hneq := fun W => run_neq_ci W xo xa xb xn yo ya yb yn
          rw [decide_eq_true hxy] at hneq
          have HE : Hid (xs.take (k + 1) = ys.take (k + 1)) := by
            show _ = _
            rw [take_snocI xs k _ HX.out, take_snocI ys k _ HY.out, heq.out, hxy]
          clear hxy
          go_wp2
          go_quiet (fail)
          go_wp2
          go_roundw
          case rel => exact ⟨k + 1, _, by omega, by go_num, HE, rfl⟩
          case measure => simp [intOf]; omega
        · have hneq := fun W => run_neq_ci W xo xa xb xn yo ya yb yn
          rw [decide_eq_false hxy] at hneq
          have HE : Hid (xs ≠ ys) := by
            show ¬ _
            rintro rfl
            rw [HX.out] at HY
            exact hxy (Option.some.inj HY.out)
          clear hxy
          go_wp2
          go_quiet (fail)
          go_wp2
          go_ret
          exact ⟨ret_bool (by symm; exact decide_eq_false HE.out), _, World.drewN_drewN _ _ _⟩
      · go_wp2
        go_ret
        exact ⟨ret_bool (by symm; apply decide_eq_true; have := heq.out; rwa [List.take_of_length_le (by rw [HM.out]; omega), List.take_of_length_le (by rw [HM2.out]; omega)] at this), _, rfl⟩
  · have hne : ((xs.length : Int) != (ys.length : Int)) = true := by rw [bne_iff_ne]; omega
    clear ha hb
    go_enter Tryd.func50, Tryd.ntmps50
    go_wp2
    go_ret
    exact ⟨ret_bool (by symm; apply decide_eq_false; intro e; exact hlen (by rw [e])), 0, rfl⟩

theorem same_l {w : World} {G G' : Nat → Prop} {va vb : Value} {xs ys : List In} (ha : RdL inE w G va xs) (hb : RdL inE w G' vb ys) :
    Calls Tryd.prog 37 #[va, vb] w fun e w' => e = .returned (.bool (decide (xs = ys))) ∧ ∃ n, w' = w.drewN n := by
  have HC := Lib.hid (equal_l ha hb)
  obtain ⟨A, ca, rfl⟩ := ha.form
  obtain ⟨B, cb, rfl⟩ := hb.form
  generalize decide (xs = ys) = r at *
  clear ha hb
  go_enter Tryd.func37, Tryd.ntmps37
  go_wp2_with fail
  refine HC.out.mono ?_
  rintro e w1 ⟨rfl, k, rfl⟩
  go_wp2
  go_ret
  exact ⟨rfl, k, rfl⟩

/-- Package code, as the laws ask: in every world that has its table as it was written. -/
theorem theCo {W : World} (hT : Tab W) : Co W where
  form := fun op w hb _ => (form_l op w (hT.next hb)).mono fun _ _ ⟨he, hw⟩ => ⟨he, by rw [← hw]; exact Below.refl _ _⟩
  right := fun x n w hb _ _ => right_l x n w (hT.next hb)
  may := fun {w G A n c l} hb h _ _ => may_l (hT.next hb) h
  bytes := fun {w G A n c l} hb h _ _ => by
    obtain rfl := len_of h
    refine (bytes_l (hT.next hb) h).mono ?_
    rintro e w' ⟨u, rfl, hs, hf⟩
    obtain ⟨A', c', rfl⟩ := hs.1.form
    exact ⟨A', _, c', hf _ _ _ rfl, rfl, hs⟩
  read := fun {w G A n c b} hb h hc hy => by
    obtain rfl := len_of h
    refine (read_l (hT.next hb) h hy hc).mono ?_
    rintro e w' ⟨u, rfl, hs, hf⟩
    obtain ⟨A', c', rfl⟩ := hs.1.form
    exact ⟨A', _, c', hf _ _ _ rfl, rfl, hs⟩
  same := fun {w G G' A A' n n' c c' l m} h _ h' _ _ _ => (same_l h h').mono fun _ _ ⟨he, k, hw⟩ => ⟨he, by rw [hw]; exact below_drewN (Below.refl _ _) k⟩
end Go.Proofs.YtolooaahaofflaaDoor.CdA
