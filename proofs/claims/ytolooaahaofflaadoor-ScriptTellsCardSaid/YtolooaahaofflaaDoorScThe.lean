/-
  What package script does as it landed, fifth part: Same (the library's Equal and EqualFunc); all of it as the laws ask. Condition: the table of package code lies as it was written.
-/
import Derived.Test.YtolooaahaofflaaDoorSdG
import Derived.Test.YtolooaahaofflaaDoorScriI
import Derived.ChangeKeysEq
namespace Go.Proofs.YtolooaahaofflaaDoor.ScA
open Go.ChangeShapes Go.WideShapes Go.ChangeAt Go.RowKit Mem MutP CodeP ScriptP Hand RefCode CodeI Scr CodeT CdA

theorem kxHeld : Tryd.prog.stoodInHeld 23 = false := by kernel_rfl
theorem kxGuard : Tryd.prog.eqGuardType Tryd.prog.depth 23 = false := by kernel_rfl
/-- '!=' of two instructions. -/
theorem run_neq_kx (W : World) (xo xa xn yo ya yn : Int) :
    (binOp .neq 23 (.agg #[.int .i64 xo, .int .i64 xa, .int .i64 xn]) (.agg #[.int .i64 yo, .int .i64 ya, .int .i64 yn])).run Tryd.prog W = .ok (.bool (!decide ((⟨xo, xa, xn⟩ : It) = ⟨yo, ya, yn⟩))) W := by
  have hut : Tryd.prog.underlying 23 = some (.struct (Tryd.prog.fieldsOf 23)) := by simp only [Program.fieldsOf, Tryd.underlying23]
  rw [run_neq_struct, run_equalIn_agg _ 9999 _ _ _ hut kxHeld]
  simp only [Program.fieldsOf, Tryd.underlying23]
  have h3 := Tryd.underlying3
  have h4 := Tryd.underlying2
  simp [go_sem, h3, h4]
  by_cases e1 : xo = yo <;> by_cases e2 : xa = ya <;> by_cases e4 : xn = yn <;> simp [e1, e2, e4]

theorem equalX_k {w : World} {G G' : Nat → Prop} {va vb : Value} {xs ys : List It} (ha : RdL itE w G va xs) (hb : RdL itE w G' vb ys) :
    Calls Tryd.prog 38 #[va, vb] w fun e w' => e = .returned (.bool (decide (xs = ys))) ∧ ∃ n, w' = w.drewN n := by
  have hma := ha.le
  obtain ⟨A, ca, rfl⟩ := ha.form
  obtain ⟨B, cb, rfl⟩ := hb.form
  by_cases hlen : xs.length = ys.length
  · have HA := Lib.hid ha
    have HB := Lib.hid hb
    clear ha hb
    obtain ⟨m, hm⟩ : ∃ m, xs.length = m := ⟨_, rfl⟩
    have hm2 : ys.length = m := by omega
    have HM := Lib.hid hm
    have HM2 := Lib.hid hm2
    rw [hm] at hma HA ⊢
    rw [hm2] at HB ⊢
    clear hm hm2 hlen
    go_enter Tryd.func38, Tryd.ntmps38
    go_wp2
    go_loopw [13] (fun t W => ∃ k n : Nat, k ≤ m ∧ t = .int .i64 k ∧ Hid (xs.take k = ys.take k) ∧ W = w.drewN n) (fun t _ => m - (intOf t).toNat)
    case atStart => exact ⟨0, 0, Nat.zero_le _, rfl, rfl, rfl⟩
    case round =>
      obtain ⟨k, n, hk, rfl, heq, rfl⟩ := hrel
      by_cases hlt : k < m
      · have hx : xs[k]? = some (xs[k]'(by have := HM.out; omega)) := List.getElem?_eq_getElem _
        have hy : ys[k]? = some (ys[k]'(by have := HM2.out; omega)) := List.getElem?_eq_getElem _
        generalize xs[k]'_ = x at hx
        generalize ys[k]'_ = y at hy
        obtain ⟨b, off, rfl, _, c0, c1, c2⟩ := it_at HA.out hx
        obtain ⟨b', off', rfl, _, d0, d1, d2⟩ := it_at HB.out hy
        have HX := Lib.hid hx
        have HY := Lib.hid hy
        clear hx hy
        obtain ⟨xo, xa, xn⟩ := x
        obtain ⟨yo, ya, yn⟩ := y
        simp only at c0 c1 c2 d0 d1 d2
        have ii0 : (0 : Int) ≤ (k : Int) := by omega
        have ii1 : (k : Int) < (m : Int) := by omega
        have hgu := kxGuard
        by_cases hxy : (⟨xo, xa, xn⟩ : It) = ⟨yo, ya, yn⟩
        · have hneq := fun W => run_neq_kx W xo xa xn yo ya yn
          rw [decide_eq_true hxy] at hneq
          have HE : Hid (xs.take (k + 1) = ys.take (k + 1)) := by
            show _ = _
            rw [take_snocI xs k _ HX.out, take_snocI ys k _ HY.out, heq.out, hxy]
          clear hxy
          go_wp2
          go_quiet (fail)
          go_wp2
          go_roundw
          case rel => exact ⟨k + 1, _, by omega, by go_num, HE, rfl⟩
          case measure => simp [intOf]; omega
        · have hneq := fun W => run_neq_kx W xo xa xn yo ya yn
          rw [decide_eq_false hxy] at hneq
          have HE : Hid (xs ≠ ys) := by
            show ¬ _
            rintro rfl
            rw [HX.out] at HY
            exact hxy (Option.some.inj HY.out)
          clear hxy
          go_wp2
          go_quiet (fail)
          go_wp2
          go_ret
          exact ⟨ret_bool (by symm; exact decide_eq_false HE.out), _, World.drewN_drewN _ _ _⟩
      · go_wp2
        go_ret
        exact ⟨ret_bool (by symm; apply decide_eq_true; have := heq.out; rwa [List.take_of_length_le (by rw [HM.out]; omega), List.take_of_length_le (by rw [HM2.out]; omega)] at this), _, rfl⟩
  · have hne : ((xs.length : Int) != (ys.length : Int)) = true := by rw [bne_iff_ne]; omega
    clear ha hb
    go_enter Tryd.func38, Tryd.ntmps38
    go_wp2
    go_ret
    exact ⟨ret_bool (by symm; apply decide_eq_false; intro e; exact hlen (by rw [e])), 0, rfl⟩


set_option maxRecDepth 100000 in
set_option maxHeartbeats 1000000 in
theorem equalP_k {w : World} {G G' : Nat → Prop} {va vb : Value} {xs ys : List (List In)} (ha : RdN inE w G va xs) (hb : RdN inE w G' vb ys) :
    Calls Tryd.prog 36 #[va, vb, .func (.func 37) #[] #[]] w fun e w' => e = .returned (.bool (decide (xs = ys))) ∧ ∃ n, w' = w.drewN n := by
  have hma := ha.le
  obtain ⟨A, ca, rfl⟩ := ha.form
  obtain ⟨B, cb, rfl⟩ := hb.form
  by_cases hlen : xs.length = ys.length
  · have HA := Lib.hid ha
    have HB := Lib.hid hb
    clear ha hb
    obtain ⟨m, hm⟩ : ∃ m, xs.length = m := ⟨_, rfl⟩
    have hm2 : ys.length = m := by omega
    have HM := Lib.hid hm
    have HM2 := Lib.hid hm2
    rw [hm] at hma HA ⊢
    rw [hm2] at HB ⊢
    clear hm hm2 hlen
    go_enter Tryd.func36, Tryd.ntmps36
    go_wp2
    go_loopw [17] (fun t W => ∃ k n : Nat, k ≤ m ∧ t = .int .i64 k ∧ Hid (xs.take k = ys.take k) ∧ W = w.drewN n) (fun t _ => m - (intOf t).toNat)
    case atStart => exact ⟨0, 0, Nat.zero_le _, rfl, rfl, rfl⟩
    case round =>
      obtain ⟨k, n, hk, rfl, heq, rfl⟩ := hrel
      by_cases hlt : k < m
      · have hx : xs[k]? = some (xs[k]'(by have := HM.out; omega)) := List.getElem?_eq_getElem _
        have hy : ys[k]? = some (ys[k]'(by have := HM2.out; omega)) := List.getElem?_eq_getElem _
        generalize xs[k]'_ = x at hx
        generalize ys[k]'_ = y at hy
        obtain ⟨b, off, A1, c1, rfl, _, _, e0, hr1⟩ := HA.out.at_ hx
        obtain ⟨b', off', A2, c2, rfl, _, _, e1, hr2⟩ := HB.out.at_ hy
        have HX := Lib.hid hx
        have HY := Lib.hid hy
        have HC := Lib.hid (same_l (hr1.drewN n) (hr2.drewN n))
        obtain ⟨p, hp⟩ : ∃ p, x.length = p := ⟨_, rfl⟩
        obtain ⟨q, hq⟩ : ∃ q, y.length = q := ⟨_, rfl⟩
        rw [hp] at e0 HC
        rw [hq] at e1 HC
        have ii0 : (0 : Int) ≤ (k : Int) := by omega
        have ii1 : (k : Int) < (m : Int) := by omega
        clear hx hy hr1 hr2 hp hq
        by_cases hxy : x = y
        · rw [decide_eq_true hxy] at HC
          have HE : Hid (xs.take (k + 1) = ys.take (k + 1)) := by
            show _ = _
            rw [take_snocI xs k _ HX.out, take_snocI ys k _ HY.out, heq.out, hxy]
          clear hxy
          go_wp2_with fail
          refine HC.out.mono ?_
          rintro e w2 ⟨rfl, nn, rfl⟩
          go_wp2
          go_roundw
          case rel => exact ⟨k + 1, _, by omega, by go_num, HE, rfl⟩
          case measure => simp [intOf]; omega
        · rw [decide_eq_false hxy] at HC
          have HE : Hid (xs ≠ ys) := by
            show ¬ _
            rintro rfl
            rw [HX.out] at HY
            exact hxy (Option.some.inj HY.out)
          clear hxy
          go_wp2_with fail
          refine HC.out.mono ?_
          rintro e w2 ⟨rfl, nn, rfl⟩
          go_wp2
          go_ret
          exact ⟨ret_bool (by symm; exact decide_eq_false HE.out), _, rfl⟩
      · go_wp2
        go_ret
        exact ⟨ret_bool (by symm; apply decide_eq_true; have := heq.out; rwa [List.take_of_length_le (by rw [HM.out]; omega), List.take_of_length_le (by rw [HM2.out]; omega)] at this), _, rfl⟩
  · have hne : ((xs.length : Int) != (ys.length : Int)) = true := by rw [bne_iff_ne]; omega
    clear ha hb
    go_enter Tryd.func36, Tryd.ntmps36
    go_wp2
    go_ret
    exact ⟨ret_bool (by symm; apply decide_eq_false; intro e; exact hlen (by rw [e])), 0, rfl⟩

theorem krGuard : Tryd.prog.eqGuardType Tryd.prog.depth 24 = false := by kernel_rfl
/-- '==' of two arrays of rooms. -/
theorem run_eql_rooms (W : World) (r0 r1 r2 r3 t0 t1 t2 t3 : Int) :
    (binOp .eql 24 (.agg #[.int .i64 r0, .int .i64 r1, .int .i64 r2, .int .i64 r3]) (.agg #[.int .i64 t0, .int .i64 t1, .int .i64 t2, .int .i64 t3])).run Tryd.prog W = .ok (.bool (decide ([r0, r1, r2, r3] = [t0, t1, t2, t3]))) W := by
  obtain ⟨i, hi⟩ := Option.isSome_iff_exists.1 (show (Tryd.prog.info? 2).isSome = true by kernel_rfl)
  have h4 := Tryd.underlying2
  have hc : Tryd.prog.cellsOf 2 = 1 := by kernel_rfl
  rw [run_eql_struct, run_equalIn_array _ 9999 _ _ Tryd.underlying24 hi, show List.range 4 = [0, 1, 2, 3] from rfl, hc]
  simp [Op.eqItems, go_sem, h4]
  by_cases e1 : r0 = t0 <;> by_cases e2 : r1 = t1 <;> by_cases e3 : r2 = t2 <;> by_cases e4 : r3 = t3 <;> simp [e1, e2, e3, e4]

set_option maxRecDepth 100000 in
set_option maxHeartbeats 2000000 in
theorem same_k {w : World} {G G' : Nat → Prop} {q q' : Sv} {s t : Sc} (h : RdS w G q s) (h' : RdS w G' q' t) :
    Calls Tryd.prog 19 #[.agg q.arr, .agg q'.arr] w fun e w' => e = .returned (.bool (decide (s = t))) ∧ Below w.heap.size w w' := by
  obtain ⟨r0, r1, r2, r3, pA, pn, pc, xA, xn, xc⟩ := q
  obtain ⟨t0, t1, t2, t3, yA, yn, yc, zA, zn, zc⟩ := q'
  have HR : Hid (s.r = [r0, r1, r2, r3]) := h.1
  have HR' : Hid (t.r = [t0, t1, t2, t3]) := h'.1
  have S0 : Hid (Sep (fun _ => False) w ((w.alloc (.cells #[.int .i64 r0, .int .i64 r1, .int .i64 r2, .int .i64 r3, .slice pA pn pc, .slice xA xn xc] 28)).alloc (.cells #[.int .i64 t0, .int .i64 t1, .int .i64 t2, .int .i64 t3, .slice yA yn yc, .slice zA zn zc] 28)) [blk (w.heap.size + 1) (.cells #[.int .i64 t0, .int .i64 t1, .int .i64 t2, .int .i64 t3, .slice yA yn yc, .slice zA zn zc] 28), blk w.heap.size (.cells #[.int .i64 r0, .int .i64 r1, .int .i64 r2, .int .i64 r3, .slice pA pn pc, .slice xA xn xc] 28)]) := by
    have h1 := ((Sep.nil (fun _ => False) w).new (.cells #[.int .i64 r0, .int .i64 r1, .int .i64 r2, .int .i64 r3, .slice pA pn pc, .slice xA xn xc] 28)).new (.cells #[.int .i64 t0, .int .i64 t1, .int .i64 t2, .int .i64 t3, .slice yA yn yc, .slice zA zn zc] 28)
    rw [show (w.alloc (.cells #[.int .i64 r0, .int .i64 r1, .int .i64 r2, .int .i64 r3, .slice pA pn pc, .slice xA xn xc] 28)).heap.size = w.heap.size + 1 by simp] at h1
    exact h1
  have HCP := Lib.hid (equalP_k (h.below S0.out.old).2.1 (h'.below S0.out.old).2.1)
  have HCX : Hid (∀ k : Nat, Calls Tryd.prog 38 #[.slice xA xn xc, .slice zA zn zc] (((w.alloc (.cells #[.int .i64 r0, .int .i64 r1, .int .i64 r2, .int .i64 r3, .slice pA pn pc, .slice xA xn xc] 28)).alloc (.cells #[.int .i64 t0, .int .i64 t1, .int .i64 t2, .int .i64 t3, .slice yA yn yc, .slice zA zn zc] 28)).drewN k) fun e w' => e = .returned (.bool (decide (s.xs = t.xs))) ∧ ∃ n, w' = (((w.alloc (.cells #[.int .i64 r0, .int .i64 r1, .int .i64 r2, .int .i64 r3, .slice pA pn pc, .slice xA xn xc] 28)).alloc (.cells #[.int .i64 t0, .int .i64 t1, .int .i64 t2, .int .i64 t3, .slice yA yn yc, .slice zA zn zc] 28)).drewN k).drewN n) := fun k => equalX_k ((h.below S0.out.old).2.2.1.drewN k) ((h'.below S0.out.old).2.2.1.drewN k)
  have HQ : Hid (decide (s = t) = (decide ([r0, r1, r2, r3] = [t0, t1, t2, t3]) && (decide (s.ps = t.ps) && decide (s.xs = t.xs)))) := by
    show _ = _
    rw [← HR.out, ← HR'.out, Bool.eq_iff_iff]
    simp only [Bool.and_eq_true, decide_eq_true_eq]
    exact sc_eq s t
  have hgu := krGuard
  have heq := fun W => run_eql_rooms W r0 r1 r2 r3 t0 t1 t2 t3
  generalize decide (s = t) = r at *
  generalize decide ([r0, r1, r2, r3] = [t0, t1, t2, t3]) = e1 at *
  generalize decide (s.ps = t.ps) = e2 at *
  generalize decide (s.xs = t.xs) = e3 at *
  unfold Sv.arr
  simp only
  clear h h' HR HR'
  cases e1
  · obtain rfl : r = false := HQ.out
    go_enter Tryd.func19, Tryd.ntmps19
    go_wp2
    go_ret
    exact ⟨rfl, S0.out.old⟩
  cases e2
  · obtain rfl : r = false := HQ.out
    go_enter Tryd.func19, Tryd.ntmps19
    go_wp2_with fail
    refine HCP.out.mono ?_
    rintro e w2 ⟨rfl, n, rfl⟩
    go_wp2
    go_ret
    exact ⟨rfl, (S0.out.drewN n).old⟩
  · obtain rfl : r = e3 := HQ.out
    go_enter Tryd.func19, Tryd.ntmps19
    go_wp2_with fail
    refine HCP.out.mono ?_
    rintro e w2 ⟨rfl, n, rfl⟩
    have S2 := Lib.hid (S0.out.drewN n)
    have k5 := (cell_block (S2.out.blk_at 1 (g := w.heap.size) (o := .cells #[.int .i64 r0, .int .i64 r1, .int .i64 r2, .int .i64 r3, .slice pA pn pc, .slice xA xn xc] 28) rfl) 5).trans rfl
    have l5 := (cell_block (S2.out.blk_at 0 (g := w.heap.size + 1) (o := .cells #[.int .i64 t0, .int .i64 t1, .int .i64 t2, .int .i64 t3, .slice yA yn yc, .slice zA zn zc] 28) rfl) 5).trans rfl
    go_wp2_with fail
    refine (HCX.out n).mono ?_
    rintro e w3 ⟨rfl, m, rfl⟩
    go_wp2
    go_ret
    exact ⟨rfl, by first | exact (S2.out.drewN m).old | exact (S0.out.drewN _).old⟩

/-- Package script, as the laws ask: in every world that has the table of package code as it was written. -/
theorem theCs {W : World} (hT : Tab W) : ScriI.Cs W where
  right := fun x w _ _ => right_k x w
  may := fun hb h _ _ => may_k (hT.next hb) h
  bytes := fun {w G q s} hb h _ _ => by
    refine (bytes_k (hT.next hb) h).mono ?_
    rintro e w' ⟨u, rfl, hs, hf⟩
    obtain ⟨A', c', rfl⟩ := hs.1.form
    exact ⟨A', _, c', hf _ _ _ rfl, rfl, hs⟩
  read := fun {w G A n c b} hb h hc hy => by
    obtain rfl := len_of h
    exact read_k (hT.next hb) h hy hc
  same := fun {w G G' q q' s t} _ h h' _ _ _ _ => same_k h h'
end Go.Proofs.YtolooaahaofflaaDoor.ScA
