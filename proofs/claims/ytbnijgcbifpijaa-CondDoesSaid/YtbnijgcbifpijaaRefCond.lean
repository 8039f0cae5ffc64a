/-
  Contracts of the functions of package countermandref10 (the document's answer for layer 10). Condition: the condition is at hand.
-/
import Derived.Test.YtbnijgcbifpijaaCondP
import Derived.Test.YtbnijgcbifpijaaObjL
import Derived.Test.YtbnijgcbifpijaaRows
import Derived.Laws.StructEq
import Derived.Deep.QuietTactic
import Derived.BigQuiet
namespace Go.Proofs.Ytbnijgcbifpijaa.RefCond
open Go.ChangeShapes Go.WideShapes Go.ChangeAt Go.RowKit Mem MutP CondP Hand

theorem tlHeld : Try.prog.stoodInHeld 40 = false := by kernel_rfl
theorem tlGuard : Try.prog.eqGuardType Try.prog.depth 40 = false := by kernel_rfl
theorem tlElem : Elem tlE Try.prog 36 40 := elem_of (z := .agg #[.int .i64 0, .int .i64 0]) (bytes := 16) Try.underlying36 (by kernel_rfl) rfl (by omega)
/-- '!=' of two who are told. -/
theorem run_neq_tl (W : World) (xt xk yt yk : Int) :
    (binOp .neq 40 (.agg #[.int .i64 xt, .int .i64 xk]) (.agg #[.int .i64 yt, .int .i64 yk])).run Try.prog W = .ok (.bool (!decide ((⟨xt, xk⟩ : Tl) = ⟨yt, yk⟩))) W := by
  have hut : Try.prog.underlying 40 = some (.struct (Try.prog.fieldsOf 40)) := by simp only [Program.fieldsOf, Try.underlying40]
  rw [run_neq_struct, run_equalIn_agg _ 9999 _ _ _ hut tlHeld]
  simp only [Program.fieldsOf, Try.underlying40]
  have h3 := Try.underlying3
  simp [go_sem, h3]
  by_cases e1 : xt = yt <;> by_cases e2 : xk = yk <;> simp [e1, e2]

theorem same_any {w : World} {G G' : Nat → Prop} {va vb : Value} {xs ys : List Tl} (ha : RdL tlE w G va xs) (hb : RdL tlE w G' vb ys) :
    Calls Try.prog 13 #[va, vb] w fun e w' => e = .returned (.bool (decide (xs = ys))) ∧ ∃ n, w' = w.drewN n := by
  have hma := ha.le
  obtain ⟨A, ca, rfl⟩ := ha.form
  obtain ⟨B, cb, rfl⟩ := hb.form
  by_cases hlen : xs.length = ys.length
  · have HA := Lib.hid ha
    have HB := Lib.hid hb
    clear ha hb
    obtain ⟨m, hm⟩ : ∃ m, xs.length = m := ⟨_, rfl⟩
    have hm2 : ys.length = m := by omega
    have HM := Lib.hid hm
    have HM2 := Lib.hid hm2
    rw [hm] at hma HA ⊢
    rw [hm2] at HB ⊢
    clear hm hm2 hlen
    go_enter Try.func13, Try.ntmps13
    go_wp2
    go_loopw [5] (fun t W => ∃ k n : Nat, k ≤ m ∧ t = .int .i64 k ∧ Hid (xs.take k = ys.take k) ∧ W = w.drewN n) (fun t _ => m - (intOf t).toNat)
    case atStart => exact ⟨0, 0, Nat.zero_le _, rfl, rfl, rfl⟩
    case round =>
      obtain ⟨k, n, hk, rfl, heq, rfl⟩ := hrel
      by_cases hlt : k < m
      · have hx : xs[k]? = some (xs[k]'(by have := HM.out; omega)) := List.getElem?_eq_getElem _
        have hy : ys[k]? = some (ys[k]'(by have := HM2.out; omega)) := List.getElem?_eq_getElem _
        generalize xs[k]'_ = x at hx
        generalize ys[k]'_ = y at hy
        obtain ⟨b, off, rfl, _, _, c0, c1⟩ := tl_cells HA.out hx
        obtain ⟨b', off', rfl, _, _, d0, d1⟩ := tl_cells HB.out hy
        have HX := Lib.hid hx
        have HY := Lib.hid hy
        clear hx hy
        obtain ⟨xt, xk⟩ := x
        obtain ⟨yt, yk⟩ := y
        simp only at c0 c1 d0 d1
        have ii0 : (0 : Int) ≤ (k : Int) := by omega
        have ii1 : (k : Int) < (m : Int) := by omega
        have hgu := tlGuard
        by_cases hxy : (⟨xt, xk⟩ : Tl) = ⟨yt, yk⟩
        · have hneq := fun W => run_neq_tl W xt xk yt yk
          rw [decide_eq_true hxy] at hneq
          have HE : Hid (xs.take (k + 1) = ys.take (k + 1)) := by
            show _ = _
            rw [take_snocT xs k _ HX.out, take_snocT ys k _ HY.out, heq.out, hxy]
          clear hxy
          go_wp2
          go_quiet (fail)
          go_wp2
          go_roundw
          case rel => exact ⟨k + 1, _, by omega, by go_num, HE, rfl⟩
          case measure => simp [intOf]; omega
        · have hneq := fun W => run_neq_tl W xt xk yt yk
          rw [decide_eq_false hxy] at hneq
          have HE : Hid (xs ≠ ys) := by
            show ¬ _
            rintro rfl
            rw [HX.out] at HY
            exact hxy (Option.some.inj HY.out)
          clear hxy
          go_wp2
          go_quiet (fail)
          go_wp2
          go_ret
          exact ⟨ret_bool (by symm; exact decide_eq_false HE.out), _, World.drewN_drewN _ _ _⟩
      · go_wp2
        go_ret
        exact ⟨ret_bool (by symm; apply decide_eq_true; have := heq.out; rwa [List.take_of_length_le (by rw [HM.out]; omega), List.take_of_length_le (by rw [HM2.out]; omega)] at this), _, rfl⟩
  · have hne : ((xs.length : Int) != (ys.length : Int)) = true := by rw [bne_iff_ne]; omega
    clear ha hb
    go_enter Try.func13, Try.ntmps13
    go_wp2
    go_ret
    exact ⟨ret_bool (by symm; apply decide_eq_false; intro e; exact hlen (by rw [e])), 0, rfl⟩

/-- The reference's condition behind the pointer to block p. -/
def rcp (p : Nat) (W : List Tl) (N : Int) (u : Value) : List Res := [blk p (.cells #[u, .int .i64 N] 47), told tlE u W]
/-- A slice's length is no more than its capacity. -/
def Fits (u : Value) : Prop := ∀ A n c, u = .slice A n c → n ≤ c
def rc (p : Nat) (W : List Tl) (N : Int) : Res := someR (fun u => Ok W N ∧ Fits u) fun u : Value => pack (rcp p W N u)

section
variable {B : Nat → Prop} {w wk : World} {Rs : List Res} {p : Nat} {W : List Tl} {N : Int}
theorem rc_open (h : Sep B w wk (rc p W N :: Rs)) : ∃ A c, Sep B w wk (blk p (.cells #[.slice A W.length c, .int .i64 N] 47) :: told tlE (.slice A W.length c) W :: Rs) ∧ Ok W N ∧ W.length ≤ c := by
  obtain ⟨u, hok, h1⟩ := h.ex
  have h2 : Sep B w wk (blk p (.cells #[u, .int .i64 N] 47) :: told tlE u W :: Rs) := h1.unpack
  obtain ⟨A, c, rfl⟩ := (h2.rdL 1 rfl).form
  exact ⟨A, c, h2, hok.1, hok.2 _ _ _ rfl⟩
theorem rc_close {u : Value} (h : Sep B w wk (blk p (.cells #[u, .int .i64 N] 47) :: told tlE u W :: Rs)) (hok : Ok W N) (hf : Fits u) : Sep B w wk (rc p W N :: Rs) :=
  Sep.hide (R := fun u : Value => pack (rcp p W N u)) (a := u) ⟨hok, hf⟩ (Sep.packed (Ss := rcp p W N u) h)
theorem rc_ok (h : Sep B w wk (rc p W N :: Rs)) : Ok W N := by obtain ⟨_, _, _, hok, _⟩ := rc_open h; exact hok
end
theorem fits_nil : Fits (.slice none 0 0) := fun _ _ _ e => by injection e with _ e2 e3; omega

theorem newC_no (n : Int) (w : World) (h : n < 1 ∨ 1000 < n) : Calls Try.prog 8 #[.int .i64 n] w fun e w' => e = .returned (.tuple #[.pointer none, .int .i64 1]) ∧ w = w' := by
  rcases (by omega : n < 1 ∨ (1 ≤ n ∧ 1000 < n)) with h1 | ⟨h1, h2⟩
  all_goals
    clear h
    go_enter Try.func8, Try.ntmps8
    go_wp2
    go_ret2
    exact ⟨rfl, rfl⟩
theorem newC_s {B : Nat → Prop} {w wk : World} {Rs : List Res} (h : Sep B w wk Rs) (n : Int) (h1 : 1 ≤ n) (h2 : n ≤ 1000) :
    Calls Try.prog 8 #[.int .i64 n] wk fun e wn => ∃ p, e = .returned (.tuple #[.pointer (some ⟨p, 0, none⟩), .int .i64 0]) ∧ Sep B w wn (rc p [] n :: Rs) := by
  have HS := Lib.hid (rc_close ((Sep.nil_told (h.new (.cells #[.slice none 0 0, .int .i64 n] 47)) tlE).swap) (Ok.new h1 h2) fits_nil)
  clear h
  go_enter Try.func8, Try.ntmps8
  go_wp2
  go_ret2
  exact ⟨_, rfl, HS.out⟩

section
variable {B : Nat → Prop} {w wk : World} {Rs : List Res} {p : Nat} {W : List Tl} {N : Int}

set_option maxRecDepth 100000 in
set_option maxHeartbeats 1000000 in
theorem wait_s (h : Sep B w wk (rc p W N :: Rs)) (t k : Int) :
    Calls Try.prog 10 #[.pointer (some ⟨p, 0, none⟩), .int .i64 t, .int .i64 k] wk fun e wn => e = .returned (.int .i64 (waitE W N t)) ∧ Sep B w wn (rc p (waitW W N t k) N :: Rs) := by
  have H0 := Lib.hid h
  obtain ⟨A, c, hs, hok, hcap⟩ := rc_open h
  have HOK := Lib.hid (hok.wait t k)
  have S0 := Lib.hid hs
  have hwl := hok.wlen
  have hb := hs.blk_at 0 rfl
  have c0 : wk.cell? ⟨p, 0, none⟩ = some (.slice A W.length c) := (cell_block hb 0).trans rfl
  have c1 : wk.cell? ⟨p, 1, none⟩ = some (.int .i64 N) := (cell_block hb 1).trans rfl
  have f0 := frozen_block hb 0
  have hpl := lt_of_block hb
  have HR : Hid (RdL tlE wk (fun _ => True) (.slice A W.length c) W) := hs.rdL 1 rfl
  clear h hs hok hb hcap
  by_cases hn : nameM N t = true
  · obtain ⟨t0, t1⟩ := name_iff.1 hn
    have d0 : decide (t < 0) = false := by simp; omega
    have d1 : decide (N ≤ t) = false := by simp; omega
    have HN := Lib.hid hn
    have S1 := Lib.hid (S0.out.grow0 tlE 40)
    have HRW : Hid (RdL tlE (wk.alloc (.cells #[] 40)) (fun _ => True) (.slice A W.length c) W) := S1.out.rdL 2 rfl
    clear hn
    go_enter Try.func10, Try.ntmps10
    go_wp2
    go_loopw [7] (fun u wr => ∃ i : Nat, i ≤ W.length ∧ u = .int .i64 i ∧ Hid (hasT (W.take i) t = false) ∧ wr = wk) (fun u _ => W.length - (intOf u).toNat)
    case atStart => exact ⟨0, Nat.zero_le _, rfl, by show _ = _; unfold hasT; simp, rfl⟩
    case round =>
      obtain ⟨i, hi, rfl, HNo, rfl⟩ := hrel
      by_cases hlt : i < W.length
      · have hx : W[i]? = some W[i] := List.getElem?_eq_getElem hlt
        generalize W[i] = x at hx
        obtain ⟨b, off, rfl, _, _, q0, _⟩ := tl_cells HR.out hx
        have HX := Lib.hid hx
        have i0 : (0 : Int) ≤ (i : Int) := by omega
        have i1 : (i : Int) < (W.length : Int) := by omega
        clear hx
        obtain ⟨xt, xk⟩ := x
        simp only at q0
        by_cases hxt : xt = t
        · subst hxt
          have HE : Hid (waitE W N xt = 6 ∧ waitW W N xt k = W) := by
            have h1 : waitE W N xt = 6 := by
              have := has_mem (List.mem_of_getElem? HX.out)
              unfold waitE
              rw [HN.out, if_neg (by simp), if_pos this]
            refine ⟨h1, ?_⟩
            unfold waitW
            rw [h1, if_neg (by omega)]
          go_wp2
          go_ret
          obtain ⟨g1, g2⟩ := HE.out
          rw [g1, g2]
          exact ⟨rfl, H0.out⟩
        · have e1 : (xt == t) = false := by simpa using hxt
          have HN2 : Hid (hasT (W.take (i + 1)) t = false) := by
            show _ = _
            rw [take_snocT W i _ HX.out, has_snoc, HNo.out]
            simpa using fun e => hxt e.symm
          clear hxt
          go_wp2
          go_roundw
          case rel => exact ⟨i + 1, by omega, by go_num, HN2, trivial⟩
          case measure => simp [intOf]; omega
      · have HE : Hid (waitE W N t = 0 ∧ waitW W N t k = W ++ [⟨t, k⟩]) := by
          have h1 := HNo.out
          rw [List.take_of_length_le (by omega)] at h1
          have h2 : waitE W N t = 0 := by unfold waitE; rw [HN.out, h1, if_neg (by simp), if_neg (by simp)]
          refine ⟨h2, ?_⟩
          unfold waitW
          rw [if_pos h2]
        clear t0 t1
        go_wp2_with (first
          | (at_builtin; refine wpList_appS rfl _ _ tlElem rfl rfl rfl S1.out 0 rfl HRW.out (by show 0 + W.length ≤ _; omega) ?_; intro A3 c3 w3 l3 HL3 h3; have HX1 : Hid (RdL tlE (w3.alloc (.cells #[.int .i64 t, .int .i64 k] 40)) (fun _ => True) (.slice (some ⟨w3.heap.size, 0, none⟩) 1 1) [⟨t, k⟩]) := RdL.lit1 (E := tlE) w3 40 ⟨t, k⟩ (cs := #[.int .i64 t, .int .i64 k]) rfl (fun _ => True) trivial; have S3 := Lib.hid (Sep.next h3 (new_below0 w3 (.cells #[.int .i64 t, .int .i64 k] 40))); have hl3 : Hid (l3.length = W.length) := congrArg List.length HL3.out; clear h3)
          | (at_builtin; refine wpList_appS rfl _ _ tlElem rfl rfl rfl S3.out 0 rfl HX1.out (by rw [hl3.out]; show W.length + 1 ≤ _; omega) ?_; intro A5 c5 w5 l5 HL5 h5; have k5 := (cell_block (Sep.blk_at h5 1 rfl) 0).trans rfl; have f5 := frozen_block (Sep.blk_at h5 1 rfl) 0; have S5 := Lib.hid h5; clear h5))
        go_wp2
        go_ret
        have HOK2 := HOK.out
        obtain ⟨g1, g2⟩ := HE.out
        rw [g1, g2]
        rw [g2] at HOK2
        have hl5 : l5 = W ++ [⟨t, k⟩] := by rw [HL5.out, HL3.out]; rfl
        subst hl5
        have h6 := grow_told ((S5.out.set 1 rfl 0 (.slice A5 (W ++ [(⟨t, k⟩ : Tl)]).length c5))) (by simp; omega)
        have h7 := h6.swap.sub (.cons_cons _ (.cons_cons _ (.cons _ (List.Sublist.refl Rs))))
        exact ⟨rfl, rc_close h7 HOK2 (fits_ownL (S5.out.own 0 rfl))⟩
  · have hn' : nameM N t = false := by simpa using hn
    have HE : Hid (waitE W N t = 3 ∧ waitW W N t k = W) := by
      have h1 : waitE W N t = 3 := by unfold waitE; rw [if_pos hn']
      refine ⟨h1, ?_⟩
      unfold waitW
      rw [h1, if_neg (by omega)]
    have hlt : t < 0 ∨ (0 ≤ t ∧ N ≤ t) := by
      rw [name_iff] at hn
      omega
    clear hn hn'
    rcases hlt with h1 | ⟨h1, h2⟩
    all_goals
      go_enter Try.func10, Try.ntmps10
      go_wp2
      go_ret
      obtain ⟨g1, g2⟩ := HE.out
      rw [g1, g2]
      exact ⟨rfl, H0.out⟩
end
end Go.Proofs.Ytbnijgcbifpijaa.RefCond
