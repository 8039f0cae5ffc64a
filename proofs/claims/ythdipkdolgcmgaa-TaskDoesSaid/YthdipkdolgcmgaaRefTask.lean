/-
  Contracts of the functions of package countermandref18 (the document's answer for layer 18). Condition: the table is at hand.
-/
import Derived.Test.YthdipkdolgcmgaaRows
import Derived.Test.YthdipkdolgcmgaaTaskP
import Derived.Test.YthdipkdolgcmgaaGrow
import Derived.Test.YthdipkdolgcmgaaObj
import Derived.BigRegion
import Derived.StillTailTactics
import Derived.Deep.QuietTactic
import Derived.BigQuiet
import Derived.Deep.RegionHeld3
import Derived.Deep.DeepCutAuto
import Derived.Deep.CutBlock
namespace Go.Proofs.Ythdipkdolgcmgaa.RefTask
open Go.ChangeShapes Go.WideShapes Go.ChangeAt Go.RowKit Mem MutP TaskP Hand

theorem tkElem : Elem tkE Try.prog 45 57 := elem_of (z := .agg #[.int .i64 0, .int .i64 0, .int .i64 0, .int .i64 0, .int .i64 0, .int .i64 0, .int .i64 0, .int .i64 0, .int .i64 0, .int .i64 0, .int .i64 0, .int .i64 0, .int .i64 0, .int .i64 0, .int .i64 0, .int .i64 0, .int .i64 0]) (bytes := 136) Try.underlying45 (by kernel_rfl) rfl (by omega)

/-- The reference's table behind the pointer to block p, taken apart. -/
def rto (p : Nat) (L : List Tk) (N : Int) (u : Value) : List Res :=
  [blk p (.cells #[u, .int .i64 N] 47), grow tkE 57 u L]
def rt (p : Nat) (L : List Tk) (N : Int) : Res := someR (fun _ : Value => TaskP.Ok L N) fun u : Value => pack (rto p L N u)

section
variable {B : Nat → Prop} {w wk : World} {Rs : List Res} {p : Nat} {L : List Tk} {N : Int}
theorem rt_open (h : Sep B w wk (rt p L N :: Rs)) : ∃ A c, Sep B w wk (rto p L N (.slice A L.length c) ++ Rs) ∧ TaskP.Ok L N := by
  obtain ⟨u, hok, hs⟩ := h.ex
  have h2 : Sep B w wk (rto p L N u ++ Rs) := hs.unpack
  obtain ⟨A, c, rfl⟩ := (h2.own 1 rfl).form
  exact ⟨A, c, h2, hok⟩
theorem rt_close {u : Value} (h : Sep B w wk (rto p L N u ++ Rs)) (hok : TaskP.Ok L N) : Sep B w wk (rt p L N :: Rs) :=
  Sep.hide (R := fun u : Value => pack (rto p L N u)) (a := u) hok (Sep.packed (Ss := rto p L N u) h)
theorem rt_ok (h : Sep B w wk (rt p L N :: Rs)) : TaskP.Ok L N := by obtain ⟨_, _, _, hok⟩ := rt_open h; exact hok

/-- What a call that only reads wants of it. -/
theorem rt_sees (h : Sep B w wk (rt p L N :: Rs)) : ∃ A c, wk.cell? ⟨p, 0, none⟩ = some (.slice A L.length c) ∧ wk.cell? ⟨p, 1, none⟩ = some (.int .i64 N) ∧ RdL tkE wk (fun _ => True) (.slice A L.length c) L ∧ L.length ≤ 200 ∧ p < wk.heap.size := by
  obtain ⟨A, c, hs, hok⟩ := rt_open h
  have hb := hs.blk_at 0 rfl
  have h1 := hok.len
  have h2 := hok.n1
  exact ⟨A, c, (cell_block hb 0).trans rfl, (cell_block hb 1).trans rfl, (hs.own 1 rfl).rd (by omega) fun _ _ => trivial, by omega, lt_of_block hb⟩
theorem tk_cells {G : Nat → Prop} {A : Option Addr} {n c : Nat} (h : RdL tkE wk G (.slice A n c) L) {i : Nat} {t : Tk} (hi : L[i]? = some t) :
    ∃ b off, A = some ⟨b, off, none⟩ ∧ b < wk.heap.size ∧ wk.cell? ⟨b, off + i * 17, none⟩ = some (.int .i64 (get t 0)) ∧ ∀ j, j < 17 → wk.cell? ⟨b, off + i * 17 + j, none⟩ = some (.int .i64 (get t j)) := by
  obtain ⟨b, off, hA, _, hb, hc⟩ := h.at_ hi
  exact ⟨b, off, hA, hb, hc 0 _ (tk_cell t (by omega)), fun j hj => (by rw [Nat.add_assoc]; exact hc j _ (tk_cell t hj))⟩

set_option maxRecDepth 100000 in
theorem isR (h : Sep B w wk (rt p L N :: Rs)) (n s : Int) :
    Calls Try.prog 32 #[.pointer (some ⟨p, 0, none⟩), .int .i64 n, .int .i64 s] wk fun e wn => e = .returned (.bool (isB L n s)) ∧ wn = wk := by
  obtain ⟨A, c, k0, _, hr, _⟩ := rt_sees h
  have HR := Lib.hid hr
  clear h hr
  rcases is_cases L n s with ⟨k, t, rfl, hk, hs, hb⟩ | ⟨hn, hb⟩ | ⟨k, t, rfl, hk, hs, hb⟩
  · rw [hb]
    have hl := (List.getElem?_eq_some_iff.1 hk).1
    obtain ⟨bb, off, rfl, _, c0, _⟩ := tk_cells HR.out hk
    rw [hs] at c0
    clear hb hk hs
    generalize L.length = len at *
    go_enter Try.func32, Try.ntmps32
    go_wp2
    go_ret
    exact ⟨rfl, rfl⟩
  · rw [hb]
    generalize L.length = len at *
    rcases hn with hn | hn
    all_goals
      clear hb
    · go_enter Try.func32, Try.ntmps32
      go_wp2
      go_ret
      exact ⟨rfl, rfl⟩
    · have h0 : 0 ≤ n := by omega
      go_enter Try.func32, Try.ntmps32
      go_wp2
      go_ret
      exact ⟨rfl, rfl⟩
  · rw [hb]
    have hl := (List.getElem?_eq_some_iff.1 hk).1
    obtain ⟨bb, off, rfl, _, c0, _⟩ := tk_cells HR.out hk
    generalize get t 0 = g at *
    have hd : (g == s) = false := by simpa using hs
    clear hb hk
    generalize L.length = len at *
    go_enter Try.func32, Try.ntmps32
    go_wp2
    go_ret
    exact ⟨by rw [← hd]; rfl, rfl⟩
/-- A task at hand: where it lies. -/
structure At (wk : World) (p : Nat) (L : List Tk) (k : Nat) (t : Tk) (bb c : Nat) : Prop where
  k0 : wk.cell? ⟨p, 0, none⟩ = some (.slice (some ⟨bb, 0, none⟩) L.length c)
  c0 : wk.cell? ⟨bb, k * 17, none⟩ = some (.int .i64 (get t 0))
  cs : ∀ j, j < 17 → wk.cell? ⟨bb, k * 17 + j, none⟩ = some (.int .i64 (get t j))
  f0 : wk.frozen? ⟨bb, k * 17, none⟩ = false
  fs : ∀ j, wk.frozen? ⟨bb, k * 17 + j, none⟩ = false
theorem rto_at {k n c bb : Nat} {t : Tk} (h : Sep B w wk (rto p L N (.slice (some ⟨bb, 0, none⟩) n c) ++ Rs)) (hk : L[k]? = some t) : At wk p L k t bb c := by
  have hb := h.blk_at 0 rfl
  obtain ⟨A, c', e⟩ := (h.own 1 rfl).form
  obtain rfl : n = L.length := by injection e
  obtain ⟨b, cc, he, hlt, hc, hf⟩ := h.elem 1 rfl hk
  obtain ⟨rfl, rfl⟩ : bb = b ∧ c = cc := by
    injection he with h1 _ h2
    injection h1 with h1
    injection h1 with h1
    exact ⟨h1, h2⟩
  exact ⟨(cell_block hb 0).trans rfl, hc 0 _ (tk_cell t (by omega)), fun j hj => hc j _ (tk_cell t hj), hf _, fun j => hf _⟩
theorem rt_at {k : Nat} {t : Tk} (h : Sep B w wk (rt p L N :: Rs)) (hk : L[k]? = some t) : ∃ bb c, Sep B w wk (rto p L N (.slice (some ⟨bb, 0, none⟩) L.length c) ++ Rs) ∧ At wk p L k t bb c ∧ TaskP.Ok L N := by
  obtain ⟨A, c, hs, hok⟩ := rt_open h
  obtain ⟨bb, cc, he, _⟩ := hs.elem 1 rfl hk
  obtain ⟨rfl, rfl⟩ : A = some ⟨bb, 0, none⟩ ∧ c = cc := by injection he with h1 _ h2; exact ⟨h1, h2⟩
  exact ⟨bb, c, hs, rto_at hs hk, hok⟩
theorem rto_put {k n c bb : Nat} {t : Tk} (h : Sep B w wk (rto p L N (.slice (some ⟨bb, 0, none⟩) n c) ++ Rs)) (hk : L[k]? = some t) (j : Nat) (hj : j < 17) (x : Int) :
    Sep B w (wk.setCell ⟨bb, k * 17 + j, none⟩ (.int .i64 x)) (rto p (L.set k (put t j x)) N (.slice (some ⟨bb, 0, none⟩) n c) ++ Rs) ∧ (L.set k (put t j x))[k]? = some (put t j x) :=
  ⟨h.setc 1 rfl hk hj (tk_set t j x), by rw [List.getElem?_set_self (List.getElem?_eq_some_iff.1 hk).1]⟩

set_option maxRecDepth 100000 in
theorem goR (h : Sep B w wk (rt p L N :: Rs)) (n a : Int) :
    Calls Try.prog 11 #[.pointer (some ⟨p, 0, none⟩), .int .i64 n, .int .i64 a] wk fun e wn => e = .returned (.bool (isB L n 1)) ∧ Sep B w wn (rt p (goL L n a) N :: Rs) := by
  have HI := Lib.hid (isR h n 1)
  have S0 := Lib.hid h
  rcases is_cases L n 1 with ⟨k, t, rfl, hk, hg, hi⟩ | ⟨_, hi⟩ | ⟨k, t, rfl, hk, hg, hi⟩
  rotate_left
  iterate 2
    · have HI2 := HI.out
      rw [hi] at HI2
      have HS := S0.out
      rw [show L = goL L _ a from (doL_no hi).symm] at HS
      rw [hi]
      have HS2 := Lib.hid HS
      clear HS HI S0 h hi
      go_enter Try.func11, Try.ntmps11
      go_wp2_with fail
      refine (HI2).mono ?_
      rintro _ _ ⟨rfl, rfl⟩
      go_wp2
      go_ret
      exact ⟨rfl, HS2.out⟩
  · have hl := (List.getElem?_eq_some_iff.1 hk).1
    obtain ⟨bb, c, hs, hat, hok⟩ := rt_at S0.out hk
    have s1 := (rto_put hs hk 2 (by omega) a).1
    have h1 : goL L (k : Int) a = L.set k (goT t a) := doL_yes hi hk
    have HS := Lib.hid (rt_close (L := L.set k (goT t a)) (N := N) s1 (by rw [← h1]; exact hok.do_ _ _ _))
    rw [← h1] at HS
    have HI2 := HI.out
    rw [hi] at HI2 ⊢
    have k1 := hat.k0
    have c2 := hat.cs 2 (by omega)
    have f2 := hat.fs 2
    clear HI hs hok S0 h hi s1 h1 hat
    generalize get t 2 = g2 at *
    generalize L.length = len at *
    go_enter Try.func11, Try.ntmps11
    go_wp2_with fail
    refine (HI2).mono ?_
    rintro _ _ ⟨rfl, rfl⟩
    go_wp2
    go_ret
    exact ⟨rfl, HS.out⟩

theorem live_cases (L : List Tk) (n : Int) : (∃ k t, n = ((k : Nat) : Int) ∧ L[k]? = some t ∧ isB L n 1 = true ∧ liveB L n = true) ∨ (∃ k t, n = ((k : Nat) : Int) ∧ L[k]? = some t ∧ isB L n 1 = false ∧ isB L n 2 = true ∧ liveB L n = true) ∨ (isB L n 1 = false ∧ isB L n 2 = false ∧ liveB L n = false) := by
  unfold liveB
  rcases is_cases L n 1 with ⟨k, t, e, hk, _, hi⟩ | ⟨_, hi⟩ | ⟨k, t, e, hk, _, hi⟩
  · exact .inl ⟨k, t, e, hk, hi, by rw [hi]; rfl⟩
  all_goals
    rcases is_cases L n 2 with ⟨k', t', e', hk', _, hj⟩ | ⟨_, hj⟩ | ⟨_, _, _, _, _, hj⟩
    · exact .inr (.inl ⟨k', t', e', hk', hi, hj, by rw [hj, Bool.or_true]⟩)
    all_goals exact .inr (.inr ⟨hi, hj, by rw [hi, hj]; rfl⟩)

set_option maxRecDepth 100000 in
theorem setR (h : Sep B w wk (rt p L N :: Rs)) (n r x : Int) :
    Calls Try.prog 12 #[.pointer (some ⟨p, 0, none⟩), .int .i64 n, .int .i64 r, .int .i64 x] wk fun e wn => e = .returned (.bool (setB L n r)) ∧ Sep B w wn (rt p (setL L n r x) N :: Rs) := by
  have HI1h := Lib.hid (isR h n 1)
  have HI2h := Lib.hid (isR h n 2)
  have S0 := Lib.hid h
  rcases live_cases L n with ⟨k, t, rfl, hk, hi, hv⟩ | ⟨k, t, rfl, hk, hi, hj, hv⟩ | ⟨hi, hj, hv⟩
  · have HI1 := HI1h.out
    have HI2 := HI2h.out
    rw [hi] at HI1
    by_cases hr : 0 ≤ r ∧ r ≤ 5
    · obtain ⟨hr0, hr5⟩ := hr
      obtain ⟨m, rfl⟩ := Int.eq_ofNat_of_zero_le hr0
      have hm : m < 6 := by omega
      have hl := (List.getElem?_eq_some_iff.1 hk).1
      obtain ⟨bb, c, hs, hat, hok⟩ := rt_at S0.out hk
      have s1 := (rto_put hs hk (4 + m) (by omega) x).1
      have hv2 : setB L (k : Int) (m : Int) = true := by unfold setB; rw [hv, decide_eq_true ⟨hr0, hr5⟩]; rfl
      have h0 : regT t (m : Int) x = put t (4 + m) x := by unfold regT; rw [if_pos ⟨hr0, hr5⟩, Int.toNat_natCast]
      have h1 : setL L (k : Int) (m : Int) x = L.set k (put t (4 + m) x) := (doL_yes hv2 hk).trans (by rw [h0])
      have HS := Lib.hid (rt_close (L := L.set k (put t (4 + m) x)) (N := N) s1 (by rw [← h1]; exact hok.do_ _ _ _))
      rw [← h1, ← Nat.add_assoc] at HS
      rw [hv2]
      have k1 := hat.k0
      have c2 := hat.cs (4 + m) (by omega)
      have f2 := hat.fs (4 + m)
      rw [← Nat.add_assoc] at c2 f2
      have m5 : (m : Int) < 6 := by omega
      clear HI1h HI2h hs hok S0 h hi hv hv2 s1 h1 h0 hat HI2
      generalize get t (4 + m) = g2 at *
      generalize L.length = len at *
      go_enter Try.func12, Try.ntmps12
      go_wp2_with fail
      refine (HI1).mono ?_
      rintro _ _ ⟨rfl, rfl⟩
      go_wp2
      go_ret
      exact ⟨rfl, HS.out⟩
    · have hv2 : setB L (k : Int) r = false := by unfold setB; rw [hv, decide_eq_false hr]; rfl
      have HS := S0.out
      rw [show L = setL L (k : Int) r x from (doL_no hv2).symm] at HS
      rw [hv2]
      have HS2 := Lib.hid HS
      clear HS HI1h HI2h S0 h hi hv hv2 HI2
      rcases (by omega : r < 0 ∨ (0 ≤ r ∧ 5 < r)) with hr | ⟨hr1, hr2⟩
      all_goals
        go_enter Try.func12, Try.ntmps12
        go_wp2_with fail
        refine (HI1).mono ?_
        rintro _ _ ⟨rfl, rfl⟩
        go_wp2
        go_ret
        exact ⟨rfl, HS2.out⟩
  · have HI1 := HI1h.out
    have HI2 := HI2h.out
    rw [hi] at HI1
    rw [hj] at HI2
    by_cases hr : 0 ≤ r ∧ r ≤ 5
    · obtain ⟨hr0, hr5⟩ := hr
      obtain ⟨m, rfl⟩ := Int.eq_ofNat_of_zero_le hr0
      have hm : m < 6 := by omega
      have hl := (List.getElem?_eq_some_iff.1 hk).1
      obtain ⟨bb, c, hs, hat, hok⟩ := rt_at S0.out hk
      have s1 := (rto_put hs hk (4 + m) (by omega) x).1
      have hv2 : setB L (k : Int) (m : Int) = true := by unfold setB; rw [hv, decide_eq_true ⟨hr0, hr5⟩]; rfl
      have h0 : regT t (m : Int) x = put t (4 + m) x := by unfold regT; rw [if_pos ⟨hr0, hr5⟩, Int.toNat_natCast]
      have h1 : setL L (k : Int) (m : Int) x = L.set k (put t (4 + m) x) := (doL_yes hv2 hk).trans (by rw [h0])
      have HS := Lib.hid (rt_close (L := L.set k (put t (4 + m) x)) (N := N) s1 (by rw [← h1]; exact hok.do_ _ _ _))
      rw [← h1, ← Nat.add_assoc] at HS
      rw [hv2]
      have k1 := hat.k0
      have c2 := hat.cs (4 + m) (by omega)
      have f2 := hat.fs (4 + m)
      rw [← Nat.add_assoc] at c2 f2
      have m5 : (m : Int) < 6 := by omega
      clear HI1h HI2h hs hok S0 h hi hv hv2 s1 h1 h0 hat hj
      generalize get t (4 + m) = g2 at *
      generalize L.length = len at *
      go_enter Try.func12, Try.ntmps12
      go_wp2_with fail
      refine (HI1).mono ?_
      rintro _ _ ⟨rfl, rfl⟩
      go_wp2_with fail
      refine (HI2).mono ?_
      rintro _ _ ⟨rfl, rfl⟩
      go_wp2
      go_ret
      exact ⟨rfl, HS.out⟩
    · have hv2 : setB L (k : Int) r = false := by unfold setB; rw [hv, decide_eq_false hr]; rfl
      have HS := S0.out
      rw [show L = setL L (k : Int) r x from (doL_no hv2).symm] at HS
      rw [hv2]
      have HS2 := Lib.hid HS
      clear HS HI1h HI2h S0 h hi hv hv2 hj
      rcases (by omega : r < 0 ∨ (0 ≤ r ∧ 5 < r)) with hr | ⟨hr1, hr2⟩
      all_goals
        go_enter Try.func12, Try.ntmps12
        go_wp2_with fail
        refine (HI1).mono ?_
        rintro _ _ ⟨rfl, rfl⟩
        go_wp2_with fail
        refine (HI2).mono ?_
        rintro _ _ ⟨rfl, rfl⟩
        go_wp2
        go_ret
        exact ⟨rfl, HS2.out⟩
  · have HI1 := HI1h.out
    have HI2 := HI2h.out
    rw [hi] at HI1
    rw [hj] at HI2
    have hv2 : setB L n r = false := by unfold setB; rw [hv]; rfl
    have HS := S0.out
    rw [show L = setL L n r x from (doL_no hv2).symm] at HS
    rw [hv2]
    have HS2 := Lib.hid HS
    clear HS HI1h HI2h S0 h hi hj hv hv2
    go_enter Try.func12, Try.ntmps12
    go_wp2_with fail
    refine (HI1).mono ?_
    rintro _ _ ⟨rfl, rfl⟩
    go_wp2_with fail
    refine (HI2).mono ?_
    rintro _ _ ⟨rfl, rfl⟩
    go_wp2
    go_ret
    exact ⟨rfl, HS2.out⟩
/-- Six stores: what a task waits for. -/
theorem rto_wait {k n c bb : Nat} {t : Tk} (h : Sep B w wk (rto p L N (.slice (some ⟨bb, 0, none⟩) n c) ++ Rs)) (hk : L[k]? = some t) (q : Pk) :
    Sep B w ((((((wk.setCell ⟨bb, k * 17 + 10, none⟩ (.int .i64 q.k)).setCell ⟨bb, k * 17 + 11, none⟩ (.int .i64 q.o)).setCell ⟨bb, k * 17 + 12, none⟩ (.int .i64 q.c)).setCell ⟨bb, k * 17 + 13, none⟩ (.int .i64 q.r)).setCell ⟨bb, k * 17 + 14, none⟩ (.int .i64 q.l)).setCell ⟨bb, k * 17 + 15, none⟩ (.int .i64 q.n)) (rto p (L.set k (wtT t q)) N (.slice (some ⟨bb, 0, none⟩) n c) ++ Rs) ∧ (L.set k (wtT t q))[k]? = some (wtT t q) := by
  obtain ⟨h1, k1⟩ := rto_put h hk 10 (by omega) q.k
  obtain ⟨h2, k2⟩ := rto_put h1 k1 11 (by omega) q.o
  obtain ⟨h3, k3⟩ := rto_put h2 k2 12 (by omega) q.c
  obtain ⟨h4, k4⟩ := rto_put h3 k3 13 (by omega) q.r
  obtain ⟨h5, k5⟩ := rto_put h4 k4 14 (by omega) q.l
  obtain ⟨h6, k6⟩ := rto_put h5 k5 15 (by omega) q.n
  simp only [List.set_set] at h6 k6
  exact ⟨h6, k6⟩

theorem sep_ne {E : Enc Tk} {e : TypeId} {g b n c : Nat} {o : Obj} (h : Sep B w wk (blk g o :: grow E e (.slice (some ⟨b, 0, none⟩) n c) L :: Rs)) : g ≠ b ∧ b ≠ g := by
  obtain ⟨_, F1, F2, ⟨_, rfl⟩, ⟨F3, F4, ⟨_, rfl⟩, _, s3, _, _⟩, _, _, d⟩ := h
  have h1 : g ≠ b := by
    rintro rfl
    exact d g rfl (s3 g rfl)
  exact ⟨h1, Ne.symm h1⟩

set_option maxRecDepth 100000 in
theorem parkR0 (h : Sep B w wk (rt p L N :: Rs)) (n : Int) (q : Pk) :
    Calls Try.prog 13 #[.pointer (some ⟨p, 0, none⟩), .int .i64 n, .agg #[.int .i64 q.k, .int .i64 q.o, .int .i64 q.c, .int .i64 q.r, .int .i64 q.l, .int .i64 q.n], .bool false] wk fun e wn => e = .returned (.bool (parkB L n q)) ∧ Sep B w wn (rt p (parkL L n q) N :: Rs) := by
  obtain ⟨o, ho⟩ : ∃ o : Obj, o = .cells #[.int .i64 q.k, .int .i64 q.o, .int .i64 q.c, .int .i64 q.r, .int .i64 q.l, .int .i64 q.n] 42 := ⟨_, rfl⟩
  have HI := Lib.hid (isR (h.new o).swap n 1)
  have S0 := Lib.hid h
  by_cases hq : q.k < 1
  · have hv : parkB L n q = false := by unfold parkB; rw [decide_eq_false (by omega)]; rfl
    have HS := S0.out.new o
    rw [show L = parkL L n q from (doL_no hv).symm] at HS
    rw [hv]
    have HS2 := Lib.hid HS.tail
    subst ho
    clear HS HI S0 h hv
    go_enter Try.func13, Try.ntmps13
    go_wp2
    go_ret
    exact ⟨rfl, HS2.out⟩
  · rcases is_cases L n 1 with ⟨k, t, rfl, hk, hg, hi⟩ | ⟨_, hi⟩ | ⟨k, t, rfl, hk, hg, hi⟩
    rotate_left
    · have HI1 := HI.out
      rw [hi] at HI1
      have hv : parkB L n q = false := by unfold parkB; rw [hi, Bool.and_false]
      have HS := S0.out.new o
      rw [show L = parkL L n q from (doL_no hv).symm] at HS
      rw [hv]
      have HS2 := Lib.hid HS.tail
      subst ho
      clear HS HI S0 h hv hi
      go_enter Try.func13, Try.ntmps13
      go_wp2_with fail
      refine (HI1).mono ?_
      rintro _ _ ⟨rfl, rfl⟩
      go_wp2
      go_ret
      exact ⟨rfl, HS2.out⟩
    · have HI1 := HI.out
      rw [hi] at HI1
      have hv : parkB L (k : Int) q = false := by unfold parkB; rw [hi, Bool.and_false]
      have HS := S0.out.new o
      rw [show L = parkL L (k : Int) q from (doL_no hv).symm] at HS
      rw [hv]
      have HS2 := Lib.hid HS.tail
      subst ho
      clear HS HI S0 h hv hi
      go_enter Try.func13, Try.ntmps13
      go_wp2_with fail
      refine (HI1).mono ?_
      rintro _ _ ⟨rfl, rfl⟩
      go_wp2
      go_ret
      exact ⟨rfl, HS2.out⟩
    have hl := (List.getElem?_eq_some_iff.1 hk).1
    have hv : parkB L (k : Int) q = true := by unfold parkB; rw [hi, decide_eq_true (by omega)]; rfl
    have h1 : parkL L (k : Int) q = L.set k (pkT t q) := doL_yes hv hk
    rw [hv, h1]
    obtain ⟨bb, c, hs, hat, hok⟩ := rt_at S0.out hk
    obtain ⟨wa, hwa⟩ : ∃ wa, wa = wk.alloc o := ⟨_, rfl⟩
    have HWA := Lib.hid hwa
    have hn := S0.out.new o
    have HI2 := HI.out
    rw [hi, ← hwa] at HI2
    rw [← hwa] at hn
    obtain ⟨bb2, c2, hs2, hat2, hok2⟩ := rt_at hn.swap hk
    obtain ⟨n1, n2⟩ := sep_ne hs2
    obtain ⟨n3, n4⟩ := sep_ne hs2.tail.swap
    have hb := hs2.blk_at 2 rfl
    obtain ⟨t1, t2⟩ := rto_put hs2 hk 0 (by omega) 2
    obtain ⟨wb, hwb⟩ : ∃ wb, wb = ((wa.setCell ⟨bb2, k * 17, none⟩ (.int .i64 2)).drew) := ⟨_, rfl⟩
    have t1d := t1.drew
    rw [show (World.setCell wa ⟨bb2, k * 17 + 0, none⟩ (.int .i64 2)).drew = wb from hwb.symm] at t1d
    have HWB := Lib.hid hwb
    have hat3 := rto_at t1d t2
    have hb3 := t1d.blk_at 2 rfl
    obtain ⟨t3, _⟩ := rto_wait t1d t2 q
    rw [List.set_set] at t3
    have t4 : Sep B w _ (rto p (L.set k (pkT t q)) N _ ++ Rs) := t3.sub (by
      show List.Sublist (_ :: _ :: Rs) (_ :: _ :: _ :: Rs)
      exact ((List.sublist_cons_self _ _).cons_cons _).cons_cons _)
    have HS := Lib.hid (rt_close t4 (by rw [← h1]; exact hok2.do_ _ _ _))
    have k1 := hat2.k0
    have c0 := hat2.c0
    have f0 := hat2.f0
    have K1 := hat3.k0
    rw [List.length_set] at K1
    rw [ho] at hb3
    have F10 := hat3.fs 10
    have C10 := hat3.cs 10 (by omega)
    have F11 := hat3.fs 11
    have C11 := hat3.cs 11 (by omega)
    have F12 := hat3.fs 12
    have C12 := hat3.cs 12 (by omega)
    have F13 := hat3.fs 13
    have C13 := hat3.cs 13 (by omega)
    have F14 := hat3.fs 14
    have C14 := hat3.cs 14 (by omega)
    have F15 := hat3.fs 15
    have C15 := hat3.cs 15 (by omega)
    have l0 : wb.cell? ⟨wk.heap.size, 0, none⟩ = some (.int .i64 q.k) := (cell_block hb3 0).trans rfl
    have l1 : wb.cell? ⟨wk.heap.size, 1, none⟩ = some (.int .i64 q.o) := (cell_block hb3 1).trans rfl
    have l2 : wb.cell? ⟨wk.heap.size, 2, none⟩ = some (.int .i64 q.c) := (cell_block hb3 2).trans rfl
    have l3 : wb.cell? ⟨wk.heap.size, 3, none⟩ = some (.int .i64 q.r) := (cell_block hb3 3).trans rfl
    have l4 : wb.cell? ⟨wk.heap.size, 4, none⟩ = some (.int .i64 q.l) := (cell_block hb3 4).trans rfl
    have l5 : wb.cell? ⟨wk.heap.size, 5, none⟩ = some (.int .i64 q.n) := (cell_block hb3 5).trans rfl
    clear HI hs hok S0 h hat hat2 hat3 hi hs2 hn hwa hwb t1 t2 t3 t4 t1d hb hb3
    subst ho
    generalize L.length = len at *
    go_enter Try.func13, Try.ntmps13
    go_wp2_with fail
    rw [show wk.alloc _ = wa from HWA.out.symm]
    refine (HI2).mono ?_
    rintro _ _ ⟨rfl, rfl⟩
    go_wp2
    refine wp_region_still_tail 8 (by kernel_rfl) (by kernel_rfl) ?_
    simp only [List.take_succ_cons, List.take_zero, List.drop_succ_cons, List.drop_zero]
    change wpStill _ _ (World.drew (World.setCell _ ⟨bb2, k * 17, none⟩ (.int .i64 2))) (fun a' => wpList _ _ _ _ a' (World.drew (World.setCell _ ⟨bb2, k * 17, none⟩ (.int .i64 2)))) _ _
    rw [show World.drew (World.setCell _ ⟨bb2, k * 17, none⟩ (.int .i64 2)) = wb from HWB.out.symm]
    repeat (first | still_step)
    refine wpStill_nil ?_
    go_wp2
    go_ret
    exact ⟨rfl, HS.out⟩

set_option maxRecDepth 100000 in
theorem parkR1 (h : Sep B w wk (rt p L N :: Rs)) (n : Int) (q : Pk) :
    Calls Try.prog 13 #[.pointer (some ⟨p, 0, none⟩), .int .i64 n, .agg #[.int .i64 q.k, .int .i64 q.o, .int .i64 q.c, .int .i64 q.r, .int .i64 q.l, .int .i64 q.n], .bool true] wk fun e wn => e = .returned (.bool (againB L n q)) ∧ Sep B w wn (rt p (againL L n q) N :: Rs) := by
  obtain ⟨o, ho⟩ : ∃ o : Obj, o = .cells #[.int .i64 q.k, .int .i64 q.o, .int .i64 q.c, .int .i64 q.r, .int .i64 q.l, .int .i64 q.n] 42 := ⟨_, rfl⟩
  have HI := Lib.hid (isR (h.new o).swap n 2)
  have S0 := Lib.hid h
  by_cases hq : q.k < 1
  · have hv : againB L n q = false := by unfold againB; rw [decide_eq_false (by omega)]; rfl
    have HS := S0.out.new o
    rw [show L = againL L n q from (doL_no hv).symm] at HS
    rw [hv]
    have HS2 := Lib.hid HS.tail
    subst ho
    clear HS HI S0 h hv
    go_enter Try.func13, Try.ntmps13
    go_wp2
    go_ret
    exact ⟨rfl, HS2.out⟩
  · rcases is_cases L n 2 with ⟨k, t, rfl, hk, hg, hi⟩ | ⟨_, hi⟩ | ⟨k, t, rfl, hk, hg, hi⟩
    rotate_left
    · have HI1 := HI.out
      rw [hi] at HI1
      have hv : againB L n q = false := by unfold againB; rw [hi, Bool.and_false]
      have HS := S0.out.new o
      rw [show L = againL L n q from (doL_no hv).symm] at HS
      rw [hv]
      have HS2 := Lib.hid HS.tail
      subst ho
      clear HS HI S0 h hv hi
      go_enter Try.func13, Try.ntmps13
      go_wp2_with fail
      refine (HI1).mono ?_
      rintro _ _ ⟨rfl, rfl⟩
      go_wp2
      go_ret
      exact ⟨rfl, HS2.out⟩
    · have HI1 := HI.out
      rw [hi] at HI1
      have hv : againB L (k : Int) q = false := by unfold againB; rw [hi, Bool.and_false]
      have HS := S0.out.new o
      rw [show L = againL L (k : Int) q from (doL_no hv).symm] at HS
      rw [hv]
      have HS2 := Lib.hid HS.tail
      subst ho
      clear HS HI S0 h hv hi
      go_enter Try.func13, Try.ntmps13
      go_wp2_with fail
      refine (HI1).mono ?_
      rintro _ _ ⟨rfl, rfl⟩
      go_wp2
      go_ret
      exact ⟨rfl, HS2.out⟩
    have hl := (List.getElem?_eq_some_iff.1 hk).1
    have hv : againB L (k : Int) q = true := by unfold againB; rw [hi, decide_eq_true (by omega)]; rfl
    have h1 : againL L (k : Int) q = L.set k (pkT t q) := doL_yes hv hk
    rw [hv, h1]
    obtain ⟨bb, c, hs, hat, hok⟩ := rt_at S0.out hk
    obtain ⟨wa, hwa⟩ : ∃ wa, wa = wk.alloc o := ⟨_, rfl⟩
    have HWA := Lib.hid hwa
    have hn := S0.out.new o
    have HI2 := HI.out
    rw [hi, ← hwa] at HI2
    rw [← hwa] at hn
    obtain ⟨bb2, c2, hs2, hat2, hok2⟩ := rt_at hn.swap hk
    obtain ⟨n1, n2⟩ := sep_ne hs2
    obtain ⟨n3, n4⟩ := sep_ne hs2.tail.swap
    have hb := hs2.blk_at 2 rfl
    obtain ⟨t1, t2⟩ := rto_put hs2 hk 0 (by omega) 2
    obtain ⟨wb, hwb⟩ : ∃ wb, wb = ((wa.setCell ⟨bb2, k * 17, none⟩ (.int .i64 2)).drew) := ⟨_, rfl⟩
    have t1d := t1.drew
    rw [show (World.setCell wa ⟨bb2, k * 17 + 0, none⟩ (.int .i64 2)).drew = wb from hwb.symm] at t1d
    have HWB := Lib.hid hwb
    have hat3 := rto_at t1d t2
    have hb3 := t1d.blk_at 2 rfl
    obtain ⟨t3, _⟩ := rto_wait t1d t2 q
    rw [List.set_set] at t3
    have t4 : Sep B w _ (rto p (L.set k (pkT t q)) N _ ++ Rs) := t3.sub (by
      show List.Sublist (_ :: _ :: Rs) (_ :: _ :: _ :: Rs)
      exact ((List.sublist_cons_self _ _).cons_cons _).cons_cons _)
    have HS := Lib.hid (rt_close t4 (by rw [← h1]; exact hok2.do_ _ _ _))
    have k1 := hat2.k0
    have c0 := hat2.c0
    have f0 := hat2.f0
    have K1 := hat3.k0
    rw [List.length_set] at K1
    rw [ho] at hb3
    have F10 := hat3.fs 10
    have C10 := hat3.cs 10 (by omega)
    have F11 := hat3.fs 11
    have C11 := hat3.cs 11 (by omega)
    have F12 := hat3.fs 12
    have C12 := hat3.cs 12 (by omega)
    have F13 := hat3.fs 13
    have C13 := hat3.cs 13 (by omega)
    have F14 := hat3.fs 14
    have C14 := hat3.cs 14 (by omega)
    have F15 := hat3.fs 15
    have C15 := hat3.cs 15 (by omega)
    have l0 : wb.cell? ⟨wk.heap.size, 0, none⟩ = some (.int .i64 q.k) := (cell_block hb3 0).trans rfl
    have l1 : wb.cell? ⟨wk.heap.size, 1, none⟩ = some (.int .i64 q.o) := (cell_block hb3 1).trans rfl
    have l2 : wb.cell? ⟨wk.heap.size, 2, none⟩ = some (.int .i64 q.c) := (cell_block hb3 2).trans rfl
    have l3 : wb.cell? ⟨wk.heap.size, 3, none⟩ = some (.int .i64 q.r) := (cell_block hb3 3).trans rfl
    have l4 : wb.cell? ⟨wk.heap.size, 4, none⟩ = some (.int .i64 q.l) := (cell_block hb3 4).trans rfl
    have l5 : wb.cell? ⟨wk.heap.size, 5, none⟩ = some (.int .i64 q.n) := (cell_block hb3 5).trans rfl
    clear HI hs hok S0 h hat hat2 hat3 hi hs2 hn hwa hwb t1 t2 t3 t4 t1d hb hb3
    subst ho
    generalize L.length = len at *
    go_enter Try.func13, Try.ntmps13
    go_wp2_with fail
    rw [show wk.alloc _ = wa from HWA.out.symm]
    refine (HI2).mono ?_
    rintro _ _ ⟨rfl, rfl⟩
    go_wp2
    refine wp_region_still_tail 8 (by kernel_rfl) (by kernel_rfl) ?_
    simp only [List.take_succ_cons, List.take_zero, List.drop_succ_cons, List.drop_zero]
    change wpStill _ _ (World.drew (World.setCell _ ⟨bb2, k * 17, none⟩ (.int .i64 2))) (fun a' => wpList _ _ _ _ a' (World.drew (World.setCell _ ⟨bb2, k * 17, none⟩ (.int .i64 2)))) _ _
    rw [show World.drew (World.setCell _ ⟨bb2, k * 17, none⟩ (.int .i64 2)) = wb from HWB.out.symm]
    repeat (first | still_step)
    refine wpStill_nil ?_
    go_wp2
    go_ret
    exact ⟨rfl, HS.out⟩

set_option maxRecDepth 100000 in
theorem endR (h : Sep B w wk (rt p L N :: Rs)) (n x : Int) :
    Calls Try.prog 15 #[.pointer (some ⟨p, 0, none⟩), .int .i64 n, .int .i64 x] wk fun e wn => e = .returned (.bool (liveB L n)) ∧ Sep B w wn (rt p (endL L n x) N :: Rs) := by
  have HI1h := Lib.hid (isR h n 1)
  have HI2h := Lib.hid (isR h n 2)
  have S0 := Lib.hid h
  rcases live_cases L n with ⟨k, t, rfl, hk, hi, hv⟩ | ⟨k, t, rfl, hk, hi, hj, hv⟩ | ⟨hi, hj, hv⟩
  · have HI1 := HI1h.out
    have HI2 := HI2h.out
    rw [hi] at HI1
    rw [hv]
    have h1 : endL L (k : Int) x = L.set k (enT t x) := doL_yes hv hk
    rw [h1]
    obtain ⟨bb, c, hs, hat, hok⟩ := rt_at S0.out hk
    have hl := (List.getElem?_eq_some_iff.1 hk).1
    obtain ⟨s1, t1⟩ := rto_put hs hk 0 (by omega) 3
    obtain ⟨s2, t2⟩ := rto_wait s1 t1 noPk
    have hat2 := rto_at s1 t1
    have hat3 := rto_at s2 t2
    obtain ⟨s3, _⟩ := rto_put s2 t2 16 (by omega) x
    simp only [List.set_set] at s3
    have HS := Lib.hid (rt_close s3 (by rw [show L.set k (put (wtT (put t 0 3) noPk) 16 x) = endL L (k : Int) x from h1.symm]; exact hok.do_ _ _ _))
    obtain ⟨n1, n2⟩ := sep_ne hs
    have k0 := hat.k0
    have c0 := hat.c0
    have f0 := hat.f0
    have f10 := hat.fs 10
    have c10 := hat.cs 10 (by omega)
    have f11 := hat.fs 11
    have c11 := hat.cs 11 (by omega)
    have f12 := hat.fs 12
    have c12 := hat.cs 12 (by omega)
    have f13 := hat.fs 13
    have c13 := hat.cs 13 (by omega)
    have f14 := hat.fs 14
    have c14 := hat.cs 14 (by omega)
    have f15 := hat.fs 15
    have c15 := hat.cs 15 (by omega)
    have f16 := hat.fs 16
    have c16 := hat.cs 16 (by omega)
    clear HI1h HI2h hs hok S0 h hi hv hat hat2 hat3 s1 s2 s3 t1 t2 h1 HI2
    generalize L.length = len at *
    go_enter Try.func15, Try.ntmps15
    go_wp2_with fail
    refine (HI1).mono ?_
    rintro _ _ ⟨rfl, rfl⟩
    go_wp2
    go_ret
    exact ⟨rfl, HS.out⟩
  · have HI1 := HI1h.out
    have HI2 := HI2h.out
    rw [hi] at HI1
    rw [hj] at HI2
    rw [hv]
    have h1 : endL L (k : Int) x = L.set k (enT t x) := doL_yes hv hk
    rw [h1]
    obtain ⟨bb, c, hs, hat, hok⟩ := rt_at S0.out hk
    have hl := (List.getElem?_eq_some_iff.1 hk).1
    obtain ⟨s1, t1⟩ := rto_put hs hk 0 (by omega) 3
    obtain ⟨s2, t2⟩ := rto_wait s1 t1 noPk
    have hat2 := rto_at s1 t1
    have hat3 := rto_at s2 t2
    obtain ⟨s3, _⟩ := rto_put s2 t2 16 (by omega) x
    simp only [List.set_set] at s3
    have HS := Lib.hid (rt_close s3 (by rw [show L.set k (put (wtT (put t 0 3) noPk) 16 x) = endL L (k : Int) x from h1.symm]; exact hok.do_ _ _ _))
    obtain ⟨n1, n2⟩ := sep_ne hs
    have k0 := hat.k0
    have c0 := hat.c0
    have f0 := hat.f0
    have f10 := hat.fs 10
    have c10 := hat.cs 10 (by omega)
    have f11 := hat.fs 11
    have c11 := hat.cs 11 (by omega)
    have f12 := hat.fs 12
    have c12 := hat.cs 12 (by omega)
    have f13 := hat.fs 13
    have c13 := hat.cs 13 (by omega)
    have f14 := hat.fs 14
    have c14 := hat.cs 14 (by omega)
    have f15 := hat.fs 15
    have c15 := hat.cs 15 (by omega)
    have f16 := hat.fs 16
    have c16 := hat.cs 16 (by omega)
    clear HI1h HI2h hs hok S0 h hi hv hat hat2 hat3 s1 s2 s3 t1 t2 h1 hj
    generalize L.length = len at *
    go_enter Try.func15, Try.ntmps15
    go_wp2_with fail
    refine (HI1).mono ?_
    rintro _ _ ⟨rfl, rfl⟩
    go_wp2_with fail
    refine (HI2).mono ?_
    rintro _ _ ⟨rfl, rfl⟩
    go_wp2
    go_ret
    exact ⟨rfl, HS.out⟩
  · have HI1 := HI1h.out
    have HI2 := HI2h.out
    rw [hi] at HI1
    rw [hj] at HI2
    have HS := S0.out
    rw [show L = endL L n x from (doL_no hv).symm] at HS
    rw [hv]
    have HS2 := Lib.hid HS
    clear HS HI1h HI2h S0 h hi hj hv
    go_enter Try.func15, Try.ntmps15
    go_wp2_with fail
    refine (HI1).mono ?_
    rintro _ _ ⟨rfl, rfl⟩
    go_wp2_with fail
    refine (HI2).mono ?_
    rintro _ _ ⟨rfl, rfl⟩
    go_wp2
    go_ret
    exact ⟨rfl, HS2.out⟩
theorem set_reg {k : Nat} {t : Tk} (hk : L[k]? = some t) (h2 : isB L (k : Int) 2 = true) (r x : Int) : setL L (k : Int) r x = L.set k (regT t r x) := by
  by_cases hr : 0 ≤ r ∧ r ≤ 5
  · exact doL_yes (by unfold setB liveB; rw [h2, decide_eq_true hr, Bool.or_true]; rfl) hk
  · have h1 : setL L (k : Int) r x = L := doL_no (by unfold setB; rw [decide_eq_false hr, Bool.and_false])
    rw [h1]
    unfold regT
    rw [if_neg hr]
    exact (List.ext_getElem? fun i => by
      by_cases e : k = i
      · subst e
        rw [List.getElem?_set_self (List.getElem?_eq_some_iff.1 hk).1, hk]
      · rw [List.getElem?_set_ne e]).symm

set_option maxRecDepth 100000 in
theorem wakeR (h : Sep B w wk (rt p L N :: Rs)) (n x : Int) :
    Calls Try.prog 14 #[.pointer (some ⟨p, 0, none⟩), .int .i64 n, .int .i64 x] wk fun e wn => e = .returned (.bool (isB L n 2)) ∧ Sep B w wn (rt p (wakeL L n x) N :: Rs) := by
  have HI := Lib.hid (isR h n 2)
  have S0 := Lib.hid h
  rcases is_cases L n 2 with ⟨k, t, rfl, hk, hg, hi⟩ | ⟨_, hi⟩ | ⟨k, t, rfl, hk, hg, hi⟩
  rotate_left
  iterate 2
    · have HI1 := HI.out
      rw [hi] at HI1
      have HS := S0.out
      rw [show L = wakeL L _ x from (doL_no hi).symm] at HS
      rw [hi]
      have HS2 := Lib.hid HS
      clear HS HI S0 h hi
      go_enter Try.func14, Try.ntmps14
      go_wp2_with fail
      refine (HI1).mono ?_
      rintro _ _ ⟨rfl, rfl⟩
      go_wp2
      go_ret
      exact ⟨rfl, HS2.out⟩
  · have hl := (List.getElem?_eq_some_iff.1 hk).1
    obtain ⟨bb, c, hs, hat, hok⟩ := rt_at S0.out hk
    have h1 : wakeL L (k : Int) x = L.set k (wkT t x) := doL_yes hi hk
    have HI2 := HI.out
    rw [hi] at HI2 ⊢
    rw [h1]
    have k1 := hat.k0
    have c13 := hat.cs 13 (by omega)
    have HG := Lib.hid (set_reg hk hi (get t 13) x)
    have HT : Hid (wkT t x = wtT (put (regT t (get t 13) x) 0 1) noPk) := rfl
    have HO : Hid (TaskP.Ok (L.set k (wkT t x)) N) := by show TaskP.Ok _ _; rw [← h1]; exact hok.do_ _ _ _
    have HL : Hid ((L.set k (regT t (get t 13) x))[k]? = some (regT t (get t 13) x)) := by show _ = _; rw [List.getElem?_set_self hl]
    have hlen : (L.set k (regT t (get t 13) x)).length = L.length := List.length_set
    generalize wkT t x = t3 at *
    generalize regT t (get t 13) x = t2 at *
    generalize get t 13 = r at *
    clear HI hs hok h hi h1 hat
    generalize hln : L.length = len at *
    go_enter Try.func14, Try.ntmps14
    go_wp2_with fail
    refine (HI2).mono ?_
    rintro _ _ ⟨rfl, rfl⟩
    go_wp2_with fail
    refine (setR S0.out k r x).mono ?_
    rintro _ w2 ⟨rfl, S2⟩
    rw [HG.out] at S2
    obtain ⟨b2, cc, hs2, hat2, hok2⟩ := rt_at S2 HL.out
    obtain ⟨n1, n2⟩ := sep_ne hs2
    obtain ⟨s3, t3'⟩ := rto_put hs2 HL.out 0 (by omega) 1
    obtain ⟨s4, _⟩ := rto_wait s3 t3' noPk
    simp only [List.set_set] at s4
    rw [← HT.out] at s4
    have HS := Lib.hid (rt_close s4 HO.out)
    have k2 := hat2.k0
    rw [hlen] at k2
    have d0 := hat2.c0
    have f0 := hat2.f0
    have f10 := hat2.fs 10
    have d10 := hat2.cs 10 (by omega)
    have f11 := hat2.fs 11
    have d11 := hat2.cs 11 (by omega)
    have f12 := hat2.fs 12
    have d12 := hat2.cs 12 (by omega)
    have f13 := hat2.fs 13
    have d13 := hat2.cs 13 (by omega)
    have f14 := hat2.fs 14
    have d14 := hat2.cs 14 (by omega)
    have f15 := hat2.fs 15
    have d15 := hat2.cs 15 (by omega)
    clear S2 hs2 hat2 hok2 s3 s4 t3' HG HT HO HL S0 k1 c13
    go_wp2
    go_ret
    exact ⟨rfl, HS.out⟩
end
end Go.Proofs.Ythdipkdolgcmgaa.RefTask
