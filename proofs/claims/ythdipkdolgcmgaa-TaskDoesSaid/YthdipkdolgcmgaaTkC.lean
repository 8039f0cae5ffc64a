/-
  Package task, as it landed, third part: what is done of one task. No condition.
-/
import Derived.Test.YthdipkdolgcmgaaTkB
import Derived.Test.YthdipkdolgcmgaaTaskWakesP
namespace Go.Proofs.Ythdipkdolgcmgaa.TkA
open Go.ChangeShapes Go.WideShapes Go.ChangeAt Go.RowKit Mem MutP TaskP Hand RefTask TaskI

/-- A task at hand: where it lies. -/
structure AtT (wk : World) (p : Nat) (L : List Tk) (k : Nat) (t : Tk) (bb c : Nat) : Prop where
  k1 : wk.cell? ⟨p, 1, none⟩ = some (.slice (some ⟨bb, 0, none⟩) L.length c)
  c0 : wk.cell? ⟨bb, k * 17, none⟩ = some (.int .i64 (get t 0))
  cs : ∀ j, j < 17 → wk.cell? ⟨bb, k * 17 + j, none⟩ = some (.int .i64 (get t j))
  f0 : wk.frozen? ⟨bb, k * 17, none⟩ = false
  fs : ∀ j, wk.frozen? ⟨bb, k * 17 + j, none⟩ = false

section
variable {B : Nat → Prop} {w wk wn : World} {Rs : List Res} {p : Nat} {L : List Tk} {N : Int}
theorem ta_at {k n c bb : Nat} {t : Tk} (h : Sep B w wk (ta p L N (.slice (some ⟨bb, 0, none⟩) n c) ++ Rs)) (hk : L[k]? = some t) : AtT wk p L k t bb c := by
  have hb := h.blk_at 0 rfl
  obtain ⟨A, c', e⟩ := (h.own 1 rfl).form
  obtain rfl : n = L.length := by injection e
  obtain ⟨b, cc, he, hlt, hc, hf⟩ := h.elem 1 rfl hk
  obtain ⟨rfl, rfl⟩ : bb = b ∧ c = cc := by
    injection he with h1 _ h2
    injection h1 with h1
    injection h1 with h1
    exact ⟨h1, h2⟩
  exact ⟨(cell_block hb 1).trans rfl, hc 0 _ (tk_cell t (by omega)), fun j hj => hc j _ (tk_cell t hj), hf _, fun j => hf _⟩
theorem ta_addr {A : Option Addr} {n c k : Nat} {t : Tk} (h : Sep B w wk (ta p L N (.slice A n c) ++ Rs)) (hk : L[k]? = some t) : ∃ bb, A = some ⟨bb, 0, none⟩ := by
  obtain ⟨b, cc, he, _⟩ := h.elem 1 rfl hk
  injection he with h1
  exact ⟨b, h1⟩
theorem ta_put {k n c bb : Nat} {t : Tk} (h : Sep B w wk (ta p L N (.slice (some ⟨bb, 0, none⟩) n c) ++ Rs)) (hk : L[k]? = some t) (j : Nat) (hj : j < 17) (x : Int) :
    Sep B w (wk.setCell ⟨bb, k * 17 + j, none⟩ (.int .i64 x)) (ta p (L.set k (put t j x)) N (.slice (some ⟨bb, 0, none⟩) n c) ++ Rs) ∧ (L.set k (put t j x))[k]? = some (put t j x) :=
  ⟨h.setc 1 rfl hk hj (tk_set t j x), by rw [List.getElem?_set_self (List.getElem?_eq_some_iff.1 hk).1]⟩
/-- Six stores: what a task waits for. -/
theorem ta_wait {k n c bb : Nat} {t : Tk} (h : Sep B w wk (ta p L N (.slice (some ⟨bb, 0, none⟩) n c) ++ Rs)) (hk : L[k]? = some t) (q : Pk) :
    Sep B w ((((((wk.setCell ⟨bb, k * 17 + 10, none⟩ (.int .i64 q.k)).setCell ⟨bb, k * 17 + 11, none⟩ (.int .i64 q.o)).setCell ⟨bb, k * 17 + 12, none⟩ (.int .i64 q.c)).setCell ⟨bb, k * 17 + 13, none⟩ (.int .i64 q.r)).setCell ⟨bb, k * 17 + 14, none⟩ (.int .i64 q.l)).setCell ⟨bb, k * 17 + 15, none⟩ (.int .i64 q.n)) (ta p (L.set k (wtT t q)) N (.slice (some ⟨bb, 0, none⟩) n c) ++ Rs) ∧ (L.set k (wtT t q))[k]? = some (wtT t q) := by
  obtain ⟨h1, k1⟩ := ta_put h hk 10 (by omega) q.k
  obtain ⟨h2, k2⟩ := ta_put h1 k1 11 (by omega) q.o
  obtain ⟨h3, k3⟩ := ta_put h2 k2 12 (by omega) q.c
  obtain ⟨h4, k4⟩ := ta_put h3 k3 13 (by omega) q.r
  obtain ⟨h5, k5⟩ := ta_put h4 k4 14 (by omega) q.l
  obtain ⟨h6, k6⟩ := ta_put h5 k5 15 (by omega) q.n
  simp only [List.set_set] at h6 k6
  exact ⟨h6, k6⟩
theorem set_same {k : Nat} {t : Tk} (hk : L[k]? = some t) : L.set k t = L := List.ext_getElem? fun i => by
  by_cases e : k = i
  · subst e
    rw [List.getElem?_set_self (List.getElem?_eq_some_iff.1 hk).1, hk]
  · rw [List.getElem?_set_ne e]

set_option maxRecDepth 100000 in
/-- A register is set. -/
theorem set_l {k n c bb : Nat} {t : Tk} (h : Sep B w wk (ta p L N (.slice (some ⟨bb, 0, none⟩) n c) ++ Rs)) (hk : L[k]? = some t) (r x : Int) {b : Bool} (hb : decide (0 ≤ r ∧ r ≤ 5) = b) :
    Calls Try.prog 39 #[.pointer (some ⟨bb, k * 17, none⟩), .int .i64 r, .int .i64 x] wk fun e wn => e = .returned (.bool b) ∧ Sep B w wn (ta p (L.set k (regT t r x)) N (.slice (some ⟨bb, 0, none⟩) n c) ++ Rs) := by
  subst hb
  by_cases hr : 0 ≤ r ∧ r ≤ 5
  · rw [decide_eq_true hr]
    obtain ⟨hr0, hr5⟩ := hr
    obtain ⟨m, rfl⟩ := Int.eq_ofNat_of_zero_le hr0
    have hm : m < 6 := by omega
    have hat := ta_at h hk
    have h0 : regT t (m : Int) x = put t (4 + m) x := by unfold regT; rw [if_pos ⟨hr0, hr5⟩, Int.toNat_natCast]
    have HS := Lib.hid (ta_put h hk (4 + m) (by omega) x).1
    rw [← h0, ← Nat.add_assoc] at HS
    have c2 := hat.cs (4 + m) (by omega)
    have f2 := hat.fs (4 + m)
    rw [← Nat.add_assoc] at c2 f2
    have m5 : (m : Int) < 6 := by omega
    clear h hk h0 hat
    generalize get t (4 + m) = g2 at *
    go_enter Try.func39, Try.ntmps39
    go_wp2
    go_ret
    exact ⟨rfl, HS.out⟩
  · rw [decide_eq_false hr]
    have h0 : regT t r x = t := by unfold regT; rw [if_neg hr]
    have HS := Lib.hid h
    rw [h0, set_same hk]
    clear h hk h0
    rcases (by omega : r < 0 ∨ (0 ≤ r ∧ 5 < r)) with hr | ⟨hr1, hr2⟩
    all_goals
      go_enter Try.func39, Try.ntmps39
      go_wp2
      go_ret
      exact ⟨rfl, HS.out⟩

theorem lit_one (wk : World) (s : Int) : Rd (wk.alloc (.cells #[.int .i64 s] 3)) (fun _ => True) (.slice (some ⟨wk.heap.size, 0, none⟩) 1 1) [s] := (litI wk 3 [s] rfl (by simp) rfl).mono fun _ _ _ => trivial
theorem lit_two (wk : World) (s u : Int) : Rd (wk.alloc (.cells #[.int .i64 s, .int .i64 u] 3)) (fun _ => True) (.slice (some ⟨wk.heap.size, 0, none⟩) 2 2) [s, u] := (litI wk 3 [s, u] rfl (by simp) rfl).mono fun _ _ _ => trivial
theorem in_one {n s : Int} (hs : s ≠ 0) : decide (get (getT L n) 0 ∈ [s]) = isB L n s := by
  rw [is_state hs]
  exact decide_eq_decide.2 (by simp)
theorem in_two {n : Int} : decide (get (getT L n) 0 ∈ [(1 : Int), 2]) = liveB L n := by
  unfold liveB
  rw [is_state (by omega), is_state (by omega), ← Bool.decide_or]
  exact decide_eq_decide.2 (by simp)
theorem at_live {n : Int} (h : liveB L n = true) : ∃ k t, n = ((k : Nat) : Int) ∧ L[k]? = some t := by
  rcases live_cases L n with ⟨k, t, e, hk, _⟩ | ⟨k, t, e, hk, _⟩ | ⟨_, _, hv⟩
  · exact ⟨k, t, e, hk⟩
  · exact ⟨k, t, e, hk⟩
  · rw [hv] at h; cases h
theorem at_is {n s : Int} (h : isB L n s = true) : ∃ k t, n = ((k : Nat) : Int) ∧ L[k]? = some t := by
  rcases is_cases L n s with ⟨k, t, e, hk, _⟩ | ⟨_, hv⟩ | ⟨k, t, e, hk, _⟩
  · exact ⟨k, t, e, hk⟩
  · rw [hv] at h; cases h
  · exact ⟨k, t, e, hk⟩

set_option maxRecDepth 100000 in
theorem go_s {A : Option Addr} {c : Nat} (hok : TaskP.Ok L N) (h : Sep B w wk (ta p L N (.slice A L.length c) ++ Rs)) (n a : Int) :
    Calls Try.prog 28 #[.pointer (some ⟨p, 0, none⟩), .int .i64 n, .int .i64 a] wk fun e wn => e = .returned (.bool (isB L n 1)) ∧ Sep B w wn (ta p (goL L n a) N (.slice A L.length c) ++ Rs) := by
  have hse := (ta_sees hok h).below (new_below0 wk (.cells #[.int .i64 1] 3))
  have S0 := Lib.hid (h.next (new_below0 wk (.cells #[.int .i64 1] 3)))
  rcases hi : isB L n 1 with _ | _
  · rw [show goL L n a = L from doL_no hi]
    have HN := Lib.hid (among_no hse n (lit_one wk 1) (by rw [in_one (s := 1) (by omega), hi]))
    clear h hse hi hok
    generalize L.length = len at *
    go_enter Try.func28, Try.ntmps28
    go_wp2_with fail
    refine HN.out.mono ?_
    rintro e w1 ⟨rfl, hb⟩
    have HS := Lib.hid (S0.out.next hb)
    clear S0 hb HN
    go_wp2
    go_ret
    exact ⟨rfl, HS.out⟩
  · obtain ⟨k, t, rfl, hk⟩ := at_is hi
    obtain ⟨bb, rfl⟩ := ta_addr h hk
    have HN := Lib.hid (among_yes hse hk (lit_one wk 1) (by have h1 := in_one (L := L) (n := (k : Int)) (s := 1) (by omega); rw [getT_at hk] at h1; rw [h1, hi]))
    have HK := Lib.hid hk
    rw [show goL L (k : Int) a = L.set k (goT t a) from doL_yes hi hk]
    clear h hse hi hok hk
    generalize L.length = len at *
    go_enter Try.func28, Try.ntmps28
    go_wp2_with fail
    refine HN.out.mono ?_
    rintro e w1 ⟨rfl, hb⟩
    have h1 := S0.out.next hb
    have hat := ta_at h1 HK.out
    have HS := Lib.hid (ta_put h1 HK.out 2 (by omega) a).1
    have c2 := hat.cs 2 (by omega)
    have f2 := hat.fs 2
    clear S0 hb HN h1 hat HK
    generalize get t 2 = g2 at *
    go_wp2
    go_ret
    exact ⟨rfl, HS.out⟩

set_option maxRecDepth 100000 in
theorem set_s {A : Option Addr} {c : Nat} (hok : TaskP.Ok L N) (h : Sep B w wk (ta p L N (.slice A L.length c) ++ Rs)) (n r x : Int) :
    Calls Try.prog 29 #[.pointer (some ⟨p, 0, none⟩), .int .i64 n, .int .i64 r, .int .i64 x] wk fun e wn => e = .returned (.bool (setB L n r)) ∧ Sep B w wn (ta p (setL L n r x) N (.slice A L.length c) ++ Rs) := by
  have hse := (ta_sees hok h).below (new_below0 wk (.cells #[.int .i64 1, .int .i64 2] 3))
  have S0 := Lib.hid (h.next (new_below0 wk (.cells #[.int .i64 1, .int .i64 2] 3)))
  rcases hi : liveB L n with _ | _
  · have hv : setB L n r = false := by unfold setB; rw [hi]; rfl
    rw [show setL L n r x = L from doL_no hv, hv]
    have HN := Lib.hid (among_no hse n (lit_two wk 1 2) (by rw [in_two, hi]))
    clear h hse hi hok hv
    generalize L.length = len at *
    go_enter Try.func29, Try.ntmps29
    go_wp2_with fail
    refine HN.out.mono ?_
    rintro e w1 ⟨rfl, hb⟩
    have HS := Lib.hid (S0.out.next hb)
    clear S0 hb HN
    go_wp2
    go_ret
    exact ⟨rfl, HS.out⟩
  · obtain ⟨k, t, rfl, hk⟩ := at_live hi
    obtain ⟨bb, rfl⟩ := ta_addr h hk
    have HN := Lib.hid (among_yes hse hk (lit_two wk 1 2) (by have h1 := in_two (L := L) (n := (k : Int)); rw [getT_at hk] at h1; rw [h1, hi]))
    have HK := Lib.hid hk
    have hv : setB L (k : Int) r = decide (0 ≤ r ∧ r ≤ 5) := by unfold setB; rw [hi]; rfl
    have hl : setL L (k : Int) r x = L.set k (regT t r x) := by
      by_cases hr : 0 ≤ r ∧ r ≤ 5
      · exact doL_yes (by rw [hv, decide_eq_true hr]) hk
      · rw [show setL L (k : Int) r x = L from doL_no (by rw [hv, decide_eq_false hr])]
        unfold regT
        rw [if_neg hr, set_same hk]
    rw [hl, hv]
    clear h hse hi hok hk hv hl
    generalize L.length = len at *
    generalize hd : decide (0 ≤ r ∧ r ≤ 5) = d at *
    have HD := Lib.hid hd
    clear hd
    go_enter Try.func29, Try.ntmps29
    go_wp2_with fail
    refine HN.out.mono ?_
    rintro e w1 ⟨rfl, hb⟩
    have HC := Lib.hid (set_l (S0.out.next hb) HK.out r x HD.out)
    clear S0 hb HN HK HD
    go_wp2_with fail
    refine HC.out.mono ?_
    rintro e w2 ⟨rfl, h2⟩
    have HS := Lib.hid h2
    clear h2 HC
    go_wp2
    go_ret
    exact ⟨rfl, HS.out⟩

set_option maxRecDepth 100000 in
theorem end_s {A : Option Addr} {c : Nat} (hok : TaskP.Ok L N) (h : Sep B w wk (ta p L N (.slice A L.length c) ++ Rs)) (n x : Int) :
    Calls Try.prog 31 #[.pointer (some ⟨p, 0, none⟩), .int .i64 n, .int .i64 x] wk fun e wn => e = .returned (.bool (liveB L n)) ∧ Sep B w wn (ta p (endL L n x) N (.slice A L.length c) ++ Rs) := by
  have hse := (ta_sees hok h).below (new_below0 wk (.cells #[.int .i64 1, .int .i64 2] 3))
  have S0 := Lib.hid (h.next (new_below0 wk (.cells #[.int .i64 1, .int .i64 2] 3)))
  rcases hi : liveB L n with _ | _
  · rw [show endL L n x = L from doL_no hi]
    have HN := Lib.hid (among_no hse n (lit_two wk 1 2) (by rw [in_two, hi]))
    clear h hse hi hok
    generalize L.length = len at *
    go_enter Try.func31, Try.ntmps31
    go_wp2_with fail
    refine HN.out.mono ?_
    rintro e w1 ⟨rfl, hb⟩
    have HS := Lib.hid (S0.out.next hb)
    clear S0 hb HN
    go_wp2
    go_ret
    exact ⟨rfl, HS.out⟩
  · obtain ⟨k, t, rfl, hk⟩ := at_live hi
    obtain ⟨bb, rfl⟩ := ta_addr h hk
    have HN := Lib.hid (among_yes hse hk (lit_two wk 1 2) (by have h1 := in_two (L := L) (n := (k : Int)); rw [getT_at hk] at h1; rw [h1, hi]))
    have HK := Lib.hid hk
    rw [show endL L (k : Int) x = L.set k (enT t x) from doL_yes hi hk]
    clear h hse hi hok hk
    generalize L.length = len at *
    go_enter Try.func31, Try.ntmps31
    go_wp2_with fail
    refine HN.out.mono ?_
    rintro e w1 ⟨rfl, hb⟩
    have hs := S0.out.next hb
    have hat := ta_at hs HK.out
    obtain ⟨s1, t1⟩ := ta_put hs HK.out 0 (by omega) 3
    obtain ⟨s2, t2⟩ := ta_wait s1 t1 noPk
    obtain ⟨s3, _⟩ := ta_put s2 t2 16 (by omega) x
    simp only [List.set_set] at s3
    have HS := Lib.hid s3
    have c0 := hat.c0
    have f0 := hat.f0
    have f10 := hat.fs 10
    have c10 := hat.cs 10 (by omega)
    have f11 := hat.fs 11
    have c11 := hat.cs 11 (by omega)
    have f12 := hat.fs 12
    have c12 := hat.cs 12 (by omega)
    have f13 := hat.fs 13
    have c13 := hat.cs 13 (by omega)
    have f14 := hat.fs 14
    have c14 := hat.cs 14 (by omega)
    have f15 := hat.fs 15
    have c15 := hat.cs 15 (by omega)
    have f16 := hat.fs 16
    have c16 := hat.cs 16 (by omega)
    clear S0 hb HN hs hat HK s1 s2 s3 t1 t2
    go_wp2
    go_ret
    exact ⟨rfl, HS.out⟩

set_option maxRecDepth 100000 in
theorem wake_s {A : Option Addr} {c : Nat} (hok : TaskP.Ok L N) (h : Sep B w wk (ta p L N (.slice A L.length c) ++ Rs)) (n x : Int) :
    Calls Try.prog 26 #[.pointer (some ⟨p, 0, none⟩), .int .i64 n, .int .i64 x] wk fun e wn => e = .returned (.bool (isB L n 2)) ∧ Sep B w wn (ta p (wakeL L n x) N (.slice A L.length c) ++ Rs) := by
  have hse := (ta_sees hok h).below (new_below0 wk (.cells #[.int .i64 2] 3))
  have S0 := Lib.hid (h.next (new_below0 wk (.cells #[.int .i64 2] 3)))
  rcases hi : isB L n 2 with _ | _
  · rw [show wakeL L n x = L from doL_no hi]
    have HN := Lib.hid (among_no hse n (lit_one wk 2) (by rw [in_one (s := 2) (by omega), hi]))
    clear h hse hi hok
    generalize L.length = len at *
    go_enter Try.func26, Try.ntmps26
    go_wp2_with fail
    refine HN.out.mono ?_
    rintro e w1 ⟨rfl, hb⟩
    have HS := Lib.hid (S0.out.next hb)
    clear S0 hb HN
    go_wp2
    go_ret
    exact ⟨rfl, HS.out⟩
  · obtain ⟨k, t, rfl, hk⟩ := at_is hi
    obtain ⟨bb, rfl⟩ := ta_addr h hk
    have HN := Lib.hid (among_yes hse hk (lit_one wk 2) (by have h1 := in_one (L := L) (n := (k : Int)) (s := 2) (by omega); rw [getT_at hk] at h1; rw [h1, hi]))
    have HK := Lib.hid hk
    rw [show wakeL L (k : Int) x = L.set k (wkT t x) from doL_yes hi hk]
    have HT : Hid (wkT t x = wtT (put (regT t (get t 13) x) 0 1) noPk) := rfl
    have hll := (List.getElem?_eq_some_iff.1 hk).1
    have HL2 : Hid ((L.set k (regT t (get t 13) x))[k]? = some (regT t (get t 13) x)) := by show _ = _; rw [List.getElem?_set_self hll]
    clear h hse hi hok hk
    generalize L.length = len at *
    generalize wkT t x = t3 at *
    go_enter Try.func26, Try.ntmps26
    go_wp2_with fail
    refine HN.out.mono ?_
    rintro e w1 ⟨rfl, hb⟩
    have hs := S0.out.next hb
    have c13 := (ta_at hs HK.out).cs 13 (by omega)
    have HC := Lib.hid (set_l hs HK.out (get t 13) x rfl)
    clear S0 hb HN hs HK hll
    generalize regT t (get t 13) x = t2 at *
    generalize get t 13 = r at *
    generalize decide (0 ≤ r ∧ r ≤ 5) = d at *
    go_wp2_with fail
    refine HC.out.mono ?_
    rintro e w2 ⟨rfl, s2⟩
    have hat := ta_at s2 HL2.out
    obtain ⟨s3, t3'⟩ := ta_put s2 HL2.out 0 (by omega) 1
    obtain ⟨s4, _⟩ := ta_wait s3 t3' noPk
    simp only [List.set_set] at s4
    rw [← HT.out] at s4
    have HS := Lib.hid s4
    have c0 := hat.c0
    have f0 := hat.f0
    have f10 := hat.fs 10
    have c10 := hat.cs 10 (by omega)
    have f11 := hat.fs 11
    have c11 := hat.cs 11 (by omega)
    have f12 := hat.fs 12
    have c12 := hat.cs 12 (by omega)
    have f13 := hat.fs 13
    have c13 := hat.cs 13 (by omega)
    have f14 := hat.fs 14
    have c14 := hat.cs 14 (by omega)
    have f15 := hat.fs 15
    have c15 := hat.cs 15 (by omega)
    clear HC s2 hat s3 t3' s4 HT HL2
    go_wp2
    go_ret
    exact ⟨rfl, HS.out⟩
end
end Go.Proofs.Ythdipkdolgcmgaa.TkA
