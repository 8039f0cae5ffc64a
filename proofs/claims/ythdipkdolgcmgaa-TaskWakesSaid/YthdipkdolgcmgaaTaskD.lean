/-
  The law's own do of layer 18: an act. Over any package that meets 'Tb'. No condition.
-/
import Derived.Test.YthdipkdolgcmgaaTaskI
import Derived.Test.YthdipkdolgcmgaaInts
namespace Go.Proofs.Ythdipkdolgcmgaa.TaskI
open Go.ChangeShapes Go.WideShapes Go.ChangeAt Go.RowKit Mem MutP TaskP Hand RefTask

theorem results_tmp3 {fn : Func} {t u v : Tmp} (h : fn.results = #[.tmp t, .tmp u, .tmp v]) (tmps : Array Value) (P : Program) (w : World) :
    (results fn tmps).run P w = .ok (.tuple #[tmps.getD t undef, tmps.getD u undef, tmps.getD v undef]) w := by
  simp [results, h]
/-- What an act answers, and the tasks behind it. -/
def aV (L : List Tk) (N d : Int) : Int := if d = 0 then beginV L N else 0
def aB (L : List Tk) (d t a : Int) (q : Pk) : Bool := if d = 1 then isB L t 1 else if d = 2 then setB L t a else if d = 3 then parkB L t q else if d = 4 then againB L t q else if d = 5 then isB L t 2 else if d = 6 then liveB L t else false
def aE (L : List Tk) (N d : Int) : Int := if d = 0 then beginE L N else 0
def aL (L : List Tk) (N d t a b x : Int) (q : Pk) : List Tk := if d = 0 then beginL L N a b else if d = 1 then goL L t a else if d = 2 then setL L t a x else if d = 3 then parkL L t q else if d = 4 then againL L t q else if d = 5 then wakeL L t x else if d = 6 then endL L t x else L
def In5 (t a b x : Int) (q : Pk) : Prop := In64 t ∧ In64 a ∧ In64 b ∧ In64 x ∧ InPk q

section
variable {I : Tb} {B : Nat → Prop} {w wk : World} {Rs : List Res} {v : Value} {L L' : List Tk} {N : Int}
set_option maxRecDepth 100000 in
/-- do(t, a): the act. -/
theorem t_do (h : Sep B w wk Rs) (i : Nat) (hi : Rs[i]? = some (ob I.O v (L, N))) (d t a b x : Int) (q : Pk) (hin : In5 t a b x q) {V E : Int} {Bo : Bool} (hV : aV L N d = V) (hB : aB L d t a q = Bo) (hE : aE L N d = E) (hL : aL L N d t a b x q = L') :
    Calls Try.prog 9 #[v, .agg #[.int .i64 d, .int .i64 t, .int .i64 a, .int .i64 b, .int .i64 x, .int .i64 q.k, .int .i64 q.o, .int .i64 q.c, .int .i64 q.r, .int .i64 q.l, .int .i64 q.n]] wk fun e wn => e = .returned (.tuple #[.int .i64 V, .bool Bo, .int .i64 E]) ∧ Sep B w wn (Rs.set i (ob I.O v (L', N))) := by
  obtain ⟨pa, rfl⟩ := ob_ptr h i hi
  have S0 := Lib.hid (h.new (.cells #[.int .i64 d, .int .i64 t, .int .i64 a, .int .i64 b, .int .i64 x, .int .i64 q.k, .int .i64 q.o, .int .i64 q.c, .int .i64 q.r, .int .i64 q.l, .int .i64 q.n] 34))
  have HI : Hid ((blk wk.heap.size (.cells #[.int .i64 d, .int .i64 t, .int .i64 a, .int .i64 b, .int .i64 x, .int .i64 q.k, .int .i64 q.o, .int .i64 q.c, .int .i64 q.r, .int .i64 q.l, .int .i64 q.n] 34) :: Rs)[i + 1]? = some (ob I.O (.pointer (some pa)) (L, N))) := by show _ = _; rw [List.getElem?_cons_succ]; exact hi
  have HIN := Lib.hid hin
  have KV := Lib.hid hV
  have KB := Lib.hid hB
  have KE := Lib.hid hE
  have KL := Lib.hid hL
  clear h hi hin hV hB hE hL
  rcases (by omega : d = 0 ∨ d = 1 ∨ d = 2 ∨ d = 3 ∨ d = 4 ∨ d = 5 ∨ d = 6 ∨ (d ≠ 0 ∧ d ≠ 1 ∧ d ≠ 2 ∧ d ≠ 3 ∧ d ≠ 4 ∧ d ≠ 5 ∧ d ≠ 6)) with rfl | rfl | rfl | rfl | rfl | rfl | rfl | ⟨d0, d1, d2, d3, d4, d5, d6⟩
  · obtain rfl : false = Bo := KB.out
    go_enter Try.func9, Try.ntmps9
    go_wp2_with fail
    refine (t_begin S0.out (i + 1) HI.out a b HIN.out.2.1 HIN.out.2.2.1 (V := V) (E := E) (L' := L') KV.out KE.out KL.out).mono ?_
    rintro e w1 ⟨rfl, h1⟩
    rw [List.set_cons_succ] at h1
    have S1 := Lib.hid h1.tail
    clear h1
    go_wp2
    (try simp only [Exit.inBlock, Exit.then])
    refine bodyPost_ret (results_tmp3 rfl _ _ _) rfl ?_
    exact ⟨rfl, S1.out⟩
  · obtain rfl : 0 = V := KV.out
    obtain rfl : 0 = E := KE.out
    go_enter Try.func9, Try.ntmps9
    go_wp2_with fail
    refine (t_go S0.out (i + 1) HI.out t a HIN.out.1 HIN.out.2.1 (b := Bo) (L' := L') KB.out KL.out).mono ?_
    rintro e w1 ⟨rfl, h1⟩
    rw [List.set_cons_succ] at h1
    have S1 := Lib.hid h1.tail
    clear h1
    go_wp2
    (try simp only [Exit.inBlock, Exit.then])
    refine bodyPost_ret (results_tmp3 rfl _ _ _) rfl ?_
    exact ⟨rfl, S1.out⟩
  · obtain rfl : 0 = V := KV.out
    obtain rfl : 0 = E := KE.out
    go_enter Try.func9, Try.ntmps9
    go_wp2_with fail
    refine (t_set S0.out (i + 1) HI.out t a x HIN.out.1 HIN.out.2.1 HIN.out.2.2.2.1 (b := Bo) (L' := L') KB.out KL.out).mono ?_
    rintro e w1 ⟨rfl, h1⟩
    rw [List.set_cons_succ] at h1
    have S1 := Lib.hid h1.tail
    clear h1
    go_wp2
    (try simp only [Exit.inBlock, Exit.then])
    refine bodyPost_ret (results_tmp3 rfl _ _ _) rfl ?_
    exact ⟨rfl, S1.out⟩
  · obtain rfl : 0 = V := KV.out
    obtain rfl : 0 = E := KE.out
    go_enter Try.func9, Try.ntmps9
    go_wp2_with fail
    refine (t_park S0.out (i + 1) HI.out t q HIN.out.1 HIN.out.2.2.2.2 (b := Bo) (L' := L') KB.out KL.out).mono ?_
    rintro e w1 ⟨rfl, h1⟩
    rw [List.set_cons_succ] at h1
    have S1 := Lib.hid h1.tail
    clear h1
    go_wp2
    (try simp only [Exit.inBlock, Exit.then])
    refine bodyPost_ret (results_tmp3 rfl _ _ _) rfl ?_
    exact ⟨rfl, S1.out⟩
  · obtain rfl : 0 = V := KV.out
    obtain rfl : 0 = E := KE.out
    go_enter Try.func9, Try.ntmps9
    go_wp2_with fail
    refine (t_again S0.out (i + 1) HI.out t q HIN.out.1 HIN.out.2.2.2.2 (b := Bo) (L' := L') KB.out KL.out).mono ?_
    rintro e w1 ⟨rfl, h1⟩
    rw [List.set_cons_succ] at h1
    have S1 := Lib.hid h1.tail
    clear h1
    go_wp2
    (try simp only [Exit.inBlock, Exit.then])
    refine bodyPost_ret (results_tmp3 rfl _ _ _) rfl ?_
    exact ⟨rfl, S1.out⟩
  · obtain rfl : 0 = V := KV.out
    obtain rfl : 0 = E := KE.out
    go_enter Try.func9, Try.ntmps9
    go_wp2_with fail
    refine (t_wake S0.out (i + 1) HI.out t x HIN.out.1 HIN.out.2.2.2.1 (b := Bo) (L' := L') KB.out KL.out).mono ?_
    rintro e w1 ⟨rfl, h1⟩
    rw [List.set_cons_succ] at h1
    have S1 := Lib.hid h1.tail
    clear h1
    go_wp2
    (try simp only [Exit.inBlock, Exit.then])
    refine bodyPost_ret (results_tmp3 rfl _ _ _) rfl ?_
    exact ⟨rfl, S1.out⟩
  · obtain rfl : 0 = V := KV.out
    obtain rfl : 0 = E := KE.out
    go_enter Try.func9, Try.ntmps9
    go_wp2_with fail
    refine (t_end S0.out (i + 1) HI.out t x HIN.out.1 HIN.out.2.2.2.1 (b := Bo) (L' := L') KB.out KL.out).mono ?_
    rintro e w1 ⟨rfl, h1⟩
    rw [List.set_cons_succ] at h1
    have S1 := Lib.hid h1.tail
    clear h1
    go_wp2
    (try simp only [Exit.inBlock, Exit.then])
    refine bodyPost_ret (results_tmp3 rfl _ _ _) rfl ?_
    exact ⟨rfl, S1.out⟩
  · have hV : Hid (V = 0) := KV.out.symm.trans (by unfold aV; rw [if_neg d0])
    have hE : Hid (E = 0) := KE.out.symm.trans (by unfold aE; rw [if_neg d0])
    have hB : Hid (Bo = false) := KB.out.symm.trans (by unfold aB; simp only [if_neg d1, if_neg d2, if_neg d3, if_neg d4, if_neg d5, if_neg d6])
    have hL : Hid (L' = L) := KL.out.symm.trans (by unfold aL; simp only [if_neg d0, if_neg d1, if_neg d2, if_neg d3, if_neg d4, if_neg d5, if_neg d6])
    have g0 : (d == 0) = false := by simpa using d0
    have g1 : (d == 1) = false := by simpa using d1
    have g2 : (d == 2) = false := by simpa using d2
    have g3 : (d == 3) = false := by simpa using d3
    have g4 : (d == 4) = false := by simpa using d4
    have g5 : (d == 5) = false := by simpa using d5
    have g6 : (d == 6) = false := by simpa using d6
    have S1 : Hid (Sep B w (wk.alloc (.cells #[.int .i64 d, .int .i64 t, .int .i64 a, .int .i64 b, .int .i64 x, .int .i64 q.k, .int .i64 q.o, .int .i64 q.c, .int .i64 q.r, .int .i64 q.l, .int .i64 q.n] 34)) Rs) := S0.out.tail
    clear d0 d1 d2 d3 d4 d5 d6 KV KB KE KL
    go_enter Try.func9, Try.ntmps9
    go_wp2
    (try simp only [Exit.inBlock, Exit.then])
    refine bodyPost_ret (results_tmp3 rfl _ _ _) rfl ?_
    rw [hV.out, hE.out, hB.out, hL.out]
    refine ⟨rfl, ?_⟩
    have hl : Rs.set i (ob I.O (.pointer (some pa)) (L, N)) = Rs := by
      have hi := HI.out
      rw [List.getElem?_cons_succ] at hi
      have hlt := (List.getElem?_eq_some_iff.1 hi).1
      apply List.ext_getElem?
      intro k
      by_cases hk : i = k
      · subst hk; rw [List.getElem?_set_self hlt, hi]
      · rw [List.getElem?_set_ne hk]
    rw [hl]
    exact S1.out
end
end Go.Proofs.Ythdipkdolgcmgaa.TaskI
