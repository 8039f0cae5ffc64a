/-
  What the laws of layer 8 ask of package mutex, as one structure (a lock), and the law's own helpers over it. Conditions: those that each statement names.
-/
import Derived.Test.YtjgfiiehanggoaaRefMutB
import Derived.Test.YtjgfiiehanggoaaSameI
namespace Go.Proofs.Ytjgfiiehanggoaa.MutI
open Go.ChangeShapes Go.WideShapes Go.ChangeAt Go.RowKit Mem MutP Hand RefMut

/-- A lock: who holds it, who waits, how many tasks there may be. -/
abbrev St := Int × List Int × Int
structure Mu where
  O : Ob St
  ok : ∀ {w v F s}, O.A w v F s → Ok s.1 s.2.1 s.2.2
  new_no : ∀ (n : Int) (w : World), In64 n → (n < 1 ∨ 1000 < n) → Calls Try.prog 7 #[.int .i64 n] w fun e w' => e = .returned (.tuple #[.pointer none, .int .i64 1]) ∧ Below w.heap.size w w'
  new_yes : ∀ (n : Int) (w : World), 1 ≤ n → n ≤ 1000 → Calls Try.prog 7 #[.int .i64 n] w fun e w' => ∃ v F, e = .returned (.tuple #[v, .int .i64 0]) ∧ O.A w' v F (-1, [], n) ∧ Below w.heap.size w w' ∧ ∀ k, F k → w.heap.size ≤ k
  lock : ∀ {w v F H W N}, O.A w v F (H, W, N) → ∀ t, In64 t → Calls Try.prog 17 #[v, .int .i64 t] w fun e w' => e = .returned (.tuple #[.bool (lockB H W N t), .int .i64 (lockE W N t)]) ∧ Stays (ob O v (lockH H W N t, lockW H W N t true, N)) F w w'
  try_ : ∀ {w v F H W N}, O.A w v F (H, W, N) → ∀ t, In64 t → Calls Try.prog 18 #[v, .int .i64 t] w fun e w' => e = .returned (.tuple #[.bool (lockB H W N t), .int .i64 (lockE W N t)]) ∧ Stays (ob O v (lockH H W N t, W, N)) F w w'
  unlock : ∀ {w v F H W N}, O.A w v F (H, W, N) → ∀ t, In64 t → Calls Try.prog 20 #[v, .int .i64 t] w fun e w' => e = .returned (.tuple #[.int .i64 (unlV H W N t), .int .i64 (unlE H N t)]) ∧ Stays (ob O v (unlH H W N t, unlW H W N t, N)) F w w'
  leave : ∀ {w v F H W N}, O.A w v F (H, W, N) → ∀ t, In64 t → Calls Try.prog 19 #[v, .int .i64 t] w fun e w' => e = .returned (.bool (inL W t)) ∧ Stays (ob O v (H, withoutL W t, N)) F w w'
  holder : ∀ {w v F H W N}, O.A w v F (H, W, N) → Calls Try.prog 13 #[v] w fun e w' => e = .returned (.int .i64 H) ∧ Below w.heap.size w w'
  waiting : ∀ {w v F H W N}, O.A w v F (H, W, N) → Calls Try.prog 15 #[v] w fun e w' => ∃ u, e = .returned u ∧ Says w w' u W

theorem lockW_no (H : Int) (W : List Int) (N t : Int) : lockW H W N t false = W := by unfold lockW waitsB; simp

theorem results_tmp3 {fn : Func} {t u v : Tmp} (h : fn.results = #[.tmp t, .tmp u, .tmp v]) (tmps : Array Value) (P : Program) (w : World) :
    (results fn tmps).run P w = .ok (.tuple #[tmps.getD t undef, tmps.getD u undef, tmps.getD v undef]) w := by
  simp [results, h]

/-- What an act answers, and the lock behind it. -/
def actK (H : Int) (W : List Int) (N d t : Int) : Int := if d = 2 then unlV H W N t else 0
def actB (H : Int) (W : List Int) (N d t : Int) : Bool := if d = 0 ∨ d = 1 then lockB H W N t else if d = 3 then inL W t else false
def actE (H : Int) (W : List Int) (N d t : Int) : Int := if d = 0 ∨ d = 1 then lockE W N t else if d = 2 then unlE H N t else 0
def actH (H : Int) (W : List Int) (N d t : Int) : Int := if d = 0 ∨ d = 1 then lockH H W N t else if d = 2 then unlH H W N t else H
def actW (H : Int) (W : List Int) (N d t : Int) : List Int := if d = 0 then lockW H W N t true else if d = 2 then unlW H W N t else if d = 3 then withoutL W t else W

section
variable {I : Mu} {B : Nat → Prop} {w wk : World} {Rs : List Res} {v : Value} {H : Int} {W : List Int} {N : Int}
theorem m_ok (h : Sep B w wk Rs) (i : Nat) (hi : Rs[i]? = some (ob I.O v (H, W, N))) : Ok H W N := by
  obtain ⟨F, hR⟩ := ob_at h i hi
  exact I.ok hR
theorem m_new (h : Sep B w wk Rs) (I : Mu) (n : Int) (h1 : 1 ≤ n) (h2 : n ≤ 1000) : Calls Try.prog 7 #[.int .i64 n] wk fun e wn => ∃ a, e = .returned (.tuple #[.pointer (some a), .int .i64 0]) ∧ Sep B w wn (ob I.O (.pointer (some a)) (-1, [], n) :: Rs) :=
  ob_new h (e0 := fun v => .returned (.tuple #[v, .int .i64 0])) (I.new_yes n wk h1 h2)
theorem m_holder (h : Sep B w wk Rs) (i : Nat) (hi : Rs[i]? = some (ob I.O v (H, W, N))) : Calls Try.prog 13 #[v] wk fun e wn => e = .returned (.int .i64 H) ∧ Sep B w wn Rs ∧ Below wk.heap.size wk wn :=
  ob_still h i hi fun _ hA => I.holder hA
theorem m_waiting (h : Sep B w wk Rs) (i : Nat) (hi : Rs[i]? = some (ob I.O v (H, W, N))) : Calls Try.prog 15 #[v] wk fun e wn => ∃ A c, e = .returned (.slice A W.length c) ∧ Sep B w wn (nums (.slice A W.length c) W :: Rs) ∧ Below wk.heap.size wk wn :=
  ob_told h i hi fun _ hA => I.waiting hA

set_option maxRecDepth 100000 in
/-- do(m, a): the act. -/
theorem m_do (h : Sep B w wk Rs) (i : Nat) (hi : Rs[i]? = some (ob I.O v (H, W, N))) (d t : Int) (ht : In64 t) :
    Calls Try.prog 9 #[v, .agg #[.int .i64 d, .int .i64 t]] wk fun e wn => e = .returned (.tuple #[.int .i64 (actK H W N d t), .bool (actB H W N d t), .int .i64 (actE H W N d t)]) ∧ Sep B w wn (Rs.set i (ob I.O v (actH H W N d t, actW H W N d t, N))) := by
  obtain ⟨pa, rfl⟩ := ob_ptr h i hi
  have S0 := Lib.hid (h.new (.cells #[.int .i64 d, .int .i64 t] 32))
  have HI : Hid ((blk wk.heap.size (.cells #[.int .i64 d, .int .i64 t] 32) :: Rs)[i + 1]? = some (ob I.O (.pointer (some pa)) (H, W, N))) := by show _ = _; rw [List.getElem?_cons_succ]; exact hi
  have HT := Lib.hid ht
  clear h hi ht
  rcases (by omega : d = 0 ∨ d = 1 ∨ d = 2 ∨ d = 3 ∨ (d ≠ 0 ∧ d ≠ 1 ∧ d ≠ 2 ∧ d ≠ 3)) with rfl | rfl | rfl | rfl | ⟨d0, d1, d2, d3⟩
  · go_enter Try.func9, Try.ntmps9
    go_wp2_with fail
    refine (ob_to S0.out (i + 1) HI.out fun _ hA => I.lock hA t HT.out).mono ?_
    rintro e w1 ⟨rfl, h1⟩
    rw [List.set_cons_succ] at h1
    have S1 := Lib.hid h1.tail
    clear h1
    go_wp2
    (try simp only [Exit.inBlock, Exit.then])
    refine bodyPost_ret (results_tmp3 rfl _ _ _) rfl ?_
    exact ⟨rfl, S1.out⟩
  · go_enter Try.func9, Try.ntmps9
    go_wp2_with fail
    refine (ob_to S0.out (i + 1) HI.out fun _ hA => I.try_ hA t HT.out).mono ?_
    rintro e w1 ⟨rfl, h1⟩
    rw [List.set_cons_succ] at h1
    have S1 := Lib.hid h1.tail
    clear h1
    go_wp2
    (try simp only [Exit.inBlock, Exit.then])
    refine bodyPost_ret (results_tmp3 rfl _ _ _) rfl ?_
    exact ⟨rfl, S1.out⟩
  · go_enter Try.func9, Try.ntmps9
    go_wp2_with fail
    refine (ob_to S0.out (i + 1) HI.out fun _ hA => I.unlock hA t HT.out).mono ?_
    rintro e w1 ⟨rfl, h1⟩
    rw [List.set_cons_succ] at h1
    have S1 := Lib.hid h1.tail
    clear h1
    go_wp2
    (try simp only [Exit.inBlock, Exit.then])
    refine bodyPost_ret (results_tmp3 rfl _ _ _) rfl ?_
    exact ⟨rfl, S1.out⟩
  · go_enter Try.func9, Try.ntmps9
    go_wp2_with fail
    refine (ob_to S0.out (i + 1) HI.out fun _ hA => I.leave hA t HT.out).mono ?_
    rintro e w1 ⟨rfl, h1⟩
    rw [List.set_cons_succ] at h1
    have S1 := Lib.hid h1.tail
    clear h1
    go_wp2
    (try simp only [Exit.inBlock, Exit.then])
    refine bodyPost_ret (results_tmp3 rfl _ _ _) rfl ?_
    exact ⟨rfl, S1.out⟩
  · have HR : Hid (actK H W N d t = 0 ∧ actB H W N d t = false ∧ actE H W N d t = 0 ∧ actH H W N d t = H ∧ actW H W N d t = W) := by
      have d01 : ¬ (d = 0 ∨ d = 1) := by omega
      show _ ∧ _
      unfold actK actB actE actH actW
      rw [if_neg d2, if_neg d01, if_neg d3, if_neg d01, if_neg d2, if_neg d01, if_neg d2, if_neg d0, if_neg d2, if_neg d3]
      exact ⟨rfl, rfl, rfl, rfl, rfl⟩
    have e0 : (d == 0) = false := by simpa using d0
    have e1 : (d == 1) = false := by simpa using d1
    have e2 : (d == 2) = false := by simpa using d2
    have e3 : (d == 3) = false := by simpa using d3
    have S1 : Hid (Sep B w (wk.alloc (.cells #[.int .i64 d, .int .i64 t] 32)) (Rs.set i (ob I.O (.pointer (some pa)) (H, W, N)))) := by
      have h1 := S0.out.tail
      have h2 := HI.out
      rw [List.getElem?_cons_succ] at h2
      obtain ⟨hl', he⟩ := List.getElem?_eq_some_iff.1 h2
      rw [← he, List.set_getElem_self]
      exact h1
    clear d0 d1 d2 d3
    go_enter Try.func9, Try.ntmps9
    go_wp2
    (try simp only [Exit.inBlock, Exit.then])
    refine bodyPost_ret (results_tmp3 rfl _ _ _) rfl ?_
    obtain ⟨q0, q1, q2, q3, q4⟩ := HR.out
    rw [q0, q1, q2, q3, q4]
    exact ⟨rfl, S1.out⟩
end
end Go.Proofs.Ytjgfiiehanggoaa.MutI
