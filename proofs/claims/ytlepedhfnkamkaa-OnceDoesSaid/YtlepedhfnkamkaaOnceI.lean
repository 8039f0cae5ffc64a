/-
  What the laws of layer 11 ask of package once, as one structure (a thing that is done once), and the law's own helpers over it. Conditions: those that each statement names.
-/
import Derived.Test.YtlepedhfnkamkaaRefOnce
import Derived.Test.YtlepedhfnkamkaaSameI
namespace Go.Proofs.Ytlepedhfnkamkaa.OnceI
open Go.ChangeShapes Go.WideShapes Go.ChangeAt Go.RowKit Mem MutP OnceP Hand RefMut RefOnce

/-- A thing: what it is, who does it, who waits, how many tasks there may be. -/
abbrev St := Int × Int × List Int × Int
structure On where
  O : Ob St
  ok : ∀ {w v F s}, O.A w v F s → OnceP.Ok s.1 s.2.1 s.2.2.1 s.2.2.2
  new_no : ∀ (n : Int) (w : World), In64 n → (n < 1 ∨ 1000 < n) → Calls Try.prog 7 #[.int .i64 n] w fun e w' => e = .returned (.tuple #[.pointer none, .int .i64 1]) ∧ Below w.heap.size w w'
  new_yes : ∀ (n : Int) (w : World), 1 ≤ n → n ≤ 1000 → Calls Try.prog 7 #[.int .i64 n] w fun e w' => ∃ v F, e = .returned (.tuple #[v, .int .i64 0]) ∧ O.A w' v F (0, -1, [], n) ∧ Below w.heap.size w w' ∧ ∀ k, F k → w.heap.size ≤ k
  beg : ∀ {w v F S D W N}, O.A w v F (S, D, W, N) → ∀ t, In64 t → Calls Try.prog 21 #[v, .int .i64 t] w fun e w' => e = .returned (.tuple #[.int .i64 (begK S D W N t), .int .i64 (begE D W N t)]) ∧ Stays (ob O v (begS S D W N t, begD S D W N t, begW S D W N t, N)) F w w'
  fin : ∀ {w v F S D W N}, O.A w v F (S, D, W, N) → ∀ t, In64 t → Calls Try.prog 20 #[v, .int .i64 t] w fun e w' => ∃ u, e = .returned (.tuple #[u, .int .i64 (endE D N t)]) ∧ Tells (ob O v (endS S D N t, endD D N t, endW D W N t, N)) F w w' u (endL D W N t)
  leave : ∀ {w v F S D W N}, O.A w v F (S, D, W, N) → ∀ t, In64 t → Calls Try.prog 18 #[v, .int .i64 t] w fun e w' => e = .returned (.bool (inL W t)) ∧ Stays (ob O v (S, D, withoutL W t, N)) F w w'
  state : ∀ {w v F S D W N}, O.A w v F (S, D, W, N) → Calls Try.prog 14 #[v] w fun e w' => e = .returned (.int .i64 S) ∧ Below w.heap.size w w'
  by_ : ∀ {w v F S D W N}, O.A w v F (S, D, W, N) → Calls Try.prog 15 #[v] w fun e w' => e = .returned (.int .i64 D) ∧ Below w.heap.size w w'
  waiting : ∀ {w v F S D W N}, O.A w v F (S, D, W, N) → Calls Try.prog 16 #[v] w fun e w' => ∃ u, e = .returned u ∧ Says w w' u W

theorem results_tmp4 {fn : Func} {t u v x : Tmp} (h : fn.results = #[.tmp t, .tmp u, .tmp v, .tmp x]) (tmps : Array Value) (P : Program) (w : World) :
    (results fn tmps).run P w = .ok (.tuple #[tmps.getD t undef, tmps.getD u undef, tmps.getD v undef, tmps.getD x undef]) w := by
  simp [results, h]
theorem ob_tellsE {P : Program} {S : Type} {O : Ob S} {B : Nat → Prop} {w wk : World} {Rs : List Res} {v : Value} {s s' : S} {f : FuncId} {args : Array Value} (h : Sep B w wk Rs) (i : Nat) (hi : Rs[i]? = some (ob O v s)) {l : List Int} {e0 : Value → Ending} (hc : ∀ F, O.A wk v F s → Calls P f args wk fun e wn => ∃ u, e = e0 u ∧ Tells (ob O v s') F wk wn u l) :
    Calls P f args wk fun e wn => ∃ A c, e = e0 (.slice A l.length c) ∧ Sep B w wn (nums (.slice A l.length c) l :: Rs.set i (ob O v s')) := by
  obtain ⟨F, hR, hn⟩ := h.splice2 i hi
  refine (hc F hR).mono ?_
  rintro e wn ⟨u, rfl, hu⟩
  obtain ⟨A, c, rfl⟩ : ∃ A c, u = .slice A l.length c := by obtain ⟨_, _, _, hr, _⟩ := hu; exact rd_form hr
  exact ⟨A, c, rfl, hn hu.sep⟩

/-- What an act answers, and the thing behind it. -/
def actK (S D : Int) (W : List Int) (N d t : Int) : Int := if d = 0 then begK S D W N t else 0
def actB (W : List Int) (d t : Int) : Bool := if d = 2 then inL W t else false
def actL (D : Int) (W : List Int) (N d t : Int) : List Int := if d = 1 then endL D W N t else []
def actE (D : Int) (W : List Int) (N d t : Int) : Int := if d = 0 then begE D W N t else if d = 1 then endE D N t else 0
def actS (S D : Int) (W : List Int) (N d t : Int) : Int := if d = 0 then begS S D W N t else if d = 1 then endS S D N t else S
def actD (S D : Int) (W : List Int) (N d t : Int) : Int := if d = 0 then begD S D W N t else if d = 1 then endD D N t else D
def actW (S D : Int) (W : List Int) (N d t : Int) : List Int := if d = 0 then begW S D W N t else if d = 1 then endW D W N t else if d = 2 then withoutL W t else W
theorem act_no {S D : Int} {W : List Int} {N d t : Int} (d0 : d ≠ 0) (d1 : d ≠ 1) (d2 : d ≠ 2) : actK S D W N d t = 0 ∧ actB W d t = false ∧ actL D W N d t = [] ∧ actE D W N d t = 0 ∧ actS S D W N d t = S ∧ actD S D W N d t = D ∧ actW S D W N d t = W := by
  unfold actK actB actL actE actS actD actW
  rw [if_neg d0, if_neg d2, if_neg d1, if_neg d0, if_neg d1, if_neg d0, if_neg d1, if_neg d0, if_neg d1, if_neg d0, if_neg d1, if_neg d2]
  exact ⟨rfl, rfl, rfl, rfl, rfl, rfl, rfl⟩

section
variable {I : On} {B : Nat → Prop} {w wk : World} {Rs : List Res} {v : Value} {S D : Int} {W : List Int} {N : Int}
theorem m_ok (h : Sep B w wk Rs) (i : Nat) (hi : Rs[i]? = some (ob I.O v (S, D, W, N))) : OnceP.Ok S D W N := by
  obtain ⟨F, hR⟩ := ob_at h i hi
  exact I.ok hR
theorem m_new (h : Sep B w wk Rs) (I : On) (n : Int) (h1 : 1 ≤ n) (h2 : n ≤ 1000) : Calls Try.prog 7 #[.int .i64 n] wk fun e wn => ∃ a, e = .returned (.tuple #[.pointer (some a), .int .i64 0]) ∧ Sep B w wn (ob I.O (.pointer (some a)) (0, -1, [], n) :: Rs) :=
  ob_new h (e0 := fun v => .returned (.tuple #[v, .int .i64 0])) (I.new_yes n wk h1 h2)
theorem m_state (h : Sep B w wk Rs) (i : Nat) (hi : Rs[i]? = some (ob I.O v (S, D, W, N))) : Calls Try.prog 14 #[v] wk fun e wn => e = .returned (.int .i64 S) ∧ Sep B w wn Rs ∧ Below wk.heap.size wk wn :=
  ob_still h i hi fun _ hA => I.state hA
theorem m_by (h : Sep B w wk Rs) (i : Nat) (hi : Rs[i]? = some (ob I.O v (S, D, W, N))) : Calls Try.prog 15 #[v] wk fun e wn => e = .returned (.int .i64 D) ∧ Sep B w wn Rs ∧ Below wk.heap.size wk wn :=
  ob_still h i hi fun _ hA => I.by_ hA
theorem m_waiting (h : Sep B w wk Rs) (i : Nat) (hi : Rs[i]? = some (ob I.O v (S, D, W, N))) : Calls Try.prog 16 #[v] wk fun e wn => ∃ A c, e = .returned (.slice A W.length c) ∧ Sep B w wn (nums (.slice A W.length c) W :: Rs) ∧ Below wk.heap.size wk wn :=
  ob_told h i hi fun _ hA => I.waiting hA
theorem m_beg (h : Sep B w wk Rs) (i : Nat) (hi : Rs[i]? = some (ob I.O v (S, D, W, N))) (t : Int) (ht : In64 t) : Calls Try.prog 21 #[v, .int .i64 t] wk fun e wn => e = .returned (.tuple #[.int .i64 (begK S D W N t), .int .i64 (begE D W N t)]) ∧ Sep B w wn (Rs.set i (ob I.O v (begS S D W N t, begD S D W N t, begW S D W N t, N))) :=
  ob_to h i hi fun _ hA => I.beg hA t ht
theorem m_end (h : Sep B w wk Rs) (i : Nat) (hi : Rs[i]? = some (ob I.O v (S, D, W, N))) (t : Int) (ht : In64 t) : Calls Try.prog 20 #[v, .int .i64 t] wk fun e wn => ∃ A c, e = .returned (.tuple #[.slice A (endL D W N t).length c, .int .i64 (endE D N t)]) ∧ Sep B w wn (nums (.slice A (endL D W N t).length c) (endL D W N t) :: Rs.set i (ob I.O v (endS S D N t, endD D N t, endW D W N t, N))) :=
  ob_tellsE h i hi (e0 := fun u => .returned (.tuple #[u, .int .i64 (endE D N t)])) fun _ hA => I.fin hA t ht
theorem m_leave (h : Sep B w wk Rs) (i : Nat) (hi : Rs[i]? = some (ob I.O v (S, D, W, N))) (t : Int) (ht : In64 t) : Calls Try.prog 18 #[v, .int .i64 t] wk fun e wn => e = .returned (.bool (inL W t)) ∧ Sep B w wn (Rs.set i (ob I.O v (S, D, withoutL W t, N))) :=
  ob_to h i hi fun _ hA => I.leave hA t ht

set_option maxRecDepth 100000 in
/-- do(o, a): the act. -/
theorem m_do (h : Sep B w wk Rs) (i : Nat) (hi : Rs[i]? = some (ob I.O v (S, D, W, N))) (d t : Int) (ht : In64 t) :
    Calls Try.prog 9 #[v, .agg #[.int .i64 d, .int .i64 t]] wk fun e wn => ∃ A c, e = .returned (.tuple #[.int .i64 (actK S D W N d t), .bool (actB W d t), .slice A (actL D W N d t).length c, .int .i64 (actE D W N d t)]) ∧ Sep B w wn (nums (.slice A (actL D W N d t).length c) (actL D W N d t) :: Rs.set i (ob I.O v (actS S D W N d t, actD S D W N d t, actW S D W N d t, N))) := by
  obtain ⟨pa, rfl⟩ := ob_ptr h i hi
  have S0 := Lib.hid (h.new (.cells #[.int .i64 d, .int .i64 t] 32))
  have HI : Hid ((blk wk.heap.size (.cells #[.int .i64 d, .int .i64 t] 32) :: Rs)[i + 1]? = some (ob I.O (.pointer (some pa)) (S, D, W, N))) := by show _ = _; rw [List.getElem?_cons_succ]; exact hi
  have HT := Lib.hid ht
  clear h hi ht
  rcases (by omega : d = 0 ∨ d = 1 ∨ d = 2 ∨ (d ≠ 0 ∧ d ≠ 1 ∧ d ≠ 2)) with rfl | rfl | rfl | ⟨d0, d1, d2⟩
  · go_enter Try.func9, Try.ntmps9
    go_wp2_with fail
    refine (m_beg S0.out (i + 1) HI.out t HT.out).mono ?_
    rintro e w1 ⟨rfl, h1⟩
    rw [List.set_cons_succ] at h1
    have S1 := Lib.hid h1.tail.nil_nums
    clear h1
    go_wp2
    (try simp only [Exit.inBlock, Exit.then])
    refine bodyPost_ret (results_tmp4 rfl _ _ _) rfl ?_
    exact ⟨_, _, rfl, S1.out⟩
  · go_enter Try.func9, Try.ntmps9
    go_wp2_with fail
    refine (m_end S0.out (i + 1) HI.out t HT.out).mono ?_
    rintro e w1 ⟨A1, c1, rfl, h1⟩
    rw [List.set_cons_succ] at h1
    have S1 := Lib.hid (h1.sub (.cons_cons _ (.cons _ (List.Sublist.refl _))))
    clear h1
    go_wp2
    (try simp only [Exit.inBlock, Exit.then])
    refine bodyPost_ret (results_tmp4 rfl _ _ _) rfl ?_
    exact ⟨_, _, rfl, S1.out⟩
  · go_enter Try.func9, Try.ntmps9
    go_wp2_with fail
    refine (m_leave S0.out (i + 1) HI.out t HT.out).mono ?_
    rintro e w1 ⟨rfl, h1⟩
    rw [List.set_cons_succ] at h1
    have S1 := Lib.hid h1.tail.nil_nums
    clear h1
    go_wp2
    (try simp only [Exit.inBlock, Exit.then])
    refine bodyPost_ret (results_tmp4 rfl _ _ _) rfl ?_
    exact ⟨_, _, rfl, S1.out⟩
  · have HR := Lib.hid (act_no (S := S) (D := D) (W := W) (N := N) (t := t) d0 d1 d2)
    have e0 : (d == 0) = false := by simpa using d0
    have e1 : (d == 1) = false := by simpa using d1
    have e2 : (d == 2) = false := by simpa using d2
    have S1 : Hid (Sep B w (wk.alloc (.cells #[.int .i64 d, .int .i64 t] 32)) (nums (.slice none 0 0) [] :: Rs.set i (ob I.O (.pointer (some pa)) (S, D, W, N)))) := by
      have h1 := S0.out.tail
      have h2 := HI.out
      rw [List.getElem?_cons_succ] at h2
      obtain ⟨hl', he⟩ := List.getElem?_eq_some_iff.1 h2
      rw [← he, List.set_getElem_self]
      exact h1.nil_nums
    clear d0 d1 d2
    go_enter Try.func9, Try.ntmps9
    go_wp2
    (try simp only [Exit.inBlock, Exit.then])
    refine bodyPost_ret (results_tmp4 rfl _ _ _) rfl ?_
    obtain ⟨q0, q1, q2, q3, q4, q5, q6⟩ := HR.out
    rw [q0, q1, q2, q3, q4, q5, q6]
    exact ⟨_, _, rfl, S1.out⟩
end
end Go.Proofs.Ytlepedhfnkamkaa.OnceI
