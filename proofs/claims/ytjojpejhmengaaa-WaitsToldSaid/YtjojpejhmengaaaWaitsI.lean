/-
  What the laws of layer 12 ask of package waits, as one structure (a group that is waited for), and the law's own helpers over it. Conditions: those that each statement names.
-/
import Derived.Test.YtjojpejhmengaaaRefWaits
import Derived.Test.YtjojpejhmengaaaSameI
namespace Go.Proofs.Ytjojpejhmengaaa.WaitsI
open Go.ChangeShapes Go.WideShapes Go.ChangeAt Go.RowKit Mem MutP WaitsP Hand RefMut RefWaits

/-- A group: its count, who waits, how many tasks there may be. -/
abbrev St := Int × List Int × Int
structure Wg where
  O : Ob St
  ok : ∀ {w v F s}, O.A w v F s → WaitsP.Ok s.1 s.2.1 s.2.2
  new_no : ∀ (n : Int) (w : World), In64 n → (n < 1 ∨ 1000 < n) → Calls Try.prog 7 #[.int .i64 n] w fun e w' => e = .returned (.tuple #[.pointer none, .int .i64 1]) ∧ Below w.heap.size w w'
  new_yes : ∀ (n : Int) (w : World), 1 ≤ n → n ≤ 1000 → Calls Try.prog 7 #[.int .i64 n] w fun e w' => ∃ v F, e = .returned (.tuple #[v, .int .i64 0]) ∧ O.A w' v F (0, [], n) ∧ Below w.heap.size w w' ∧ ∀ k, F k → w.heap.size ≤ k
  add : ∀ {w v F C W N}, O.A w v F (C, W, N) → ∀ n, In64 n → Calls Try.prog 19 #[v, .int .i64 n] w fun e w' => ∃ u, e = .returned (.tuple #[u, .int .i64 (addE C n)]) ∧ Tells (ob O v (addC C n, addW C W n, N)) F w w' u (addL C W n)
  dec : ∀ {w v F C W N}, O.A w v F (C, W, N) → Calls Try.prog 21 #[v] w fun e w' => ∃ u, e = .returned (.tuple #[u, .int .i64 (addE C (-1))]) ∧ Tells (ob O v (addC C (-1), addW C W (-1), N)) F w w' u (addL C W (-1))
  wait : ∀ {w v F C W N}, O.A w v F (C, W, N) → ∀ t, In64 t → Calls Try.prog 18 #[v, .int .i64 t] w fun e w' => e = .returned (.tuple #[.bool (wtB C W N t), .int .i64 (wtE W N t)]) ∧ Stays (ob O v (C, wtW C W N t, N)) F w w'
  leave : ∀ {w v F C W N}, O.A w v F (C, W, N) → ∀ t, In64 t → Calls Try.prog 20 #[v, .int .i64 t] w fun e w' => e = .returned (.bool (inL W t)) ∧ Stays (ob O v (C, withoutL W t, N)) F w w'
  count : ∀ {w v F C W N}, O.A w v F (C, W, N) → Calls Try.prog 14 #[v] w fun e w' => e = .returned (.int .i64 C) ∧ Below w.heap.size w w'
  waiting : ∀ {w v F C W N}, O.A w v F (C, W, N) → Calls Try.prog 15 #[v] w fun e w' => ∃ u, e = .returned u ∧ Says w w' u W

theorem results_tmp3 {fn : Func} {t u v : Tmp} (h : fn.results = #[.tmp t, .tmp u, .tmp v]) (tmps : Array Value) (P : Program) (w : World) :
    (results fn tmps).run P w = .ok (.tuple #[tmps.getD t undef, tmps.getD u undef, tmps.getD v undef]) w := by
  simp [results, h]
theorem ob_tellsE {P : Program} {S : Type} {O : Ob S} {B : Nat → Prop} {w wk : World} {Rs : List Res} {v : Value} {s s' : S} {f : FuncId} {args : Array Value} (h : Sep B w wk Rs) (i : Nat) (hi : Rs[i]? = some (ob O v s)) {l : List Int} {e0 : Value → Ending} (hc : ∀ F, O.A wk v F s → Calls P f args wk fun e wn => ∃ u, e = e0 u ∧ Tells (ob O v s') F wk wn u l) :
    Calls P f args wk fun e wn => ∃ A c, e = e0 (.slice A l.length c) ∧ Sep B w wn (nums (.slice A l.length c) l :: Rs.set i (ob O v s')) := by
  obtain ⟨F, hR, hn⟩ := h.splice2 i hi
  refine (hc F hR).mono ?_
  rintro e wn ⟨u, rfl, hu⟩
  obtain ⟨A, c, rfl⟩ : ∃ A c, u = .slice A l.length c := by obtain ⟨_, _, _, hr, _⟩ := hu; exact rd_form hr
  exact ⟨A, c, rfl, hn hu.sep⟩

/-- What an act answers, and the group behind it. -/
def actL (C : Int) (W : List Int) (d k : Int) : List Int := if d = 0 then addL C W k else if d = 1 then addL C W (-1) else []
def actB (C : Int) (W : List Int) (N d t : Int) : Bool := if d = 2 then wtB C W N t else if d = 3 then inL W t else false
def actE (C : Int) (W : List Int) (N d t k : Int) : Int := if d = 0 then addE C k else if d = 1 then addE C (-1) else if d = 2 then wtE W N t else 0
def actC (C d k : Int) : Int := if d = 0 then addC C k else if d = 1 then addC C (-1) else C
def actW (C : Int) (W : List Int) (N d t k : Int) : List Int := if d = 0 then addW C W k else if d = 1 then addW C W (-1) else if d = 2 then wtW C W N t else if d = 3 then withoutL W t else W
theorem act_no {C : Int} {W : List Int} {N d t k : Int} (d0 : d ≠ 0) (d1 : d ≠ 1) (d2 : d ≠ 2) (d3 : d ≠ 3) : actL C W d k = [] ∧ actB C W N d t = false ∧ actE C W N d t k = 0 ∧ actC C d k = C ∧ actW C W N d t k = W := by
  unfold actL actB actE actC actW
  simp only [if_neg d0, if_neg d1, if_neg d2, if_neg d3, and_self]

section
variable {I : Wg} {B : Nat → Prop} {w wk : World} {Rs : List Res} {v : Value} {C : Int} {W : List Int} {N : Int}
theorem m_ok (h : Sep B w wk Rs) (i : Nat) (hi : Rs[i]? = some (ob I.O v (C, W, N))) : WaitsP.Ok C W N := by
  obtain ⟨F, hR⟩ := ob_at h i hi
  exact I.ok hR
theorem m_new (h : Sep B w wk Rs) (I : Wg) (n : Int) (h1 : 1 ≤ n) (h2 : n ≤ 1000) : Calls Try.prog 7 #[.int .i64 n] wk fun e wn => ∃ a, e = .returned (.tuple #[.pointer (some a), .int .i64 0]) ∧ Sep B w wn (ob I.O (.pointer (some a)) (0, [], n) :: Rs) :=
  ob_new h (e0 := fun v => .returned (.tuple #[v, .int .i64 0])) (I.new_yes n wk h1 h2)
theorem m_count (h : Sep B w wk Rs) (i : Nat) (hi : Rs[i]? = some (ob I.O v (C, W, N))) : Calls Try.prog 14 #[v] wk fun e wn => e = .returned (.int .i64 C) ∧ Sep B w wn Rs ∧ Below wk.heap.size wk wn :=
  ob_still h i hi fun _ hA => I.count hA
theorem m_waiting (h : Sep B w wk Rs) (i : Nat) (hi : Rs[i]? = some (ob I.O v (C, W, N))) : Calls Try.prog 15 #[v] wk fun e wn => ∃ A c, e = .returned (.slice A W.length c) ∧ Sep B w wn (nums (.slice A W.length c) W :: Rs) ∧ Below wk.heap.size wk wn :=
  ob_told h i hi fun _ hA => I.waiting hA
theorem m_add (h : Sep B w wk Rs) (i : Nat) (hi : Rs[i]? = some (ob I.O v (C, W, N))) (n : Int) (hn : In64 n) : Calls Try.prog 19 #[v, .int .i64 n] wk fun e wn => ∃ A c, e = .returned (.tuple #[.slice A (addL C W n).length c, .int .i64 (addE C n)]) ∧ Sep B w wn (nums (.slice A (addL C W n).length c) (addL C W n) :: Rs.set i (ob I.O v (addC C n, addW C W n, N))) :=
  ob_tellsE h i hi (e0 := fun u => .returned (.tuple #[u, .int .i64 (addE C n)])) fun _ hA => I.add hA n hn
theorem m_dec (h : Sep B w wk Rs) (i : Nat) (hi : Rs[i]? = some (ob I.O v (C, W, N))) : Calls Try.prog 21 #[v] wk fun e wn => ∃ A c, e = .returned (.tuple #[.slice A (addL C W (-1)).length c, .int .i64 (addE C (-1))]) ∧ Sep B w wn (nums (.slice A (addL C W (-1)).length c) (addL C W (-1)) :: Rs.set i (ob I.O v (addC C (-1), addW C W (-1), N))) :=
  ob_tellsE h i hi (e0 := fun u => .returned (.tuple #[u, .int .i64 (addE C (-1))])) fun _ hA => I.dec hA
theorem m_wait (h : Sep B w wk Rs) (i : Nat) (hi : Rs[i]? = some (ob I.O v (C, W, N))) (t : Int) (ht : In64 t) : Calls Try.prog 18 #[v, .int .i64 t] wk fun e wn => e = .returned (.tuple #[.bool (wtB C W N t), .int .i64 (wtE W N t)]) ∧ Sep B w wn (Rs.set i (ob I.O v (C, wtW C W N t, N))) :=
  ob_to h i hi fun _ hA => I.wait hA t ht
theorem m_leave (h : Sep B w wk Rs) (i : Nat) (hi : Rs[i]? = some (ob I.O v (C, W, N))) (t : Int) (ht : In64 t) : Calls Try.prog 20 #[v, .int .i64 t] wk fun e wn => e = .returned (.bool (inL W t)) ∧ Sep B w wn (Rs.set i (ob I.O v (C, withoutL W t, N))) :=
  ob_to h i hi fun _ hA => I.leave hA t ht

set_option maxRecDepth 100000 in
/-- do(g, a): the act. -/
theorem m_do (h : Sep B w wk Rs) (i : Nat) (hi : Rs[i]? = some (ob I.O v (C, W, N))) (d t k : Int) (ht : In64 t) (hk : In64 k) :
    Calls Try.prog 9 #[v, .agg #[.int .i64 d, .int .i64 t, .int .i64 k]] wk fun e wn => ∃ A c, e = .returned (.tuple #[.slice A (actL C W d k).length c, .bool (actB C W N d t), .int .i64 (actE C W N d t k)]) ∧ Sep B w wn (nums (.slice A (actL C W d k).length c) (actL C W d k) :: Rs.set i (ob I.O v (actC C d k, actW C W N d t k, N))) := by
  obtain ⟨pa, rfl⟩ := ob_ptr h i hi
  have S0 := Lib.hid (h.new (.cells #[.int .i64 d, .int .i64 t, .int .i64 k] 32))
  have HI : Hid ((blk wk.heap.size (.cells #[.int .i64 d, .int .i64 t, .int .i64 k] 32) :: Rs)[i + 1]? = some (ob I.O (.pointer (some pa)) (C, W, N))) := by show _ = _; rw [List.getElem?_cons_succ]; exact hi
  have HT := Lib.hid ht
  have HK := Lib.hid hk
  clear h hi ht hk
  rcases (by omega : d = 0 ∨ d = 1 ∨ d = 2 ∨ d = 3 ∨ (d ≠ 0 ∧ d ≠ 1 ∧ d ≠ 2 ∧ d ≠ 3)) with rfl | rfl | rfl | rfl | ⟨d0, d1, d2, d3⟩
  · go_enter Try.func9, Try.ntmps9
    go_wp2_with fail
    refine (m_add S0.out (i + 1) HI.out k HK.out).mono ?_
    rintro e w1 ⟨A1, c1, rfl, h1⟩
    rw [List.set_cons_succ] at h1
    have S1 := Lib.hid (h1.sub (.cons_cons _ (.cons _ (List.Sublist.refl _))))
    clear h1
    go_wp2
    (try simp only [Exit.inBlock, Exit.then])
    refine bodyPost_ret (results_tmp3 rfl _ _ _) rfl ?_
    exact ⟨_, _, rfl, S1.out⟩
  · go_enter Try.func9, Try.ntmps9
    go_wp2_with fail
    refine (m_dec S0.out (i + 1) HI.out).mono ?_
    rintro e w1 ⟨A1, c1, rfl, h1⟩
    rw [List.set_cons_succ] at h1
    have S1 := Lib.hid (h1.sub (.cons_cons _ (.cons _ (List.Sublist.refl _))))
    clear h1
    go_wp2
    (try simp only [Exit.inBlock, Exit.then])
    refine bodyPost_ret (results_tmp3 rfl _ _ _) rfl ?_
    exact ⟨_, _, rfl, S1.out⟩
  · go_enter Try.func9, Try.ntmps9
    go_wp2_with fail
    refine (m_wait S0.out (i + 1) HI.out t HT.out).mono ?_
    rintro e w1 ⟨rfl, h1⟩
    rw [List.set_cons_succ] at h1
    have S1 := Lib.hid h1.tail.nil_nums
    clear h1
    go_wp2
    (try simp only [Exit.inBlock, Exit.then])
    refine bodyPost_ret (results_tmp3 rfl _ _ _) rfl ?_
    exact ⟨_, _, rfl, S1.out⟩
  · go_enter Try.func9, Try.ntmps9
    go_wp2_with fail
    refine (m_leave S0.out (i + 1) HI.out t HT.out).mono ?_
    rintro e w1 ⟨rfl, h1⟩
    rw [List.set_cons_succ] at h1
    have S1 := Lib.hid h1.tail.nil_nums
    clear h1
    go_wp2
    (try simp only [Exit.inBlock, Exit.then])
    refine bodyPost_ret (results_tmp3 rfl _ _ _) rfl ?_
    exact ⟨_, _, rfl, S1.out⟩
  · have HR := Lib.hid (act_no (C := C) (W := W) (N := N) (t := t) (k := k) d0 d1 d2 d3)
    have e0 : (d == 0) = false := by simpa using d0
    have e1 : (d == 1) = false := by simpa using d1
    have e2 : (d == 2) = false := by simpa using d2
    have e3 : (d == 3) = false := by simpa using d3
    have S1 : Hid (Sep B w (wk.alloc (.cells #[.int .i64 d, .int .i64 t, .int .i64 k] 32)) (nums (.slice none 0 0) [] :: Rs.set i (ob I.O (.pointer (some pa)) (C, W, N)))) := by
      have h1 := S0.out.tail
      have h2 := HI.out
      rw [List.getElem?_cons_succ] at h2
      obtain ⟨hl', he⟩ := List.getElem?_eq_some_iff.1 h2
      rw [← he, List.set_getElem_self]
      exact h1.nil_nums
    clear d0 d1 d2 d3
    go_enter Try.func9, Try.ntmps9
    go_wp2
    (try simp only [Exit.inBlock, Exit.then])
    refine bodyPost_ret (results_tmp3 rfl _ _ _) rfl ?_
    obtain ⟨q0, q1, q2, q3, q4⟩ := HR.out
    rw [q0, q1, q2, q3, q4]
    exact ⟨_, _, rfl, S1.out⟩
end
end Go.Proofs.Ytjojpejhmengaaa.WaitsI
