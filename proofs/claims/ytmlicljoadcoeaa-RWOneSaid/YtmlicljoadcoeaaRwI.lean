/-
  What the laws of layer 9 ask of package rw, as one structure (a lock), and the law's own helpers over it. Conditions: those that each statement names.
-/
import Derived.Test.YtmlicljoadcoeaaRefRwB
import Derived.Test.YtmlicljoadcoeaaSameI
namespace Go.Proofs.Ytmlicljoadcoeaa.Hand
open Go.ChangeShapes Go.WideShapes Go.ChangeAt Go.RowKit Mem
section
variable {P : Program} {S : Type} {O : Ob S} {B : Nat → Prop} {w wk : World} {Rs : List Res} {v : Value} {s s' : S} {f : FuncId} {args : Array Value}
/-- A call that tells a list beside something else, and changes one of them. -/
theorem ob_tellsE (h : Sep B w wk Rs) (i : Nat) (hi : Rs[i]? = some (ob O v s)) {l : List Int} {e0 : Value → Ending} (hc : ∀ F, O.A wk v F s → Calls P f args wk fun e wn => ∃ u, e = e0 u ∧ Tells (ob O v s') F wk wn u l) :
    Calls P f args wk fun e wn => ∃ A c, e = e0 (.slice A l.length c) ∧ Sep B w wn (nums (.slice A l.length c) l :: Rs.set i (ob O v s')) := by
  obtain ⟨F, hR, hn⟩ := h.splice2 i hi
  refine (hc F hR).mono ?_
  rintro e wn ⟨u, rfl, hu⟩
  obtain ⟨A, c, rfl⟩ : ∃ A c, u = .slice A l.length c := by obtain ⟨_, _, _, hr, _⟩ := hu; exact rd_form hr
  exact ⟨A, c, rfl, hn hu.sep⟩
/-- Two lists that were told, in blocks of their own. -/
def Says2 (w w' : World) (u u' : Value) (l l' : List Int) : Prop := Rd w' (fun k => w.heap.size ≤ k) u l ∧ Rd w' (fun k => w.heap.size ≤ k) u' l' ∧ Below w.heap.size w w'
/-- Two lists that were told. -/
def nums2 (v v' : Value) (xs ys : List Int) : Res where
  holds w F := Rd w F v xs ∧ Rd w F v' ys ∧ ∀ k, F k → k < w.heap.size
  keep := fun ⟨h, h', e⟩ hs hk => ⟨h.keep hs hk, h'.keep hs hk, fun k hF => Nat.lt_of_lt_of_le (e k hF) hs⟩
  lt := fun ⟨_, _, e⟩ => e
theorem Sep.rd2 (h : Sep B w wk Rs) (i : Nat) {v v' : Value} {xs ys : List Int} (hi : Rs[i]? = some (nums2 v v' xs ys)) : Rd wk (fun _ => True) v xs ∧ Rd wk (fun _ => True) v' ys := by
  obtain ⟨F, h1, h2, _⟩ := h.get i hi
  exact ⟨h1.mono fun _ _ _ => trivial, h2.mono fun _ _ _ => trivial⟩
theorem ob_told2 (h : Sep B w wk Rs) (i : Nat) (hi : Rs[i]? = some (ob O v s)) {l l' : List Int} (hc : ∀ F, O.A wk v F s → Calls P f args wk fun e wn => ∃ u u', e = .returned (.tuple #[u, u']) ∧ Says2 wk wn u u' l l') :
    Calls P f args wk fun e wn => ∃ A c A' c', e = .returned (.tuple #[.slice A l.length c, .slice A' l'.length c']) ∧ Sep B w wn (nums2 (.slice A l.length c) (.slice A' l'.length c') l l' :: Rs) ∧ Below wk.heap.size wk wn := by
  obtain ⟨F, hR⟩ := h.get i hi
  refine (hc F hR).mono ?_
  rintro e wn ⟨u, u', rfl, hr, hr', hb⟩
  obtain ⟨A, c, rfl⟩ := rd_form hr
  obtain ⟨A', c', rfl⟩ := rd_form hr'
  exact ⟨A, c, A', c', rfl, h.add hb (R := nums2 _ _ l l') (F := fun k => wk.heap.size ≤ k ∧ k < wn.heap.size) ⟨hr.mono fun k hk hg => ⟨hg, hk⟩, hr'.mono fun k hk hg => ⟨hg, hk⟩, fun k hk => hk.2⟩ fun k hk => hk.1, hb⟩
end
end Go.Proofs.Ytmlicljoadcoeaa.Hand
namespace Go.Proofs.Ytmlicljoadcoeaa.RwI
open Go.ChangeShapes Go.WideShapes Go.ChangeAt Go.RowKit Mem MutP RwP Hand RefMut RefRw

/-- A lock for one who writes, or several who read. -/
structure Rw where
  O : Ob St
  ok : ∀ {w v F s}, O.A w v F s → RwP.Ok s
  new_no : ∀ (n : Int) (w : World), In64 n → (n < 1 ∨ 1000 < n) → Calls Try.prog 8 #[.int .i64 n] w fun e w' => e = .returned (.tuple #[.pointer none, .int .i64 1]) ∧ Below w.heap.size w w'
  new_yes : ∀ (n : Int) (w : World), 1 ≤ n → n ≤ 1000 → Calls Try.prog 8 #[.int .i64 n] w fun e w' => ∃ v F, e = .returned (.tuple #[v, .int .i64 0]) ∧ O.A w' v F (newS n) ∧ Below w.heap.size w w' ∧ ∀ k, F k → w.heap.size ≤ k
  rlock : ∀ {w v F s}, O.A w v F s → ∀ t, In64 t → Calls Try.prog 20 #[v, .int .i64 t] w fun e w' => e = .returned (.tuple #[.bool (askB s t false), .int .i64 (askE s t)]) ∧ Stays (ob O v (askS s t false)) F w w'
  lock : ∀ {w v F s}, O.A w v F s → ∀ t, In64 t → Calls Try.prog 21 #[v, .int .i64 t] w fun e w' => e = .returned (.tuple #[.bool (askB s t true), .int .i64 (askE s t)]) ∧ Stays (ob O v (askS s t true)) F w w'
  unlock : ∀ {w v F s}, O.A w v F s → ∀ t, In64 t → Calls Try.prog 22 #[v, .int .i64 t] w fun e w' => ∃ u, e = .returned (.tuple #[u, .int .i64 (relE s t)]) ∧ Tells (ob O v (unlS s t)) F w w' u (relV s t)
  leave : ∀ {w v F s}, O.A w v F s → ∀ t, In64 t → Calls Try.prog 23 #[v, .int .i64 t] w fun e w' => ∃ u, e = .returned (.tuple #[u, .bool (waitsR s t)]) ∧ Tells (ob O v (leaveS s t)) F w w' u (leaveV s t)
  writer : ∀ {w v F s}, O.A w v F s → Calls Try.prog 16 #[v] w fun e w' => e = .returned (.int .i64 s.w) ∧ Below w.heap.size w w'
  readers : ∀ {w v F s}, O.A w v F s → Calls Try.prog 17 #[v] w fun e w' => ∃ u, e = .returned u ∧ Says w w' u s.r
  waiting : ∀ {w v F s}, O.A w v F s → Calls Try.prog 14 #[v] w fun e w' => ∃ u u', e = .returned (.tuple #[u, u']) ∧ Says2 w w' u u' s.p s.q

theorem results_tmp3 {fn : Func} {t u v : Tmp} (h : fn.results = #[.tmp t, .tmp u, .tmp v]) (tmps : Array Value) (P : Program) (w : World) :
    (results fn tmps).run P w = .ok (.tuple #[tmps.getD t undef, tmps.getD u undef, tmps.getD v undef]) w := by
  simp [results, h]

section
variable {I : Rw} {B : Nat → Prop} {w wk : World} {Rs : List Res} {v : Value} {s : St}
theorem m_ok (h : Sep B w wk Rs) (i : Nat) (hi : Rs[i]? = some (ob I.O v s)) : RwP.Ok s := by
  obtain ⟨F, hR⟩ := ob_at h i hi
  exact I.ok hR
theorem m_new (h : Sep B w wk Rs) (I : Rw) (n : Int) (h1 : 1 ≤ n) (h2 : n ≤ 1000) : Calls Try.prog 8 #[.int .i64 n] wk fun e wn => ∃ a, e = .returned (.tuple #[.pointer (some a), .int .i64 0]) ∧ Sep B w wn (ob I.O (.pointer (some a)) (newS n) :: Rs) :=
  ob_new h (e0 := fun v => .returned (.tuple #[v, .int .i64 0])) (I.new_yes n wk h1 h2)
theorem m_writer (h : Sep B w wk Rs) (i : Nat) (hi : Rs[i]? = some (ob I.O v s)) : Calls Try.prog 16 #[v] wk fun e wn => e = .returned (.int .i64 s.w) ∧ Sep B w wn Rs ∧ Below wk.heap.size wk wn :=
  ob_still h i hi fun _ hA => I.writer hA
theorem m_readers (h : Sep B w wk Rs) (i : Nat) (hi : Rs[i]? = some (ob I.O v s)) : Calls Try.prog 17 #[v] wk fun e wn => ∃ A c, e = .returned (.slice A s.r.length c) ∧ Sep B w wn (nums (.slice A s.r.length c) s.r :: Rs) ∧ Below wk.heap.size wk wn :=
  ob_told h i hi fun _ hA => I.readers hA
theorem m_waiting (h : Sep B w wk Rs) (i : Nat) (hi : Rs[i]? = some (ob I.O v s)) : Calls Try.prog 14 #[v] wk fun e wn => ∃ A c A' c', e = .returned (.tuple #[.slice A s.p.length c, .slice A' s.q.length c']) ∧ Sep B w wn (nums2 (.slice A s.p.length c) (.slice A' s.q.length c') s.p s.q :: Rs) ∧ Below wk.heap.size wk wn :=
  ob_told2 h i hi fun _ hA => I.waiting hA
theorem m_rlock (h : Sep B w wk Rs) (i : Nat) (hi : Rs[i]? = some (ob I.O v s)) (t : Int) (h1 : In64 t) {b : Bool} {E : Int} {s' : St} (hb : askB s t false = b) (hE : askE s t = E) (hs : askS s t false = s') :
    Calls Try.prog 20 #[v, .int .i64 t] wk fun e wn => e = .returned (.tuple #[.bool b, .int .i64 E]) ∧ Sep B w wn (Rs.set i (ob I.O v s')) := by subst hb hE hs; exact ob_to h i hi fun _ hA => I.rlock hA t h1
theorem m_lock (h : Sep B w wk Rs) (i : Nat) (hi : Rs[i]? = some (ob I.O v s)) (t : Int) (h1 : In64 t) {b : Bool} {E : Int} {s' : St} (hb : askB s t true = b) (hE : askE s t = E) (hs : askS s t true = s') :
    Calls Try.prog 21 #[v, .int .i64 t] wk fun e wn => e = .returned (.tuple #[.bool b, .int .i64 E]) ∧ Sep B w wn (Rs.set i (ob I.O v s')) := by subst hb hE hs; exact ob_to h i hi fun _ hA => I.lock hA t h1
theorem m_unlock (h : Sep B w wk Rs) (i : Nat) (hi : Rs[i]? = some (ob I.O v s)) (t : Int) (h1 : In64 t) {l : List Int} {E : Int} {s' : St} (hl : relV s t = l) (hE : relE s t = E) (hs : unlS s t = s') :
    Calls Try.prog 22 #[v, .int .i64 t] wk fun e wn => ∃ A c, e = .returned (.tuple #[.slice A l.length c, .int .i64 E]) ∧ Sep B w wn (nums (.slice A l.length c) l :: Rs.set i (ob I.O v s')) := by
  subst hl hE hs
  exact ob_tellsE h i hi (e0 := fun u => .returned (.tuple #[u, .int .i64 (relE s t)])) fun _ hA => I.unlock hA t h1
theorem m_leave (h : Sep B w wk Rs) (i : Nat) (hi : Rs[i]? = some (ob I.O v s)) (t : Int) (h1 : In64 t) {l : List Int} {b : Bool} {s' : St} (hl : leaveV s t = l) (hb : waitsR s t = b) (hs : leaveS s t = s') :
    Calls Try.prog 23 #[v, .int .i64 t] wk fun e wn => ∃ A c, e = .returned (.tuple #[.slice A l.length c, .bool b]) ∧ Sep B w wn (nums (.slice A l.length c) l :: Rs.set i (ob I.O v s')) := by
  subst hl hb hs
  exact ob_tellsE h i hi (e0 := fun u => .returned (.tuple #[u, .bool (waitsR s t)])) fun _ hA => I.leave hA t h1

set_option maxRecDepth 100000 in
/-- do(l, a): the act. -/
theorem m_do (h : Sep B w wk Rs) (i : Nat) (hi : Rs[i]? = some (ob I.O v s)) (d t : Int) (ht : In64 t) :
    Calls Try.prog 10 #[v, .agg #[.int .i64 d, .int .i64 t]] wk fun e wn => ∃ A c, e = .returned (.tuple #[.slice A (actV s d t).length c, .bool (actB s d t), .int .i64 (actE s d t)]) ∧ Sep B w wn (nums (.slice A (actV s d t).length c) (actV s d t) :: Rs.set i (ob I.O v (actS s d t))) := by
  obtain ⟨pa, rfl⟩ := ob_ptr h i hi
  have S0 := Lib.hid (h.new (.cells #[.int .i64 d, .int .i64 t] 32))
  have HI : Hid ((blk wk.heap.size (.cells #[.int .i64 d, .int .i64 t] 32) :: Rs)[i + 1]? = some (ob I.O (.pointer (some pa)) s)) := by show _ = _; rw [List.getElem?_cons_succ]; exact hi
  have HI0 := Lib.hid hi
  have HT := Lib.hid ht
  clear h hi ht
  rcases (by omega : d = 0 ∨ d = 1 ∨ d = 2 ∨ d = 3 ∨ (d ≠ 0 ∧ d ≠ 1 ∧ d ≠ 2 ∧ d ≠ 3)) with rfl | rfl | rfl | rfl | ⟨d0, d1, d2, d3⟩
  · go_enter Try.func10, Try.ntmps10
    go_wp2_with fail
    refine (m_rlock S0.out (i + 1) HI.out t HT.out rfl rfl rfl).mono ?_
    rintro e w1 ⟨rfl, h1⟩
    rw [List.set_cons_succ] at h1
    have S1 := Lib.hid h1.tail.nil_nums
    clear h1
    go_wp2
    (try simp only [Exit.inBlock, Exit.then])
    refine bodyPost_ret (results_tmp3 rfl _ _ _) rfl ?_
    exact ⟨_, _, rfl, S1.out⟩
  · go_enter Try.func10, Try.ntmps10
    go_wp2_with fail
    refine (m_lock S0.out (i + 1) HI.out t HT.out rfl rfl rfl).mono ?_
    rintro e w1 ⟨rfl, h1⟩
    rw [List.set_cons_succ] at h1
    have S1 := Lib.hid h1.tail.nil_nums
    clear h1
    go_wp2
    (try simp only [Exit.inBlock, Exit.then])
    refine bodyPost_ret (results_tmp3 rfl _ _ _) rfl ?_
    exact ⟨_, _, rfl, S1.out⟩
  · go_enter Try.func10, Try.ntmps10
    go_wp2_with fail
    refine (m_unlock S0.out (i + 1) HI.out t HT.out rfl rfl rfl).mono ?_
    rintro e w1 ⟨A1, c1, rfl, h1⟩
    rw [List.set_cons_succ] at h1
    have S1 := Lib.hid (h1.sub (.cons_cons _ (.cons _ (List.Sublist.refl _))))
    clear h1
    go_wp2
    (try simp only [Exit.inBlock, Exit.then])
    refine bodyPost_ret (results_tmp3 rfl _ _ _) rfl ?_
    exact ⟨_, _, rfl, S1.out⟩
  · go_enter Try.func10, Try.ntmps10
    go_wp2_with fail
    refine (m_leave S0.out (i + 1) HI.out t HT.out rfl rfl rfl).mono ?_
    rintro e w1 ⟨A1, c1, rfl, h1⟩
    rw [List.set_cons_succ] at h1
    have S1 := Lib.hid (h1.sub (.cons_cons _ (.cons _ (List.Sublist.refl _))))
    clear h1
    go_wp2
    (try simp only [Exit.inBlock, Exit.then])
    refine bodyPost_ret (results_tmp3 rfl _ _ _) rfl ?_
    exact ⟨_, _, rfl, S1.out⟩
  · have HR : Hid (actV s d t = [] ∧ actB s d t = false ∧ actE s d t = 0 ∧ actS s d t = s) := by
      have d01 : ¬ (d = 0 ∨ d = 1) := by omega
      show _ ∧ _
      unfold actV actB actE actS
      rw [if_neg d2, if_neg d3, if_neg d0, if_neg d1, if_neg d3, if_neg d01, if_neg d2, if_neg d0, if_neg d1, if_neg d2, if_neg d3]
      exact ⟨rfl, rfl, rfl, rfl⟩
    have e0 : (d == 0) = false := by simpa using d0
    have e1 : (d == 1) = false := by simpa using d1
    have e2 : (d == 2) = false := by simpa using d2
    have e3 : (d == 3) = false := by simpa using d3
    have S1 : Hid (Sep B w (wk.alloc (.cells #[.int .i64 d, .int .i64 t] 32)) (Rs.set i (ob I.O (.pointer (some pa)) s))) := by
      have h1 := S0.out.tail
      obtain ⟨hl', he⟩ := List.getElem?_eq_some_iff.1 HI0.out
      rw [← he, List.set_getElem_self]
      exact h1
    clear d0 d1 d2 d3
    go_enter Try.func10, Try.ntmps10
    go_wp2
    (try simp only [Exit.inBlock, Exit.then])
    refine bodyPost_ret (results_tmp3 rfl _ _ _) rfl ?_
    obtain ⟨q0, q1, q2, q3⟩ := HR.out
    rw [q0, q1, q2, q3]
    exact ⟨_, _, rfl, S1.out.nil_nums⟩
end
end Go.Proofs.Ytmlicljoadcoeaa.RwI
