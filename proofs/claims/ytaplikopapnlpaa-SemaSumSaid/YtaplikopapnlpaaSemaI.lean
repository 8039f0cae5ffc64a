/-
  What the laws of layer 13 ask of package sema, as one structure (a semaphore), and the law's own helpers over it. Conditions: those that each statement names.
-/
import Derived.Test.YtaplikopapnlpaaRefSemaD
import Derived.Test.YtaplikopapnlpaaSameI
namespace Go.Proofs.Ytaplikopapnlpaa.Hand
open Go.ChangeShapes Go.WideShapes Go.ChangeAt Go.RowKit Mem
section
variable {P : Program} {S : Type} {O : Ob S} {B : Nat → Prop} {w wk : World} {Rs : List Res} {v : Value} {s s' : S} {f : FuncId} {args : Array Value}
/-- A call that tells a list beside something else, and changes one of them. -/
theorem ob_tellsE (h : Sep B w wk Rs) (i : Nat) (hi : Rs[i]? = some (ob O v s)) {l : List Int} {e0 : Value → Ending} (hc : ∀ F, O.A wk v F s → Calls P f args wk fun e wn => ∃ u, e = e0 u ∧ Tells (ob O v s') F wk wn u l) :
    Calls P f args wk fun e wn => ∃ A c, e = e0 (.slice A l.length c) ∧ Sep B w wn (nums (.slice A l.length c) l :: Rs.set i (ob O v s')) := by
  obtain ⟨F, hR, hn⟩ := h.splice2 i hi
  refine (hc F hR).mono ?_
  rintro e wn ⟨u, rfl, hu⟩
  obtain ⟨A, c, rfl⟩ : ∃ A c, u = .slice A l.length c := by obtain ⟨_, _, _, hr, _⟩ := hu; exact rd_form hr
  exact ⟨A, c, rfl, hn hu.sep⟩
/-- Two lists that were told, in blocks of their own. -/
def Says2 (w w' : World) (u u' : Value) (l l' : List Int) : Prop := Rd w' (fun k => w.heap.size ≤ k) u l ∧ Rd w' (fun k => w.heap.size ≤ k) u' l' ∧ Below w.heap.size w w'
/-- Two lists that were told. -/
def nums2 (v v' : Value) (xs ys : List Int) : Res where
  holds w F := Rd w F v xs ∧ Rd w F v' ys ∧ ∀ k, F k → k < w.heap.size
  keep := fun ⟨h, h', e⟩ hs hk => ⟨h.keep hs hk, h'.keep hs hk, fun k hF => Nat.lt_of_lt_of_le (e k hF) hs⟩
  lt := fun ⟨_, _, e⟩ => e
theorem Sep.rd2 (h : Sep B w wk Rs) (i : Nat) {v v' : Value} {xs ys : List Int} (hi : Rs[i]? = some (nums2 v v' xs ys)) : Rd wk (fun _ => True) v xs ∧ Rd wk (fun _ => True) v' ys := by
  obtain ⟨F, h1, h2, _⟩ := h.get i hi
  exact ⟨h1.mono fun _ _ _ => trivial, h2.mono fun _ _ _ => trivial⟩
theorem ob_told2 (h : Sep B w wk Rs) (i : Nat) (hi : Rs[i]? = some (ob O v s)) {l l' : List Int} (hc : ∀ F, O.A wk v F s → Calls P f args wk fun e wn => ∃ u u', e = .returned (.tuple #[u, u']) ∧ Says2 wk wn u u' l l') :
    Calls P f args wk fun e wn => ∃ A c A' c', e = .returned (.tuple #[.slice A l.length c, .slice A' l'.length c']) ∧ Sep B w wn (nums2 (.slice A l.length c) (.slice A' l'.length c') l l' :: Rs) ∧ Below wk.heap.size wk wn := by
  obtain ⟨F, hR⟩ := h.get i hi
  refine (hc F hR).mono ?_
  rintro e wn ⟨u, u', rfl, hr, hr', hb⟩
  obtain ⟨A, c, rfl⟩ := rd_form hr
  obtain ⟨A', c', rfl⟩ := rd_form hr'
  exact ⟨A, c, A', c', rfl, h.add hb (R := nums2 _ _ l l') (F := fun k => wk.heap.size ≤ k ∧ k < wn.heap.size) ⟨hr.mono fun k hk hg => ⟨hg, hk⟩, hr'.mono fun k hk hg => ⟨hg, hk⟩, fun k hk => hk.2⟩ fun k hk => hk.1, hb⟩
end
end Go.Proofs.Ytaplikopapnlpaa.Hand
namespace Go.Proofs.Ytaplikopapnlpaa.SemaI
open Go.ChangeShapes Go.WideShapes Go.ChangeAt Go.RowKit Mem MutP SemaP Hand RefMut RefSema FitsC

/-- A semaphore. -/
structure Sg where
  O : Ob St
  ok : ∀ {w v F s}, O.A w v F s → Fine s
  new_no : ∀ (n c : Int) (w : World), In64 n → In64 c → (n < 1 ∨ 1000 < n ∨ c < 0) → Calls Try.prog 8 #[.int .i64 n, .int .i64 c] w fun e w' => e = .returned (.tuple #[.pointer none, .int .i64 1]) ∧ Below w.heap.size w w'
  new_yes : ∀ (n c : Int) (w : World), 1 ≤ n → n ≤ 1000 → 0 ≤ c → c ≤ 9223372036854775807 → Calls Try.prog 8 #[.int .i64 n, .int .i64 c] w fun e w' => ∃ v F, e = .returned (.tuple #[v, .int .i64 0]) ∧ O.A w' v F (newS c n) ∧ Below w.heap.size w w' ∧ ∀ k, F k → w.heap.size ≤ k
  acquire : ∀ {w v F s}, O.A w v F s → ∀ t n, In64 t → In64 n → Calls Try.prog 22 #[v, .int .i64 t, .int .i64 n] w fun e w' => e = .returned (.tuple #[.bool (askB s t n), .int .i64 (askE s t n)]) ∧ Stays (ob O v (askS s t n true)) F w w'
  tries : ∀ {w v F s}, O.A w v F s → ∀ t n, In64 t → In64 n → Calls Try.prog 23 #[v, .int .i64 t, .int .i64 n] w fun e w' => e = .returned (.tuple #[.bool (askB s t n), .int .i64 (askE s t n)]) ∧ Stays (ob O v (askS s t n false)) F w w'
  release : ∀ {w v F s}, O.A w v F s → ∀ n, In64 n → Calls Try.prog 24 #[v, .int .i64 n] w fun e w' => ∃ u, e = .returned (.tuple #[u, .int .i64 (relE s n)]) ∧ Tells (ob O v (relS s n)) F w w' u (relL s n)
  leave : ∀ {w v F s}, O.A w v F s → ∀ t, In64 t → Calls Try.prog 25 #[v, .int .i64 t] w fun e w' => ∃ u, e = .returned (.tuple #[u, .bool (SemaP.waitsB s t)]) ∧ Tells (ob O v (lvS s t)) F w w' u (lvL s t)
  held : ∀ {w v F s}, O.A w v F s → Calls Try.prog 16 #[v] w fun e w' => e = .returned (.int .i64 s.H) ∧ Below w.heap.size w w'
  cap : ∀ {w v F s}, O.A w v F s → Calls Try.prog 17 #[v] w fun e w' => e = .returned (.int .i64 s.C) ∧ Below w.heap.size w w'
  waiting : ∀ {w v F s}, O.A w v F s → Calls Try.prog 14 #[v] w fun e w' => ∃ u u', e = .returned (.tuple #[u, u']) ∧ Says2 w w' u u' s.W s.D
  wants : ∀ {w v F s}, O.A w v F s → ∀ t, In64 t → Calls Try.prog 18 #[v, .int .i64 t] w fun e w' => e = .returned (.tuple #[.int .i64 (wantN s t), .bool (SemaP.waitsB s t)]) ∧ Below w.heap.size w w'

theorem results_tmp3 {fn : Func} {t u v : Tmp} (h : fn.results = #[.tmp t, .tmp u, .tmp v]) (tmps : Array Value) (P : Program) (w : World) :
    (results fn tmps).run P w = .ok (.tuple #[tmps.getD t undef, tmps.getD u undef, tmps.getD v undef]) w := by
  simp [results, h]

/-- What an act answers, and the semaphore behind it. -/
def actL (s : St) (d t k : Int) : List Int := if d = 2 then relL s k else if d = 3 then lvL s t else []
def actB (s : St) (d t k : Int) : Bool := if d = 0 then askB s t k else if d = 1 then askB s t k else if d = 3 then SemaP.waitsB s t else false
def actE (s : St) (d t k : Int) : Int := if d = 0 then askE s t k else if d = 1 then askE s t k else if d = 2 then relE s k else 0
def actS (s : St) (d t k : Int) : St := if d = 0 then askS s t k true else if d = 1 then askS s t k false else if d = 2 then relS s k else if d = 3 then lvS s t else s
theorem act_no {s : St} {d t k : Int} (d0 : d ≠ 0) (d1 : d ≠ 1) (d2 : d ≠ 2) (d3 : d ≠ 3) : actL s d t k = [] ∧ actB s d t k = false ∧ actE s d t k = 0 ∧ actS s d t k = s := by
  unfold actL actB actE actS
  simp only [if_neg d0, if_neg d1, if_neg d2, if_neg d3, and_self]
theorem actL_len {s : St} (h : Fine s) (d t k : Int) : (actL s d t k).length ≤ 1000 := by
  have hl := h.1.len
  unfold actL
  split
  · exact Nat.le_trans (rel_len k) (by omega)
  · split
    · exact Nat.le_trans (lv_len t) (by omega)
    · simp

/-- Wants(t), of the reference. -/
theorem wants_s {B : Nat → Prop} {w wk : World} {Rs : List Res} {p : Nat} {s : St} (h : Sep B w wk (rg p s :: Rs)) (t : Int) :
    Calls Try.prog 19 #[.pointer (some ⟨p, 0, none⟩), .int .i64 t] wk fun e wn => e = .returned (.tuple #[.int .i64 (wantN s t), .bool (SemaP.waitsB s t)]) ∧ wk = wn := by
  obtain ⟨A1, c1, A2, c2, A3, c3, A4, c4, hs, hok, _, _⟩ := rg_open h
  exact wants_o hs t hok.1.len

section
variable {I : Sg} {B : Nat → Prop} {w wk : World} {Rs : List Res} {v : Value} {s : St}
theorem m_ok (h : Sep B w wk Rs) (i : Nat) (hi : Rs[i]? = some (ob I.O v s)) : Fine s := by
  obtain ⟨F, hR⟩ := ob_at h i hi
  exact I.ok hR
theorem m_new (h : Sep B w wk Rs) (I : Sg) (n c : Int) (h1 : 1 ≤ n) (h2 : n ≤ 1000) (h3 : 0 ≤ c) (h4 : c ≤ 9223372036854775807) : Calls Try.prog 8 #[.int .i64 n, .int .i64 c] wk fun e wn => ∃ a, e = .returned (.tuple #[.pointer (some a), .int .i64 0]) ∧ Sep B w wn (ob I.O (.pointer (some a)) (newS c n) :: Rs) :=
  ob_new h (e0 := fun v => .returned (.tuple #[v, .int .i64 0])) (I.new_yes n c wk h1 h2 h3 h4)
theorem m_held (h : Sep B w wk Rs) (i : Nat) (hi : Rs[i]? = some (ob I.O v s)) : Calls Try.prog 16 #[v] wk fun e wn => e = .returned (.int .i64 s.H) ∧ Sep B w wn Rs ∧ Below wk.heap.size wk wn :=
  ob_still h i hi fun _ hA => I.held hA
theorem m_cap (h : Sep B w wk Rs) (i : Nat) (hi : Rs[i]? = some (ob I.O v s)) : Calls Try.prog 17 #[v] wk fun e wn => e = .returned (.int .i64 s.C) ∧ Sep B w wn Rs ∧ Below wk.heap.size wk wn :=
  ob_still h i hi fun _ hA => I.cap hA
theorem m_waiting (h : Sep B w wk Rs) (i : Nat) (hi : Rs[i]? = some (ob I.O v s)) : Calls Try.prog 14 #[v] wk fun e wn => ∃ A c A' c', e = .returned (.tuple #[.slice A s.W.length c, .slice A' s.D.length c']) ∧ Sep B w wn (nums2 (.slice A s.W.length c) (.slice A' s.D.length c') s.W s.D :: Rs) ∧ Below wk.heap.size wk wn :=
  ob_told2 h i hi fun _ hA => I.waiting hA
theorem m_wants (h : Sep B w wk Rs) (i : Nat) (hi : Rs[i]? = some (ob I.O v s)) (t : Int) (ht : In64 t) : Calls Try.prog 18 #[v, .int .i64 t] wk fun e wn => e = .returned (.tuple #[.int .i64 (wantN s t), .bool (SemaP.waitsB s t)]) ∧ Sep B w wn Rs ∧ Below wk.heap.size wk wn :=
  ob_still h i hi fun _ hA => I.wants hA t ht
theorem m_acquire (h : Sep B w wk Rs) (i : Nat) (hi : Rs[i]? = some (ob I.O v s)) (t n : Int) (ht : In64 t) (hn : In64 n) {b : Bool} {E : Int} {s' : St} (hb : askB s t n = b) (hE : askE s t n = E) (hs : askS s t n true = s') :
    Calls Try.prog 22 #[v, .int .i64 t, .int .i64 n] wk fun e wn => e = .returned (.tuple #[.bool b, .int .i64 E]) ∧ Sep B w wn (Rs.set i (ob I.O v s')) := by subst hb hE hs; exact ob_to h i hi fun _ hA => I.acquire hA t n ht hn
theorem m_try (h : Sep B w wk Rs) (i : Nat) (hi : Rs[i]? = some (ob I.O v s)) (t n : Int) (ht : In64 t) (hn : In64 n) {b : Bool} {E : Int} {s' : St} (hb : askB s t n = b) (hE : askE s t n = E) (hs : askS s t n false = s') :
    Calls Try.prog 23 #[v, .int .i64 t, .int .i64 n] wk fun e wn => e = .returned (.tuple #[.bool b, .int .i64 E]) ∧ Sep B w wn (Rs.set i (ob I.O v s')) := by subst hb hE hs; exact ob_to h i hi fun _ hA => I.tries hA t n ht hn
theorem m_release (h : Sep B w wk Rs) (i : Nat) (hi : Rs[i]? = some (ob I.O v s)) (n : Int) (hn : In64 n) {l : List Int} {m : Nat} {E : Int} {s' : St} (hl : relL s n = l) (hm : l.length = m) (hE : relE s n = E) (hs : relS s n = s') :
    Calls Try.prog 24 #[v, .int .i64 n] wk fun e wn => ∃ A c, e = .returned (.tuple #[.slice A m c, .int .i64 E]) ∧ Sep B w wn (nums (.slice A m c) l :: Rs.set i (ob I.O v s')) := by
  subst hl hm hE hs
  exact ob_tellsE h i hi (e0 := fun u => .returned (.tuple #[u, .int .i64 (relE s n)])) fun _ hA => I.release hA n hn
theorem m_leave (h : Sep B w wk Rs) (i : Nat) (hi : Rs[i]? = some (ob I.O v s)) (t : Int) (ht : In64 t) {l : List Int} {m : Nat} {b : Bool} {s' : St} (hl : lvL s t = l) (hm : l.length = m) (hb : SemaP.waitsB s t = b) (hs : lvS s t = s') :
    Calls Try.prog 25 #[v, .int .i64 t] wk fun e wn => ∃ A c, e = .returned (.tuple #[.slice A m c, .bool b]) ∧ Sep B w wn (nums (.slice A m c) l :: Rs.set i (ob I.O v s')) := by
  subst hl hm hb hs
  exact ob_tellsE h i hi (e0 := fun u => .returned (.tuple #[u, .bool (SemaP.waitsB s t)])) fun _ hA => I.leave hA t ht

set_option maxRecDepth 100000 in
/-- do(s, a): the act. -/
theorem m_do (h : Sep B w wk Rs) (i : Nat) (hi : Rs[i]? = some (ob I.O v s)) (d t k : Int) (ht : In64 t) (hk : In64 k) {L : List Int} {Bo : Bool} {E : Int} {s' : St} (hL : actL s d t k = L) (hB : actB s d t k = Bo) (hE : actE s d t k = E) (hs : actS s d t k = s') :
    Calls Try.prog 10 #[v, .agg #[.int .i64 d, .int .i64 t, .int .i64 k]] wk fun e wn => ∃ A c, e = .returned (.tuple #[.slice A L.length c, .bool Bo, .int .i64 E]) ∧ Sep B w wn (nums (.slice A L.length c) L :: Rs.set i (ob I.O v s')) := by
  obtain ⟨pa, rfl⟩ := ob_ptr h i hi
  have S0 := Lib.hid (h.new (.cells #[.int .i64 d, .int .i64 t, .int .i64 k] 32))
  have HI : Hid ((blk wk.heap.size (.cells #[.int .i64 d, .int .i64 t, .int .i64 k] 32) :: Rs)[i + 1]? = some (ob I.O (.pointer (some pa)) s)) := by show _ = _; rw [List.getElem?_cons_succ]; exact hi
  have HT := Lib.hid ht
  have HK := Lib.hid hk
  have KL := Lib.hid hL
  have KB := Lib.hid hB
  have KE := Lib.hid hE
  have KS := Lib.hid hs
  clear h hi ht hk hL hB hE hs
  rcases (by omega : d = 0 ∨ d = 1 ∨ d = 2 ∨ d = 3 ∨ (d ≠ 0 ∧ d ≠ 1 ∧ d ≠ 2 ∧ d ≠ 3)) with rfl | rfl | rfl | rfl | ⟨d0, d1, d2, d3⟩
  · have hL : Hid (L = []) := KL.out.symm
    go_enter Try.func10, Try.ntmps10
    go_wp2_with fail
    refine (m_acquire S0.out (i + 1) HI.out t k HT.out HK.out (b := Bo) (E := E) (s' := s') KB.out KE.out KS.out).mono ?_
    rintro e w1 ⟨rfl, h1⟩
    rw [List.set_cons_succ] at h1
    have S1 := Lib.hid h1.tail.nil_nums
    clear h1
    go_wp2
    (try simp only [Exit.inBlock, Exit.then])
    refine bodyPost_ret (results_tmp3 rfl _ _ _) rfl ?_
    obtain rfl := hL.out
    exact ⟨_, _, rfl, S1.out⟩
  · have hL : Hid (L = []) := KL.out.symm
    go_enter Try.func10, Try.ntmps10
    go_wp2_with fail
    refine (m_try S0.out (i + 1) HI.out t k HT.out HK.out (b := Bo) (E := E) (s' := s') KB.out KE.out KS.out).mono ?_
    rintro e w1 ⟨rfl, h1⟩
    rw [List.set_cons_succ] at h1
    have S1 := Lib.hid h1.tail.nil_nums
    clear h1
    go_wp2
    (try simp only [Exit.inBlock, Exit.then])
    refine bodyPost_ret (results_tmp3 rfl _ _ _) rfl ?_
    obtain rfl := hL.out
    exact ⟨_, _, rfl, S1.out⟩
  · have hB : Hid (Bo = false) := KB.out.symm
    go_enter Try.func10, Try.ntmps10
    go_wp2_with fail
    refine (m_release S0.out (i + 1) HI.out k HK.out (l := L) (E := E) (s' := s') KL.out rfl KE.out KS.out).mono ?_
    rintro e w1 ⟨A1, c1, rfl, h1⟩
    rw [List.set_cons_succ] at h1
    have S1 := Lib.hid (h1.sub (.cons_cons _ (.cons _ (List.Sublist.refl _))))
    clear h1
    go_wp2
    (try simp only [Exit.inBlock, Exit.then])
    refine bodyPost_ret (results_tmp3 rfl _ _ _) rfl ?_
    obtain rfl := hB.out
    exact ⟨_, _, rfl, S1.out⟩
  · have hE : Hid (E = 0) := KE.out.symm
    go_enter Try.func10, Try.ntmps10
    go_wp2_with fail
    refine (m_leave S0.out (i + 1) HI.out t HT.out (l := L) (b := Bo) (s' := s') KL.out rfl KB.out KS.out).mono ?_
    rintro e w1 ⟨A1, c1, rfl, h1⟩
    rw [List.set_cons_succ] at h1
    have S1 := Lib.hid (h1.sub (.cons_cons _ (.cons _ (List.Sublist.refl _))))
    clear h1
    go_wp2
    (try simp only [Exit.inBlock, Exit.then])
    refine bodyPost_ret (results_tmp3 rfl _ _ _) rfl ?_
    obtain rfl := hE.out
    exact ⟨_, _, rfl, S1.out⟩
  · have HR : Hid (L = [] ∧ Bo = false ∧ E = 0 ∧ s' = s) := by
      obtain ⟨r1, r2, r3, r4⟩ := act_no (s := s) (t := t) (k := k) d0 d1 d2 d3
      exact ⟨KL.out.symm.trans r1, KB.out.symm.trans r2, KE.out.symm.trans r3, KS.out.symm.trans r4⟩
    have e0 : (d == 0) = false := by simpa using d0
    have e1 : (d == 1) = false := by simpa using d1
    have e2 : (d == 2) = false := by simpa using d2
    have e3 : (d == 3) = false := by simpa using d3
    have S1 : Hid (Sep B w (wk.alloc (.cells #[.int .i64 d, .int .i64 t, .int .i64 k] 32)) (nums (.slice none 0 0) [] :: Rs.set i (ob I.O (.pointer (some pa)) s))) := by
      have h1 := S0.out.tail
      have h2 := HI.out
      rw [List.getElem?_cons_succ] at h2
      obtain ⟨hl', he⟩ := List.getElem?_eq_some_iff.1 h2
      rw [← he, List.set_getElem_self]
      exact h1.nil_nums
    clear d0 d1 d2 d3 KL KB KE KS
    go_enter Try.func10, Try.ntmps10
    go_wp2
    (try simp only [Exit.inBlock, Exit.then])
    refine bodyPost_ret (results_tmp3 rfl _ _ _) rfl ?_
    obtain ⟨rfl, rfl, rfl, rfl⟩ := HR.out
    exact ⟨_, _, rfl, S1.out⟩
end
end Go.Proofs.Ytaplikopapnlpaa.SemaI
