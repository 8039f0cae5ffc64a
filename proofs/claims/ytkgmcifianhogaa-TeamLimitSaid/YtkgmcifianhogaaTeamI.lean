/-
  What the laws of layer 14 ask of package team, as one structure (a team), and the law's own helpers over it. Conditions: those that each statement names.
-/
import Derived.Test.YtkgmcifianhogaaRefTeamC
import Derived.Test.YtkgmcifianhogaaSameI
import Derived.Test.YtkgmcifianhogaaTold2
namespace Go.Proofs.Ytkgmcifianhogaa.TeamI
open Go.ChangeShapes Go.WideShapes Go.ChangeAt Go.RowKit Mem MutP TeamP Hand RefMut RefTeam

/-- A team. -/
structure Tm where
  O : Ob St
  ok : ∀ {w v F s}, O.A w v F s → TeamP.Ok s
  new_no : ∀ (n : Int) (w : World), In64 n → (n < 1 ∨ 1000 < n) → Calls Try.prog 7 #[.int .i64 n] w fun e w' => e = .returned (.tuple #[.pointer none, .int .i64 1]) ∧ Below w.heap.size w w'
  new_yes : ∀ (n : Int) (w : World), 1 ≤ n → n ≤ 1000 → Calls Try.prog 7 #[.int .i64 n] w fun e w' => ∃ v F, e = .returned (.tuple #[v, .int .i64 0]) ∧ O.A w' v F (newS n) ∧ Below w.heap.size w w' ∧ ∀ k, F k → w.heap.size ≤ k
  goes : ∀ {w v F s}, O.A w v F s → s.A ≤ 1000000 → ∀ t, In64 t → Calls Try.prog 23 #[v, .int .i64 t] w fun e w' => e = .returned (.tuple #[.bool (goB s t), .int .i64 (askE s t)]) ∧ Stays (ob O v (goS s t)) F w w'
  tries : ∀ {w v F s}, O.A w v F s → s.A ≤ 1000000 → Calls Try.prog 25 #[v] w fun e w' => e = .returned (.bool (tryB s)) ∧ Stays (ob O v (tryS s)) F w w'
  ends : ∀ {w v F s}, O.A w v F s → s.A ≤ 1000000 → ∀ k, In64 k → Calls Try.prog 26 #[v, .int .i64 k] w fun e w' => ∃ u, e = .returned (.tuple #[.agg #[.int .i64 (endR s k).c, u, .bool (endR s k).f], .int .i64 (endE s)]) ∧ Tells (ob O v (endS s k)) F w w' u (endR s k).l
  wait : ∀ {w v F s}, O.A w v F s → ∀ t, In64 t → Calls Try.prog 24 #[v, .int .i64 t] w fun e w' => e = .returned (.tuple #[.bool (wtB s t), .int .i64 (askE s t)]) ∧ Stays (ob O v (wtS s t)) F w w'
  leave : ∀ {w v F s}, O.A w v F s → ∀ t, In64 t → Calls Try.prog 27 #[v, .int .i64 t] w fun e w' => e = .returned (.bool (TeamP.waitsB s t)) ∧ Stays (ob O v (lvS s t)) F w w'
  limit : ∀ {w v F s}, O.A w v F s → ∀ n, In64 n → Calls Try.prog 22 #[v, .int .i64 n] w fun e w' => e = .returned (.int .i64 (limE s)) ∧ Stays (ob O v (limS s n)) F w w'
  lim : ∀ {w v F s}, O.A w v F s → Calls Try.prog 18 #[v] w fun e w' => e = .returned (.int .i64 s.L) ∧ Below w.heap.size w w'
  active : ∀ {w v F s}, O.A w v F s → Calls Try.prog 19 #[v] w fun e w' => e = .returned (.int .i64 s.A) ∧ Below w.heap.size w w'
  first : ∀ {w v F s}, O.A w v F s → Calls Try.prog 20 #[v] w fun e w' => e = .returned (.int .i64 s.E) ∧ Below w.heap.size w w'
  waiting : ∀ {w v F s}, O.A w v F s → Calls Try.prog 16 #[v] w fun e w' => ∃ u u', e = .returned (.tuple #[u, u']) ∧ Says2 w w' u u' s.C s.W

/-- What an act answers, and the team behind it. -/
def actR (s : St) (d k : Int) : En := if d = 2 then endR s k else noEn
def actB (s : St) (d t : Int) : Bool := if d = 0 then goB s t else if d = 1 then tryB s else if d = 3 then wtB s t else if d = 4 then TeamP.waitsB s t else false
def actE (s : St) (d t : Int) : Int := if d = 0 then askE s t else if d = 2 then endE s else if d = 3 then askE s t else if d = 5 then limE s else 0
def actS (s : St) (d t k : Int) : St := if d = 0 then goS s t else if d = 1 then tryS s else if d = 2 then endS s k else if d = 3 then wtS s t else if d = 4 then lvS s t else if d = 5 then limS s t else s
theorem act_no {s : St} {d t k : Int} (d0 : d ≠ 0) (d1 : d ≠ 1) (d2 : d ≠ 2) (d3 : d ≠ 3) (d4 : d ≠ 4) (d5 : d ≠ 5) : actR s d k = noEn ∧ actB s d t = false ∧ actE s d t = 0 ∧ actS s d t k = s := by
  unfold actR actB actE actS
  simp only [if_neg d0, if_neg d1, if_neg d2, if_neg d3, if_neg d4, if_neg d5, and_self]
theorem act_A {s : St} (h : TeamP.Ok s) (d t k : Int) : (actS s d t k).A ≤ s.A + 1 := by
  have ha := h.a0
  unfold actS
  repeat' split
  · rcases go_cases s t with ⟨_, _, e⟩ | ⟨_, _, _, e⟩ | ⟨_, _, _, e⟩ <;> rw [e] <;> (try simp only) <;> omega
  · rcases try_cases s with ⟨_, _, e⟩ | ⟨_, _, e⟩ <;> rw [e] <;> (try simp only) <;> omega
  · rcases end_cases s k with ⟨_, _, _, e⟩ | ⟨_, _, _, _, _, _, e⟩ | ⟨_, _, _, _, e⟩ | ⟨_, _, _, _, _, e⟩ <;> rw [e] <;> (try simp only) <;> omega
  · rcases wt_cases s t with ⟨_, _, e⟩ | ⟨_, _, _, e⟩ | ⟨_, _, _, e⟩ <;> rw [e] <;> (try simp only) <;> omega
  · show s.A ≤ _; omega
  · rcases lim_cases s t with ⟨_, _, e⟩ | ⟨_, _, _, e⟩ <;> rw [e] <;> (try simp only) <;> omega
  · omega
theorem actR_len {s : St} (h : TeamP.Ok s) (d k : Int) : (actR s d k).l.length ≤ 1000 := by
  have hl := h.len
  unfold actR
  split
  · rcases end_cases s k with ⟨_, _, e, _⟩ | ⟨_, _, _, _, _, e, _⟩ | ⟨_, _, _, e, _⟩ | ⟨_, _, _, _, e, _⟩ <;> rw [e]
    · show 0 ≤ _; omega
    · show 0 ≤ _; omega
    · show s.W.length ≤ _; omega
    · show 0 ≤ _; omega
  · show 0 ≤ _; omega

section
variable {I : Tm} {B : Nat → Prop} {w wk : World} {Rs : List Res} {v : Value} {s : St}
theorem m_ok (h : Sep B w wk Rs) (i : Nat) (hi : Rs[i]? = some (ob I.O v s)) : TeamP.Ok s := by
  obtain ⟨F, hR⟩ := ob_at h i hi
  exact I.ok hR
theorem m_new (h : Sep B w wk Rs) (I : Tm) (n : Int) (h1 : 1 ≤ n) (h2 : n ≤ 1000) : Calls Try.prog 7 #[.int .i64 n] wk fun e wn => ∃ a, e = .returned (.tuple #[.pointer (some a), .int .i64 0]) ∧ Sep B w wn (ob I.O (.pointer (some a)) (newS n) :: Rs) :=
  ob_new h (e0 := fun v => .returned (.tuple #[v, .int .i64 0])) (I.new_yes n wk h1 h2)
theorem m_lim (h : Sep B w wk Rs) (i : Nat) (hi : Rs[i]? = some (ob I.O v s)) : Calls Try.prog 18 #[v] wk fun e wn => e = .returned (.int .i64 s.L) ∧ Sep B w wn Rs ∧ Below wk.heap.size wk wn :=
  ob_still h i hi fun _ hA => I.lim hA
theorem m_active (h : Sep B w wk Rs) (i : Nat) (hi : Rs[i]? = some (ob I.O v s)) : Calls Try.prog 19 #[v] wk fun e wn => e = .returned (.int .i64 s.A) ∧ Sep B w wn Rs ∧ Below wk.heap.size wk wn :=
  ob_still h i hi fun _ hA => I.active hA
theorem m_first (h : Sep B w wk Rs) (i : Nat) (hi : Rs[i]? = some (ob I.O v s)) : Calls Try.prog 20 #[v] wk fun e wn => e = .returned (.int .i64 s.E) ∧ Sep B w wn Rs ∧ Below wk.heap.size wk wn :=
  ob_still h i hi fun _ hA => I.first hA
theorem m_waiting (h : Sep B w wk Rs) (i : Nat) (hi : Rs[i]? = some (ob I.O v s)) : Calls Try.prog 16 #[v] wk fun e wn => ∃ A c A' c', e = .returned (.tuple #[.slice A s.C.length c, .slice A' s.W.length c']) ∧ Sep B w wn (nums2 (.slice A s.C.length c) (.slice A' s.W.length c') s.C s.W :: Rs) ∧ Below wk.heap.size wk wn :=
  ob_told2 h i hi fun _ hA => I.waiting hA
theorem m_go (h : Sep B w wk Rs) (i : Nat) (hi : Rs[i]? = some (ob I.O v s)) (hA : s.A ≤ 1000000) (t : Int) (ht : In64 t) {b : Bool} {E : Int} {s' : St} (hb : goB s t = b) (hE : askE s t = E) (hs : goS s t = s') :
    Calls Try.prog 23 #[v, .int .i64 t] wk fun e wn => e = .returned (.tuple #[.bool b, .int .i64 E]) ∧ Sep B w wn (Rs.set i (ob I.O v s')) := by subst hb hE hs; exact ob_to h i hi fun _ hR => I.goes hR hA t ht
theorem m_try (h : Sep B w wk Rs) (i : Nat) (hi : Rs[i]? = some (ob I.O v s)) (hA : s.A ≤ 1000000) {b : Bool} {s' : St} (hb : tryB s = b) (hs : tryS s = s') :
    Calls Try.prog 25 #[v] wk fun e wn => e = .returned (.bool b) ∧ Sep B w wn (Rs.set i (ob I.O v s')) := by subst hb hs; exact ob_to h i hi fun _ hR => I.tries hR hA
theorem m_end (h : Sep B w wk Rs) (i : Nat) (hi : Rs[i]? = some (ob I.O v s)) (hA : s.A ≤ 1000000) (k : Int) (hk : In64 k) {x : Int} {l : List Int} {f : Bool} {m : Nat} {E : Int} {s' : St} (hR : endR s k = ⟨x, l, f⟩) (hm : l.length = m) (hE : endE s = E) (hs : endS s k = s') :
    Calls Try.prog 26 #[v, .int .i64 k] wk fun e wn => ∃ A c, e = .returned (.tuple #[.agg #[.int .i64 x, .slice A m c, .bool f], .int .i64 E]) ∧ Sep B w wn (nums (.slice A m c) l :: Rs.set i (ob I.O v s')) := by
  have h1 := ob_tellsE h i hi (e0 := fun u => .returned (.tuple #[.agg #[.int .i64 (endR s k).c, u, .bool (endR s k).f], .int .i64 (endE s)])) fun _ hR => I.ends hR hA k hk
  subst hm hE hs
  rw [hR] at h1
  exact h1
theorem m_wait (h : Sep B w wk Rs) (i : Nat) (hi : Rs[i]? = some (ob I.O v s)) (t : Int) (ht : In64 t) {b : Bool} {E : Int} {s' : St} (hb : wtB s t = b) (hE : askE s t = E) (hs : wtS s t = s') :
    Calls Try.prog 24 #[v, .int .i64 t] wk fun e wn => e = .returned (.tuple #[.bool b, .int .i64 E]) ∧ Sep B w wn (Rs.set i (ob I.O v s')) := by subst hb hE hs; exact ob_to h i hi fun _ hR => I.wait hR t ht
theorem m_leave (h : Sep B w wk Rs) (i : Nat) (hi : Rs[i]? = some (ob I.O v s)) (t : Int) (ht : In64 t) {b : Bool} {s' : St} (hb : TeamP.waitsB s t = b) (hs : lvS s t = s') :
    Calls Try.prog 27 #[v, .int .i64 t] wk fun e wn => e = .returned (.bool b) ∧ Sep B w wn (Rs.set i (ob I.O v s')) := by subst hb hs; exact ob_to h i hi fun _ hR => I.leave hR t ht
theorem m_limit (h : Sep B w wk Rs) (i : Nat) (hi : Rs[i]? = some (ob I.O v s)) (n : Int) (hn : In64 n) {E : Int} {s' : St} (hE : limE s = E) (hs : limS s n = s') :
    Calls Try.prog 22 #[v, .int .i64 n] wk fun e wn => e = .returned (.int .i64 E) ∧ Sep B w wn (Rs.set i (ob I.O v s')) := by subst hE hs; exact ob_to h i hi fun _ hR => I.limit hR n hn

set_option maxHeartbeats 1000000 in
set_option maxRecDepth 100000 in
/-- do(m, a): the act. -/
theorem m_do (h : Sep B w wk Rs) (i : Nat) (hi : Rs[i]? = some (ob I.O v s)) (hA : s.A ≤ 1000000) (d t k : Int) (ht : In64 t) (hk : In64 k) {x : Int} {l : List Int} {f : Bool} {Bo : Bool} {E : Int} {s' : St} (hR : actR s d k = ⟨x, l, f⟩) (hB : actB s d t = Bo) (hE : actE s d t = E) (hs : actS s d t k = s') :
    Calls Try.prog 9 #[v, .agg #[.int .i64 d, .int .i64 t, .int .i64 k]] wk fun e wn => ∃ A c, e = .returned (.tuple #[.agg #[.int .i64 x, .slice A l.length c, .bool f], .bool Bo, .int .i64 E]) ∧ Sep B w wn (nums (.slice A l.length c) l :: Rs.set i (ob I.O v s')) := by
  obtain ⟨pa, rfl⟩ := ob_ptr h i hi
  have hn := (h.new (.cells #[.int .i64 d, .int .i64 t, .int .i64 k] 32)).new (.cells #[.int .i64 0, .slice none 0 0, .bool false] 35)
  have hsz : (wk.alloc (.cells #[.int .i64 d, .int .i64 t, .int .i64 k] 32)).heap.size = wk.heap.size + 1 := World.size_alloc ..
  rw [hsz] at hn
  have S0 := Lib.hid hn
  have HI : Hid ((blk (wk.heap.size + 1) (.cells #[.int .i64 0, .slice none 0 0, .bool false] 35) :: blk wk.heap.size (.cells #[.int .i64 d, .int .i64 t, .int .i64 k] 32) :: Rs)[i + 2]? = some (ob I.O (.pointer (some pa)) s)) := by show _ = _; rw [List.getElem?_cons_succ, List.getElem?_cons_succ]; exact hi
  have HT := Lib.hid ht
  have HK := Lib.hid hk
  have KR := Lib.hid hR
  have KB := Lib.hid hB
  have KE := Lib.hid hE
  have KS := Lib.hid hs
  have HAA := Lib.hid hA
  clear h hi ht hk hR hB hE hs hn hsz hA
  rcases (by omega : d = 0 ∨ d = 1 ∨ d = 2 ∨ d = 3 ∨ d = 4 ∨ d = 5 ∨ (d ≠ 0 ∧ d ≠ 1 ∧ d ≠ 2 ∧ d ≠ 3 ∧ d ≠ 4 ∧ d ≠ 5)) with rfl | rfl | rfl | rfl | rfl | rfl | ⟨d0, d1, d2, d3, d4, d5⟩
  · have hR : Hid (noEn = ⟨x, l, f⟩) := KR.out
    go_enter Try.func9, Try.ntmps9
    go_wp2_with fail
    refine (m_go S0.out (i + 2) HI.out HAA.out t HT.out (b := Bo) (E := E) (s' := s') KB.out KE.out KS.out).mono ?_
    rintro e w1 ⟨rfl, h1⟩
    rw [List.set_cons_succ, List.set_cons_succ] at h1
    obtain ⟨⟨y0, y1, y2⟩, z0, z1, z2⟩ := cells3 (h1.blk_at 0 rfl)
    have h2 := h1.put3 (.int .i64 0) (.slice none 0 0) (.bool false)
    obtain ⟨wz, hwz⟩ : ∃ wz : World, wz = ((w1.setCell ⟨wk.heap.size + 1, 0, none⟩ (.int .i64 0)).setCell ⟨wk.heap.size + 1, 1, none⟩ (.slice none 0 0)).setCell ⟨wk.heap.size + 1, 2, none⟩ (.bool false) := ⟨_, rfl⟩
    rw [← hwz] at h2
    have S1 := Lib.hid h2
    have HWZ := Lib.hid hwz
    clear h1 h2 hwz S0
    go_wp2
    rw [← HWZ.out]
    obtain ⟨⟨r0, r1, r2⟩, _⟩ := cells3 (S1.out.blk_at 0 rfl)
    refine bodyPost_ret (v := .tuple #[.agg #[.int .i64 0, .slice none 0 0, .bool false], .bool Bo, .int .i64 E]) (by simp [results, Try.results9, go_sem, r0, r1, r2]) rfl ?_
    have hq := hR.out
    unfold noEn at hq
    injection hq with q1 q2 q3
    subst q1 q2 q3
    exact ⟨none, 0, rfl, S1.out.tail.tail.nil_nums⟩
  · have hR : Hid (noEn = ⟨x, l, f⟩) := KR.out
    obtain rfl : E = 0 := KE.out.symm
    go_enter Try.func9, Try.ntmps9
    go_wp2_with fail
    refine (m_try S0.out (i + 2) HI.out HAA.out (b := Bo) (s' := s') KB.out KS.out).mono ?_
    rintro e w1 ⟨rfl, h1⟩
    rw [List.set_cons_succ, List.set_cons_succ] at h1
    obtain ⟨⟨y0, y1, y2⟩, z0, z1, z2⟩ := cells3 (h1.blk_at 0 rfl)
    have h2 := h1.put3 (.int .i64 0) (.slice none 0 0) (.bool false)
    obtain ⟨wz, hwz⟩ : ∃ wz : World, wz = ((w1.setCell ⟨wk.heap.size + 1, 0, none⟩ (.int .i64 0)).setCell ⟨wk.heap.size + 1, 1, none⟩ (.slice none 0 0)).setCell ⟨wk.heap.size + 1, 2, none⟩ (.bool false) := ⟨_, rfl⟩
    rw [← hwz] at h2
    have S1 := Lib.hid h2
    have HWZ := Lib.hid hwz
    clear h1 h2 hwz S0
    go_wp2
    rw [← HWZ.out]
    obtain ⟨⟨r0, r1, r2⟩, _⟩ := cells3 (S1.out.blk_at 0 rfl)
    refine bodyPost_ret (v := .tuple #[.agg #[.int .i64 0, .slice none 0 0, .bool false], .bool Bo, .int .i64 0]) (by simp [results, Try.results9, go_sem, r0, r1, r2]) rfl ?_
    have hq := hR.out
    unfold noEn at hq
    injection hq with q1 q2 q3
    subst q1 q2 q3
    exact ⟨none, 0, rfl, S1.out.tail.tail.nil_nums⟩
  · have hR : Hid (endR s k = ⟨x, l, f⟩) := KR.out
    obtain rfl : Bo = false := KB.out.symm
    go_enter Try.func9, Try.ntmps9
    go_wp2_with fail
    refine (m_end S0.out (i + 2) HI.out HAA.out k HK.out (x := x) (l := l) (f := f) (E := E) (s' := s') hR.out rfl KE.out KS.out).mono ?_
    rintro e w1 ⟨A1, c1, rfl, h1⟩
    rw [List.set_cons_succ, List.set_cons_succ] at h1
    have hgl := lt_of_block (h1.blk_at 1 rfl)
    obtain ⟨⟨y0, y1, y2⟩, z0, z1, z2⟩ := cells3 (h1.blk_at 1 rfl)
    have h3 := h1.swap.put3 (.int .i64 x) (.slice A1 l.length c1) (.bool f)
    have h2 := (h3.new (.cells #[.int .i64 x, .slice A1 l.length c1, .bool f] 35)).tail
    obtain ⟨wz, hwz⟩ : ∃ wz : World, wz = (((w1.setCell ⟨wk.heap.size + 1, 0, none⟩ (.int .i64 x)).setCell ⟨wk.heap.size + 1, 1, none⟩ (.slice A1 l.length c1)).setCell ⟨wk.heap.size + 1, 2, none⟩ (.bool f)).alloc (.cells #[.int .i64 x, .slice A1 l.length c1, .bool f] 35) := ⟨_, rfl⟩
    rw [← hwz] at h2
    have S1 := Lib.hid h2
    have HWZ := Lib.hid hwz
    clear h1 h2 h3 hwz S0
    go_wp2
    rw [← HWZ.out]
    obtain ⟨⟨r0, r1, r2⟩, _⟩ := cells3 (S1.out.blk_at 0 rfl)
    refine bodyPost_ret (v := .tuple #[.agg #[.int .i64 x, .slice A1 l.length c1, .bool f], .bool false, .int .i64 E]) (by simp [results, Try.results9, go_sem, r0, r1, r2]) rfl ?_
    exact ⟨A1, c1, rfl, S1.out.tail.sub (.cons_cons _ (.cons _ (List.Sublist.refl _)))⟩
  · have hR : Hid (noEn = ⟨x, l, f⟩) := KR.out
    go_enter Try.func9, Try.ntmps9
    go_wp2_with fail
    refine (m_wait S0.out (i + 2) HI.out t HT.out (b := Bo) (E := E) (s' := s') KB.out KE.out KS.out).mono ?_
    rintro e w1 ⟨rfl, h1⟩
    rw [List.set_cons_succ, List.set_cons_succ] at h1
    obtain ⟨⟨y0, y1, y2⟩, z0, z1, z2⟩ := cells3 (h1.blk_at 0 rfl)
    have h2 := h1.put3 (.int .i64 0) (.slice none 0 0) (.bool false)
    obtain ⟨wz, hwz⟩ : ∃ wz : World, wz = ((w1.setCell ⟨wk.heap.size + 1, 0, none⟩ (.int .i64 0)).setCell ⟨wk.heap.size + 1, 1, none⟩ (.slice none 0 0)).setCell ⟨wk.heap.size + 1, 2, none⟩ (.bool false) := ⟨_, rfl⟩
    rw [← hwz] at h2
    have S1 := Lib.hid h2
    have HWZ := Lib.hid hwz
    clear h1 h2 hwz S0
    go_wp2
    rw [← HWZ.out]
    obtain ⟨⟨r0, r1, r2⟩, _⟩ := cells3 (S1.out.blk_at 0 rfl)
    refine bodyPost_ret (v := .tuple #[.agg #[.int .i64 0, .slice none 0 0, .bool false], .bool Bo, .int .i64 E]) (by simp [results, Try.results9, go_sem, r0, r1, r2]) rfl ?_
    have hq := hR.out
    unfold noEn at hq
    injection hq with q1 q2 q3
    subst q1 q2 q3
    exact ⟨none, 0, rfl, S1.out.tail.tail.nil_nums⟩
  · have hR : Hid (noEn = ⟨x, l, f⟩) := KR.out
    obtain rfl : E = 0 := KE.out.symm
    go_enter Try.func9, Try.ntmps9
    go_wp2_with fail
    refine (m_leave S0.out (i + 2) HI.out t HT.out (b := Bo) (s' := s') KB.out KS.out).mono ?_
    rintro e w1 ⟨rfl, h1⟩
    rw [List.set_cons_succ, List.set_cons_succ] at h1
    obtain ⟨⟨y0, y1, y2⟩, z0, z1, z2⟩ := cells3 (h1.blk_at 0 rfl)
    have h2 := h1.put3 (.int .i64 0) (.slice none 0 0) (.bool false)
    obtain ⟨wz, hwz⟩ : ∃ wz : World, wz = ((w1.setCell ⟨wk.heap.size + 1, 0, none⟩ (.int .i64 0)).setCell ⟨wk.heap.size + 1, 1, none⟩ (.slice none 0 0)).setCell ⟨wk.heap.size + 1, 2, none⟩ (.bool false) := ⟨_, rfl⟩
    rw [← hwz] at h2
    have S1 := Lib.hid h2
    have HWZ := Lib.hid hwz
    clear h1 h2 hwz S0
    go_wp2
    rw [← HWZ.out]
    obtain ⟨⟨r0, r1, r2⟩, _⟩ := cells3 (S1.out.blk_at 0 rfl)
    refine bodyPost_ret (v := .tuple #[.agg #[.int .i64 0, .slice none 0 0, .bool false], .bool Bo, .int .i64 0]) (by simp [results, Try.results9, go_sem, r0, r1, r2]) rfl ?_
    have hq := hR.out
    unfold noEn at hq
    injection hq with q1 q2 q3
    subst q1 q2 q3
    exact ⟨none, 0, rfl, S1.out.tail.tail.nil_nums⟩
  · have hR : Hid (noEn = ⟨x, l, f⟩) := KR.out
    obtain rfl : Bo = false := KB.out.symm
    go_enter Try.func9, Try.ntmps9
    go_wp2_with fail
    refine (m_limit S0.out (i + 2) HI.out t HT.out (E := E) (s' := s') KE.out KS.out).mono ?_
    rintro e w1 ⟨rfl, h1⟩
    rw [List.set_cons_succ, List.set_cons_succ] at h1
    obtain ⟨⟨y0, y1, y2⟩, z0, z1, z2⟩ := cells3 (h1.blk_at 0 rfl)
    have h2 := h1.put3 (.int .i64 0) (.slice none 0 0) (.bool false)
    obtain ⟨wz, hwz⟩ : ∃ wz : World, wz = ((w1.setCell ⟨wk.heap.size + 1, 0, none⟩ (.int .i64 0)).setCell ⟨wk.heap.size + 1, 1, none⟩ (.slice none 0 0)).setCell ⟨wk.heap.size + 1, 2, none⟩ (.bool false) := ⟨_, rfl⟩
    rw [← hwz] at h2
    have S1 := Lib.hid h2
    have HWZ := Lib.hid hwz
    clear h1 h2 hwz S0
    go_wp2
    rw [← HWZ.out]
    obtain ⟨⟨r0, r1, r2⟩, _⟩ := cells3 (S1.out.blk_at 0 rfl)
    refine bodyPost_ret (v := .tuple #[.agg #[.int .i64 0, .slice none 0 0, .bool false], .bool false, .int .i64 E]) (by simp [results, Try.results9, go_sem, r0, r1, r2]) rfl ?_
    have hq := hR.out
    unfold noEn at hq
    injection hq with q1 q2 q3
    subst q1 q2 q3
    exact ⟨none, 0, rfl, S1.out.tail.tail.nil_nums⟩
  · have hR : Hid (noEn = ⟨x, l, f⟩ ∧ Bo = false ∧ E = 0 ∧ s' = s) := by
      obtain ⟨r1, r2, r3, r4⟩ := act_no (s := s) (t := t) (k := k) d0 d1 d2 d3 d4 d5
      exact ⟨r1.symm.trans KR.out, KB.out.symm.trans r2, KE.out.symm.trans r3, KS.out.symm.trans r4⟩
    have e0 : (d == 0) = false := by simpa using d0
    have e1 : (d == 1) = false := by simpa using d1
    have e2 : (d == 2) = false := by simpa using d2
    have e3 : (d == 3) = false := by simpa using d3
    have e4 : (d == 4) = false := by simpa using d4
    have e5 : (d == 5) = false := by simpa using d5
    have S1 : Hid (Sep B w ((wk.alloc (.cells #[.int .i64 d, .int .i64 t, .int .i64 k] 32)).alloc (.cells #[.int .i64 0, .slice none 0 0, .bool false] 35)) (nums (.slice none 0 0) [] :: Rs.set i (ob I.O (.pointer (some pa)) s))) := by
      have h1 := S0.out.tail.tail
      have h2 := HI.out
      rw [List.getElem?_cons_succ, List.getElem?_cons_succ] at h2
      obtain ⟨hl', he⟩ := List.getElem?_eq_some_iff.1 h2
      rw [← he, List.set_getElem_self]
      exact h1.nil_nums
    clear d0 d1 d2 d3 d4 d5 KR KB KE KS S0
    go_enter Try.func9, Try.ntmps9
    go_wp2
    refine bodyPost_ret (v := .tuple #[.agg #[.int .i64 0, .slice none 0 0, .bool false], .bool false, .int .i64 0]) (by simp [results, Try.results9, go_sem]) rfl ?_
    obtain ⟨hq, rfl, rfl, rfl⟩ := hR.out
    unfold noEn at hq
    injection hq with q1 q2 q3
    subst q1 q2 q3
    exact ⟨none, 0, rfl, S1.out⟩
end
end Go.Proofs.Ytkgmcifianhogaa.TeamI
