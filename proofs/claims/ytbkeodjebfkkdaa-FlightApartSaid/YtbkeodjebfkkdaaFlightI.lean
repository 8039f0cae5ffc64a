/-
  What the laws of layer 15 ask of package flight, as one structure (calls that several ask for), and the law's own helpers over it. Conditions: those that each statement names.
-/
import Derived.Test.YtbkeodjebfkkdaaRefFlightC
import Derived.Test.YtbkeodjebfkkdaaSameI
import Derived.Test.YtbkeodjebfkkdaaTold2
namespace Go.Proofs.Ytbkeodjebfkkdaa.FlightI
open Go.ChangeShapes Go.WideShapes Go.ChangeAt Go.RowKit Mem MutP FlightP Hand RefMut RefFlight

/-- Calls that several ask for. -/
structure Fl where
  O : Ob St
  ok : ∀ {w v F s}, O.A w v F s → FlightP.Ok s
  new_no : ∀ (n : Int) (w : World), In64 n → (n < 1 ∨ 1000 < n) → Calls Try.prog 7 #[.int .i64 n] w fun e w' => e = .returned (.tuple #[.pointer none, .int .i64 1]) ∧ Below w.heap.size w w'
  new_yes : ∀ (n : Int) (w : World), 1 ≤ n → n ≤ 1000 → Calls Try.prog 7 #[.int .i64 n] w fun e w' => ∃ v F, e = .returned (.tuple #[v, .int .i64 0]) ∧ O.A w' v F (newS n) ∧ Below w.heap.size w w' ∧ ∀ k, F k → w.heap.size ≤ k
  doit : ∀ {w v F s}, O.A w v F s → ∀ t k, In64 t → In64 k → Calls Try.prog 24 #[v, .int .i64 t, .int .i64 k] w fun e w' => e = .returned (.tuple #[.int .i64 (doV s t k), .int .i64 (doE s t)]) ∧ Stays (ob O v (doS s t k)) F w w'
  finish : ∀ {w v F s}, O.A w v F s → ∀ t, In64 t → Calls Try.prog 26 #[v, .int .i64 t] w fun e w' => ∃ u, e = .returned (.tuple #[u, .int .i64 (finE s t)]) ∧ Tells (ob O v (finS s t)) F w w' u (finL s t)
  forget : ∀ {w v F s}, O.A w v F s → ∀ k, In64 k → Calls Try.prog 25 #[v, .int .i64 k] w fun e w' => e = .returned (.bool (anyK s.L k)) ∧ Stays (ob O v (fgS s k)) F w w'
  leave : ∀ {w v F s}, O.A w v F s → ∀ t, In64 t → Calls Try.prog 27 #[v, .int .i64 t] w fun e w' => e = .returned (.bool (waitsJ s.L t)) ∧ Stays (ob O v (lvS s t)) F w w'
  leader : ∀ {w v F s}, O.A w v F s → ∀ k, In64 k → Calls Try.prog 16 #[v, .int .i64 k] w fun e w' => e = .returned (.int .i64 (leaderK s.L k)) ∧ Below w.heap.size w w'
  leads : ∀ {w v F s}, O.A w v F s → ∀ t, In64 t → Calls Try.prog 17 #[v, .int .i64 t] w fun e w' => e = .returned (.tuple #[.int .i64 (leadsK s.L t), .bool (leadsB s.L t)]) ∧ Below w.heap.size w w'
  joins : ∀ {w v F s}, O.A w v F s → ∀ t, In64 t → Calls Try.prog 19 #[v, .int .i64 t] w fun e w' => e = .returned (.int .i64 (joinsT s.L t)) ∧ Below w.heap.size w w'
  joined : ∀ {w v F s}, O.A w v F s → ∀ t, In64 t → Calls Try.prog 21 #[v, .int .i64 t] w fun e w' => ∃ u, e = .returned u ∧ Says w w' u (joinedL s.L t)

theorem results_tmp4 {fn : Func} {t u v x : Tmp} (h : fn.results = #[.tmp t, .tmp u, .tmp v, .tmp x]) (tmps : Array Value) (P : Program) (w : World) :
    (results fn tmps).run P w = .ok (.tuple #[tmps.getD t undef, tmps.getD u undef, tmps.getD v undef, tmps.getD x undef]) w := by
  simp [results, h]

/-- What an act answers, and the flight behind it. -/
def actV (s : St) (d t k : Int) : Int := if d = 0 then doV s t k else 0
def actB (s : St) (d t k : Int) : Bool := if d = 2 then anyK s.L k else if d = 3 then waitsJ s.L t else false
def actL (s : St) (d t : Int) : List Int := if d = 1 then finL s t else []
def actE (s : St) (d t : Int) : Int := if d = 0 then doE s t else if d = 1 then finE s t else 0
def actS (s : St) (d t k : Int) : St := if d = 0 then doS s t k else if d = 1 then finS s t else if d = 2 then fgS s k else if d = 3 then lvS s t else s
theorem act_no {s : St} {d t k : Int} (d0 : d ≠ 0) (d1 : d ≠ 1) (d2 : d ≠ 2) (d3 : d ≠ 3) : actV s d t k = 0 ∧ actB s d t k = false ∧ actL s d t = [] ∧ actE s d t = 0 ∧ actS s d t k = s := by
  unfold actV actB actL actE actS
  simp only [if_neg d0, if_neg d1, if_neg d2, if_neg d3, and_self]
theorem joined_len {s : St} (h : FlightP.Ok s) (t : Int) : (joinedL s.L t).length ≤ 1000 := by
  cases hl : leadsB s.L t with
  | false => rw [(lead_no hl).1]; exact Nat.zero_le _
  | true =>
    obtain ⟨A, c, B, e, hc, hA, hB⟩ := h.split_lead hl
    have h1 := h.len
    rw [e, (all_at (c := c)).length_eq, List.length_append] at h1
    rw [e, (lead_at hc hA).1]
    omega
theorem actL_len {s : St} (h : FlightP.Ok s) (d t : Int) : (actL s d t).length ≤ 1000 := by
  unfold actL
  split
  · unfold finL
    split
    · exact joined_len h t
    · exact Nat.zero_le _
  · exact Nat.zero_le _

section
variable {I : Fl} {B : Nat → Prop} {w wk : World} {Rs : List Res} {v : Value} {s : St}
theorem m_ok (h : Sep B w wk Rs) (i : Nat) (hi : Rs[i]? = some (ob I.O v s)) : FlightP.Ok s := by
  obtain ⟨F, hR⟩ := ob_at h i hi
  exact I.ok hR
theorem m_new (h : Sep B w wk Rs) (I : Fl) (n : Int) (h1 : 1 ≤ n) (h2 : n ≤ 1000) : Calls Try.prog 7 #[.int .i64 n] wk fun e wn => ∃ a, e = .returned (.tuple #[.pointer (some a), .int .i64 0]) ∧ Sep B w wn (ob I.O (.pointer (some a)) (newS n) :: Rs) :=
  ob_new h (e0 := fun v => .returned (.tuple #[v, .int .i64 0])) (I.new_yes n wk h1 h2)
theorem m_leader (h : Sep B w wk Rs) (i : Nat) (hi : Rs[i]? = some (ob I.O v s)) (k : Int) (hk : In64 k) {x : Int} (hx : leaderK s.L k = x) : Calls Try.prog 16 #[v, .int .i64 k] wk fun e wn => e = .returned (.int .i64 x) ∧ Sep B w wn Rs ∧ Below wk.heap.size wk wn := by
  subst hx; exact ob_still h i hi fun _ hA => I.leader hA k hk
theorem m_leads (h : Sep B w wk Rs) (i : Nat) (hi : Rs[i]? = some (ob I.O v s)) (t : Int) (ht : In64 t) {x : Int} {b : Bool} (hx : leadsK s.L t = x) (hb : leadsB s.L t = b) : Calls Try.prog 17 #[v, .int .i64 t] wk fun e wn => e = .returned (.tuple #[.int .i64 x, .bool b]) ∧ Sep B w wn Rs ∧ Below wk.heap.size wk wn := by
  subst hx hb; exact ob_still h i hi fun _ hA => I.leads hA t ht
theorem m_joins (h : Sep B w wk Rs) (i : Nat) (hi : Rs[i]? = some (ob I.O v s)) (t : Int) (ht : In64 t) {x : Int} (hx : joinsT s.L t = x) : Calls Try.prog 19 #[v, .int .i64 t] wk fun e wn => e = .returned (.int .i64 x) ∧ Sep B w wn Rs ∧ Below wk.heap.size wk wn := by
  subst hx; exact ob_still h i hi fun _ hA => I.joins hA t ht
theorem m_joined (h : Sep B w wk Rs) (i : Nat) (hi : Rs[i]? = some (ob I.O v s)) (t : Int) (ht : In64 t) {l : List Int} (hl : joinedL s.L t = l) : Calls Try.prog 21 #[v, .int .i64 t] wk fun e wn => ∃ A c, e = .returned (.slice A l.length c) ∧ Sep B w wn (nums (.slice A l.length c) l :: Rs) ∧ Below wk.heap.size wk wn := by
  subst hl; exact ob_told h i hi fun _ hA => I.joined hA t ht
theorem m_doit (h : Sep B w wk Rs) (i : Nat) (hi : Rs[i]? = some (ob I.O v s)) (t k : Int) (ht : In64 t) (hk : In64 k) {x : Int} {E : Int} {s' : St} (hx : doV s t k = x) (hE : doE s t = E) (hs : doS s t k = s') :
    Calls Try.prog 24 #[v, .int .i64 t, .int .i64 k] wk fun e wn => e = .returned (.tuple #[.int .i64 x, .int .i64 E]) ∧ Sep B w wn (Rs.set i (ob I.O v s')) := by subst hx hE hs; exact ob_to h i hi fun _ hR => I.doit hR t k ht hk
theorem m_finish (h : Sep B w wk Rs) (i : Nat) (hi : Rs[i]? = some (ob I.O v s)) (t : Int) (ht : In64 t) {l : List Int} {m : Nat} {E : Int} {s' : St} (hl : finL s t = l) (hm : l.length = m) (hE : finE s t = E) (hs : finS s t = s') :
    Calls Try.prog 26 #[v, .int .i64 t] wk fun e wn => ∃ A c, e = .returned (.tuple #[.slice A m c, .int .i64 E]) ∧ Sep B w wn (nums (.slice A m c) l :: Rs.set i (ob I.O v s')) := by
  have h1 := ob_tellsE h i hi (e0 := fun u => .returned (.tuple #[u, .int .i64 (finE s t)])) fun _ hR => I.finish hR t ht
  subst hl hm hE hs
  exact h1
theorem m_forget (h : Sep B w wk Rs) (i : Nat) (hi : Rs[i]? = some (ob I.O v s)) (k : Int) (hk : In64 k) {b : Bool} {s' : St} (hb : anyK s.L k = b) (hs : fgS s k = s') :
    Calls Try.prog 25 #[v, .int .i64 k] wk fun e wn => e = .returned (.bool b) ∧ Sep B w wn (Rs.set i (ob I.O v s')) := by subst hb hs; exact ob_to h i hi fun _ hR => I.forget hR k hk
theorem m_leave (h : Sep B w wk Rs) (i : Nat) (hi : Rs[i]? = some (ob I.O v s)) (t : Int) (ht : In64 t) {b : Bool} {s' : St} (hb : waitsJ s.L t = b) (hs : lvS s t = s') :
    Calls Try.prog 27 #[v, .int .i64 t] wk fun e wn => e = .returned (.bool b) ∧ Sep B w wn (Rs.set i (ob I.O v s')) := by subst hb hs; exact ob_to h i hi fun _ hR => I.leave hR t ht

set_option maxHeartbeats 1000000 in
set_option maxRecDepth 100000 in
/-- do(f, a): the act. -/
theorem m_do (h : Sep B w wk Rs) (i : Nat) (hi : Rs[i]? = some (ob I.O v s)) (d t k : Int) (ht : In64 t) (hk : In64 k) {x : Int} {l : List Int} {m : Nat} {Bo : Bool} {E : Int} {s' : St} (hV : actV s d t k = x) (hB : actB s d t k = Bo) (hL : actL s d t = l) (hm : l.length = m) (hE : actE s d t = E) (hs : actS s d t k = s') :
    Calls Try.prog 9 #[v, .agg #[.int .i64 d, .int .i64 t, .int .i64 k]] wk fun e wn => ∃ A c, e = .returned (.tuple #[.int .i64 x, .bool Bo, .slice A m c, .int .i64 E]) ∧ Sep B w wn (nums (.slice A m c) l :: Rs.set i (ob I.O v s')) := by
  obtain ⟨pa, rfl⟩ := ob_ptr h i hi
  have S0 := Lib.hid (h.new (.cells #[.int .i64 d, .int .i64 t, .int .i64 k] 32))
  have HI : Hid ((blk wk.heap.size (.cells #[.int .i64 d, .int .i64 t, .int .i64 k] 32) :: Rs)[i + 1]? = some (ob I.O (.pointer (some pa)) s)) := by show _ = _; rw [List.getElem?_cons_succ]; exact hi
  have HT := Lib.hid ht
  have HK := Lib.hid hk
  have KV := Lib.hid hV
  have KB := Lib.hid hB
  have KL := Lib.hid hL
  have KM := Lib.hid hm
  have KE := Lib.hid hE
  have KS := Lib.hid hs
  clear h hi ht hk hV hB hL hm hE hs
  rcases (by omega : d = 0 ∨ d = 1 ∨ d = 2 ∨ d = 3 ∨ (d ≠ 0 ∧ d ≠ 1 ∧ d ≠ 2 ∧ d ≠ 3)) with rfl | rfl | rfl | rfl | ⟨d0, d1, d2, d3⟩
  · obtain rfl : Bo = false := KB.out.symm
    obtain rfl : l = [] := KL.out.symm
    obtain rfl : m = 0 := KM.out.symm
    go_enter Try.func9, Try.ntmps9
    go_wp2_with fail
    refine (m_doit S0.out (i + 1) HI.out t k HT.out HK.out (x := x) (E := E) (s' := s') KV.out KE.out KS.out).mono ?_
    rintro e w1 ⟨rfl, h1⟩
    rw [List.set_cons_succ] at h1
    have S1 := Lib.hid h1.tail.nil_nums
    clear h1
    go_wp2
    (try simp only [Exit.inBlock, Exit.then])
    refine bodyPost_ret (results_tmp4 rfl _ _ _) rfl ?_
    exact ⟨_, _, rfl, S1.out⟩
  · obtain rfl : Bo = false := KB.out.symm
    obtain rfl : x = 0 := KV.out.symm
    go_enter Try.func9, Try.ntmps9
    go_wp2_with fail
    refine (m_finish S0.out (i + 1) HI.out t HT.out (l := l) (m := m) (E := E) (s' := s') KL.out KM.out KE.out KS.out).mono ?_
    rintro e w1 ⟨A1, c1, rfl, h1⟩
    rw [List.set_cons_succ] at h1
    have S1 := Lib.hid (h1.sub (.cons_cons _ (.cons _ (List.Sublist.refl _))))
    clear h1
    go_wp2
    (try simp only [Exit.inBlock, Exit.then])
    refine bodyPost_ret (results_tmp4 rfl _ _ _) rfl ?_
    exact ⟨_, _, rfl, S1.out⟩
  · obtain rfl : x = 0 := KV.out.symm
    obtain rfl : l = [] := KL.out.symm
    obtain rfl : m = 0 := KM.out.symm
    obtain rfl : E = 0 := KE.out.symm
    go_enter Try.func9, Try.ntmps9
    go_wp2_with fail
    refine (m_forget S0.out (i + 1) HI.out k HK.out (b := Bo) (s' := s') KB.out KS.out).mono ?_
    rintro e w1 ⟨rfl, h1⟩
    rw [List.set_cons_succ] at h1
    have S1 := Lib.hid h1.tail.nil_nums
    clear h1
    go_wp2
    (try simp only [Exit.inBlock, Exit.then])
    refine bodyPost_ret (results_tmp4 rfl _ _ _) rfl ?_
    exact ⟨_, _, rfl, S1.out⟩
  · obtain rfl : x = 0 := KV.out.symm
    obtain rfl : l = [] := KL.out.symm
    obtain rfl : m = 0 := KM.out.symm
    obtain rfl : E = 0 := KE.out.symm
    go_enter Try.func9, Try.ntmps9
    go_wp2_with fail
    refine (m_leave S0.out (i + 1) HI.out t HT.out (b := Bo) (s' := s') KB.out KS.out).mono ?_
    rintro e w1 ⟨rfl, h1⟩
    rw [List.set_cons_succ] at h1
    have S1 := Lib.hid h1.tail.nil_nums
    clear h1
    go_wp2
    (try simp only [Exit.inBlock, Exit.then])
    refine bodyPost_ret (results_tmp4 rfl _ _ _) rfl ?_
    exact ⟨_, _, rfl, S1.out⟩
  · have HR := Lib.hid (act_no (s := s) (t := t) (k := k) d0 d1 d2 d3)
    rw [KV.out, KB.out, KL.out, KE.out, KS.out] at HR
    have e0 : (d == 0) = false := by simpa using d0
    have e1 : (d == 1) = false := by simpa using d1
    have e2 : (d == 2) = false := by simpa using d2
    have e3 : (d == 3) = false := by simpa using d3
    have S1 : Hid (Sep B w (wk.alloc (.cells #[.int .i64 d, .int .i64 t, .int .i64 k] 32)) (nums (.slice none 0 0) [] :: Rs.set i (ob I.O (.pointer (some pa)) s))) := by
      have h1 := S0.out.tail
      have h2 := HI.out
      rw [List.getElem?_cons_succ] at h2
      obtain ⟨hl', he⟩ := List.getElem?_eq_some_iff.1 h2
      rw [← he, List.set_getElem_self]
      exact h1.nil_nums
    clear d0 d1 d2 d3 KV KB KL KE KS S0
    go_enter Try.func9, Try.ntmps9
    go_wp2
    (try simp only [Exit.inBlock, Exit.then])
    refine bodyPost_ret (results_tmp4 rfl _ _ _) rfl ?_
    have hm := KM.out
    obtain ⟨rfl, rfl, rfl, rfl, rfl⟩ := HR.out
    obtain rfl : m = 0 := hm.symm
    exact ⟨none, 0, rfl, S1.out⟩
end
end Go.Proofs.Ytbkeodjebfkkdaa.FlightI
