/-
  What the laws of layer 10 ask of package cond, as one structure (a condition), and the law's own helpers over it. Conditions: those that each statement names.
-/
import Derived.Test.YtbnijgcbifpijaaRefCondB
namespace Go.Proofs.Ytbnijgcbifpijaa.CondI
open Go.ChangeShapes Go.WideShapes Go.ChangeAt Go.RowKit Mem MutP CondP Hand RefCond

/-- A condition: who waits, how many tasks there may be. -/
abbrev St := List Tl × Int
structure Cd where
  O : Ob St
  ok : ∀ {w v F s}, O.A w v F s → CondP.Ok s.1 s.2
  new_no : ∀ (n : Int) (w : World), In64 n → (n < 1 ∨ 1000 < n) → Calls Try.prog 7 #[.int .i64 n] w fun e w' => e = .returned (.tuple #[.pointer none, .int .i64 1]) ∧ Below w.heap.size w w'
  new_yes : ∀ (n : Int) (w : World), 1 ≤ n → n ≤ 1000 → Calls Try.prog 7 #[.int .i64 n] w fun e w' => ∃ v F, e = .returned (.tuple #[v, .int .i64 0]) ∧ O.A w' v F ([], n) ∧ Below w.heap.size w w' ∧ ∀ k, F k → w.heap.size ≤ k
  wait : ∀ {w v F W N}, O.A w v F (W, N) → ∀ t k, In64 t → In64 k → Calls Try.prog 19 #[v, .int .i64 t, .int .i64 k] w fun e w' => e = .returned (.int .i64 (waitE W N t)) ∧ Stays (ob O v (waitW W N t k, N)) F w w'
  signal : ∀ {w v F W N}, O.A w v F (W, N) → Calls Try.prog 16 #[v] w fun e w' => ∃ u, e = .returned u ∧ TellsL tlE (ob O v (restT W, N)) F w w' u (oneT W)
  broadcast : ∀ {w v F W N}, O.A w v F (W, N) → Calls Try.prog 17 #[v] w fun e w' => ∃ u, e = .returned u ∧ TellsL tlE (ob O v ([], N)) F w w' u W
  leave : ∀ {w v F W N}, O.A w v F (W, N) → ∀ t, In64 t → Calls Try.prog 18 #[v, .int .i64 t] w fun e w' => e = .returned (.tuple #[(getT W t).val, .bool (hasT W t)]) ∧ Stays (ob O v (outT W t, N)) F w w'
  waiting : ∀ {w v F W N}, O.A w v F (W, N) → Calls Try.prog 15 #[v] w fun e w' => ∃ u, e = .returned u ∧ SaysL tlE w w' u W

theorem results_tmp3 {fn : Func} {t u v : Tmp} (h : fn.results = #[.tmp t, .tmp u, .tmp v]) (tmps : Array Value) (P : Program) (w : World) :
    (results fn tmps).run P w = .ok (.tuple #[tmps.getD t undef, tmps.getD u undef, tmps.getD v undef]) w := by
  simp [results, h]

/-- own(l): the same ones, in new memory. -/
theorem own_any {w : World} {G : Nat → Prop} {u : Value} {L : List Tl} (h : RdL tlE w G u L) (hlen : L.length ≤ 100000) :
    Calls Try.prog 14 #[u] w fun e w' => ∃ v, e = .returned v ∧ SaysL tlE w w' v L := by
  obtain ⟨A, c, rfl⟩ := h.form
  have HR := Lib.hid h
  clear h
  go_enter Try.func14, Try.ntmps14
  go_wp2
  go_loopw [3, 9] (fun u t wr => ∃ i : Nat, i ≤ L.length ∧ t = .int .i64 i ∧ Hid (OwnL tlE wr w.heap.size 40 u (L.take i)) ∧ Hid (Below w.heap.size w wr)) (fun _ t _ => L.length - (intOf t).toNat)
  case atStart => exact ⟨0, Nat.zero_le _, rfl, OwnL.lit0 (E := tlE) w _ _ (Nat.le_refl _), (Below.refl _ _).alloc (Nat.le_refl _) _⟩
  case round =>
    obtain ⟨i, hi, rfl, HO, HB⟩ := hrel
    have hbs : w.heap.size ≤ wr.heap.size := HB.out.size
    have hol : (L.take i).length ≤ i := List.length_take_le _ _
    obtain ⟨Ao, co, rfl⟩ := HO.out.form
    by_cases hlt : i < L.length
    · have hx : L[i]? = some L[i] := List.getElem?_eq_getElem hlt
      generalize L[i] = a at hx
      obtain ⟨b, off, rfl, _, hb, c0, c1⟩ := tl_cells HR.out hx
      have q0 := (HB.out.cell (p := ⟨b, off + i * 2, none⟩) hb).trans c0
      have q1 := (HB.out.cell (p := ⟨b, off + i * 2 + 1, none⟩) hb).trans c1
      have HT : Hid (L.take (i + 1) = L.take i ++ [a]) := take_snocT L i a hx
      clear hx c0 c1
      have HO1 : Hid (OwnL tlE (wr.alloc (.cells #[.int .i64 a.t, .int .i64 a.k] 50)) w.heap.size 40 (.slice Ao (L.take i).length co) (L.take i)) := HO.out.alloc _
      have HB1 : Hid (Below w.heap.size w (wr.alloc (.cells #[.int .i64 a.t, .int .i64 a.k] 50))) := HB.out.alloc hbs _
      have HOf : Hid (∀ g, (Value.slice Ao (L.take i).length co).ownBlock = some g → w.heap.size ≤ g) := fun g hg => (HO.out.lt g hg).1
      have HRx : Hid (RdL tlE ((wr.alloc (.cells #[.int .i64 a.t, .int .i64 a.k] 50)).alloc (.cells #[.int .i64 a.t, .int .i64 a.k] 40)) (fun _ => True) (.slice (some ⟨wr.heap.size + 1, 0, none⟩) 1 1) [a]) := by
        have hl := RdL.lit1 (E := tlE) (wr.alloc (.cells #[.int .i64 a.t, .int .i64 a.k] 50)) 40 a (cs := #[.int .i64 a.t, .int .i64 a.k]) rfl (fun _ => True) trivial
        have es : (wr.alloc (.cells #[.int .i64 a.t, .int .i64 a.k] 50)).heap.size = wr.heap.size + 1 := by simp
        rw [es] at hl
        exact hl
      generalize hg : L.take i = lt at *
      have HGt := Lib.hid hg
      clear hg
      go_wp2_with (at_builtin; refine wpList_appL rfl _ _ tlElem rfl rfl rfl (HO1.out.alloc _) HRx.out (by simp; omega) (by simp; omega) ?_)
      intro v' w1 hown1 hgrow hat
      have hb1 : Below w.heap.size w w1 := Below.grown (HB1.out.alloc HB1.out.size _) hgrow (by simp; omega) (fun g hg' => HOf.out g hg')
      have HO2 := Lib.hid hown1
      have HB2 := Lib.hid hb1
      clear hown1 hb1 hgrow hat
      go_wp2
      go_roundw
      case rel => exact ⟨i + 1, by omega, by go_num, by show OwnL _ _ _ _ _ _; rw [HT.out]; exact HO2.out, HB2⟩
      case measure => simp [intOf]; omega
    · have HS : Hid (L.take i = L) := List.take_of_length_le (by omega)
      go_wp2
      go_ret
      have hO := HO.out
      rw [HS.out] at hO ⊢
      exact ⟨_, rfl, hO.rd (by omega) fun g hg => (hO.lt g hg).1, HB.out⟩

/-- What an act answers, and the condition behind it. -/
def actE (W : List Tl) (N d t : Int) : Int := if d = 0 then waitE W N t else 0
def actB (W : List Tl) (d t : Int) : Bool := if d = 3 then hasT W t else false
def actL (W : List Tl) (d t : Int) : List Tl := if d = 1 then oneT W else if d = 2 then W else if d = 3 then (if hasT W t = true then [getT W t] else []) else []
def actW (W : List Tl) (N d t k : Int) : List Tl := if d = 0 then waitW W N t k else if d = 1 then restT W else if d = 2 then [] else if d = 3 then outT W t else W

section
variable {I : Cd} {B : Nat → Prop} {w wk : World} {Rs : List Res} {v : Value} {W : List Tl} {N : Int}
theorem m_ok (h : Sep B w wk Rs) (i : Nat) (hi : Rs[i]? = some (ob I.O v (W, N))) : CondP.Ok W N := by
  obtain ⟨F, hR⟩ := ob_at h i hi
  exact I.ok hR
theorem m_new (h : Sep B w wk Rs) (I : Cd) (n : Int) (h1 : 1 ≤ n) (h2 : n ≤ 1000) : Calls Try.prog 7 #[.int .i64 n] wk fun e wn => ∃ a, e = .returned (.tuple #[.pointer (some a), .int .i64 0]) ∧ Sep B w wn (ob I.O (.pointer (some a)) ([], n) :: Rs) :=
  ob_new h (e0 := fun v => .returned (.tuple #[v, .int .i64 0])) (I.new_yes n wk h1 h2)
theorem m_waiting (h : Sep B w wk Rs) (i : Nat) (hi : Rs[i]? = some (ob I.O v (W, N))) : Calls Try.prog 15 #[v] wk fun e wn => ∃ A c, e = .returned (.slice A W.length c) ∧ Sep B w wn (told tlE (.slice A W.length c) W :: Rs) ∧ Below wk.heap.size wk wn :=
  ob_toldL h i hi fun _ hA => I.waiting hA
theorem m_signal (h : Sep B w wk Rs) (i : Nat) (hi : Rs[i]? = some (ob I.O v (W, N))) : Calls Try.prog 16 #[v] wk fun e wn => ∃ A c, e = .returned (.slice A (oneT W).length c) ∧ Sep B w wn (told tlE (.slice A (oneT W).length c) (oneT W) :: Rs.set i (ob I.O v (restT W, N))) :=
  ob_tellsL h i hi fun _ hA => I.signal hA
theorem m_broadcast (h : Sep B w wk Rs) (i : Nat) (hi : Rs[i]? = some (ob I.O v (W, N))) : Calls Try.prog 17 #[v] wk fun e wn => ∃ A c, e = .returned (.slice A W.length c) ∧ Sep B w wn (told tlE (.slice A W.length c) W :: Rs.set i (ob I.O v ([], N))) :=
  ob_tellsL h i hi fun _ hA => I.broadcast hA
theorem m_leave (h : Sep B w wk Rs) (i : Nat) (hi : Rs[i]? = some (ob I.O v (W, N))) (t : Int) (ht : In64 t) : Calls Try.prog 18 #[v, .int .i64 t] wk fun e wn => e = .returned (.tuple #[(getT W t).val, .bool (hasT W t)]) ∧ Sep B w wn (Rs.set i (ob I.O v (outT W t, N))) :=
  ob_to h i hi fun _ hA => I.leave hA t ht
theorem m_wait (h : Sep B w wk Rs) (i : Nat) (hi : Rs[i]? = some (ob I.O v (W, N))) (t k : Int) (ht : In64 t) (hk : In64 k) : Calls Try.prog 19 #[v, .int .i64 t, .int .i64 k] wk fun e wn => e = .returned (.int .i64 (waitE W N t)) ∧ Sep B w wn (Rs.set i (ob I.O v (waitW W N t k, N))) :=
  ob_to h i hi fun _ hA => I.wait hA t k ht hk

set_option maxRecDepth 100000 in
/-- do(c, a): the act. -/
theorem m_do (h : Sep B w wk Rs) (i : Nat) (hi : Rs[i]? = some (ob I.O v (W, N))) (d t k : Int) (ht : In64 t) (hk : In64 k) :
    Calls Try.prog 9 #[v, .agg #[.int .i64 d, .int .i64 t, .int .i64 k]] wk fun e wn => ∃ A c, e = .returned (.tuple #[.int .i64 (actE W N d t), .bool (actB W d t), .slice A (actL W d t).length c]) ∧ Sep B w wn (told tlE (.slice A (actL W d t).length c) (actL W d t) :: Rs.set i (ob I.O v (actW W N d t k, N))) := by
  obtain ⟨pa, rfl⟩ := ob_ptr h i hi
  have S0 := Lib.hid (h.new (.cells #[.int .i64 d, .int .i64 t, .int .i64 k] 32))
  have HI : Hid ((blk wk.heap.size (.cells #[.int .i64 d, .int .i64 t, .int .i64 k] 32) :: Rs)[i + 1]? = some (ob I.O (.pointer (some pa)) (W, N))) := by show _ = _; rw [List.getElem?_cons_succ]; exact hi
  have HT := Lib.hid ht
  have HK := Lib.hid hk
  clear h hi ht hk
  rcases (by omega : d = 0 ∨ d = 1 ∨ d = 2 ∨ d = 3 ∨ (d ≠ 0 ∧ d ≠ 1 ∧ d ≠ 2 ∧ d ≠ 3)) with rfl | rfl | rfl | rfl | ⟨d0, d1, d2, d3⟩
  · go_enter Try.func9, Try.ntmps9
    go_wp2_with fail
    refine (m_wait S0.out (i + 1) HI.out t k HT.out HK.out).mono ?_
    rintro e w1 ⟨rfl, h1⟩
    rw [List.set_cons_succ] at h1
    have S1 := Lib.hid (h1.tail.nil_told tlE)
    clear h1
    go_wp2
    (try simp only [Exit.inBlock, Exit.then])
    refine bodyPost_ret (results_tmp3 rfl _ _ _) rfl ?_
    exact ⟨_, _, rfl, S1.out⟩
  · go_enter Try.func9, Try.ntmps9
    go_wp2_with fail
    refine (m_signal S0.out (i + 1) HI.out).mono ?_
    rintro e w1 ⟨A1, c1, rfl, h1⟩
    rw [List.set_cons_succ] at h1
    have S1 := Lib.hid (h1.sub (.cons_cons _ (.cons _ (List.Sublist.refl _))))
    clear h1
    go_wp2
    (try simp only [Exit.inBlock, Exit.then])
    refine bodyPost_ret (results_tmp3 rfl _ _ _) rfl ?_
    exact ⟨_, _, rfl, S1.out⟩
  · go_enter Try.func9, Try.ntmps9
    go_wp2_with fail
    refine (m_broadcast S0.out (i + 1) HI.out).mono ?_
    rintro e w1 ⟨A1, c1, rfl, h1⟩
    rw [List.set_cons_succ] at h1
    have S1 := Lib.hid (h1.sub (.cons_cons _ (.cons _ (List.Sublist.refl _))))
    clear h1
    go_wp2
    (try simp only [Exit.inBlock, Exit.then])
    refine bodyPost_ret (results_tmp3 rfl _ _ _) rfl ?_
    exact ⟨_, _, rfl, S1.out⟩
  · have HL : Hid (actL W 3 t = if hasT W t = true then [getT W t] else []) := rfl
    have HB : Hid (actB W 3 t = hasT W t) := rfl
    generalize hb : hasT W t = bt at *
    have HBT := Lib.hid hb
    clear hb
    go_enter Try.func9, Try.ntmps9
    go_wp2_with fail
    refine (m_leave S0.out (i + 1) HI.out t HT.out).mono ?_
    rw [HBT.out]
    rintro e w1 ⟨rfl, h1⟩
    rw [List.set_cons_succ] at h1
    have S1 : Hid (Sep B w (w1.alloc (.cells #[.int .i64 (getT W t).t, .int .i64 (getT W t).k] 50)) (Rs.set i (ob I.O (.pointer (some pa)) (outT W t, N)))) := h1.tail.next (new_below0 _ _)
    clear h1 S0
    generalize getT W t = g at *
    simp only [Tl.val]
    cases bt with
    | true =>
      have S2 := Lib.hid (S1.out.lit_told 50 [g] (cs := #[.int .i64 g.t, .int .i64 g.k]) (E := tlE) rfl (by simp) (n := 1) rfl)
      go_wp2
      go_region
      have S3 := Lib.hid S2.out.drew
      simp only [World.size_alloc] at S3
      go_wp2
      (try simp only [Exit.inBlock, Exit.then])
      refine bodyPost_ret (results_tmp3 rfl _ _ _) rfl ?_
      rw [HL.out, HB.out]
      exact ⟨_, _, rfl, S3.out⟩
    | false =>
      have S2 := Lib.hid (S1.out.nil_told tlE)
      go_wp2
      (try simp only [Exit.inBlock, Exit.then])
      refine bodyPost_ret (results_tmp3 rfl _ _ _) rfl ?_
      rw [HL.out, HB.out]
      exact ⟨_, _, rfl, S2.out⟩
  · have HR : Hid (actE W N d t = 0 ∧ actB W d t = false ∧ actL W d t = [] ∧ actW W N d t k = W) := by
      show _ ∧ _
      unfold actE actB actL actW
      rw [if_neg d0, if_neg d3, if_neg d1, if_neg d2, if_neg d3, if_neg d0, if_neg d1, if_neg d2, if_neg d3]
      exact ⟨rfl, rfl, rfl, rfl⟩
    have e0 : (d == 0) = false := by simpa using d0
    have e1 : (d == 1) = false := by simpa using d1
    have e2 : (d == 2) = false := by simpa using d2
    have e3 : (d == 3) = false := by simpa using d3
    have S1 : Hid (Sep B w (wk.alloc (.cells #[.int .i64 d, .int .i64 t, .int .i64 k] 32)) (told tlE (.slice none 0 0) [] :: Rs.set i (ob I.O (.pointer (some pa)) (W, N)))) := by
      have h1 := S0.out.tail
      have h2 := HI.out
      rw [List.getElem?_cons_succ] at h2
      obtain ⟨hl', he⟩ := List.getElem?_eq_some_iff.1 h2
      rw [← he, List.set_getElem_self]
      exact h1.nil_told tlE
    clear d0 d1 d2 d3
    go_enter Try.func9, Try.ntmps9
    go_wp2
    (try simp only [Exit.inBlock, Exit.then])
    refine bodyPost_ret (results_tmp3 rfl _ _ _) rfl ?_
    obtain ⟨q0, q1, q2, q3⟩ := HR.out
    rw [q0, q1, q2, q3]
    exact ⟨_, _, rfl, S1.out⟩
end
end Go.Proofs.Ytbnijgcbifpijaa.CondI
