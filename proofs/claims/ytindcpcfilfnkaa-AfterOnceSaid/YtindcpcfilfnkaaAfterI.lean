/-
  What the laws of layer 7 ask of package after, as one structure (a list of registrations), and the law's own helpers over it. Conditions: those that each statement names.
-/
import Derived.Test.YtindcpcfilfnkaaRefAfter
import Derived.Test.YtindcpcfilfnkaaSameI
namespace Go.Proofs.Ytindcpcfilfnkaa.AfterI
open Go.ChangeShapes Go.WideShapes Go.ChangeAt Go.RowKit Mem AfterP Hand RefAfter

theorem take_snocR (l : List Rg) (k : Nat) (a : Rg) (h : l[k]? = some a) : l.take (k + 1) = l.take k ++ [a] := by
  rw [List.take_add_one, h]; rfl
theorem rowHeld : Try.prog.stoodInHeld 57 = false := by kernel_rfl
theorem rowGuard : Try.prog.eqGuardType Try.prog.depth 57 = false := by kernel_rfl
/-- '!=' of two entries. -/
theorem run_neq_row (W : World) (xi xa xz yi ya yz : Int) :
    (binOp .neq 57 (.agg #[.int .i64 xi, .int .i64 xa, .int .i64 xz]) (.agg #[.int .i64 yi, .int .i64 ya, .int .i64 yz])).run Try.prog W = .ok (.bool (!decide ((⟨xi, xa, xz⟩ : Rg) = ⟨yi, ya, yz⟩))) W := by
  have hut : Try.prog.underlying 57 = some (.struct (Try.prog.fieldsOf 57)) := by simp only [Program.fieldsOf, Try.underlying57]
  rw [run_neq_struct, run_equalIn_agg _ 9999 _ _ _ hut rowHeld]
  simp only [Program.fieldsOf, Try.underlying57]
  have h3 := Try.underlying3
  simp [go_sem, h3]
  by_cases e1 : xi = yi <;> by_cases e2 : xa = ya <;> by_cases e3 : xz = yz <;> simp [e1, e2, e3]

theorem same_any {w : World} {G G' : Nat → Prop} {va vb : Value} {xs ys : List Rg} (ha : RdL rgE w G va xs) (hb : RdL rgE w G' vb ys) :
    Calls Try.prog 15 #[va, vb] w fun e w' => e = .returned (.bool (decide (xs = ys))) ∧ ∃ n, w' = w.drewN n := by
  have hma := ha.le
  obtain ⟨A, ca, rfl⟩ := ha.form
  obtain ⟨B, cb, rfl⟩ := hb.form
  by_cases hlen : xs.length = ys.length
  · have HA := Lib.hid ha
    have HB := Lib.hid hb
    clear ha hb
    obtain ⟨m, hm⟩ : ∃ m, xs.length = m := ⟨_, rfl⟩
    have hm2 : ys.length = m := by omega
    have HM := Lib.hid hm
    have HM2 := Lib.hid hm2
    rw [hm] at hma HA ⊢
    rw [hm2] at HB ⊢
    clear hm hm2 hlen
    go_enter Try.func15, Try.ntmps15
    go_wp2
    go_loopw [5] (fun t W => ∃ k n : Nat, k ≤ m ∧ t = .int .i64 k ∧ Hid (xs.take k = ys.take k) ∧ W = w.drewN n) (fun t _ => m - (intOf t).toNat)
    case atStart => exact ⟨0, 0, Nat.zero_le _, rfl, rfl, rfl⟩
    case round =>
      obtain ⟨k, n, hk, rfl, heq, rfl⟩ := hrel
      by_cases hlt : k < m
      · have hx : xs[k]? = some (xs[k]'(by have := HM.out; omega)) := List.getElem?_eq_getElem _
        have hy : ys[k]? = some (ys[k]'(by have := HM2.out; omega)) := List.getElem?_eq_getElem _
        generalize xs[k]'_ = x at hx
        generalize ys[k]'_ = y at hy
        obtain ⟨b, off, rfl, _, c0, c1, c2⟩ := rg_cells HA.out hx
        obtain ⟨b', off', rfl, _, d0, d1, d2⟩ := rg_cells HB.out hy
        have HX := Lib.hid hx
        have HY := Lib.hid hy
        clear hx hy
        obtain ⟨xi, xa, xz⟩ := x
        obtain ⟨yi, ya, yz⟩ := y
        simp only at c0 c1 c2 d0 d1 d2
        have ii0 : (0 : Int) ≤ (k : Int) := by omega
        have ii1 : (k : Int) < (m : Int) := by omega
        have hgu := rowGuard
        by_cases hxy : (⟨xi, xa, xz⟩ : Rg) = ⟨yi, ya, yz⟩
        · have hneq := fun W => run_neq_row W xi xa xz yi ya yz
          rw [decide_eq_true hxy] at hneq
          have HE : Hid (xs.take (k + 1) = ys.take (k + 1)) := by
            show _ = _
            rw [take_snocR xs k _ HX.out, take_snocR ys k _ HY.out, heq.out, hxy]
          clear hxy
          go_wp2
          go_quiet (fail)
          go_wp2
          go_roundw
          case rel => exact ⟨k + 1, _, by omega, by go_num, HE, rfl⟩
          case measure => simp [intOf]; omega
        · have hneq := fun W => run_neq_row W xi xa xz yi ya yz
          rw [decide_eq_false hxy] at hneq
          have HE : Hid (xs ≠ ys) := by
            show ¬ _
            rintro rfl
            rw [HX.out] at HY
            exact hxy (Option.some.inj HY.out)
          clear hxy
          go_wp2
          go_quiet (fail)
          go_wp2
          go_ret
          exact ⟨ret_bool (by symm; exact decide_eq_false HE.out), _, World.drewN_drewN _ _ _⟩
      · go_wp2
        go_ret
        exact ⟨ret_bool (by symm; apply decide_eq_true; have := heq.out; rwa [List.take_of_length_le (by rw [HM.out]; omega), List.take_of_length_le (by rw [HM2.out]; omega)] at this), _, rfl⟩
  · have hne : ((xs.length : Int) != (ys.length : Int)) = true := by rw [bne_iff_ne]; omega
    clear ha hb
    go_enter Try.func15, Try.ntmps15
    go_wp2
    go_ret
    exact ⟨ret_bool (by symm; apply decide_eq_false; intro e; exact hlen (by rw [e])), 0, rfl⟩

/-- own(l): the same registrations, in new memory. -/
theorem own_any {w : World} {G : Nat → Prop} {u : Value} {L : List Rg} (h : RdL rgE w G u L) (hlen : L.length ≤ 100000) :
    Calls Try.prog 16 #[u] w fun e w' => ∃ v, e = .returned v ∧ RdL rgE w' (fun k => w.heap.size ≤ k) v L ∧ Below w.heap.size w w' := by
  obtain ⟨A, c, rfl⟩ := h.form
  have HR := Lib.hid h
  clear h
  go_enter Try.func16, Try.ntmps16
  go_wp2
  go_loopw [3, 9] (fun u t wr => ∃ i : Nat, i ≤ L.length ∧ t = .int .i64 i ∧ Hid (OwnL rgE wr w.heap.size 57 u (L.take i)) ∧ Hid (Below w.heap.size w wr)) (fun _ t _ => L.length - (intOf t).toNat)
  case atStart => exact ⟨0, Nat.zero_le _, rfl, OwnL.lit0 (E := rgE) w _ _ (Nat.le_refl _), (Below.refl _ _).alloc (Nat.le_refl _) _⟩
  case round =>
    obtain ⟨i, hi, rfl, HO, HB⟩ := hrel
    have hbs : w.heap.size ≤ wr.heap.size := HB.out.size
    have hol : (L.take i).length ≤ i := List.length_take_le _ _
    obtain ⟨Ao, co, rfl⟩ := HO.out.form
    by_cases hlt : i < L.length
    · have hx : L[i]? = some L[i] := List.getElem?_eq_getElem hlt
      generalize L[i] = a at hx
      obtain ⟨b, off, rfl, hb, c0, c1, c2⟩ := rg_cells HR.out hx
      have q0 := (HB.out.cell (p := ⟨b, off + i * 3, none⟩) hb).trans c0
      have q1 := (HB.out.cell (p := ⟨b, off + i * 3 + 1, none⟩) hb).trans c1
      have q2 := (HB.out.cell (p := ⟨b, off + i * 3 + 2, none⟩) hb).trans c2
      have HT : Hid (L.take (i + 1) = L.take i ++ [a]) := take_snocR L i a hx
      clear hx c0 c1 c2
      have HO1 : Hid (OwnL rgE (wr.alloc (.cells #[.int .i64 a.on, .int .i64 a.th, .int .i64 a.st] 54)) w.heap.size 57 (.slice Ao (L.take i).length co) (L.take i)) := HO.out.alloc _
      have HB1 : Hid (Below w.heap.size w (wr.alloc (.cells #[.int .i64 a.on, .int .i64 a.th, .int .i64 a.st] 54))) := HB.out.alloc hbs _
      have HOf : Hid (∀ g, (Value.slice Ao (L.take i).length co).ownBlock = some g → w.heap.size ≤ g) := fun g hg => (HO.out.lt g hg).1
      have HRx : Hid (RdL rgE ((wr.alloc (.cells #[.int .i64 a.on, .int .i64 a.th, .int .i64 a.st] 54)).alloc (.cells #[.int .i64 a.on, .int .i64 a.th, .int .i64 a.st] 57)) (fun _ => True) (.slice (some ⟨wr.heap.size + 1, 0, none⟩) 1 1) [a]) := by
        have hl := RdL.lit1 (E := rgE) (wr.alloc (.cells #[.int .i64 a.on, .int .i64 a.th, .int .i64 a.st] 54)) 57 a (cs := #[.int .i64 a.on, .int .i64 a.th, .int .i64 a.st]) rfl (fun _ => True) trivial
        have es : (wr.alloc (.cells #[.int .i64 a.on, .int .i64 a.th, .int .i64 a.st] 54)).heap.size = wr.heap.size + 1 := by simp
        rw [es] at hl
        exact hl
      generalize hg : L.take i = lt at *
      have HGt := Lib.hid hg
      clear hg
      go_wp2_with (at_builtin; refine wpList_appL rfl _ _ rowElem rfl rfl rfl (HO1.out.alloc _) HRx.out (by simp; omega) (by simp; omega) ?_)
      intro v' w1 hown1 hgrow hat
      have hb1 : Below w.heap.size w w1 := Below.grown (HB1.out.alloc HB1.out.size _) hgrow (by simp; omega) (fun g hg' => HOf.out g hg')
      have HO2 := Lib.hid hown1
      have HB2 := Lib.hid hb1
      clear hown1 hb1 hgrow hat
      go_wp2
      go_roundw
      case rel => exact ⟨i + 1, by omega, by go_num, by show OwnL _ _ _ _ _ _; rw [HT.out]; exact HO2.out, HB2⟩
      case measure => simp [intOf]; omega
    · have HS : Hid (L.take i = L) := List.take_of_length_le (by omega)
      go_wp2
      go_ret
      have hO := HO.out
      rw [HS.out] at hO ⊢
      exact ⟨_, rfl, hO.rd (by omega) fun g hg => (hO.lt g hg).1, HB.out⟩

/-- A list: its registrations, and how many there may be. -/
abbrev St := List Rg × Int
structure Af where
  O : Ob St
  ok : ∀ {w v F s}, O.A w v F s → Ok s.1 s.2
  new_no : ∀ (n : Int) (w : World), In64 n → (n < 1 ∨ 200 < n) → Calls Try.prog 8 #[.int .i64 n] w fun e w' => e = .returned (.tuple #[.pointer none, .int .i64 1]) ∧ Below w.heap.size w w'
  new_yes : ∀ (n : Int) (w : World), 1 ≤ n → n ≤ 200 → Calls Try.prog 8 #[.int .i64 n] w fun e w' => ∃ v F, e = .returned (.tuple #[v, .int .i64 0]) ∧ O.A w' v F ([], n) ∧ Below w.heap.size w w' ∧ ∀ k, F k → w.heap.size ≤ k
  add : ∀ {w v F L M}, O.A w v F (L, M) → ∀ on th, In64 on → In64 th → Calls Try.prog 22 #[v, .int .i64 on, .int .i64 th] w fun e w' => e = .returned (.tuple #[.int .i64 (addV L M), .int .i64 (addE L M)]) ∧ Stays (ob O v (addL L M on th, M)) F w w'
  stop : ∀ {w v F L M}, O.A w v F (L, M) → ∀ n, In64 n → Calls Try.prog 20 #[v, .int .i64 n] w fun e w' => e = .returned (.bool (stopB L n)) ∧ Stays (ob O v (stopL L n, M)) F w w'
  fire : ∀ {w v F L M}, O.A w v F (L, M) → ∀ (G : Nat → Prop) u l, Rd w G u l → (∀ k, G k → ¬ F k) → l.length ≤ 1000 → (∀ x ∈ l, In64 x) → Calls Try.prog 21 #[v, u] w fun e w' => ∃ u', e = .returned u' ∧ Tells (ob O v (fireL L l, M)) F w w' u' (fireO L l)
  rows : ∀ {w v F L M}, O.A w v F (L, M) → Calls Try.prog 17 #[v] w fun e w' => ∃ u, e = .returned u ∧ RdL rgE w' (fun k => w.heap.size ≤ k) u L ∧ Below w.heap.size w w'
  waiting : ∀ {w v F L M}, O.A w v F (L, M) → ∀ d, In64 d → Calls Try.prog 18 #[v, .int .i64 d] w fun e w' => ∃ u, e = .returned u ∧ Says w w' u (waitsL L d)

/-- An act, as it lies in a slice. -/
structure Ac where
  d : Int
  a : Int
  b : Int
  oa : Option Addr
  on : Nat
  oc : Nat
def acE : Enc Ac := ⟨4, fun x => [.int .i64 x.d, .int .i64 x.a, .int .i64 x.b, .slice x.oa x.on x.oc], fun _ => rfl, by intro a u hu; simp at hu; rcases hu with rfl | rfl | rfl | rfl <;> rfl, by omega⟩
theorem ac_cells {w : World} {G : Nat → Prop} {A : Option Addr} {n c : Nat} {L : List Ac} (h : RdL acE w G (.slice A n c) L) {i : Nat} {x : Ac} (hi : L[i]? = some x) :
    ∃ b off, A = some ⟨b, off, none⟩ ∧ b < w.heap.size ∧ w.cell? ⟨b, off + i * 4, none⟩ = some (.int .i64 x.d) ∧ w.cell? ⟨b, off + i * 4 + 1, none⟩ = some (.int .i64 x.a) ∧ w.cell? ⟨b, off + i * 4 + 2, none⟩ = some (.int .i64 x.b) ∧ w.cell? ⟨b, off + i * 4 + 3, none⟩ = some (.slice x.oa x.on x.oc) := by
  obtain ⟨b, off, hA, _, hb, hc⟩ := h.at_ hi
  exact ⟨b, off, hA, hb, hc 0 _ rfl, hc 1 _ rfl, hc 2 _ rfl, hc 3 _ rfl⟩
/-- What an act's numbers are. -/
def AcIn (w : World) (x : Ac) : Prop := In64 x.d ∧ In64 x.a ∧ In64 x.b ∧ (x.on ≤ 1000000 → ∃ l : List Int, l.length = x.on ∧ Rd w (fun b => b < w.heap.size) (.slice x.oa x.on x.oc) l ∧ ∀ y ∈ l, In64 y)

theorem results_tmp4 {fn : Func} {t u v x : Tmp} (h : fn.results = #[.tmp t, .tmp u, .tmp v, .tmp x]) (tmps : Array Value) (P : Program) (w : World) :
    (results fn tmps).run P w = .ok (.tuple #[tmps.getD t undef, tmps.getD u undef, tmps.getD v undef, tmps.getD x undef]) w := by
  simp [results, h]

/-- What an act answers, and the registrations behind it. -/
def actV (L : List Rg) (M d : Int) : Int := if d = 0 then addV L M else 0
def actE (L : List Rg) (M d : Int) : Int := if d = 0 then addE L M else 0
def actB (L : List Rg) (d a : Int) : Bool := if d = 1 then stopB L a else false
def actO (L : List Rg) (d : Int) (l : List Int) : List Int := if d = 2 then fireO L l else []
def actL (L : List Rg) (M d a b : Int) (l : List Int) : List Rg := if d = 0 then addL L M a b else if d = 1 then stopL L a else if d = 2 then fireL L l else L

section
variable {I : Af} {B : Nat → Prop} {w wk : World} {Rs : List Res} {v : Value} {L : List Rg} {M : Int}
theorem f_ok (h : Sep B w wk Rs) (i : Nat) (hi : Rs[i]? = some (ob I.O v (L, M))) : Ok L M := by
  obtain ⟨F, hR⟩ := ob_at h i hi
  exact I.ok hR

set_option maxRecDepth 100000 in
/-- do(l, a): the act. -/
theorem f_do (h : Sep B w wk Rs) (i : Nat) (hi : Rs[i]? = some (ob I.O v (L, M))) (d a b : Int) (oa : Option Addr) (oc : Nat) (l : List Int) (ha : In64 a) (hb : In64 b) (hl : l.length ≤ 1000) (hu : Rd wk (fun k => k < w.heap.size ∧ ¬ B k) (.slice oa l.length oc) l) (hi64 : ∀ x ∈ l, In64 x) :
    Calls Try.prog 10 #[v, .agg #[.int .i64 d, .int .i64 a, .int .i64 b, .slice oa l.length oc]] wk fun e wn => ∃ A c, e = .returned (.tuple #[.int .i64 (actV L M d), .int .i64 (actE L M d), .bool (actB L d a), .slice A (actO L d l).length c]) ∧ Sep B w wn (nums (.slice A (actO L d l).length c) (actO L d l) :: Rs.set i (ob I.O v (actL L M d a b l, M))) := by
  obtain ⟨pa, rfl⟩ := ob_ptr h i hi
  have S0 := Lib.hid (h.new (.cells #[.int .i64 d, .int .i64 a, .int .i64 b, .slice oa l.length oc] 34))
  have HU := Lib.hid (hu.alloc (.cells #[.int .i64 d, .int .i64 a, .int .i64 b, .slice oa l.length oc] 34))
  have HI : Hid ((blk wk.heap.size (.cells #[.int .i64 d, .int .i64 a, .int .i64 b, .slice oa l.length oc] 34) :: Rs)[i + 1]? = some (ob I.O (.pointer (some pa)) (L, M))) := by show _ = _; rw [List.getElem?_cons_succ]; exact hi
  have HL := Lib.hid hi64
  have HA := Lib.hid ha
  have HB := Lib.hid hb
  clear h hi hu hi64 ha hb
  rcases (by omega : d = 0 ∨ d = 1 ∨ d = 2 ∨ (d ≠ 0 ∧ d ≠ 1 ∧ d ≠ 2)) with rfl | rfl | rfl | ⟨d0, d1, d2⟩
  · go_enter Try.func10, Try.ntmps10
    go_wp2_with fail
    refine (ob_to S0.out (i + 1) HI.out fun _ hA => I.add hA a b HA.out HB.out).mono ?_
    rintro e w1 ⟨rfl, h1⟩
    rw [List.set_cons_succ] at h1
    have S1 := Lib.hid h1.tail.nil_nums
    clear h1
    go_wp2
    (try simp only [Exit.inBlock, Exit.then])
    refine bodyPost_ret (results_tmp4 rfl _ _ _) rfl ?_
    exact ⟨_, _, rfl, S1.out⟩
  · go_enter Try.func10, Try.ntmps10
    go_wp2_with fail
    refine (ob_to S0.out (i + 1) HI.out fun _ hA => I.stop hA a HA.out).mono ?_
    rintro e w1 ⟨rfl, h1⟩
    rw [List.set_cons_succ] at h1
    have S1 := Lib.hid h1.tail.nil_nums
    clear h1
    go_wp2
    (try simp only [Exit.inBlock, Exit.then])
    refine bodyPost_ret (results_tmp4 rfl _ _ _) rfl ?_
    exact ⟨_, _, rfl, S1.out⟩
  · go_enter Try.func10, Try.ntmps10
    go_wp2_with fail
    refine (ob_tells3 S0.out (i + 1) HI.out fun F hA hF => I.fire hA _ _ l HU.out (fun k hk hf => by rcases hF k hf with h | h; exact hk.2 h; have := hk.1; omega) hl HL.out).mono ?_
    rintro e w1 ⟨A1, c1, rfl, h1⟩
    rw [List.set_cons_succ] at h1
    have S1 := Lib.hid (h1.sub (.cons_cons _ (.cons _ (List.Sublist.refl _))))
    clear h1
    go_wp2
    (try simp only [Exit.inBlock, Exit.then])
    refine bodyPost_ret (results_tmp4 rfl _ _ _) rfl ?_
    exact ⟨_, _, rfl, S1.out⟩
  · have HR : Hid (actV L M d = 0 ∧ actE L M d = 0 ∧ actB L d a = false ∧ actO L d l = [] ∧ actL L M d a b l = L) := by
      show _ ∧ _
      unfold actV actE actB actO actL
      rw [if_neg d0, if_neg d0, if_neg d1, if_neg d2, if_neg d0, if_neg d1, if_neg d2]
      exact ⟨rfl, rfl, rfl, rfl, rfl⟩
    have e0 : (d == 0) = false := by simpa using d0
    have e1 : (d == 1) = false := by simpa using d1
    have e2 : (d == 2) = false := by simpa using d2
    have S1 : Hid (Sep B w (wk.alloc (.cells #[.int .i64 d, .int .i64 a, .int .i64 b, .slice oa l.length oc] 34)) (Rs.set i (ob I.O (.pointer (some pa)) (L, M)))) := by
      have h1 := S0.out.tail
      have h2 := HI.out
      rw [List.getElem?_cons_succ] at h2
      obtain ⟨hl', he⟩ := List.getElem?_eq_some_iff.1 h2
      rw [← he, List.set_getElem_self]
      exact h1
    clear d0 d1 d2
    go_enter Try.func10, Try.ntmps10
    go_wp2
    (try simp only [Exit.inBlock, Exit.then])
    refine bodyPost_ret (results_tmp4 rfl _ _ _) rfl ?_
    obtain ⟨q0, q1, q2, q3, q4⟩ := HR.out
    rw [q0, q1, q2, q3, q4]
    exact ⟨_, _, rfl, S1.out.nil_nums⟩
end

theorem large_len (w : World) (A : Option Addr) (len cap : Nat) (h : 60 < len) (_hlen : len ≤ 9223372036854775807) :
    Calls Try.prog 7 #[.slice A len cap] w fun e w' => e = .returned (.bool true) ∧ w = w' := by
  go_enter Try.func7, Try.ntmps7
  go_wp2
  go_ret
  exact ⟨rfl, rfl⟩
theorem large_any {w : World} {G : Nat → Prop} {A : Option Addr} {cap : Nat} {zs : List Ac} (h : RdL acE w G (.slice A zs.length cap) zs) (hl : zs.length ≤ 60) (hon : ∀ z ∈ zs, z.on ≤ 9223372036854775807) :
    Calls Try.prog 7 #[.slice A zs.length cap] w fun e w' => e = .returned (.bool (zs.any fun z => decide (60 < z.on))) ∧ Below w.heap.size w w' := by
  have HR := Lib.hid h
  have HN := Lib.hid hon
  clear h hon
  go_enter Try.func7, Try.ntmps7
  go_wp2
  go_loopw [10] (fun t wr => ∃ i : Nat, i ≤ zs.length ∧ t = .int .i64 i ∧ Hid (Below w.heap.size w wr) ∧ Hid ((zs.take i).any (fun z => decide (60 < z.on)) = false)) (fun t _ => zs.length - (intOf t).toNat)
  case atStart => exact ⟨0, Nat.zero_le _, rfl, Below.refl _ _, rfl⟩
  case round =>
    obtain ⟨i, hi, rfl, HB, HE⟩ := hrel
    by_cases hlt : i < zs.length
    · have hx : zs[i]? = some zs[i] := List.getElem?_eq_getElem hlt
      generalize zs[i] = z at hx
      obtain ⟨b, off, rfl, hbl, c0, c1, c2, c3⟩ := ac_cells HR.out hx
      have q0 := (HB.out.cell (p := ⟨b, off + i * 4, none⟩) hbl).trans c0
      have q1 := (HB.out.cell (p := ⟨b, off + i * 4 + 1, none⟩) hbl).trans c1
      have q2 := (HB.out.cell (p := ⟨b, off + i * 4 + 2, none⟩) hbl).trans c2
      have q3 := (HB.out.cell (p := ⟨b, off + i * 4 + 3, none⟩) hbl).trans c3
      have HB2 : Hid (Below w.heap.size w (wr.alloc (.cells #[.int .i64 z.d, .int .i64 z.a, .int .i64 z.b, .slice z.oa z.on z.oc] 34))) := HB.out.alloc HB.out.size _
      have hzn := HN.out z (List.mem_of_getElem? hx)
      have HT : Hid (zs.take (i + 1) = zs.take i ++ [z]) := by show _ = _; rw [List.take_add_one, hx]; rfl
      have HM := Lib.hid (List.mem_of_getElem? hx)
      clear c0 c1 c2 c3 hx
      by_cases h60 : 60 < z.on
      · have HA : Hid (zs.any (fun z => decide (60 < z.on)) = true) := List.any_eq_true.2 ⟨z, HM.out, by simpa using h60⟩
        go_wp2
        go_ret
        exact ⟨ret_bool HA.out.symm, HB2.out⟩
      · have HE2 : Hid ((zs.take (i + 1)).any (fun z => decide (60 < z.on)) = false) := by show _ = _; rw [HT.out, List.any_append, HE.out]; simp; omega
        go_wp2
        go_roundw
        case rel => exact ⟨i + 1, by omega, by go_num, HB2, HE2⟩
        case measure => simp [intOf]; omega
    · have HX : Hid (zs.any (fun z => decide (60 < z.on)) = false) := by have := HE.out; rwa [List.take_of_length_le (by omega)] at this
      go_wp2
      go_ret
      exact ⟨ret_bool HX.out.symm, HB.out⟩
end Go.Proofs.Ytindcpcfilfnkaa.AfterI
