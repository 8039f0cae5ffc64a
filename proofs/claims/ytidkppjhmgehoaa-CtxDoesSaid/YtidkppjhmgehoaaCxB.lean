/-
  Contracts of the functions of package ctx, as it landed, second part: those that tell of one context. Condition: the arena is as 'Sees' says.
-/
import Derived.Test.YtidkppjhmgehoaaCxA
import Derived.Deep.QuietTactic
import Derived.BigQuiet
import Derived.Deep.LoopGhost
namespace Go.Proofs.Ytidkppjhmgehoaa.CxC
open Go.ChangeShapes Go.WideShapes Go.ChangeAt Go.RowKit Mem TreeP CtxP Hand TreeC CtxI

theorem done_c (e c : Int) (w : World) : Calls Try.prog 49 #[endV e c] w fun r w' => r = .returned (.bool (decide (e ≠ 0))) ∧ Below w.heap.size w w' := by
  unfold endV
  go_enter Try.func49, Try.ntmps49
  go_wp2
  go_ret
  exact ⟨ret_bool (by rw [Bool.eq_iff_iff]; simp), new_below0 w _⟩
theorem came_c (h : Bool) (t e c now : Int) (w : World) : Calls Try.prog 53 #[dlV h t e c, .int .i64 now] w fun r w' => r = .returned (.bool (h && decide (t ≤ now))) ∧ Below w.heap.size w w' := by
  unfold dlV
  cases h
  all_goals
    go_enter Try.func53, Try.ntmps53
    go_wp2
    go_ret
    exact ⟨ret_bool (by simp), new_below0 w _⟩
theorem endBy_c (e c : Int) (w : World) : Calls Try.prog 60 #[.int .i64 e, .int .i64 c] w fun r w' => r = .returned (endV e (cz e c)) ∧ Below w.heap.size w w' := by
  have hz : Hid (cz e c = if c = 0 then e else c) := rfl
  by_cases hc : c = 0
  · subst hc
    have hz2 : Hid (cz e 0 = e) := by show _ = _; rw [hz.out]; simp
    clear hz
    go_enter Try.func60, Try.ntmps60
    go_wp2
    exact bodyPost_ret (v := endV e e) (by simp [results, Try.results60, go_sem, endV]) rfl ⟨by rw [hz2.out], new_below0 w _⟩
  · have hz2 : Hid (cz e c = c) := by show _ = _; rw [hz.out, if_neg hc]
    have e1 : (c == 0) = false := by simpa using hc
    clear hz hc
    go_enter Try.func60, Try.ntmps60
    go_wp2
    exact bodyPost_ret (v := endV e c) (by simp [results, Try.results60, go_sem, endV]) rfl ⟨by rw [hz2.out], new_below0 w _⟩

theorem field_end (x : Cn) (w : World) : (Instr.field 76 (.agg #[.bool x.has, .int .i64 x.at_, .int .i64 (lateE x), .int .i64 (lateZ x), .bool x.named, .int .i64 x.key, .int .i64 x.value, .int .i64 x.e, .int .i64 x.cause]) 2).run Try.prog w = .ok (.agg #[.int .i64 x.e, .int .i64 x.cause]) w := by kernel_rfl
theorem field_err (e c : Int) (w : World) : (Instr.field 70 (.agg #[.int .i64 e, .int .i64 c]) 0).run Try.prog w = .ok (.int .i64 e) w := by kernel_rfl
theorem field_cause (e c : Int) (w : World) : (Instr.field 70 (.agg #[.int .i64 e, .int .i64 c]) 1).run Try.prog w = .ok (.int .i64 c) w := by kernel_rfl

section
variable {w : World} {p : Nat} {T : List Nd} {X : List Cn} {M : Int} {q : Nat} {A : Option Addr} {c : Nat} {G : Nat → Prop} (h : Sees w p T X M q A c G)
include h
theorem small : X.length ≤ 200 := by have := h.ok.len; have := h.ok.m1; have := h.len; omega
theorem of_c (n : Int) : Calls Try.prog 48 #[.pointer (some ⟨p, 0, none⟩), .int .i64 n] w fun e w' => e = .returned (xVal (getX T X n)) ∧ Below w.heap.size w w' := by
  have hm := small h
  have hs1 := h.below (new_below0 w (.cells #[.bool false, .int .i64 0, .int .i64 0, .int .i64 0, .bool false, .int .i64 0, .int .i64 0, .int .i64 0, .int .i64 0] 76))
  have k1 := hs1.c1
  have hpl := hs1.lt
  have hlen := h.len
  have HR := Lib.hid h.rd
  clear hs1 h
  cases ht : there T n with
  | false =>
    have HE : Hid (getX T X n = zeroCn) := by show _ = _; unfold getX; rw [if_neg (by rw [ht]; simp)]
    have hn : ¬ (0 ≤ n ∧ n < T.length) := by rw [← there_iff, ht]; simp
    clear ht
    by_cases h0 : n < 0
    · have hd : decide (n < 0) = true := decide_eq_true h0
      clear hn
      go_enter Try.func48, Try.ntmps48
      go_wp2
      exact bodyPost_ret (v := xVal zeroCn) (by simp [results, Try.results48, go_sem, xVal, zeroCn, lateE, lateZ]) rfl ⟨by rw [HE.out], new_below0 w _⟩
    · have hd : decide (n < 0) = false := decide_eq_false h0
      have h1 : (X.length : Int) ≤ n := by omega
      clear hn
      go_enter Try.func48, Try.ntmps48
      go_wp2
      exact bodyPost_ret (v := xVal zeroCn) (by simp [results, Try.results48, go_sem, xVal, zeroCn, lateE, lateZ]) rfl ⟨by rw [HE.out], new_below0 w _⟩
  | true =>
    have HE : Hid (getX T X n = cn X n) := by show _ = _; unfold getX; rw [if_pos ht]
    obtain ⟨i, rfl, hi⟩ := there_nat ht
    obtain ⟨bb, off, rfl, _, hbl, c0, c1, c2, c3, c4, c5, c6, c7, c8⟩ := x_cells HR.out (cn_at (X := X) (i := i) (by omega))
    have i0 : (0 : Int) ≤ (i : Int) := by omega
    have i1 : (i : Int) < (X.length : Int) := by omega
    clear ht
    generalize cn X (i : Nat) = x at *
    unfold xVal
    generalize hle : lateE x = le at *
    generalize hlz : lateZ x = lz at *
    have HLE := Lib.hid hle
    have HLZ := Lib.hid hlz
    clear hle hlz
    go_enter Try.func48, Try.ntmps48
    go_wp2
    exact bodyPost_ret (v := .agg #[.bool x.has, .int .i64 x.at_, .int .i64 le, .int .i64 lz, .bool x.named, .int .i64 x.key, .int .i64 x.value, .int .i64 x.e, .int .i64 x.cause]) (by simp [results, Try.results48, go_sem]) rfl ⟨by rw [HE.out, HLE.out, HLZ.out], new_below0 w _⟩
set_option maxRecDepth 100000 in
theorem err_c (n : Int) : Calls Try.prog 21 #[.pointer (some ⟨p, 0, none⟩), .int .i64 n] w fun e w' => e = .returned (.int .i64 (getX T X n).e) ∧ Below w.heap.size w w' := by
  have HO := Lib.hid (of_c h n)
  clear h
  unfold xVal at HO
  go_enter Try.func21, Try.ntmps21
  go_wp2_with fail
  refine HO.out.mono ?_
  rintro e w1 ⟨rfl, hb⟩
  have f1 := field_end (getX T X n)
  have f2 := field_err (getX T X n).e (getX T X n).cause
  go_wp2
  go_ret
  exact ⟨rfl, hb⟩
set_option maxRecDepth 100000 in
theorem cause_c (n : Int) : Calls Try.prog 22 #[.pointer (some ⟨p, 0, none⟩), .int .i64 n] w fun e w' => e = .returned (.int .i64 (getX T X n).cause) ∧ Below w.heap.size w w' := by
  have HO := Lib.hid (of_c h n)
  clear h
  unfold xVal at HO
  go_enter Try.func22, Try.ntmps22
  go_wp2_with fail
  refine HO.out.mono ?_
  rintro e w1 ⟨rfl, hb⟩
  have f1 := field_end (getX T X n)
  have f2 := field_cause (getX T X n).e (getX T X n).cause
  go_wp2
  go_ret
  exact ⟨rfl, hb⟩
set_option maxRecDepth 100000 in
theorem doneN_c (n : Int) : Calls Try.prog 23 #[.pointer (some ⟨p, 0, none⟩), .int .i64 n] w fun e w' => e = .returned (.bool (decide ((getX T X n).e ≠ 0))) ∧ Below w.heap.size w w' := by
  have HO := Lib.hid (of_c h n)
  have HD : Hid (∀ w, Calls Try.prog 49 #[endV (getX T X n).e (getX T X n).cause] w fun r w' => r = .returned (.bool (decide ((getX T X n).e ≠ 0))) ∧ Below w.heap.size w w') := fun w => done_c _ _ w
  clear h
  unfold xVal at HO
  unfold endV at HD
  generalize decide ((getX T X n).e ≠ 0) = d at *
  go_enter Try.func23, Try.ntmps23
  go_wp2_with fail
  refine HO.out.mono ?_
  rintro e w1 ⟨rfl, hb⟩
  have HB := Lib.hid hb
  clear hb
  have f1 := field_end (getX T X n)
  go_wp2_with fail
  refine (HD.out w1).mono ?_
  rintro e w2 ⟨rfl, hb⟩
  have HB2 := Lib.hid (HB.out.trans (hb.mono HB.out.size))
  clear hb
  go_wp2
  go_ret
  exact ⟨rfl, HB2.out⟩
theorem lenA_c : Calls Try.prog 13 #[.pointer (some ⟨p, 0, none⟩)] w fun e w' => e = .returned (.int .i64 T.length) ∧ Below w.heap.size w w' := by
  have HL := Lib.hid (len_c h.tree)
  have k0 := h.c0
  clear h
  go_enter Try.func13, Try.ntmps13
  go_wp2_with fail
  refine HL.out.mono ?_
  rintro e w1 ⟨rfl, rfl⟩
  go_wp2
  go_ret
  exact ⟨rfl, Below.refl _ _⟩
theorem reachA_c (n : Int) : Calls Try.prog 24 #[.pointer (some ⟨p, 0, none⟩), .int .i64 n] w fun e w' => ∃ u, e = .returned u ∧ New w w' u (reachT T n) := by
  have HL := Lib.hid (reach_c h.tree h.glt h.ok.wf (by have := h.ok.len; have := h.ok.m1; omega) n)
  have k0 := h.c0
  clear h
  go_enter Try.func24, Try.ntmps24
  go_wp2_with fail
  refine HL.out.mono ?_
  rintro e w1 ⟨u, rfl, hn⟩
  obtain ⟨A1, c1, rfl, ho, hb⟩ := hn
  have HO := Lib.hid ho
  have HB := Lib.hid hb
  clear ho hb
  go_wp2
  go_ret
  exact ⟨_, rfl, _, _, rfl, HO.out, HB.out⟩
end
end Go.Proofs.Ytidkppjhmgehoaa.CxC
