/-
  Proved: for all int64 a, b, c the law SatOrder returns true and leaves its arguments as they were. No condition.
-/
import Derived.Test.YtmmfganpgcefbaaRows
import Derived.Test.YtmmfganpgcefbaaSatWalks
import Derived.WalkKit
import Derived.ProofKit
import Derived.OpenShut
namespace Go.Proofs.Ytmmfganpgcefbaa.satOrder
open Go.ChangeShapes Go.WideShapes Go.ChangeAt Go.RowKit
set_option linter.unusedVariables false      -- a walk need not use every 'w<i>' (that an integer argument fits its kind)

theorem own : ownKnob Try.prog.godebug = none := by kernel_rfl

/-! ### STEP 1: THE WALK: the Go text returns true. 'Grown w w'': the world has at most new blocks (Derived/RowKit3.lean). Part the cases AHEAD of 'go_enter' where a test parts the walk; take each callee by a contract of your own. -/
theorem walk (a0 : Int) (a1 : Int) (a2 : Int) (w0 : (Lit.int .i64 a0).wf = true) (w1 : (Lit.int .i64 a1).wf = true) (w2 : (Lit.int .i64 a2).wf = true) (w : World) :
    Calls Try.prog 4 #[.int .i64 a0, .int .i64 a1, .int .i64 a2] w fun e w' => e = .returned (.bool true) ∧ Grown w w' := by
  obtain ⟨c0, b0⟩ := SatW.in64 w0
  obtain ⟨c1, b1⟩ := SatW.in64 w1
  obtain ⟨c2, b2⟩ := SatW.in64 w2
  obtain ⟨v1, e1⟩ : ∃ v, SatW.satv (a0 + a1) = v := ⟨_, rfl⟩
  obtain ⟨v2, e2⟩ : ∃ v, SatW.satv (a2 + a1) = v := ⟨_, rfl⟩
  obtain ⟨v3, e3⟩ : ∃ v, SatW.satv (a0 - a1) = v := ⟨_, rfl⟩
  obtain ⟨v4, e4⟩ : ∃ v, SatW.satv (a2 - a1) = v := ⟨_, rfl⟩
  obtain ⟨v5, e5⟩ : ∃ v, SatW.satv (a1 - a0) = v := ⟨_, rfl⟩
  obtain ⟨v6, e6⟩ : ∃ v, SatW.satv (a1 - a2) = v := ⟨_, rfl⟩
  have H1 := Lib.hid e1
  have H2 := Lib.hid e2
  have H3 := Lib.hid e3
  have H4 := Lib.hid e4
  have H5 := Lib.hid e5
  have H6 := Lib.hid e6
  have H7 : Hid (SatW.satv (a1 + a0) = v1) := by show _ = _; rw [Int.add_comm]; exact e1
  have H8 : Hid (SatW.satv (a0 + 0) = a0) := by show _ = _; unfold SatW.satv; omega
  have H9 : Hid (SatW.satv (a0 - 0) = a0) := by show _ = _; unfold SatW.satv; omega
  have H10 : Hid (SatW.satv (a0 - a0) = 0) := by show _ = _; unfold SatW.satv; omega
  rcases (by omega : a2 < a0 ∨ a0 ≤ a2) with h | h
  · clear e1 e2 e3 e4 e5 e6
    go_enter Try.func4, Try.ntmps4
    go_wp2_with (first
      | (go_at_call 7; refine (SatW.awake_any _).mono ?_; rintro e w' ⟨rfl, hg⟩)
      | (go_at_call 8; (first | (with_reducible refine (SatW.add_eq a0 a1 v1 _ (by omega) (by omega) (by omega) (by omega) H1).mono ?_) | (with_reducible refine (SatW.add_eq a1 a0 v1 _ (by omega) (by omega) (by omega) (by omega) H7).mono ?_) | (with_reducible refine (SatW.add_eq a0 0 a0 _ (by omega) (by omega) (by omega) (by omega) H8).mono ?_)); rintro e w' ⟨rfl, rfl⟩)
      | (go_at_call 10; (first | (with_reducible refine (SatW.sub_eq a0 0 a0 _ (by omega) (by omega) (by omega) (by omega) H9).mono ?_) | (with_reducible refine (SatW.sub_eq a0 a0 0 _ (by omega) (by omega) (by omega) (by omega) H10).mono ?_)); rintro e w' ⟨rfl, rfl⟩))
    go_ret
    exact ⟨rfl, hg⟩
  · have h1 : v1 ≤ v2 := by unfold SatW.satv at *; omega
    have h2 : v3 ≤ v4 := by unfold SatW.satv at *; omega
    have h3 : v6 ≤ v5 := by unfold SatW.satv at *; omega
    clear e1 e2 e3 e4 e5 e6
    go_enter Try.func4, Try.ntmps4
    go_wp2_with (first
      | (go_at_call 7; refine (SatW.awake_any _).mono ?_; rintro e w' ⟨rfl, hg⟩)
      | (go_at_call 8; (first | (with_reducible refine (SatW.add_eq a0 a1 v1 _ (by omega) (by omega) (by omega) (by omega) H1).mono ?_) | (with_reducible refine (SatW.add_eq a1 a0 v1 _ (by omega) (by omega) (by omega) (by omega) H7).mono ?_) | (with_reducible refine (SatW.add_eq a0 0 a0 _ (by omega) (by omega) (by omega) (by omega) H8).mono ?_) | (with_reducible refine (SatW.add_eq a2 a1 v2 _ (by omega) (by omega) (by omega) (by omega) H2).mono ?_)); rintro e w' ⟨rfl, rfl⟩)
      | (go_at_call 10; (first | (with_reducible refine (SatW.sub_eq a0 0 a0 _ (by omega) (by omega) (by omega) (by omega) H9).mono ?_) | (with_reducible refine (SatW.sub_eq a0 a0 0 _ (by omega) (by omega) (by omega) (by omega) H10).mono ?_) | (with_reducible refine (SatW.sub_eq a0 a1 v3 _ (by omega) (by omega) (by omega) (by omega) H3).mono ?_) | (with_reducible refine (SatW.sub_eq a2 a1 v4 _ (by omega) (by omega) (by omega) (by omega) H4).mono ?_) | (with_reducible refine (SatW.sub_eq a1 a0 v5 _ (by omega) (by omega) (by omega) (by omega) H5).mono ?_) | (with_reducible refine (SatW.sub_eq a1 a2 v6 _ (by omega) (by omega) (by omega) (by omega) H6).mono ?_)); rintro e w' ⟨rfl, rfl⟩))
    go_ret
    exact ⟨rfl, hg⟩

/-! ### THE ROW's STEP: WRITTEN OUT: LEAVE IT -/
set_option maxRecDepth 100000 in
theorem lifted (os : Os) (started : os.Started) (H : Type) (enc : TypeId × Value → H) :
    ReturnsInHanded {} Try.checked os 4 .any (Rows.satOrderSpec.pre6 enc Try.prog Try.f4 Rows.satOrderRow.domain false) (Rows.satOrderSpec.post enc Try.prog Try.f4 false true false false) := by
  refine returnsInHanded_of_change (C := Try.checked) own started (by kernel_rfl) Try.func4
    (ChangeSpec.witness6 (enc := enc) (C := Try.checked) false ⟨#[], #[.int .i64 0, .int .i64 0, .int .i64 0], []⟩ 8 (by kernel_rfl) (by kernel_rfl) (by kernel_rfl) (by kernel_rfl)) ?_
  intro W base args ds gs before hval0 hW hcnd _
  have hval : ∀ (j : Nat) t v, Try.f4.params[j]? = some t → args[j]? = some v → Value.okWide Try.prog W .any base t v := hval0
  have hW' := hW
  obtain ⟨p, q, hA0, hV, rfl, hfz, hnd⟩ := hW
  have hA : DataW.TrodAll enc Try.prog W 0 (fun _ => true) true Try.f4.params.toList args.toList ds p := hA0
  rw [Try.params4] at hA hval
  obtain ⟨v0, vs0, d0, ds0, p0, q0, hargs, rfl, rfl, h0, r0⟩ := trodAll_cons hA
  obtain ⟨v1, vs1, d1, ds1, p1, q1, rfl, rfl, rfl, h1, r1⟩ := trodAll_cons r0
  obtain ⟨v2, vs2, d2, ds2, p2, q2, rfl, rfl, rfl, h2, r2⟩ := trodAll_cons r1
  obtain ⟨rfl, rfl, rfl⟩ := trodAll_nil r2
  obtain rfl : args = #[v0, v1, v2] := by cases args; simp_all
  obtain ⟨rfl, rfl⟩ := trodVars_none hV
  obtain ⟨a0, rfl, rfl, rfl, w0⟩ := open_int Try.underlying2 (hval 0 2 v0 rfl rfl) h0
  obtain ⟨a1, rfl, rfl, rfl, w1⟩ := open_int Try.underlying2 (hval 1 2 v1 rfl rfl) h1
  obtain ⟨a2, rfl, rfl, rfl, w2⟩ := open_int Try.underlying2 (hval 2 2 v2 rfl rfl) h2
  clear hA0 hval0
  simp only [List.append_nil] at hW'
  refine (walk a0 a1 a2 w0 w1 w2 W).mono fun e W' ⟨he, hg⟩ => ?_
  subst he
  exact ⟨_, rfl, post_of_same (pa := []) (pv := []) hW' (fun _ _ _ => (trodAll_cons_mk (shut_bool Try.underlying4 _) trodAll_mk0)) (fun sp _ => (trodAll_cons_mk (shut_int Try.underlying2 w0) (trodAll_cons_mk (shut_int Try.underlying2 w1) (trodAll_cons_mk (shut_int Try.underlying2 w2) trodAll_mk0)))) (fun _ _ => rfl) rfl
    (hg.frame _) hg.2.1 (ok_one (by kernel_rfl) rfl (okWide_bool_mk Try.underlying4 _))⟩

theorem over : Rows.satOrderRow.holds Try.pinned (OpenSpec.ofChange Rows.satOrderSpec) :=
  OpenClaim.holds_of_wide 4 Try.f4 rfl rfl rfl rfl rfl rfl rfl ⟨rfl, rfl, rfl, rfl, rfl⟩ rfl rfl rfl rfl rfl (by kernel_rfl) Try.func4 (by kernel_rfl)
    (of_decide_eq_true (by kernel_rfl)) (by unfold Func.isWrapper; first | (rw [if_pos (by decide +kernel)]; kernel_rfl) | (rw [if_neg (by decide +kernel)]; exact ⟨rfl, rfl⟩))
    (fun os started H enc _ => lifted os started H enc)

/-- ████ THE STATEMENT ████ -/
theorem proved : Rows.SatOrderSaid :=
  over
#print axioms proved
end Go.Proofs.Ytmmfganpgcefbaa.satOrder
