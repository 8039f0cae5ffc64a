/-
  Contracts of the functions of package ctx, as it landed, eighth part: who is late, and in what order; one by one is what the document says, as plain mathematics. Condition: the arena is as 'Sees' says.
-/
import Derived.Test.YtidkppjhmgehoaaCxG
import Derived.Test.YtidkppjhmgehoaaSortD
import Derived.StillTailTactics
namespace Go.Proofs.Ytidkppjhmgehoaa.CxC
open Go.ChangeShapes Go.WideShapes Go.ChangeAt Go.RowKit Mem TreeP CtxP Hand TreeC CtxI

theorem quiet_left2 {P : Program} {f : FuncId} {args : Array Value} {w : World} {n : Nat} {u : Value} (h : Calls P f args (w.drewN n) fun e w' => e = .returned u ∧ w.drewN n = w') : Calls P f args (w.drewN n) fun e w'' => e = .returned u ∧ ∃ m, w'' = w.drewN m :=
  h.mono fun _ _ ⟨he, hw⟩ => ⟨he, n, hw.symm⟩
theorem nan_c (x : Int) (w : World) : Calls Try.prog 70 #[.int .i64 x] w fun e w' => e = .returned (.bool false) ∧ w = w' := by
  go_enter Try.func70, Try.ntmps70
  go_wp2
  go_ret
  exact ⟨rfl, rfl⟩
theorem compare_c (a b : Int) (w : World) : Calls Try.prog 56 #[.int .i64 a, .int .i64 b] w fun e w' => e = .returned (.int .i64 (SortC.cmpV a b)) ∧ w = w' := by
  have HV : Hid (SortC.cmpV a b = if a < b then -1 else if b < a then 1 else 0) := rfl
  rcases (by omega : a < b ∨ (¬ a < b ∧ b < a) ∨ (¬ a < b ∧ ¬ b < a)) with h | ⟨h1, h2⟩ | ⟨h1, h2⟩
  · have HE : Hid (SortC.cmpV a b = -1) := by show _ = _; rw [HV.out, if_pos h]
    clear HV
    go_enter Try.func56, Try.ntmps56
    go_wp2_with (go_at_call 70; refine (nan_c _ _).mono ?_; rintro e w' ⟨rfl, rfl⟩)
    go_ret
    exact ⟨ret_int HE.out.symm, rfl⟩
  · have HE : Hid (SortC.cmpV a b = 1) := by show _ = _; rw [HV.out, if_neg h1, if_pos h2]
    clear HV
    go_enter Try.func56, Try.ntmps56
    go_wp2_with (go_at_call 70; refine (nan_c _ _).mono ?_; rintro e w' ⟨rfl, rfl⟩)
    go_ret
    exact ⟨ret_int HE.out.symm, rfl⟩
  · have HE : Hid (SortC.cmpV a b = 0) := by show _ = _; rw [HV.out, if_neg h1, if_neg h2]
    clear HV
    go_enter Try.func56, Try.ntmps56
    go_wp2_with (go_at_call 70; refine (nan_c _ _).mono ?_; rintro e w' ⟨rfl, rfl⟩)
    go_ret
    exact ⟨ret_int HE.out.symm, rfl⟩

section
variable {w : World} {p : Nat} {T : List Nd} {X : List Cn} {M : Int} {q : Nat} {A : Option Addr} {c : Nat} {G : Nat → Prop} (h : Sees w p T X M q A c G) {qa : Nat} (ha : w.heap[qa]? = some (.cells #[.pointer (some ⟨p, 0, none⟩)] 24 (0, 0)))
include h ha
/-- Two deadlines compared. -/
theorem due2_c (x y : Int) (hx : there T x = true) (hy : there T y = true) : Calls Try.prog 55 #[.int .i64 x, .int .i64 y, .pointer (some ⟨qa, 0, none⟩)] w fun e w2 => e = .returned (.int .i64 (SortC.cmpV (cn X x).at_ (cn X y).at_)) ∧ ∃ d, w2 = w.drewN d := by
  have hlen := h.len
  have k1 := h.c1
  have b0 : w.cell? ⟨qa, 0, none⟩ = some (.pointer (some ⟨p, 0, none⟩)) := (cell_block ha 0).trans rfl
  obtain ⟨i, rfl, hi⟩ := there_nat hx
  obtain ⟨j, rfl, hj⟩ := there_nat hy
  obtain ⟨bb, off, rfl, _, _, _, c1, _⟩ := x_cells h.rd (cn_at (X := X) (i := i) (by omega))
  obtain ⟨bb', off', e, _, _, _, d1, _⟩ := x_cells h.rd (cn_at (X := X) (i := j) (by omega))
  obtain ⟨rfl, rfl⟩ : bb = bb' ∧ off = off' := by injection e with e; injection e with e1 e2; exact ⟨e1, e2⟩
  have i0 : (0 : Int) ≤ (i : Int) := by omega
  have i1 : (i : Int) < (X.length : Int) := by omega
  have j0 : (0 : Int) ≤ (j : Int) := by omega
  have j1 : (j : Int) < (X.length : Int) := by omega
  have HC := Lib.hid (compare_c (cn X (i : Nat)).at_ (cn X (j : Nat)).at_)
  clear h ha hx hy e
  generalize (cn X (i : Nat)).at_ = a at *
  generalize (cn X (j : Nat)).at_ = b at *
  generalize SortC.cmpV a b = v at *
  go_enter Try.func55, Try.ntmps55
  go_wp2_with fail
  go_quiet ((go_at_call 56; exact quiet_left2 (HC.out _)))
  go_wp2
  go_ret
  exact ⟨rfl, _, rfl⟩
set_option maxRecDepth 100000 in
/-- Who isn't late. -/
theorem due1_c {qn : Nat} {now : Int} (hn : w.heap[qn]? = some (.cells #[.int .i64 now] 2 (0, 0))) (x : Int) (hx : there T x = true) :
    Calls Try.prog 52 #[.int .i64 x, .pointer (some ⟨qa, 0, none⟩), .pointer (some ⟨qn, 0, none⟩)] w fun e w2 => e = .returned (.bool (!((cn X x).has && decide ((cn X x).at_ ≤ now)))) ∧ Below w.heap.size w w2 := by
  have hlen := h.len
  have k1 := h.c1
  have b0 : w.cell? ⟨qa, 0, none⟩ = some (.pointer (some ⟨p, 0, none⟩)) := (cell_block ha 0).trans rfl
  have n0 : w.cell? ⟨qn, 0, none⟩ = some (.int .i64 now) := (cell_block hn 0).trans rfl
  obtain ⟨i, rfl, hi⟩ := there_nat hx
  obtain ⟨bb, off, rfl, _, _, c0, c1, c2, c3, _⟩ := x_cells h.rd (cn_at (X := X) (i := i) (by omega))
  have i0 : (0 : Int) ≤ (i : Int) := by omega
  have i1 : (i : Int) < (X.length : Int) := by omega
  have HC := Lib.hid (came_c (cn X (i : Nat)).has (cn X (i : Nat)).at_ (lateE (cn X (i : Nat))) (lateZ (cn X (i : Nat))) now)
  have hb0 : Below w.heap.size w w.drew := (Below.refl _ _).drew
  have k1' : w.drew.cell? ⟨p, 1, none⟩ = _ := k1
  have b0' : w.drew.cell? ⟨qa, 0, none⟩ = _ := b0
  have n0' : w.drew.cell? ⟨qn, 0, none⟩ = _ := n0
  have c0' : w.drew.cell? ⟨bb, off + i * 9, none⟩ = _ := c0
  have c1' : w.drew.cell? ⟨bb, off + i * 9 + 1, none⟩ = _ := c1
  have c2' : w.drew.cell? ⟨bb, off + i * 9 + 2, none⟩ = _ := c2
  have c3' : w.drew.cell? ⟨bb, off + i * 9 + 3, none⟩ = _ := c3
  have HB0 := Lib.hid hb0
  clear h ha hn hx k1 b0 n0 c0 c1 c2 c3 hb0
  unfold dlV at HC
  generalize (cn X (i : Nat)).at_ = a at *
  generalize lateE (cn X (i : Nat)) = le at *
  generalize lateZ (cn X (i : Nat)) = lz at *
  generalize (cn X (i : Nat)).has = hh at *
  generalize (hh && decide (a ≤ now)) = v at *
  go_enter Try.func52, Try.ntmps52
  go_wp2_with fail
  refine wp_region_still_tail 9 (by kernel_rfl) (by kernel_rfl) ?_
  simp only [List.take_succ_cons, List.take_zero, List.drop_succ_cons, List.drop_zero]
  change wpStill _ _ w.drew (fun a' => wpList _ _ _ _ a' w.drew) _ _
  generalize w.drew = w2 at *
  repeat still_step
  refine wpStill_nil ?_
  go_wp2_with fail
  refine (HC.out w2).mono ?_
  rintro r w3 ⟨rfl, hb⟩
  have HB := Lib.hid (HB0.out.trans (hb.mono HB0.out.size))
  clear hb HC
  go_wp2
  go_ret
  exact ⟨rfl, HB.out⟩
end

/-- One by one, in the order that is told. -/
def dueRun (T : List Nd) : List Int → List Cn → List Int × List Cn
  | [], X => ([], X)
  | n :: l, X => (toldL X (reachT T n) ++ (dueRun T l (markL X (reachT T n) (lateE (cn X n)) (lateZ (cn X n)))).1, (dueRun T l (markL X (reachT T n) (lateE (cn X n)) (lateZ (cn X n)))).2)
end Go.Proofs.Ytidkppjhmgehoaa.CxC
