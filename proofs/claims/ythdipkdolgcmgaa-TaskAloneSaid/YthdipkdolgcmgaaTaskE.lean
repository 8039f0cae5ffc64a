/-
  Two tasks held against each other as a whole; the document's task of a task. Over the law's own program. No condition.
-/
import Derived.Test.YthdipkdolgcmgaaTaskI
import Derived.Laws.StructEq
import Derived.ChangeKeysEq
namespace Go.Proofs.Ythdipkdolgcmgaa.TaskI
open Go.ChangeShapes Go.WideShapes Go.ChangeAt Go.RowKit Mem MutP TaskP Hand RefTask

theorem tk_lit (t : Tk) : ∃ x0 x1 x2 x3 x4 x5 x6 x7 x8 x9 x10 x11 x12 x13 x14 x15 x16 : Int, t.1 = [x0, x1, x2, x3, x4, x5, x6, x7, x8, x9, x10, x11, x12, x13, x14, x15, x16] := by
  obtain ⟨l, h⟩ := t
  match l, h with
  | [x0, x1, x2, x3, x4, x5, x6, x7, x8, x9, x10, x11, x12, x13, x14, x15, x16], _ => exact ⟨x0, x1, x2, x3, x4, x5, x6, x7, x8, x9, x10, x11, x12, x13, x14, x15, x16, rfl⟩
theorem tkHeld : Try.prog.stoodInHeld 53 = false := by kernel_rfl
theorem tpHeld : Try.prog.stoodInHeld 32 = false := by kernel_rfl
theorem rkHeld : Try.prog.stoodInHeld 57 = false := by kernel_rfl
theorem rpHeld : Try.prog.stoodInHeld 42 = false := by kernel_rfl
theorem tkGuard : Try.prog.eqGuardType Try.prog.depth 53 = false := by kernel_rfl
theorem rkGuard : Try.prog.eqGuardType Try.prog.depth 57 = false := by kernel_rfl

theorem ite_ok {W : World} {p : Prop} [Decidable p] {b : Bool} : (if p then Result.ok b W else Result.ok false W) = Result.ok (decide p && b) W := by by_cases h : p <;> simp [h]
theorem ite_no {W : World} {p : Prop} [Decidable p] {b : Bool} : (if p then Result.ok false W else Result.ok b W) = Result.ok (!decide p && b) W := by by_cases h : p <;> simp [h]
/-- '==' of six numbers in a struct. -/
theorem run_pkT (W : World) (x0 x1 x2 x3 x4 x5 y0 y1 y2 y3 y4 y5 : Int) : (Op.equalIn 9999 32 (.agg #[.int .i64 x0, .int .i64 x1, .int .i64 x2, .int .i64 x3, .int .i64 x4, .int .i64 x5]) (.agg #[.int .i64 y0, .int .i64 y1, .int .i64 y2, .int .i64 y3, .int .i64 y4, .int .i64 y5])).run Try.prog W = .ok (decide ([x0, x1, x2, x3, x4, x5] = [y0, y1, y2, y3, y4, y5])) W := by
  have hut : Try.prog.underlying 32 = some (.struct (Try.prog.fieldsOf 32)) := by simp only [Program.fieldsOf, Try.underlying32]
  rw [run_equalIn_agg _ 9998 _ _ _ hut tpHeld]
  simp only [Program.fieldsOf, Try.underlying32]
  have h3 := Try.underlying3
  have h4 := Try.underlying2
  simp [go_sem, h3, h4]
  simp only [ite_ok, Bool.and_true]
/-- '==' of six numbers in a struct. -/
theorem run_pkR (W : World) (x0 x1 x2 x3 x4 x5 y0 y1 y2 y3 y4 y5 : Int) : (Op.equalIn 9999 42 (.agg #[.int .i64 x0, .int .i64 x1, .int .i64 x2, .int .i64 x3, .int .i64 x4, .int .i64 x5]) (.agg #[.int .i64 y0, .int .i64 y1, .int .i64 y2, .int .i64 y3, .int .i64 y4, .int .i64 y5])).run Try.prog W = .ok (decide ([x0, x1, x2, x3, x4, x5] = [y0, y1, y2, y3, y4, y5])) W := by
  have hut : Try.prog.underlying 42 = some (.struct (Try.prog.fieldsOf 42)) := by simp only [Program.fieldsOf, Try.underlying42]
  rw [run_equalIn_agg _ 9998 _ _ _ hut rpHeld]
  simp only [Program.fieldsOf, Try.underlying42]
  have h3 := Try.underlying3
  have h4 := Try.underlying2
  simp [go_sem, h3, h4]
  simp only [ite_ok, Bool.and_true]
/-- '==' of six numbers in an array. -/
theorem run_regs (W : World) (x0 x1 x2 x3 x4 x5 y0 y1 y2 y3 y4 y5 : Int) : (Op.equalIn 9999 51 (.agg #[.int .i64 x0, .int .i64 x1, .int .i64 x2, .int .i64 x3, .int .i64 x4, .int .i64 x5]) (.agg #[.int .i64 y0, .int .i64 y1, .int .i64 y2, .int .i64 y3, .int .i64 y4, .int .i64 y5])).run Try.prog W = .ok (decide ([x0, x1, x2, x3, x4, x5] = [y0, y1, y2, y3, y4, y5])) W := by
  obtain ⟨i, hi⟩ := Option.isSome_iff_exists.1 (show (Try.prog.info? 2).isSome = true by kernel_rfl)
  have h4 := Try.underlying2
  have hc : Try.prog.cellsOf 2 = 1 := by kernel_rfl
  rw [run_equalIn_array _ 9998 _ _ Try.underlying51 hi, show List.range 6 = [0, 1, 2, 3, 4, 5] from rfl, hc]
  simp [Op.eqItems, go_sem, h4]
  simp only [ite_ok, Bool.and_true]
/-- '==' of two tasks. -/
theorem run_tkT (W : World) (t u : Tk) : (Op.equalIn 10000 53 (.agg (tkA t)) (.agg (tkA u))).run Try.prog W = .ok (decide (t = u)) W := by
  have hut : Try.prog.underlying 53 = some (.struct (Try.prog.fieldsOf 53)) := by simp only [Program.fieldsOf, Try.underlying53]
  obtain ⟨x0, x1, x2, x3, x4, x5, x6, x7, x8, x9, x10, x11, x12, x13, x14, x15, x16, hx⟩ := tk_lit t
  obtain ⟨y0, y1, y2, y3, y4, y5, y6, y7, y8, y9, y10, y11, y12, y13, y14, y15, y16, hy⟩ := tk_lit u
  have ax : tkA t = #[.int .i64 x0, .int .i64 x1, .int .i64 x2, .int .i64 x3, .int .i64 x4, .int .i64 x5, .int .i64 x6, .int .i64 x7, .int .i64 x8, .int .i64 x9, .int .i64 x10, .int .i64 x11, .int .i64 x12, .int .i64 x13, .int .i64 x14, .int .i64 x15, .int .i64 x16] := by show (t.1.map _).toArray = _; rw [hx]; rfl
  have ay : tkA u = #[.int .i64 y0, .int .i64 y1, .int .i64 y2, .int .i64 y3, .int .i64 y4, .int .i64 y5, .int .i64 y6, .int .i64 y7, .int .i64 y8, .int .i64 y9, .int .i64 y10, .int .i64 y11, .int .i64 y12, .int .i64 y13, .int .i64 y14, .int .i64 y15, .int .i64 y16] := by show (u.1.map _).toArray = _; rw [hy]; rfl
  have hd : decide (t = u) = decide ([x0, x1, x2, x3, x4, x5, x6, x7, x8, x9, x10, x11, x12, x13, x14, x15, x16] = [y0, y1, y2, y3, y4, y5, y6, y7, y8, y9, y10, y11, y12, y13, y14, y15, y16]) := decide_eq_decide.2 (by rw [← hx, ← hy]; exact Subtype.ext_iff)
  rw [ax, ay, hd, run_equalIn_agg _ 9999 _ _ _ hut tkHeld]
  clear ax ay hd hx hy
  simp only [Program.fieldsOf, Try.underlying53]
  have h3 := Try.underlying3
  have h4 := Try.underlying2
  have hp := Try.underlying32
  have q6 := run_regs W x4 x5 x6 x7 x8 x9 y4 y5 y6 y7 y8 y9
  simp [go_sem, h3, h4, hp, q6]
  simp only [ite_ok, ite_no, Bool.and_true]
  congr 1
  rw [Bool.eq_iff_iff]
  simp [and_assoc]
/-- '==' of two tasks. -/
theorem run_tkR (W : World) (t u : Tk) : (Op.equalIn 10000 57 (.agg (tkA t)) (.agg (tkA u))).run Try.prog W = .ok (decide (t = u)) W := by
  have hut : Try.prog.underlying 57 = some (.struct (Try.prog.fieldsOf 57)) := by simp only [Program.fieldsOf, Try.underlying57]
  obtain ⟨x0, x1, x2, x3, x4, x5, x6, x7, x8, x9, x10, x11, x12, x13, x14, x15, x16, hx⟩ := tk_lit t
  obtain ⟨y0, y1, y2, y3, y4, y5, y6, y7, y8, y9, y10, y11, y12, y13, y14, y15, y16, hy⟩ := tk_lit u
  have ax : tkA t = #[.int .i64 x0, .int .i64 x1, .int .i64 x2, .int .i64 x3, .int .i64 x4, .int .i64 x5, .int .i64 x6, .int .i64 x7, .int .i64 x8, .int .i64 x9, .int .i64 x10, .int .i64 x11, .int .i64 x12, .int .i64 x13, .int .i64 x14, .int .i64 x15, .int .i64 x16] := by show (t.1.map _).toArray = _; rw [hx]; rfl
  have ay : tkA u = #[.int .i64 y0, .int .i64 y1, .int .i64 y2, .int .i64 y3, .int .i64 y4, .int .i64 y5, .int .i64 y6, .int .i64 y7, .int .i64 y8, .int .i64 y9, .int .i64 y10, .int .i64 y11, .int .i64 y12, .int .i64 y13, .int .i64 y14, .int .i64 y15, .int .i64 y16] := by show (u.1.map _).toArray = _; rw [hy]; rfl
  have hd : decide (t = u) = decide ([x0, x1, x2, x3, x4, x5, x6, x7, x8, x9, x10, x11, x12, x13, x14, x15, x16] = [y0, y1, y2, y3, y4, y5, y6, y7, y8, y9, y10, y11, y12, y13, y14, y15, y16]) := decide_eq_decide.2 (by rw [← hx, ← hy]; exact Subtype.ext_iff)
  rw [ax, ay, hd, run_equalIn_agg _ 9999 _ _ _ hut rkHeld]
  clear ax ay hd hx hy
  simp only [Program.fieldsOf, Try.underlying57]
  have h3 := Try.underlying3
  have h4 := Try.underlying2
  have hp := Try.underlying42
  have q6 := run_regs W x4 x5 x6 x7 x8 x9 y4 y5 y6 y7 y8 y9
  simp [go_sem, h3, h4, hp, q6]
  simp only [ite_ok, ite_no, Bool.and_true]
  congr 1
  rw [Bool.eq_iff_iff]
  simp [and_assoc]
theorem run_eql_tkT (W : World) (t u : Tk) : (binOp .eql 53 (.agg (tkA t)) (.agg (tkA u))).run Try.prog W = .ok (.bool (decide (t = u))) W := by
  rw [run_eql_struct, run_tkT]
  rfl
theorem run_neq_tkT (W : World) (t u : Tk) : (binOp .neq 53 (.agg (tkA t)) (.agg (tkA u))).run Try.prog W = .ok (.bool (!decide (t = u))) W := by
  rw [run_neq_struct, run_tkT]
  rfl
theorem run_eql_tkR (W : World) (t u : Tk) : (binOp .eql 57 (.agg (tkA t)) (.agg (tkA u))).run Try.prog W = .ok (.bool (decide (t = u))) W := by
  rw [run_eql_struct, run_tkR]
  rfl
theorem run_neq_tkR (W : World) (t u : Tk) : (binOp .neq 57 (.agg (tkA t)) (.agg (tkA u))).run Try.prog W = .ok (.bool (!decide (t = u))) W := by
  rw [run_neq_struct, run_tkR]
  rfl
end Go.Proofs.Ythdipkdolgcmgaa.TaskI
