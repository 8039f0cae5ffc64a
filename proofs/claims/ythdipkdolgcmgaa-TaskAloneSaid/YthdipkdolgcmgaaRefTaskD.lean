/-
  Contracts of the functions of package countermandref18 (the document's answer for layer 18), fourth part: a task is begun. Condition: the table is at hand.
-/
import Derived.Test.YthdipkdolgcmgaaRefTaskC
namespace Go.Proofs.Ythdipkdolgcmgaa.RefTask
open Go.ChangeShapes Go.WideShapes Go.ChangeAt Go.RowKit Mem MutP TaskP Hand

section
variable {B : Nat → Prop} {w wk : World} {Rs : List Res} {p : Nat} {L : List Tk} {N : Int}
set_option maxRecDepth 100000 in
theorem beginR_no (h : Sep B w wk (rt p L N :: Rs)) (g m : Int) (hN : ¬ (L.length : Int) < N) :
    Calls Try.prog 10 #[.pointer (some ⟨p, 0, none⟩), .int .i64 g, .int .i64 m] wk fun e wn => e = .returned (.tuple #[.int .i64 (-1), .int .i64 2]) ∧ ∃ d, wn = wk.drewN d := by
  obtain ⟨A, c, k0, k1, _, _, _⟩ := rt_sees h
  have hN2 : N ≤ (L.length : Int) := by omega
  clear h hN
  generalize L.length = len at *
  go_enter Try.func10, Try.ntmps10
  go_wp2
  go_quiet (fail)
  go_wp2
  go_ret2
  exact ⟨rfl, _, rfl⟩
set_option maxRecDepth 100000 in
theorem beginR (h : Sep B w wk (rt p L N :: Rs)) (g m : Int) (hN : (L.length : Int) < N) :
    Calls Try.prog 10 #[.pointer (some ⟨p, 0, none⟩), .int .i64 g, .int .i64 m] wk fun e wn => e = .returned (.tuple #[.int .i64 L.length, .int .i64 0]) ∧ Sep B w wn (rt p (L ++ [newT g m]) N :: Rs) := by
  obtain ⟨A, c, hs, hok⟩ := rt_open h
  have hb := hs.blk_at 0 rfl
  have k0 : wk.cell? ⟨p, 0, none⟩ = some (.slice A L.length c) := (cell_block hb 0).trans rfl
  have k1 : wk.cell? ⟨p, 1, none⟩ = some (.int .i64 N) := (cell_block hb 1).trans rfl
  have hpl : p < wk.heap.size := lt_of_block hb
  have hm : L.length ≤ 200 := by have h1 := hok.len; have h2 := hok.n1; omega
  have S1 := Lib.hid hs
  have HR := Lib.hid ((hs.own 1 rfl).rd (G := fun _ => True) (by omega) fun _ _ => trivial)
  have HO : Hid (TaskP.Ok (L ++ [newT g m]) N) := by
    have h1 := hok.begin_ g m
    unfold beginL beginB at h1
    rw [decide_eq_true hN, if_pos rfl] at h1
    exact h1
  clear h hs hok hb
  generalize hln : L.length = len at *
  go_enter Try.func10, Try.ntmps10
  go_wp2
  go_quiet (fail)
  have SQ := Lib.hid (S1.out.drewN nq)
  have HRQ := Lib.hid (HR.out.drewN nq)
  have kq : (wk.drewN nq).cell? ⟨p, 0, none⟩ = some (.slice A len c) := k0
  have hq : p < (wk.drewN nq).heap.size := hpl
  clear S1 HR k0 k1 hpl
  generalize wk.drewN nq = wq at *
  go_wp2_with (at_builtin; refine wpList_appS rfl _ _ tkElem rfl rfl rfl (SQ.out.grow0 tkE 57) 0 rfl (HRQ.out.alloc _) (by simp; omega) ?_)
  intro A3 c3 w3 l3 HL3 h3
  have e3 : L = l3 := HL3.out.symm
  subst e3
  have S2 := Lib.hid h3
  have HX : Hid (RdL tkE (w3.alloc (.cells #[.int .i64 1, .int .i64 g, .int .i64 0, .int .i64 m, .int .i64 0, .int .i64 0, .int .i64 0, .int .i64 0, .int .i64 0, .int .i64 0, .int .i64 0, .int .i64 0, .int .i64 0, .int .i64 0, .int .i64 0, .int .i64 0, .int .i64 0] 57)) (fun _ => True) (.slice (some ⟨w3.heap.size, 0, none⟩) 1 1) [newT g m]) := RdL.lit1 (E := tkE) w3 57 (newT g m) rfl (fun _ => True) trivial
  clear h3 HRQ SQ HL3 kq hq
  go_wp2_with (at_builtin; refine wpList_appS rfl _ _ tkElem rfl rfl rfl (S2.out.next (new_below0 _ _)) 0 rfl HX.out (by rw [hln, List.length_singleton]; omega) ?_)
  intro A5 c5 w5 l5 HL5 h5
  have hb5 := h5.blk_at 1 rfl
  have q0 : w5.cell? ⟨p, 0, none⟩ = some (.slice A len c) := (cell_block hb5 0).trans rfl
  have q1 : w5.frozen? ⟨p, 0, none⟩ = false := frozen_block hb5 0
  have hl5 : l5.length = len + 1 := by rw [HL5.out, List.length_append, hln]; rfl
  have s6 := (h5.set 1 rfl 0 (.slice A5 l5.length c5)).swap
  have s7 : Sep B w _ (rto p l5 N (.slice A5 l5.length c5) ++ Rs) := s6.sub (by
    show List.Sublist (_ :: _ :: Rs) (_ :: _ :: _ :: Rs)
    exact ((List.sublist_cons_self _ _).cons_cons _).cons_cons _)
  have HS := Lib.hid (rt_close s7 (by rw [HL5.out]; exact HO.out))
  have hw : IntKind.i64.wrap ((l5.length : Int) - 1) = (len : Int) := by
    rw [hl5]
    have : ((len + 1 : Nat) : Int) - 1 = (len : Int) := by omega
    rw [this]
    exact IntWalk.i64_in _ (by omega)
  clear h5 hb5 s6 s7 S2 HX HO hl5
  go_wp2
  go_ret2
  exact ⟨rfl, by rw [← HL5.out]; exact HS.out⟩
end
end Go.Proofs.Ythdipkdolgcmgaa.RefTask
