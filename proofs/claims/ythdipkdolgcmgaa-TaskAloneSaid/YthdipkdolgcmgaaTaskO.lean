/-
  The law's own helper of layer 18: the document's task of a task. Over any package. No condition.
-/
import Derived.Test.YthdipkdolgcmgaaTaskE
namespace Go.Proofs.Ythdipkdolgcmgaa.TaskI
open Go.ChangeShapes Go.WideShapes Go.ChangeAt Go.RowKit Mem MutP TaskP Hand RefTask

set_option maxRecDepth 100000 in
theorem own_t (t : Tk) (w : World) : Calls Try.prog 24 #[.agg (tkA t)] w fun e w' => e = .returned (.agg (tkA t)) ∧ Below w.heap.size w w' := by
  have S0 : Hid (Sep (fun _ => False) w ((w.alloc (.cells (tkA t) 53)).alloc (.cells (tkA zeroT) 57)) [blk (w.alloc (.cells (tkA t) 53)).heap.size (.cells (tkA zeroT) 57), blk w.heap.size (.cells (tkA t) 53)]) := by
    have h1 := ((Sep.nil (fun _ => False) w).new (.cells (tkA t) 53)).new (.cells (tkA zeroT) 57)
    exact h1
  have S1 : Hid (Sep (fun _ => False) w (setCells ((w.alloc (.cells (tkA t) 53)).alloc (.cells (tkA zeroT) 57)) (w.alloc (.cells (tkA t) 53)).heap.size 0 (tkA t).toList) [blk (w.alloc (.cells (tkA t) 53)).heap.size (.cells (tkA t) 57), blk w.heap.size (.cells (tkA t) 53)]) := by
    have h2 := Sep.whole (tkA t).toList 0 S0.out 0 rfl
    rw [tkA_over _ _ (tkA_size _)] at h2
    exact h2
  have HB0 : Hid (((w.alloc (.cells (tkA t) 53)).alloc (.cells (tkA zeroT) 57)).heap[(w.alloc (.cells (tkA t) 53)).heap.size]? = some (.cells (tkA zeroT) 57 (0, 0))) := S0.out.blk_at 0 rfl
  have HB1 := S1.out.blk_at 0 rfl
  have HT1 := Lib.hid HB1
  have hb := S0.out.blk_at 1 rfl
  have hk : ∀ j, j < 17 → ((w.alloc (.cells (tkA t) 53)).alloc (.cells (tkA zeroT) 57)).cell? ⟨w.heap.size, j, none⟩ = some (.int .i64 (get t j)) := fun j hj => (cell_block hb j).trans (tkA_get t hj)
  have zr := zero_r
  have sz : 0 + (tkA t).size ≤ (tkA zeroT).size := by rw [tkA_size, tkA_size]; omega
  have oz := tkA_one t
  have sizeT : (Try.prog.info? 57).map (·.size) = some (tkA t).size := by rw [tkA_size]; exact size_r
  have HX : Hid (tkA t = #[.int .i64 (get t 0), .int .i64 (get t 1), .int .i64 (get t 2), .int .i64 (get t 3), .int .i64 (get t 4), .int .i64 (get t 5), .int .i64 (get t 6), .int .i64 (get t 7), .int .i64 (get t 8), .int .i64 (get t 9), .int .i64 (get t 10), .int .i64 (get t 11), .int .i64 (get t 12), .int .i64 (get t 13), .int .i64 (get t 14), .int .i64 (get t 15), .int .i64 (get t 16)]) := by
    show _ = _
    apply Array.ext_getElem?
    intro j
    by_cases hj : j < 17
    · rw [tkA_get t hj]
      rcases (by omega : j = 0 ∨ j = 1 ∨ j = 2 ∨ j = 3 ∨ j = 4 ∨ j = 5 ∨ j = 6 ∨ j = 7 ∨ j = 8 ∨ j = 9 ∨ j = 10 ∨ j = 11 ∨ j = 12 ∨ j = 13 ∨ j = 14 ∨ j = 15 ∨ j = 16) with rfl | rfl | rfl | rfl | rfl | rfl | rfl | rfl | rfl | rfl | rfl | rfl | rfl | rfl | rfl | rfl | rfl <;> rfl
    · rw [Array.getElem?_eq_none (by rw [tkA_size]; omega), Array.getElem?_eq_none (by simp; omega)]
  have k0 := hk 0 (by omega)
  have k1 := hk 1 (by omega)
  have k2 := hk 2 (by omega)
  have k3 := hk 3 (by omega)
  have k4 := hk 4 (by omega)
  have k5 := hk 5 (by omega)
  have k6 := hk 6 (by omega)
  have k7 := hk 7 (by omega)
  have k8 := hk 8 (by omega)
  have k9 := hk 9 (by omega)
  have k10 := hk 10 (by omega)
  have k11 := hk 11 (by omega)
  have k12 := hk 12 (by omega)
  have k13 := hk 13 (by omega)
  have k14 := hk 14 (by omega)
  have k15 := hk 15 (by omega)
  have k16 := hk 16 (by omega)
  have HT : Hid (tkA t = tkA t) := rfl
  clear hk hb HB1 S0
  generalize tkA zeroT = Z at *
  generalize hX : tkA t = X at *
  generalize get t 0 = x0 at *
  generalize get t 1 = x1 at *
  generalize get t 2 = x2 at *
  generalize get t 3 = x3 at *
  generalize get t 4 = x4 at *
  generalize get t 5 = x5 at *
  generalize get t 6 = x6 at *
  generalize get t 7 = x7 at *
  generalize get t 8 = x8 at *
  generalize get t 9 = x9 at *
  generalize get t 10 = x10 at *
  generalize get t 11 = x11 at *
  generalize get t 12 = x12 at *
  generalize get t 13 = x13 at *
  generalize get t 14 = x14 at *
  generalize get t 15 = x15 at *
  generalize get t 16 = x16 at *
  clear hX HT
  go_enter Try.func24, Try.ntmps24
  go_wp2_with (first | (refine wl_allocT rfl 57 rfl zr ?_; simp only [Act.put, List.setIfInBounds_toArray, List.set_cons_zero, List.set_cons_succ]) | (rw [← HX.out]; refine wl_storeAt rfl 57 (.tmp 2) (.tmp 17) rfl rfl rfl HB0.out sz sizeT oz ?_))
  (try simp only [Exit.inBlock, Exit.then])
  refine bodyPost_ret (results_cell_row rfl _ _ _ _ _ (0, 0) _ rfl HT1.out Try.underlying57 rfl sizeT) rfl ?_
  exact ⟨rfl, S1.out.old⟩
end Go.Proofs.Ythdipkdolgcmgaa.TaskI
