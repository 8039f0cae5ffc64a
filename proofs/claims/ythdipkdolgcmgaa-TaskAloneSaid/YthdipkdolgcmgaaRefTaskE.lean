/-
  Contracts of the functions of package countermandref18 (the document's answer for layer 18), fifth part: a task is told, as a whole. Condition: the table is at hand.
-/
import Derived.Test.YthdipkdolgcmgaaRefTaskD
import Derived.Test.YthdipkdolgcmgaaWhole
namespace Go.Proofs.Ythdipkdolgcmgaa.TaskP
open Go.ChangeShapes Go.WideShapes Go.ChangeAt Go.RowKit Mem MutP Hand
/-- A task as a value. -/
def tkA (t : Tk) : Array Value := (tkE.cells t).toArray
theorem tkA_size (t : Tk) : (tkA t).size = 17 := by unfold tkA; rw [List.size_toArray]; exact tkE.len t
theorem tkA_list (t : Tk) : (tkA t).toList = tkE.cells t := rfl
theorem tkA_get (t : Tk) {j : Nat} (hj : j < 17) : (tkA t)[j]? = some (.int .i64 (get t j)) := by unfold tkA; rw [List.getElem?_toArray]; exact tk_cell t hj
theorem tkA_one (t : Tk) : (tkA t).all (·.oneCell') = true := by
  rw [Array.all_eq_true_iff_forall_mem]
  intro v hv
  unfold tkA at hv
  exact tkE.one t v (by simpa using hv)
theorem tkA_put (t : Tk) (j : Nat) (x : Int) : tkA (put t j x) = (tkA t).setIfInBounds j (.int .i64 x) := by
  unfold tkA
  rw [tk_set, List.setIfInBounds_toArray]
/-- Many of its numbers. -/
def puts (t : Tk) (j : Nat) : List Int → Tk
  | [] => t
  | x :: xs => puts (put t j x) (j + 1) xs
theorem tkA_puts : ∀ (xs : List Int) (t : Tk) (j : Nat), over (tkA t) j (xs.map (.int .i64)) = tkA (puts t j xs)
  | [], _, _ => rfl
  | x :: xs, t, j => by
    rw [List.map_cons]
    unfold over puts
    rw [← tkA_put]
    exact tkA_puts xs _ _
theorem puts_wait (t : Tk) (q : Pk) : puts t 10 [q.k, q.o, q.c, q.r, q.l, q.n] = wtT t q := rfl
theorem tkA_over (t : Tk) (cs : Array Value) (h : cs.size = 17) : over cs 0 (tkA t).toList = tkA t := by
  rw [over_all _ _ (by rw [Array.length_toList, tkA_size, h]), Array.toArray_toList]
end Go.Proofs.Ythdipkdolgcmgaa.TaskP

namespace Go.Proofs.Ythdipkdolgcmgaa.RefTask
open Go.ChangeShapes Go.WideShapes Go.ChangeAt Go.RowKit Mem MutP TaskP Hand

theorem built_r : Try.prog.built 57 [] = some (tkA zeroT) := by kernel_rfl
theorem size_r : (Try.prog.info? 57).map (·.size) = some 17 := by kernel_rfl
theorem wl_buildT {ops : Array Oper} {rest : List Oper} {o : Oper} {a : Act} {w : World} {Q : Exit → Act → World → Prop} {P : Program} (hg : o.guard = none) (t : TypeId) (ho : o.op = .build t #[]) {cs : Array Value} (hb : P.built t [] = some cs) (h : wpList P ops Q rest (a.put o.dst (.agg cs)) w) : wpList P ops Q (o :: rest) a w := by
  refine wpList_build hg t #[] ho (by simp [hb]) ?_
  simpa [hb] using h

theorem wl_allocT {ops : Array Oper} {rest : List Oper} {o : Oper} {a : Act} {w : World} {Q : Exit → Act → World → Prop} {P : Program} (hg : o.guard = none) (t : TypeId) (ho : o.op = .alloc t) {cs : Array Value} (hz : (P.info? t).map (·.zero) = some (some (.agg cs))) (h : wpList P ops Q rest (a.put o.dst (.pointer (some ⟨w.heap.size, 0, none⟩))) (w.alloc (.cells cs t))) : wpList P ops Q (o :: rest) a w := by
  refine wpList_plain hg fun K hK => ?_
  cases hi : P.info? t with
  | none => simp [hi] at hz
  | some i =>
    simp [hi] at hz
    unfold Oper.wp
    simp [execOp, ho, Instr.alloc, newVar, zeroValue, typeInfo, hi, hz, Value.cells, go_sem]
    exact hK _ _ h
theorem zero_r : (Try.prog.info? 57).map (·.zero) = some (some (.agg (tkA zeroT))) := by kernel_rfl

section
variable {B : Nat → Prop} {w wk : World} {Rs : List Res} {p : Nat} {L : List Tk} {N : Int}
set_option maxRecDepth 100000 in
theorem getR (h : Sep B w wk (rt p L N :: Rs)) (n : Int) :
    Calls Try.prog 23 #[.pointer (some ⟨p, 0, none⟩), .int .i64 n] wk fun e wn => e = .returned (.tuple #[.agg (tkA (getT L n)), .bool (getB L n)]) ∧ Below wk.heap.size wk wn := by
  obtain ⟨A, c, k0, _, hr, _, hpl⟩ := rt_sees h
  have HR := Lib.hid hr
  have S0 : Hid (Sep (fun _ => False) wk (wk.alloc (.cells (tkA zeroT) 57)) [blk wk.heap.size (.cells (tkA zeroT) 57)]) := (Sep.nil (fun _ => False) wk).new _
  clear h hr
  rcases (by omega : (n < 0 ∨ (L.length : Int) ≤ n) ∨ (0 ≤ n ∧ n < (L.length : Int))) with hn | ⟨h0, h1⟩
  · have HT : Hid (getT L n = zeroT ∧ getB L n = false) := by
      refine ⟨?_, decide_eq_false (by omega)⟩
      unfold getT tkO
      split
      · rw [List.getElem?_eq_none (by omega)]; rfl
      · rfl
    rw [HT.out.1, HT.out.2]
    clear HT
    have HB0 : Hid ((wk.alloc (.cells (tkA zeroT) 57)).heap[wk.heap.size]? = some (.cells (tkA zeroT) 57 (0, 0))) := S0.out.blk_at 0 rfl
    have size17 : (Try.prog.info? 57).map (·.size) = some (tkA zeroT).size := by rw [tkA_size]; exact size_r
    have S1 : Hid (Sep (fun _ => False) wk (setCells (wk.alloc (.cells (tkA zeroT) 57)) wk.heap.size 0 (tkA zeroT).toList) [blk wk.heap.size (.cells (tkA zeroT) 57)]) := by
      have h2 := Sep.whole (tkA zeroT).toList 0 S0.out 0 rfl
      rw [tkA_over _ _ (tkA_size _)] at h2
      exact h2
    have HC : Hid (∀ j, j < (tkA zeroT).size → (setCells (wk.alloc (.cells (tkA zeroT) 57)) wk.heap.size 0 (tkA zeroT).toList).cell? ⟨wk.heap.size, 0 + j, none⟩ = (tkA zeroT)[j]?) := fun j _ => by rw [Nat.zero_add]; exact cell_block (S1.out.blk_at 0 rfl) j
    have zr := zero_r
    have br := built_r
    have oz := tkA_one zeroT
    have sz : 0 + (tkA zeroT).size ≤ (tkA zeroT).size := by omega
    generalize tkA zeroT = Z at *
    generalize L.length = len at *
    have HZZ := Lib.hid S0.out
    clear S0
    rcases (by omega : n < 0 ∨ (0 ≤ n ∧ (len : Int) ≤ n)) with h0 | ⟨h0, h1⟩
    · have d0 : decide (n < 0) = true := decide_eq_true h0
      go_enter Try.func23, Try.ntmps23
      go_wp2_with (first | (refine wl_allocT rfl 57 rfl zr ?_; simp only [Act.put, List.setIfInBounds_toArray, List.set_cons_zero, List.set_cons_succ]) | (refine wl_buildT rfl 57 rfl br ?_; simp only [Act.put, List.setIfInBounds_toArray, List.set_cons_zero, List.set_cons_succ]) | (refine wl_storeAt rfl 57 (.tmp 4) (.tmp 17) rfl rfl rfl HB0.out sz size17 oz ?_))
      (try simp only [Exit.inBlock, Exit.then])
      refine bodyPost_ret (results_whole rfl _ _ _ rfl HC.out Try.underlying57 rfl size17) rfl ?_
      exact ⟨rfl, S1.out.old⟩
    · have d0 : decide (n < 0) = false := decide_eq_false (by omega)
      have d1 : decide (n ≥ (len : Int)) = true := decide_eq_true h1
      go_enter Try.func23, Try.ntmps23
      go_wp2_with (first | (refine wl_allocT rfl 57 rfl zr ?_; simp only [Act.put, List.setIfInBounds_toArray, List.set_cons_zero, List.set_cons_succ]) | (refine wl_buildT rfl 57 rfl br ?_; simp only [Act.put, List.setIfInBounds_toArray, List.set_cons_zero, List.set_cons_succ]) | (refine wl_storeAt rfl 57 (.tmp 4) (.tmp 17) rfl rfl rfl HB0.out sz size17 oz ?_))
      (try simp only [Exit.inBlock, Exit.then])
      refine bodyPost_ret (results_whole rfl _ _ _ rfl HC.out Try.underlying57 rfl size17) rfl ?_
      exact ⟨rfl, S1.out.old⟩
  · obtain ⟨k, rfl⟩ := Int.eq_ofNat_of_zero_le h0
    obtain ⟨t, hk⟩ : ∃ t, L[k]? = some t := ⟨_, List.getElem?_eq_getElem (by omega)⟩
    rw [getT_at hk, show getB L (k : Int) = true from decide_eq_true ⟨h0, h1⟩]
    obtain ⟨bb, off, rfl, hb, _, cs⟩ := tk_cells HR.out hk
    have HLD : Hid (∀ j, j < (tkA t).size → (wk.alloc (.cells (tkA zeroT) 57)).cell? ⟨bb, off + k * 17 + j, none⟩ = (tkA t)[j]?) := fun j hj => by
      rw [tkA_size] at hj
      rw [tkA_get t hj]
      exact ((new_below0 wk _).cell (p := ⟨bb, off + k * 17 + j, none⟩) hb).trans (cs j hj)
    have HB0 : Hid ((wk.alloc (.cells (tkA zeroT) 57)).heap[wk.heap.size]? = some (.cells (tkA zeroT) 57 (0, 0))) := S0.out.blk_at 0 rfl
    have sizeX : (Try.prog.info? 57).map (·.size) = some (tkA t).size := by rw [tkA_size]; exact size_r
    have S1 : Hid (Sep (fun _ => False) wk (setCells (wk.alloc (.cells (tkA zeroT) 57)) wk.heap.size 0 (tkA t).toList) [blk wk.heap.size (.cells (tkA t) 57)]) := by
      have h2 := Sep.whole (tkA t).toList 0 S0.out 0 rfl
      rw [tkA_over _ _ (tkA_size _)] at h2
      exact h2
    have HC : Hid (∀ j, j < (tkA t).size → (setCells (wk.alloc (.cells (tkA zeroT) 57)) wk.heap.size 0 (tkA t).toList).cell? ⟨wk.heap.size, 0 + j, none⟩ = (tkA t)[j]?) := fun j _ => by rw [Nat.zero_add]; exact cell_block (S1.out.blk_at 0 rfl) j
    have zr := zero_r
    have oz := tkA_one t
    have sz : 0 + (tkA t).size ≤ (tkA zeroT).size := by rw [tkA_size, tkA_size]; omega
    generalize tkA zeroT = Z at *
    generalize tkA t = X at *
    generalize hln : L.length = len at *
    have d0 : decide ((k : Int) < 0) = false := decide_eq_false (by omega)
    have d1 : decide ((k : Int) ≥ (len : Int)) = false := decide_eq_false (by omega)
    clear hk cs hb S0
    go_enter Try.func23, Try.ntmps23
    go_wp2_with (first | (refine wl_allocT rfl 57 rfl zr ?_; simp only [Act.put, List.setIfInBounds_toArray, List.set_cons_zero, List.set_cons_succ]) | (refine wl_loadAt rfl 57 (.tmp 23) rfl rfl HLD.out Try.underlying57 rfl sizeX ?_; simp only [Act.put, List.setIfInBounds_toArray, List.set_cons_zero, List.set_cons_succ]) | (refine wl_storeAt rfl 57 (.tmp 4) (.tmp 24) rfl rfl rfl HB0.out sz sizeX oz ?_))
    (try simp only [Exit.inBlock, Exit.then])
    refine bodyPost_ret (results_whole rfl _ _ _ rfl HC.out Try.underlying57 rfl sizeX) rfl ?_
    exact ⟨rfl, S1.out.old⟩
end
end Go.Proofs.Ythdipkdolgcmgaa.RefTask
