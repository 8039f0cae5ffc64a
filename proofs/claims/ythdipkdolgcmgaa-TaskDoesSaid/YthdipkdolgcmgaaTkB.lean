/-
  Package task, as it landed, second part: New, Begin, Get, Go and Set. No condition.
-/
import Derived.Test.YthdipkdolgcmgaaTkA
import Derived.Test.YthdipkdolgcmgaaHeldN
namespace Go.Proofs.Ythdipkdolgcmgaa.TkA
open Go.ChangeShapes Go.WideShapes Go.ChangeAt Go.RowKit Mem MutP TaskP Hand RefTask TaskI

theorem new_no (n : Int) (w : World) (h : n < 1 ∨ 200 < n) : Calls Try.prog 7 #[.int .i64 n] w fun e w' => e = .returned (.tuple #[.pointer none, .int .i64 1]) ∧ w = w' := by
  rcases (by omega : n < 1 ∨ (1 ≤ n ∧ 200 < n)) with h1 | ⟨h1, h2⟩
  all_goals
    clear h
    go_enter Try.func7, Try.ntmps7
    go_wp2
    go_ret2
    exact ⟨rfl, rfl⟩
theorem new_s {B : Nat → Prop} {w wk : World} {Rs : List Res} (h : Sep B w wk Rs) (n : Int) (h1 : 1 ≤ n) (h2 : n ≤ 200) :
    Calls Try.prog 7 #[.int .i64 n] wk fun e wn => ∃ p, e = .returned (.tuple #[.pointer (some ⟨p, 0, none⟩), .int .i64 0]) ∧ Sep B w wn (ta p [] n (.slice none 0 0) ++ Rs) := by
  obtain ⟨o, ho⟩ : ∃ o : Obj, o = .cells #[.int .i64 n, .slice none 0 0] 68 := ⟨_, rfl⟩
  have hb := h.new o
  have HS : Hid (Sep B w (wk.alloc o) (ta wk.heap.size [] n (.slice none 0 0) ++ Rs)) := by
    show Sep _ _ _ _
    rw [ho] at hb ⊢
    have h5 : Sep B w _ (grow tkE 53 (.slice none 0 0) [] :: _ :: Rs) := hb.add (R := grow tkE 53 (.slice none 0 0) []) (F := fun _ => False) (Below.refl _ _) ⟨OwnL.none_ _ _ _, by funext k; simp [Value.ownBlock]⟩ fun k hk => hk.elim
    exact h5.swap
  subst ho
  clear h hb
  go_enter Try.func7, Try.ntmps7
  go_wp2
  go_ret2
  exact ⟨_, rfl, HS.out⟩

section
variable {B : Nat → Prop} {w wk wn : World} {Rs : List Res} {p : Nat} {L : List Tk} {N : Int}
set_option maxRecDepth 100000 in
theorem begin_no {A : Option Addr} {c : Nat} (hok : TaskP.Ok L N) (h : Sep B w wk (ta p L N (.slice A L.length c) ++ Rs)) (g m : Int) (hN : ¬ (L.length : Int) < N) :
    Calls Try.prog 27 #[.pointer (some ⟨p, 0, none⟩), .int .i64 g, .int .i64 m] wk fun e wn => e = .returned (.tuple #[.int .i64 (-1), .int .i64 2]) ∧ wk = wn := by
  have HL := Lib.hid (len_s (ta_sees hok h))
  have k0 : wk.cell? ⟨p, 0, none⟩ = some (.int .i64 N) := (cell_block (h.blk_at 0 rfl) 0).trans rfl
  have hN2 : ((L.length : Int) == N) = true := by rw [beq_iff_eq]; have := hok.len; omega
  clear h hN hok
  generalize L.length = len at *
  go_enter Try.func27, Try.ntmps27
  go_wp2_with fail
  refine HL.out.mono ?_
  rintro e w1 ⟨rfl, rfl⟩
  go_wp2
  go_ret2
  exact ⟨rfl, rfl⟩
set_option maxRecDepth 100000 in
theorem begin_s {A : Option Addr} {c : Nat} (hok : TaskP.Ok L N) (h : Sep B w wk (ta p L N (.slice A L.length c) ++ Rs)) (g m : Int) (hN : (L.length : Int) < N) :
    Calls Try.prog 27 #[.pointer (some ⟨p, 0, none⟩), .int .i64 g, .int .i64 m] wk fun e wn => e = .returned (.tuple #[.int .i64 L.length, .int .i64 0]) ∧ ∃ A c, Sep B w wn (ta p (L ++ [newT g m]) N (.slice A (L ++ [newT g m]).length c) ++ Rs) := by
  have HL := Lib.hid (len_s (ta_sees hok h))
  have hb := h.blk_at 0 rfl
  have k0 : wk.cell? ⟨p, 0, none⟩ = some (.int .i64 N) := (cell_block hb 0).trans rfl
  have k1 : wk.cell? ⟨p, 1, none⟩ = some (.slice A L.length c) := (cell_block hb 1).trans rfl
  have hpl : p < wk.heap.size := lt_of_block hb
  have hm : L.length ≤ 200 := by have h1 := hok.len; have h2 := hok.n1; omega
  have hN2 : ((L.length : Int) == N) = false := by rw [beq_eq_false_iff_ne]; omega
  have S1 := Lib.hid h
  have HX : Hid (RdL tkE (wk.alloc (.cells #[.int .i64 1, .int .i64 g, .int .i64 0, .int .i64 m, .int .i64 0, .int .i64 0, .int .i64 0, .int .i64 0, .int .i64 0, .int .i64 0, .int .i64 0, .int .i64 0, .int .i64 0, .int .i64 0, .int .i64 0, .int .i64 0, .int .i64 0] 53)) (fun _ => True) (.slice (some ⟨wk.heap.size, 0, none⟩) 1 1) [newT g m]) := RdL.lit1 (E := tkE) wk 53 (newT g m) rfl (fun _ => True) trivial
  clear h hok hb
  generalize hln : L.length = len at *
  go_enter Try.func27, Try.ntmps27
  go_wp2_with fail
  refine HL.out.mono ?_
  rintro e w1 ⟨rfl, rfl⟩
  go_wp2_with (at_builtin; refine wpList_appS rfl _ _ tkElemT rfl rfl rfl (S1.out.next (new_below0 _ _)) 1 rfl HX.out (by rw [hln, List.length_singleton]; omega) ?_)
  intro A5 c5 w5 l5 HL5 h5
  have hb5 := h5.blk_at 0 rfl
  have q0 : w5.cell? ⟨p, 1, none⟩ = some (.slice A len c) := (cell_block hb5 1).trans rfl
  have q1 : w5.frozen? ⟨p, 1, none⟩ = false := frozen_block hb5 1
  have HS := Lib.hid (h5.set 0 rfl 1 (.slice A5 l5.length c5))
  clear h5 hb5 S1 HX
  go_wp2
  go_ret2
  exact ⟨rfl, A5, c5, by rw [← HL5.out]; exact HS.out⟩

theorem exec_build0 {P : Program} {o : Oper} {ev : Operand → Value} {V : World} (t : TypeId) (ho : o.op = .build t #[]) {cs : Array Value} (hb : P.built t [] = some cs) : (execOp ev o).run P V = .ok (.value (.agg cs)) V := by
  unfold execOp
  simp only [ho]
  simp [run_build V t #[] cs hb]
theorem exec_bin {P : Program} {o : Oper} {ev : Operand → Value} {V : World} (b : BinOp) (t t2 : TypeId) (x y : Operand) (ho : o.op = .binOp b t x y t2) {u v : Array Value} {r : Value} (hx : ev x = .agg u) (hy : ev y = .agg v) (hm : P.eqGuardType P.depth t = false) (hr : (binOp b t (.agg u) (.agg v)).run P V = .ok r V) : (execOp ev o).run P V = .ok (.value r) V := by
  unfold execOp
  simp only [ho, hx, hy]
  simp [Sem.run_bind, run_eqGuard_agg V b t x y u v hm, hr]
theorem exec_block1 {P : Program} {o : Oper} {ev : Operand → Value} {V : World} (t : TypeId) (x : Operand) (ho : o.op = .load t x) {b : Nat} {cs : Array Value} {ty : TypeId} {d : TypeDesc} (hx : ev x = .pointer (some ⟨b, 0, none⟩)) (hc : V.heap[b]? = some (.cells cs ty (0, 0)))
    (hu : P.underlying t = some d) (hd : aggD d = true) (hi : (P.info? t).map (·.size) = some cs.size) : (execOp ev o).run P V = .ok (.value (.agg cs)) V := by
  unfold execOp
  simp only [ho, hx, Instr.loadAt, Instr.sureAddr, Sem.run_bind, Sem.run_pure, Result.andThen_ok, run_loadVar_at V b 0 t cs d (cells_at hc) hu hd hi]

theorem getB_is {A : Option Addr} {c : Nat} (_h : Sees wk p A c L) (hst : ∀ t ∈ L, get t 0 ≠ 0) (n : Int) : (!decide (getT L n = zeroT)) = getB L n := by
  unfold getB
  by_cases hn : 0 ≤ n ∧ n < (L.length : Int)
  · rw [decide_eq_true hn]
    obtain ⟨k, rfl⟩ := Int.eq_ofNat_of_zero_le hn.1
    obtain ⟨t, hk⟩ : ∃ t, L[k]? = some t := ⟨_, List.getElem?_eq_getElem (by omega)⟩
    rw [getT_at hk, decide_eq_false]
    · rfl
    · intro e
      exact hst t (List.mem_of_getElem? hk) (by rw [e]; rfl)
  · rw [decide_eq_false hn, decide_eq_true]
    · rfl
    · unfold getT tkO
      split
      · rw [List.getElem?_eq_none (by omega)]; rfl
      · rfl

set_option maxHeartbeats 1000000 in
set_option maxRecDepth 100000 in
theorem get_s {A : Option Addr} {c : Nat} (h : Sees wk p A c L) (hst : ∀ t ∈ L, get t 0 ≠ 0) (n : Int) :
    Calls Try.prog 22 #[.pointer (some ⟨p, 0, none⟩), .int .i64 n] wk fun e wn => e = .returned (.tuple #[.agg (tkA (getT L n)), .bool (getB L n)]) ∧ Below wk.heap.size wk wn := by
  have HBE := Lib.hid (getB_is h hst n)
  have HO := Lib.hid (of_s (h.below (new_below0 wk (.cells (tkA zeroT) 53))) n)
  have S0 : Hid (Sep (fun _ => False) wk (wk.alloc (.cells (tkA zeroT) 53)) [blk wk.heap.size (.cells (tkA zeroT) 53)]) := (Sep.nil (fun _ => False) wk).new _
  have zr := zero_t
  have br := built_t
  have HN := Lib.hid fun (V : World) (t : Tk) => run_neq_tkT V t zeroT
  clear h hst
  generalize getT L n = t at *
  generalize getB L n = gb at *
  have sX := sizeT_t t
  have oX := tkA_one t
  have sz : 0 + (tkA t).size ≤ (tkA zeroT).size := by rw [tkA_size, tkA_size]; omega
  have HN2 : Hid (∀ V : World, (binOp .neq 53 (.agg (tkA t)) (.agg (tkA zeroT))).run Try.prog V = .ok (.bool gb) V) := fun V => by rw [HN.out V t, HBE.out]
  have HOV := Lib.hid (tkA_over t (tkA zeroT) (tkA_size _))
  clear HBE HN
  generalize hZ : tkA zeroT = Z at *
  generalize hX : tkA t = X at *
  have HZ := Lib.hid hZ
  clear hZ hX
  go_enter Try.func22, Try.ntmps22
  go_wp2_with (refine wl_allocT rfl 53 rfl zr ?_; simp only [Act.put, List.setIfInBounds_toArray, List.set_cons_zero, List.set_cons_succ])
  refine HO.out.mono ?_
  rintro e w1 ⟨rfl, hb⟩
  have SA : Hid (Sep (fun _ => False) wk (w1.alloc (.cells Z 53)) [blk w1.heap.size (.cells Z 53), blk wk.heap.size (.cells Z 53)]) := (S0.out.next hb).new _
  have HB1 : Hid ((w1.alloc (.cells Z 53)).heap[w1.heap.size]? = some (.cells Z 53 (0, 0))) := SA.out.blk_at 0 rfl
  have SB : Hid (Sep (fun _ => False) wk (setCells (w1.alloc (.cells Z 53)) w1.heap.size 0 X.toList) [blk w1.heap.size (.cells X 53), blk wk.heap.size (.cells Z 53)]) := by
    have h2 := Sep.whole X.toList 0 SA.out 0 rfl
    rw [HOV.out] at h2
    exact h2
  clear HO S0 SA hb
  go_wp2_with (first | (refine wl_allocT rfl 53 rfl zr ?_; simp only [Act.put, List.setIfInBounds_toArray, List.set_cons_zero, List.set_cons_succ]) | (refine wl_storeAt rfl 53 (.tmp 6) (.tmp 9) rfl rfl rfl HB1.out sz sX oX ?_) | fail)
  have SC := Lib.hid SB.out.drew
  refine Held.begin_ (fun V : World => V.heap[w1.heap.size]? = some (.cells X 53 (0, 0))) 99 (by kernel_rfl) ?_
  have hC : (fun V : World => V.heap[w1.heap.size]? = some (.cells X 53 (0, 0))) (setCells (w1.alloc (.cells Z 53)) w1.heap.size 0 X.toList).drew := SC.out.blk_at 0 rfl
  clear SB HB1
  generalize (setCells (w1.alloc (.cells Z 53)) w1.heap.size 0 X.toList).drew = w0 at *
  generalize w1.heap.size = q1 at *
  refine Held.takeN 0 (v := .agg X) hC rfl (by kernel_rfl) (by kernel_rfl) (by kernel_rfl) rfl (fun _ _ _ h => h) rfl (fun W hW => exec_block1 53 (.tmp 6) rfl rfl hW Try.underlying53 rfl sX) ?_
  try simp only [Act.put, List.setIfInBounds_toArray, List.set_cons_zero, List.set_cons_succ]
  refine Held.takeN 1 (v := .agg X) hC rfl (by kernel_rfl) (by kernel_rfl) (by kernel_rfl) rfl (fun _ _ _ h => h) rfl (fun W hW => exec_block1 53 (.tmp 6) rfl rfl hW Try.underlying53 rfl sX) ?_
  try simp only [Act.put, List.setIfInBounds_toArray, List.set_cons_zero, List.set_cons_succ]
  refine Held.takeN 2 (v := .agg Z) hC rfl (by kernel_rfl) (by kernel_rfl) (by kernel_rfl) rfl (fun _ _ _ h => h) rfl (fun W _ => exec_build0 53 rfl br) ?_
  try simp only [Act.put, List.setIfInBounds_toArray, List.set_cons_zero, List.set_cons_succ]
  refine Held.takeN 3 (v := .bool gb) hC rfl (by kernel_rfl) (by kernel_rfl) (by kernel_rfl) rfl (fun _ _ _ h => h) rfl (fun W _ => exec_bin .neq 53 53 (.tmp 11) (.tmp 12) rfl rfl rfl tkGuard (HN2.out W)) ?_
  try simp only [Act.put, List.setIfInBounds_toArray, List.set_cons_zero, List.set_cons_succ]
  have SD : Hid (Sep (fun _ => False) wk (setCells w0 wk.heap.size 0 X.toList) [blk q1 (.cells X 53), blk wk.heap.size (.cells X 53)]) := by
    have h2 := Sep.whole X.toList 0 SC.out 1 rfl
    rw [HOV.out] at h2
    exact h2
  have HB2 : Hid (w0.heap[wk.heap.size]? = some (.cells Z 53 (0, 0))) := SC.out.blk_at 1 rfl
  have HC2 : Hid (∀ j, j < X.size → (setCells w0 wk.heap.size 0 X.toList).cell? ⟨wk.heap.size, 0 + j, none⟩ = X[j]?) := cells_at (SD.out.blk_at 1 rfl)
  have HD2 : Hid ((setCells w0 wk.heap.size 0 X.toList).heap[q1]? = some (.cells X 53 (0, 0))) := SD.out.blk_at 0 rfl
  clear hC SC
  refine Held.only 4 (by kernel_rfl) rfl ?_
  intro K hK
  refine wp_storeAt 53 (.tmp 4) (.tmp 10) rfl rfl rfl HB2.out sz sX oX ?_
  refine hK.out _ _ (fun _ => HD2.out) ?_
  clear hK K
  try simp only [Act.put]
  refine Held.only 5 (by kernel_rfl) rfl ?_
  intro K hK
  go_simp
  refine hK.out _ _ (fun _ => HD2.out) ?_
  clear hK K
  try simp only [Act.put, List.setIfInBounds_toArray, List.set_cons_zero, List.set_cons_succ]
  refine Held.done (by kernel_rfl) ?_ _
  go_wp2_with fail
  (try simp only [Exit.inBlock, Exit.then])
  refine bodyPost_ret (results_whole rfl _ _ _ rfl HC2.out Try.underlying53 rfl sX) rfl ?_
  exact ⟨rfl, SD.out.old⟩
end
end Go.Proofs.Ythdipkdolgcmgaa.TkA
