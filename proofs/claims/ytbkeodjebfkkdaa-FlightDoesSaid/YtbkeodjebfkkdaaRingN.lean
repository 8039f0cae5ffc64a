/-
  Package ring's New, as it landed. No condition.
-/
import Derived.Test.YtbkeodjebfkkdaaRingT
namespace Go.Proofs.Ytbkeodjebfkkdaa.RingN
open Go.ChangeShapes Go.WideShapes Go.ChangeAt Go.RowKit Mem RefRing RingI RingP RingC RingT

/-- The zero arena's cells. -/
def zs : List Value := .int .i64 0 :: .int .i64 0 :: List.replicate 5000 (.int .i16 0)
set_option maxRecDepth 100000 in
theorem zero_cells : (Try.prog.info? 75).map (fun i => i.zero.map (fun v => v.cells.toList)) = some (some zs) := by kernel_rfl
theorem zero_run (w : World) : ∃ v : Value, v.cells.toList = zs ∧ (zeroValue 75).run Try.prog w = .ok v w := by
  have h := zero_cells
  cases hi : Try.prog.info? 75 with
  | none => simp [hi] at h
  | some i =>
    simp [hi] at h
    obtain ⟨v, hv, hz⟩ := h
    exact ⟨v, hz, by simp [zeroValue, typeInfo, hi, hv]⟩
theorem build_run (w : World) (r n : Int) : ∃ cs : Array Value, (Instr.build 75 #[(0, .int .i64 r), (1, .int .i64 n)]).run Try.prog w = .ok (.agg cs) w ∧ cs.toList = .int .i64 r :: .int .i64 n :: List.replicate 5000 (.int .i16 0) := by
  obtain ⟨v, hz, hr⟩ := zero_run w
  have hsz : v.cells.size = 5002 := by rw [← Array.length_toList, hz]; simp only [zs, List.length_cons, List.length_replicate]
  have hne : v.cells ≠ #[] := fun e => by rw [e] at hsz; simp at hsz
  refine ⟨(v.cells.setIfInBounds 0 (.int .i64 r)).setIfInBounds 1 (.int .i64 n), ?_, ?_⟩
  · have e1 : ∀ x : Int, (Value.int .i64 x).cells = #[.int .i64 x] := fun _ => rfl
    simp [Instr.build, hr, run_underlying Try.underlying75, Instr.fill, e1, hsz, hne]
  · simp only [Array.toList_setIfInBounds, hz, zs, List.set_cons_zero, List.set_cons_succ]
theorem wp_build {w : World} {ops : Array Oper} {rest : List Oper} {o : Oper} {a : Act} {Q : Exit → Act → World → Prop} (hgd : o.guard = none) (s x : Operand) (ho : o.op = .build 75 #[(0, s), (1, x)])
    {r n : Int} (hs : a.eval s = .int .i64 r) (hx : a.eval x = .int .i64 n)
    (h : ∀ cs : Array Value, Hid (cs.toList = .int .i64 r :: .int .i64 n :: List.replicate 5000 (.int .i16 0)) → wpList Try.prog ops Q rest (a.put o.dst (.agg cs)) w) : wpList Try.prog ops Q (o :: rest) a w := by
  refine wpList_plain hgd fun _ hK => ?_
  obtain ⟨cs, hrun, hc⟩ := build_run w r n
  unfold Oper.wp execOp
  simp only [ho, List.map_toArray, List.map_cons, List.map_nil, hs, hx, Sem.run_bind, hrun, Result.andThen_ok, Sem.run_pure]
  exact hK _ _ (h cs hc)

/-- A new arena's block. -/
theorem arr_new (w : World) (cs : Array Value) (r n : Int) (h : cs.toList = .int .i64 r :: .int .i64 n :: List.replicate 5000 (.int .i16 0)) :
    Arr (w.alloc (.cells cs 75)) w.heap.size r n (fun _ => 0) (fun _ => 0) (fun _ => 0) := by
  have hsz : cs.size = 5002 := by rw [← Array.length_toList, h]; simp only [List.length_cons, List.length_replicate]
  have hc : ∀ i, i < 5000 → cs[2 + i]? = some (.int .i16 0) := fun i hi => by
    rw [← Array.getElem?_toList, h, Nat.add_comm, List.getElem?_cons_succ, List.getElem?_cons_succ, List.getElem?_replicate, if_pos hi]
  refine ⟨cs, (by show (w.heap.push _)[w.heap.size]? = _; simp), hsz, ?_, ?_, fun i hi => hc i (by omega), fun i hi => ?_, fun i hi => ?_, fun _ => by simp, fun _ => by simp, fun _ => by simp⟩
  · rw [← Array.getElem?_toList, h]; rfl
  · rw [← Array.getElem?_toList, h]; rfl
  · rw [show 2002 + i = 2 + (2000 + i) by omega]; exact hc _ (by omega)
  · rw [show 4002 + i = 2 + (4000 + i) by omega]; exact hc _ (by omega)

theorem below_only {B g : Nat} {w w1 w2 : World} (h : Below B w w1) (ho : Only (fun b => b = g) w1 w2) (hB : B ≤ w1.heap.size) (hg : B ≤ g) : Below B w w2 :=
  ⟨ho.os.trans h.os, ho.tape.trans h.tape, ho.output.trans h.output, Nat.le_trans h.size ho.size, fun k hk => (ho.block k (by omega) (by omega)).trans (h.block k hk)⟩

/-- What stands after the first j ends are laid. -/
def Ends (w wr : World) (g : Nat) (R N : Int) (j : Nat) : Prop :=
  ∃ nx pv rw, Arr wr g R N nx pv rw ∧ Below w.heap.size w wr ∧ w.heap.size ≤ g ∧ ∀ i : Nat, i < j → nx (1000 + i) = 1000 + i ∧ pv (1000 + i) = 1000 + i
theorem Ends.join {w wr : World} {g : Nat} {R N : Int} {j m : Nat} (h : Ends w wr g R N j) (hj : m = 1000 + j) (hm : m < 2000) :
    Calls Try.prog 36 #[.pointer (some ⟨g, 2, none⟩), .int .i64 m, .int .i64 m] wr fun e w' => e = .returned (.tuple #[]) ∧ Ends w w' g R N (j + 1) := by
  obtain ⟨nx, pv, rw, ha, hb, hg, hi⟩ := h
  refine (join_c ha m m hm hm).mono ?_
  rintro e w' ⟨rfl, ha', ho⟩
  refine ⟨rfl, _, _, _, ha', below_only hb ho hb.size hg, hg, fun i hij => ?_⟩
  by_cases e : i = j
  · have : (1000 + (i : Int)) = m := by omega
    rw [this, upd_at, upd_at]
    exact ⟨rfl, rfl⟩
  · rw [upd_ne _ _ (by omega), upd_ne _ _ (by omega)]
    exact hi i (by omega)
theorem Ends.drew {w wr : World} {g : Nat} {R N : Int} {j : Nat} (h : Ends w wr g R N j) : Ends w wr.drew g R N j := by
  obtain ⟨nx, pv, rw, ha, hb, hg, hi⟩ := h
  exact ⟨nx, pv, rw, ha.keep rfl, hb.drew, hg, hi⟩
/-- What stands after the first j nodes are laid. -/
def Free (w wr : World) (g : Nat) (R : Nat) (N : Int) (j : Nat) : Prop :=
  ∃ nx pv rw, Arr wr g R N nx pv rw ∧ Below w.heap.size w wr ∧ w.heap.size ≤ g ∧ (∀ i : Nat, i < R → nx (1000 + i) = 1000 + i ∧ pv (1000 + i) = 1000 + i) ∧ ∀ i : Int, 0 ≤ i → i < j → rw i = -1
theorem Free.set {w wr : World} {g R : Nat} {N : Int} {j : Nat} (h : Free w wr g R N j) (hj : j < 1000) : Free w (wr.setCell ⟨g, 4002 + j, none⟩ (.int .i16 (-1))) g R N (j + 1) := by
  obtain ⟨nx, pv, rw, ha, hb, hg, hi, hr⟩ := h
  refine ⟨nx, pv, _, ha.setR hj (by omega), hb.setCell hg _, hg, hi, fun i h0 h1 => ?_⟩
  by_cases e : i = j
  · rw [e, upd_at]
  · rw [upd_ne _ _ e]; exact hr i h0 (by omega)
theorem Free.ring {w wr : World} {g R N : Nat} (h : Free w wr g R N N) (hR : R ≤ 1000) (hN : N ≤ 1000) : RingA wr (.pointer (some ⟨g, 0, none⟩)) (fun b => b = g) (List.replicate R []) N := by
  obtain ⟨nx, pv, rw, ha, hb, hg, hi, hr⟩ := h
  have hget : ∀ i : Nat, (List.replicate R ([] : List Int)).getD i [] = [] := fun i => by
    rw [List.getD_eq_getElem?_getD, List.getElem?_replicate]; split <;> rfl
  have hin : ∀ x, inL (List.replicate R ([] : List Int)) x = -1 := fun x => inL_none fun i _ hm => by rw [hget] at hm; cases hm
  refine ⟨g, nx, pv, rw, rfl, rfl, by simpa using ha, ⟨⟨by simpa using hR, by omega, by omega, fun l hl x hx => ?_, fun l hl => ?_, ?_⟩, fun i hil => ?_, fun x h0 h1 => ?_⟩⟩
  · rw [List.eq_of_mem_replicate hl] at hx; cases hx
  · rw [List.eq_of_mem_replicate hl]; simp
  · exact Once.flat ⟨fun i _ => by rw [hget]; simp, fun i j x _ _ hx _ => by rw [hget] at hx; cases hx⟩
  · rw [hget]
    exact hi i (by simpa using hil)
  · rw [hin]; exact hr x h0 h1

theorem new_no (r n : Int) (w : World) (h : r < 1 ∨ 1000 < r ∨ n < 1 ∨ 1000 < n) :
    Calls Try.prog 28 #[.int .i64 r, .int .i64 n] w fun e w' => e = .returned (.tuple #[.pointer none, .int .i64 1]) ∧ Below w.heap.size w w' := by
  rcases (by omega : r < 1 ∨ (1 ≤ r ∧ 1000 < r) ∨ (1 ≤ r ∧ r ≤ 1000 ∧ n < 1) ∨ (1 ≤ r ∧ r ≤ 1000 ∧ 1 ≤ n ∧ 1000 < n)) with h1 | ⟨h1, h2⟩ | ⟨h1, h2, h3⟩ | ⟨h1, h2, h3, h4⟩
  all_goals
    clear h
    go_enter Try.func28, Try.ntmps28
    go_wp2
    go_ret2
    exact ⟨rfl, Below.refl _ _⟩
set_option maxRecDepth 100000 in
set_option maxHeartbeats 1000000 in
theorem new_yes (r n : Nat) (w : World) (h1 : 1 ≤ r) (h2 : r ≤ 1000) (h3 : 1 ≤ n) (h4 : n ≤ 1000) :
    Calls Try.prog 28 #[.int .i64 r, .int .i64 n] w fun e w' => e = .returned (.tuple #[.pointer (some ⟨w.heap.size, 0, none⟩), .int .i64 0]) ∧ Free w w' w.heap.size r n n := by
  go_enter Try.func28, Try.ntmps28
  go_wp2_with (refine wp_build rfl _ _ rfl rfl rfl ?_; intro cs HC)
  have hE : Ends w (w.alloc (.cells cs 75)) w.heap.size r n 0 := ⟨_, _, _, arr_new w cs r n HC.out, new_below0 _ _, Nat.le_refl _, fun i hi => absurd hi (by omega)⟩
  have HE := Lib.hid hE
  clear hE
  generalize w.alloc (.cells cs 75) = w1 at *
  clear HC
  go_loopw [28, 7] (fun t u wr => ∃ j : Nat, j ≤ r ∧ t = .int .i64 j ∧ Hid (Ends w wr w.heap.size r n j)) (fun t _ _ => r - (intOf t).toNat)
  case atStart => exact ⟨0, Nat.zero_le _, rfl, HE⟩
  case round =>
    obtain ⟨j, hj, rfl, HJ⟩ := hrel
    by_cases hlt : j < r
    · obtain ⟨m, hm⟩ : ∃ m, m = 1000 + j := ⟨_, rfl⟩
      have hm2 : m < 2000 := by omega
      have hj2 : j < 1000 := by omega
      have HM := Lib.hid hm
      have HJ2 := Lib.hid HJ.out.drew
      clear hm HJ HE
      go_wp2
      refine wp_region_still_tail 7 (by kernel_rfl) (by kernel_rfl) ?_
      simp only [List.take_succ_cons, List.take_zero, List.drop_succ_cons, List.drop_zero]
      change wpStill _ _ wr.drew (fun a' => wpList _ _ _ _ a' wr.drew) _ _
      generalize wr.drew = w2 at *
      repeat (first | still_step | still_call (still_of (end_c _ j m hj2 HM.out)))
      refine wpStill_nil ?_
      go_wp2_with fail
      refine (HJ2.out.join HM.out hm2).mono ?_
      rintro e w3 ⟨rfl, h3⟩
      have H3 := Lib.hid h3
      clear h3
      go_wp2
      go_roundw
      case rel => exact ⟨j + 1, by omega, by go_num, H3⟩
      case measure => simp [intOf]; omega
    · obtain rfl : j = r := by omega
      have HF : Hid (Free w wr w.heap.size j n 0) := by
        obtain ⟨nx, pv, rw, ha, hb, hg, hi⟩ := HJ.out
        exact ⟨nx, pv, rw, ha, hb, hg, hi, fun i h0 h1 => absurd h1 (by omega)⟩
      clear HJ HE
      go_wp2
      go_loopw [41, 8] (fun t u wn => ∃ i : Nat, i ≤ n ∧ t = .int .i64 i ∧ Hid (Free w wn w.heap.size j n i)) (fun t _ _ => n - (intOf t).toNat)
      case atStart => exact ⟨0, Nat.zero_le _, rfl, HF⟩
      case round =>
        obtain ⟨i, hi, rfl, HI⟩ := hrel
        by_cases hil : i < n
        · have hcell : ∃ y, wr.cell? ⟨w.heap.size, 4002 + i, none⟩ = some (.int .i16 y) ∧ wr.frozen? ⟨w.heap.size, 4002 + i, none⟩ = false := by
            obtain ⟨nx, pv, rw, ha, _⟩ := HI.out
            exact ⟨_, ha.cr (by omega), ha.frozen _⟩
          obtain ⟨y, c0, f0⟩ := hcell
          have hi2 : i < 1000 := by omega
          clear HF
          go_wp2
          go_roundw
          case rel => exact ⟨i + 1, by omega, by go_num, HI.out.set hi2⟩
          case measure => simp [intOf]; omega
        · obtain rfl : i = n := by omega
          clear HF
          go_wp2
          go_ret2
          exact ⟨rfl, HI.out⟩

end Go.Proofs.Ytbkeodjebfkkdaa.RingN
