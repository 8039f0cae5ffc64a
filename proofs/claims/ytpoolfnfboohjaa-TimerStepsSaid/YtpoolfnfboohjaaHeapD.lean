/-
  Contracts of the functions of package heap, as it landed, fifth part: a thing seeks its place. Condition: the pointer's blocks are as 'HB' says.
-/
import Derived.Test.YtpoolfnfboohjaaHeapC
import Derived.Deep.LoopGhost
namespace Go.Proofs.Ytpoolfnfboohjaa.HeapC
open Go.ChangeShapes Go.WideShapes Go.ChangeAt Go.RowKit Mem RefHeap HeapI HeapP

/-- All stand but x, whose place k is free; only rows and places have changed since w. -/
def Stood (w wr : World) (g q : Nat) (u : Value) (n m : Nat) (x : Ent) (k : Nat) (M : List Ent) (N : Int) : Prop :=
  ∃ R p, HB wr g q u R p ∧ Hole R p x k M N ∧ R.length = n ∧ p.length = m ∧ Only (fun b => b = q ∨ u.ownBlock = some b) w wr
/-- .. and x isn't ahead of who is over that place. -/
def Upped (w wr : World) (g q : Nat) (u : Value) (n m : Nat) (x : Ent) (k : Nat) (M : List Ent) (N : Int) : Prop :=
  ∃ R p, HB wr g q u R p ∧ Hole R p x k M N ∧ R.length = n ∧ p.length = m ∧ Only (fun b => b = q ∨ u.ownBlock = some b) w wr ∧ (1 ≤ k → ∀ b, R[(k - 1) / 4]? = some b → RefHeap.ahead x b = false)
/-- .. and nobody below it is ahead of x. -/
def Downed (w wr : World) (g q : Nat) (u : Value) (n m : Nat) (x : Ent) (k : Nat) (M : List Ent) (N : Int) : Prop :=
  ∃ R p, HB wr g q u R p ∧ Hole R p x k M N ∧ R.length = n ∧ p.length = m ∧ Only (fun b => b = q ∨ u.ownBlock = some b) w wr ∧ (1 ≤ k → ∀ b, R[(k - 1) / 4]? = some b → RefHeap.ahead x b = false) ∧
    ∀ c a, 1 ≤ c → (c - 1) / 4 = k → R[c]? = some a → RefHeap.ahead a x = false

section
variable {w wr : World} {g q : Nat} {u : Value} {n m : Nat} {x : Ent} {k : Nat} {M : List Ent} {N : Int}
theorem Stood.below {wn : World} (h : Stood w wr g q u n m x k M N) (hb : Below wr.heap.size wr wn) : Stood w wn g q u n m x k M N := by
  obtain ⟨R, p, h1, h2, h3, h4, h5⟩ := h
  exact ⟨R, p, h1.below hb, h2, h3, h4, h5.trans (Only.of_below (F := fun _ => False) hb) fun _ _ f => f.elim⟩
theorem Upped.below {wn : World} (h : Upped w wr g q u n m x k M N) (hb : Below wr.heap.size wr wn) : Upped w wn g q u n m x k M N := by
  obtain ⟨R, p, h1, h2, h3, h4, h5, h6⟩ := h
  exact ⟨R, p, h1.below hb, h2, h3, h4, h5.trans (Only.of_below (F := fun _ => False) hb) (fun _ _ f => f.elim), h6⟩
theorem Upped.stood (h : Upped w wr g q u n m x k M N) : Stood w wr g q u n m x k M N := by
  obtain ⟨R, p, h1, h2, h3, h4, h5, h6⟩ := h
  exact ⟨R, p, h1, h2, h3, h4, h5⟩
theorem Downed.below {wn : World} (h : Downed w wr g q u n m x k M N) (hb : Below wr.heap.size wr wn) : Downed w wn g q u n m x k M N := by
  obtain ⟨R, p, h1, h2, h3, h4, h5, h6⟩ := h
  exact ⟨R, p, h1.below hb, h2, h3, h4, h5.trans (Only.of_below (F := fun _ => False) hb) (fun _ _ f => f.elim), h6⟩
end

set_option maxRecDepth 100000 in
set_option maxHeartbeats 1000000 in
theorem up_c {w : World} {g q : Nat} {u : Value} {n m : Nat} {x : Ent} {k : Nat} {M : List Ent} {N : Int} (h : Stood w w g q u n m x k M N) :
    Calls Try.prog 57 #[.pointer (some ⟨g, 0, none⟩), x.val, .int .i64 k] w fun e w' => ∃ k' : Nat, e = .returned (.int .i64 k') ∧ Upped w w' g q u n m x k' M N := by
  have H0 := Lib.hid (h.below (new_below0 w (.cells #[.int .i64 x.id, .int .i64 x.at_, .int .i64 x.seq] 65)))
  have H0' : Hid (Stood w (w.alloc (.cells #[.int .i64 x.id, .int .i64 x.at_, .int .i64 x.seq] 65)) g q u n m x k M N) := H0.out
  clear h H0
  unfold Ent.val
  go_enter Try.func57, Try.ntmps57
  go_wp2
  go_step3
  go_wp2
  go_step3
  go_wp2
  go_loopw [2] (fun t wr => ∃ k : Nat, t = .int .i64 k ∧ Hid (Stood w wr g q u n m x k M N)) (fun t _ => (intOf t).toNat)
  case atStart => exact ⟨k, rfl, H0'⟩
  case round =>
    clear H0'
    obtain ⟨k, rfl, HS⟩ := hrel
    have hk1 : k ≤ 1000 := by obtain ⟨R, p, _, hh, _⟩ := HS.out; have := hh.kn; have := hh.len; omega
    by_cases hk : 0 < k
    · obtain ⟨R, p, hB, hH, hRn, hpm, hO⟩ := HS.out
      obtain ⟨j, hj⟩ : ∃ j, j = (k - 1) / 4 := ⟨_, rfl⟩
      have hjk : j < k := by omega
      have hjR : j < R.length := by have := hH.kn; omega
      have hR1 : R.length ≤ 1000 := hH.len
      have hkR := hH.kn
      have ej : ((k : Int) - 1) / 4 = (j : Int) := by omega
      have hy : R[j]? = some R[j] := List.getElem?_eq_getElem hjR
      generalize R[j] = y at hy
      obtain ⟨b, c, rfl, hbg, hbq, hbl, c0, c1, c2, hf⟩ := hB.row hy
      have g0 := hB.c0
      have ij : (j : Int) < (R.length : Int) := by omega
      have ij0 : (0 : Int) ≤ (j : Int) := by omega
      have HBB := Lib.hid hB
      have HH := Lib.hid hH
      have HY := Lib.hid hy
      have HJ := Lib.hid hj
      have HRn := Lib.hid hRn
      have Hpm := Lib.hid hpm
      have HO := Lib.hid hO
      clear hB hH hy hj hRn hpm hO hf
      have hcon := against_c x y wr
      unfold Ent.val at hcon
      have HC := Lib.hid hcon
      clear hcon
      go_wp2_with fail
      refine HC.out.mono ?_
      rintro e w2 ⟨rfl, hg2⟩
      have hb2 := hg2.below
      obtain ⟨ah, hah⟩ : ∃ ah, RefHeap.ahead y x = ah := ⟨_, rfl⟩
      have hd : decide (0 < cmpE x y) = ah := (cmpE_pos x y).trans hah
      have HAH := Lib.hid hah
      have HB2 := Lib.hid (HBB.out.below hb2)
      have HO2 := Lib.hid (HO.out.trans (Only.of_below (F := fun _ => False) hb2) fun _ _ f => f.elim)
      have d0 := (hb2.cell (p := ⟨b, j * 3, none⟩) hbl).trans c0
      have d1 := (hb2.cell (p := ⟨b, j * 3 + 1, none⟩) hbl).trans c1
      have d2 := (hb2.cell (p := ⟨b, j * 3 + 2, none⟩) hbl).trans c2
      have h0 := HB2.out.c0
      generalize cmpE x y = r at *
      clear hah hg2 hb2 c0 c1 c2 g0 HC HBB HO
      cases ah
      · have hyM := HH.out.my HY.out (by omega)
        have hyi := HH.out.idx hyM
        obtain ⟨i, hi⟩ : ∃ i : Nat, y.id = i := Int.eq_ofNat_of_zero_le hyi.1
        have hip : i < p.length := by omega
        have hplen : p.length ≤ 100000 := by have := HH.out.pn; have := HH.out.good.n1; omega
        have hst := stand_c HB2.out hplen (by omega) y k i hkR hip hi
        unfold Ent.val at hst
        have HST := Lib.hid hst
        have HI := Lib.hid hi
        clear hst hi hyM hyi
        go_wp2_with fail
        refine HST.out.mono ?_
        rintro e w3 ⟨rfl, hb3, ho3⟩
        have HN : Hid (Stood w w3 g q (.slice (some ⟨b, 0, none⟩) R.length c) n m x j M N) := by
          refine ⟨_, _, hb3, ?_, by rw [List.length_set]; exact HRn.out, by rw [List.length_set]; exact Hpm.out, HO2.out.trans ho3 fun _ _ h => h⟩
          have := HH.out.up (by omega) (y := y) (by rw [← HJ.out]; exact HY.out)
          rw [← HJ.out, HI.out] at this
          exact this
        clear hb3 ho3
        go_wp2
        go_roundw
        case rel => exact ⟨j, rfl, HN⟩
        case measure => simp [intOf]; omega
      · go_wp2
        rw [Exit.noGoto_ret]
        go_ret
        exact ⟨k, rfl, R, p, HB2.out, HH.out, HRn.out, Hpm.out, HO2.out, fun _ b' hb' => by
          rw [← HJ.out, HY.out] at hb'
          injection hb' with hb'
          subst hb'
          exact no_of HAH.out⟩
    · go_wp2
      rw [Exit.noGoto_ret]
      go_ret
      obtain ⟨R, p, h1, h2, h3, h4, h5⟩ := HS.out
      exact ⟨k, rfl, R, p, h1, h2, h3, h4, h5, fun hk' => absurd hk' (by omega)⟩

set_option maxRecDepth 100000 in
set_option maxHeartbeats 1000000 in
theorem down_c {w : World} {g q : Nat} {u : Value} {n m : Nat} {x : Ent} {k : Nat} {M : List Ent} {N : Int} (h : Upped w w g q u n m x k M N) :
    Calls Try.prog 56 #[.pointer (some ⟨g, 0, none⟩), x.val, .int .i64 k] w fun e w' => ∃ k' : Nat, e = .returned (.int .i64 k') ∧ Downed w w' g q u n m x k' M N := by
  have H0' : Hid (Upped w (w.alloc (.cells #[.int .i64 x.id, .int .i64 x.at_, .int .i64 x.seq] 65)) g q u n m x k M N) := h.below (new_below0 w _)
  clear h
  unfold Ent.val
  go_enter Try.func56, Try.ntmps56
  go_wp2
  go_loopw [2] (fun t wr => ∃ k : Nat, t = .int .i64 k ∧ Hid (Upped w wr g q u n m x k M N)) (fun t _ => n - (intOf t).toNat)
  case atStart => exact ⟨k, rfl, H0'⟩
  case round =>
    clear H0'
    obtain ⟨k, rfl, HS⟩ := hrel
    obtain ⟨R, p, hB, hH, hRn, hpm, hO, hU⟩ := HS.out
    have hk1 : k ≤ 1000 := by have := hH.kn; have := hH.len; omega
    have hR1 : R.length ≤ 1000 := hH.len
    have hkR := hH.kn
    obtain ⟨A, c, rfl⟩ := hB.form
    have g0 := hB.c0
    have HBB := Lib.hid hB
    have HH := Lib.hid hH
    have HRn := Lib.hid hRn
    have Hpm := Lib.hid hpm
    have HO := Lib.hid hO
    have HU := Lib.hid hU
    clear hB hH hRn hpm hO hU
    by_cases hlt : 4 * k + 1 < R.length
    · have ilt : 4 * (k : Int) + 1 < (R.length : Int) := by omega
      go_wp2_with fail
      refine (firstBelow_c HBB.out (by omega) k hlt).mono ?_
      rintro e w2 ⟨y, rfl, ⟨j, hle⟩, hb2⟩
      have HLE := Lib.hid hle
      have HB2 := Lib.hid ((HBB.out.below hb2).alloc (.cells #[.int .i64 y.id, .int .i64 y.at_, .int .i64 y.seq] 65))
      have hbb : Below wr.heap.size wr (w2.alloc (.cells #[.int .i64 y.id, .int .i64 y.at_, .int .i64 y.seq] 65)) := hb2.alloc hb2.size _
      have HO2 := Lib.hid (HO.out.trans (Only.of_below (F := fun _ => False) hbb) fun _ _ f => f.elim)
      have HYB : Hid ((w2.alloc (.cells #[.int .i64 y.id, .int .i64 y.at_, .int .i64 y.seq] 65)).heap[w2.heap.size]? = some (.cells #[.int .i64 y.id, .int .i64 y.at_, .int .i64 y.seq] 65 (0, 0))) := heap_alloc_new w2 _
      have HYS : Hid (w2.heap.size < (w2.alloc (.cells #[.int .i64 y.id, .int .i64 y.at_, .int .i64 y.seq] 65)).heap.size) := by show _ < _; simp
      clear hle hb2 hbb g0
      unfold Ent.val
      go_wp2_with fail
      generalize w2.alloc (.cells #[.int .i64 y.id, .int .i64 y.at_, .int .i64 y.seq] 65) = w3 at *
      generalize w2.heap.size = yb at *
      have hcon := against_c x y w3
      unfold Ent.val at hcon
      refine hcon.mono ?_
      clear hcon
      rintro e w4 ⟨rfl, hg4⟩
      have hb4 := hg4.below
      obtain ⟨ah, hah⟩ : ∃ ah, RefHeap.ahead x y = ah := ⟨_, rfl⟩
      have hd : decide (cmpE x y < 0) = ah := (cmpE_neg x y).trans hah
      have HAH := Lib.hid hah
      have HB4 := Lib.hid (HB2.out.below hb4)
      have HO4 := Lib.hid (HO2.out.trans (Only.of_below (F := fun _ => False) hb4) fun _ _ f => f.elim)
      have hyb4 := (hb4.block yb HYS.out).trans HYB.out
      have HY4 := Lib.hid hyb4
      generalize cmpE x y = r at *
      clear hah hg4 hb4 HBB HO HB2 HO2 HYB HYS hyb4
      cases ah
      · obtain ⟨hy, hj1, hjk, hmin⟩ := HLE.out
        have hyM := HH.out.my hy (by omega)
        have hyi := HH.out.idx hyM
        obtain ⟨i, hi⟩ : ∃ i : Nat, y.id = i := Int.eq_ofNat_of_zero_le hyi.1
        have hip : i < p.length := by omega
        have hplen : p.length ≤ 100000 := by have := HH.out.pn; have := HH.out.good.n1; omega
        have hpl : p[i]? = some (j : Int) := by
          have := HH.out.at_ j y (by omega) hy
          rw [hi] at this
          exact this
        have hst := fun W (hB : HB W g q (.slice A R.length c) R p) => stand_c hB hplen (by omega) y k i hkR hip hi
        unfold Ent.val at hst
        have HST := Lib.hid hst
        have hHd := HH.out.down hj1 hjk hy hmin
        rw [hi] at hHd
        have HHd : Hid (Hole (R.set k y) (p.set i k) x j M N) := hHd
        have hjR : j < R.length := (List.getElem?_eq_some_iff.1 hy).1
        have HJK := Lib.hid hjk
        have hc1 := HB4.out.c1
        have hcp := HB4.out.place hpl
        have y0 : w4.cell? ⟨yb, 0, none⟩ = some (.int .i64 y.id) := (cell_block HY4.out 0).trans rfl
        rw [hi] at y0
        have y1 : w4.cell? ⟨yb, 1, none⟩ = some (.int .i64 y.at_) := (cell_block HY4.out 1).trans rfl
        have y2 : w4.cell? ⟨yb, 2, none⟩ = some (.int .i64 y.seq) := (cell_block HY4.out 2).trans rfl
        have i0 : (0 : Int) ≤ (i : Int) := by omega
        have i1 : (i : Int) < (p.length : Int) := by omega
        have hjk2 : k < j := by omega
        rw [hi] at HST
        have HST2 : Hid (∀ W, HB W g q (.slice A R.length c) R p → Calls Try.prog 55 #[.pointer (some ⟨g, 0, none⟩), .agg #[.int .i64 i, .int .i64 y.at_, .int .i64 y.seq], .int .i64 k] W fun e w' => e = .returned (.tuple #[]) ∧ HB w' g q (.slice A R.length c) (R.set k y) (p.set i k) ∧ Only (fun b => b = q ∨ (Value.slice A R.length c).ownBlock = some b) W w') := HST.out
        clear hst hi hyM hyi hy hmin hpl hHd HST hjk HLE
        go_wp2
        go_quiet (fail)
        go_wp2_with fail
        refine (HST2.out _ (HB4.out.drewN _)).mono ?_
        rintro e w5 ⟨rfl, hb5, ho5⟩
        have HN : Hid (Upped w w5 g q (.slice A R.length c) n m x j M N) := by
          refine ⟨_, _, hb5, HHd.out, by rw [List.length_set]; exact HRn.out, by rw [List.length_set]; exact Hpm.out, (HO4.out.drewN _).trans ho5 fun _ _ h => h, fun _ b hb => ?_⟩
          rw [HJK.out, List.getElem?_set_self hkR] at hb
          injection hb with hb
          subst hb
          exact HAH.out
        have HRn2 : R.length = n := HRn.out
        clear hb5 ho5
        go_wp2
        go_roundw
        case rel => exact ⟨j, rfl, HN⟩
        case measure => simp [intOf]; omega
      · go_wp2
        go_ret
        exact ⟨k, rfl, R, p, HB4.out, HH.out, HRn.out, Hpm.out, HO4.out, HU.out, fun c a h1 h2 h3 => no_trans (HLE.out.2.2.2 c a h1 h2 h3) (no_of HAH.out)⟩
    · have ilt : ¬ 4 * (k : Int) + 1 < (R.length : Int) := by omega
      go_wp2
      go_ret
      exact ⟨k, rfl, R, p, HBB.out, HH.out, HRn.out, Hpm.out, HO.out, HU.out, fun c a h1 h2 h3 => by have := (List.getElem?_eq_some_iff.1 h3).1; omega⟩
end Go.Proofs.Ytpoolfnfboohjaa.HeapC
