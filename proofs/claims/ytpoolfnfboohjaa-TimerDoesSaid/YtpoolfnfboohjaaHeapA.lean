/-
  Contracts of the functions of package heap, as it landed, second part: comparisons, one place told and taken. Condition: the pointer's blocks are as 'HB' says.
-/
import Derived.Test.YtpoolfnfboohjaaHeap
import Derived.Sort.Grow
namespace Go.Proofs.Ytpoolfnfboohjaa.HeapC
open Go.ChangeShapes Go.WideShapes Go.ChangeAt Go.RowKit Mem RefHeap HeapI HeapP

/-- How one number is held against another. -/
def cmpI (a b : Int) : Int := if a < b then -1 else if b < a then 1 else 0
/-- The first of them that is none. -/
def orI (l : List Int) : Int := (l.find? (fun x => x != 0)).getD 0
/-- How one thing is held against another. -/
def cmpE (a b : Ent) : Int := orI [cmpI a.at_ b.at_, cmpI a.seq b.seq, cmpI a.id b.id]

theorem cmpI_eq (a b : Int) : (cmpI a b = -1 ∧ a < b) ∨ (cmpI a b = 0 ∧ a = b) ∨ (cmpI a b = 1 ∧ b < a) := by
  unfold cmpI
  split
  · exact .inl ⟨rfl, by assumption⟩
  · split
    · exact .inr (.inr ⟨rfl, by assumption⟩)
    · exact .inr (.inl ⟨rfl, by omega⟩)
theorem cmpE_neg (a b : Ent) : decide (cmpE a b < 0) = RefHeap.ahead a b := by
  rw [Bool.eq_iff_iff, ahead_iff, decide_eq_true_iff]
  unfold cmpE orI
  rcases cmpI_eq a.at_ b.at_ with ⟨h1, g1⟩ | ⟨h1, g1⟩ | ⟨h1, g1⟩ <;> rcases cmpI_eq a.seq b.seq with ⟨h2, g2⟩ | ⟨h2, g2⟩ | ⟨h2, g2⟩ <;> rcases cmpI_eq a.id b.id with ⟨h3, g3⟩ | ⟨h3, g3⟩ | ⟨h3, g3⟩ <;>
    simp [h1, h2, h3] <;> omega
theorem cmpE_pos (a b : Ent) : decide (0 < cmpE a b) = RefHeap.ahead b a := by
  rw [Bool.eq_iff_iff, ahead_iff, decide_eq_true_iff]
  unfold cmpE orI
  rcases cmpI_eq a.at_ b.at_ with ⟨h1, g1⟩ | ⟨h1, g1⟩ | ⟨h1, g1⟩ <;> rcases cmpI_eq a.seq b.seq with ⟨h2, g2⟩ | ⟨h2, g2⟩ | ⟨h2, g2⟩ <;> rcases cmpI_eq a.id b.id with ⟨h3, g3⟩ | ⟨h3, g3⟩ | ⟨h3, g3⟩ <;>
    simp [h1, h2, h3] <;> omega

theorem nan64_c (a : Int) (w : World) : Calls Try.prog 68 #[.int .i64 a] w fun e w' => e = .returned (.bool false) ∧ w = w' := by
  go_enter Try.func68, Try.ntmps68
  go_wp2
  go_ret
  exact ⟨ret_bool (by simp), rfl⟩
theorem nan_c (a : Int) (w : World) : Calls Try.prog 69 #[.int .i64 a] w fun e w' => e = .returned (.bool false) ∧ w = w' := by
  go_enter Try.func69, Try.ntmps69
  go_wp2
  go_ret
  exact ⟨ret_bool (by simp), rfl⟩
theorem compare64_c (a b : Int) (w : World) : Calls Try.prog 51 #[.int .i64 a, .int .i64 b] w fun e w' => e = .returned (.int .i64 (cmpI a b)) ∧ w = w' := by
  rcases cmpI_eq a b with ⟨h1, g1⟩ | ⟨h1, g1⟩ | ⟨h1, g1⟩
  · rw [h1]
    clear h1
    go_enter Try.func51, Try.ntmps51
    go_wp2_with (go_at_call 68; refine (nan64_c _ _).mono ?_; rintro e w' ⟨rfl, rfl⟩)
    go_ret
    exact ⟨rfl, rfl⟩
  · rw [h1]
    clear h1
    subst g1
    go_enter Try.func51, Try.ntmps51
    go_wp2_with (go_at_call 68; refine (nan64_c _ _).mono ?_; rintro e w' ⟨rfl, rfl⟩)
    go_ret
    exact ⟨rfl, rfl⟩
  · rw [h1]
    clear h1
    have g2 : ¬ a < b := by omega
    go_enter Try.func51, Try.ntmps51
    go_wp2_with (go_at_call 68; refine (nan64_c _ _).mono ?_; rintro e w' ⟨rfl, rfl⟩)
    go_ret
    exact ⟨rfl, rfl⟩
theorem compare_c (a b : Int) (w : World) : Calls Try.prog 52 #[.int .i64 a, .int .i64 b] w fun e w' => e = .returned (.int .i64 (cmpI a b)) ∧ w = w' := by
  rcases cmpI_eq a b with ⟨h1, g1⟩ | ⟨h1, g1⟩ | ⟨h1, g1⟩
  · rw [h1]
    clear h1
    go_enter Try.func52, Try.ntmps52
    go_wp2_with (go_at_call 69; refine (nan_c _ _).mono ?_; rintro e w' ⟨rfl, rfl⟩)
    go_ret
    exact ⟨rfl, rfl⟩
  · rw [h1]
    clear h1
    subst g1
    go_enter Try.func52, Try.ntmps52
    go_wp2_with (go_at_call 69; refine (nan_c _ _).mono ?_; rintro e w' ⟨rfl, rfl⟩)
    go_ret
    exact ⟨rfl, rfl⟩
  · rw [h1]
    clear h1
    have g2 : ¬ a < b := by omega
    go_enter Try.func52, Try.ntmps52
    go_wp2_with (go_at_call 69; refine (nan_c _ _).mono ?_; rintro e w' ⟨rfl, rfl⟩)
    go_ret
    exact ⟨rfl, rfl⟩

theorem orI_hit {l : List Int} {i : Nat} {a : Int} (hi : l[i]? = some a) (ha : a ≠ 0) (hno : ∀ j b, j < i → l[j]? = some b → b = 0) : orI l = a := by
  unfold orI
  have : l.find? (fun x => x != 0) = some a := by
    rw [List.find?_eq_some_iff_getElem]
    obtain ⟨hl, rfl⟩ := List.getElem?_eq_some_iff.1 hi
    refine ⟨by simpa using ha, i, hl, rfl, fun j hj => ?_⟩
    have := hno j _ hj (List.getElem?_eq_getElem (by omega))
    simpa using this
  rw [this]
  rfl
theorem orI_miss {l : List Int} (hno : ∀ j b, j < l.length → l[j]? = some b → b = 0) : orI l = 0 := by
  unfold orI
  have : l.find? (fun x => x != 0) = none := by
    rw [List.find?_eq_none]
    intro x hx
    obtain ⟨j, hj, rfl⟩ := List.getElem_of_mem hx
    have := hno j _ hj (List.getElem?_eq_getElem hj)
    simpa using this
  rw [this]
  rfl
theorem or_c {w : World} {G : Nat → Prop} {v : Value} {l : List Int} (h : Rd w G v l) : Calls Try.prog 50 #[v] w fun e w' => e = .returned (.int .i64 (orI l)) ∧ w = w' := by
  obtain ⟨A, c, rfl, hm, hx⟩ := h
  have HX := Lib.hid hx
  clear hx
  go_enter Try.func50, Try.ntmps50
  go_wp2
  go_loop [8] (fun t => ∃ i : Nat, i ≤ l.length ∧ t = .int .i64 i ∧ Hid (∀ j b, j < i → l[j]? = some b → b = 0)) (fun t => l.length - (intOf t).toNat)
  case atStart => exact ⟨0, Nat.zero_le _, rfl, fun j b hj => absurd hj (by omega)⟩
  case round =>
    obtain ⟨i, hi, rfl, hno⟩ := hrel
    by_cases hlt : i < l.length
    · obtain ⟨b, off, rfl, _, hb, hc⟩ := HX.out (by omega)
      have c0 := hc i hlt
      have hg : l[i]? = some (l.getD i 0) := by rw [List.getD_eq_getElem?_getD, List.getElem?_eq_getElem hlt]; rfl
      have HG := Lib.hid hg
      generalize l.getD i 0 = a at *
      clear hc hg
      by_cases ha : a = 0
      · subst ha
        go_wp2
        go_round
        case rel => exact ⟨i + 1, by omega, by go_num, fun j b' hj hb' => by
          rcases Nat.lt_or_ge j i with h | h
          · exact hno.out j b' h hb'
          · obtain rfl : j = i := by omega
            rw [HG.out] at hb'
            injection hb' with hb'
            exact hb'.symm⟩
        case measure => simp [intOf]; omega
      · have e1 : (a != 0) = true := by simpa using ha
        have HO := Lib.hid (orI_hit HG.out ha hno.out)
        clear ha
        go_wp2
        go_ret
        exact ⟨ret_int HO.out.symm, rfl⟩
    · have HO := Lib.hid (orI_miss (l := l) fun j b hj => hno.out j b (by omega))
      go_wp2
      go_ret
      exact ⟨ret_int HO.out.symm, rfl⟩

theorem still_of {P : Program} {f : FuncId} {args : Array Value} {w : World} {v : Value} (h : Calls P f args w fun e w' => e = .returned v ∧ w = w') : Calls P f args w fun e w' => e = .returned v ∧ w' = w :=
  h.mono fun _ _ ⟨he, hm⟩ => ⟨he, hm.symm⟩
/-- A call that only draws, and makes memory. -/
def Grows (w w' : World) : Prop := ∃ n os, w' = Go.Sort.grow (w.drewN n) os
theorem Grows.refl (w : World) : Grows w w := ⟨0, #[], by simp [World.drewN]⟩
theorem Grows.alloc {w w' : World} (h : Grows w w') (o : Obj) : Grows w (w'.alloc o) := by
  obtain ⟨n, os, rfl⟩ := h
  exact ⟨n, os ++ #[o], by rw [Go.Sort.alloc_eq_grow, Go.Sort.grow_grow]⟩
theorem Grows.drew {w w' : World} (h : Grows w w') : Grows w w'.drew := by
  obtain ⟨n, os, rfl⟩ := h
  exact ⟨n + 1, os, rfl⟩
theorem Grows.below {w w' : World} (h : Grows w w') : Below w.heap.size w w' := by
  obtain ⟨n, os, rfl⟩ := h
  refine ⟨rfl, rfl, rfl, by simp [World.drewN], fun k hk => ?_⟩
  show (w.heap ++ os)[k]? = w.heap[k]?
  rw [Array.getElem?_append_left hk]

theorem alloc2_old (w : World) (o o' : Obj) : ((w.alloc o).alloc o').drew.heap[w.heap.size]? = some (o) := by
  show ((w.alloc o).alloc o').heap[w.heap.size]? = some o
  exact (Below.heap_alloc _ _ _ (by simp)).trans (heap_alloc_new w _)
theorem alloc2_new (w : World) (o o' : Obj) : ((w.alloc o).alloc o').drew.heap[w.heap.size + 1]? = some o' := by
  show ((w.alloc o).alloc o').heap[w.heap.size + 1]? = some o'
  have := heap_alloc_new (w.alloc o) o'
  rwa [show (w.alloc o).heap.size = w.heap.size + 1 by simp] at this
theorem Rd.lit3 (w : World) (e : TypeId) (a b c : Int) : Rd (w.alloc (.cells #[.int .i64 a, .int .i64 b, .int .i64 c] e)) (fun _ => True) (.slice (some ⟨w.heap.size, 0, none⟩) 3 3) [a, b, c] :=
  Own.rd (xs := [a, b, c]) (base := 0) (World.ownsRow_lit w #[.int .i64 a, .int .i64 b, .int .i64 c] 3 (Nat.zero_le _) (by simp [maxLen]) (by simp)) (by simp) fun _ _ => trivial

set_option maxRecDepth 100000 in
theorem against_c (a b : Ent) (w : World) : Calls Try.prog 41 #[a.val, b.val] w fun e w' => e = .returned (.int .i64 (cmpE a b)) ∧ Grows w w' := by
  obtain ⟨ai, aa, az⟩ := a
  obtain ⟨bi, ba, bz⟩ := b
  have HE : Hid (cmpE ⟨ai, aa, az⟩ ⟨bi, ba, bz⟩ = orI [cmpI aa ba, cmpI az bz, cmpI ai bi]) := rfl
  unfold Ent.val
  go_enter Try.func41, Try.ntmps41
  go_wp2
  refine wp_region_still_tail 15 (by kernel_rfl) (by kernel_rfl) ?_
  simp only [List.take_succ_cons, List.take_zero, List.drop_succ_cons, List.drop_zero]
  change wpStill _ _ ((w.alloc (.cells #[.int .i64 ai, .int .i64 aa, .int .i64 az] 65)).alloc (.cells #[.int .i64 bi, .int .i64 ba, .int .i64 bz] 65)).drew (fun a' => wpList _ _ _ _ a' ((w.alloc (.cells #[.int .i64 ai, .int .i64 aa, .int .i64 az] 65)).alloc (.cells #[.int .i64 bi, .int .i64 ba, .int .i64 bz] 65)).drew) _ _
  have HG : Hid (Grows w ((w.alloc (.cells #[.int .i64 ai, .int .i64 aa, .int .i64 az] 65)).alloc (.cells #[.int .i64 bi, .int .i64 ba, .int .i64 bz] 65)).drew) := (((Grows.refl w).alloc _).alloc _).drew
  have q0 := alloc2_old w (.cells #[.int .i64 ai, .int .i64 aa, .int .i64 az] 65) (.cells #[.int .i64 bi, .int .i64 ba, .int .i64 bz] 65)
  have q1 := alloc2_new w (.cells #[.int .i64 ai, .int .i64 aa, .int .i64 az] 65) (.cells #[.int .i64 bi, .int .i64 ba, .int .i64 bz] 65)
  generalize ((w.alloc (.cells #[.int .i64 ai, .int .i64 aa, .int .i64 az] 65)).alloc (.cells #[.int .i64 bi, .int .i64 ba, .int .i64 bz] 65)).drew = w2 at *
  have a0 : w2.cell? ⟨w.heap.size, 0, none⟩ = some (.int .i64 ai) := (cell_block q0 0).trans rfl
  have a1 : w2.cell? ⟨w.heap.size, 1, none⟩ = some (.int .i64 aa) := (cell_block q0 1).trans rfl
  have a2 : w2.cell? ⟨w.heap.size, 2, none⟩ = some (.int .i64 az) := (cell_block q0 2).trans rfl
  have b0 : w2.cell? ⟨w.heap.size + 1, 0, none⟩ = some (.int .i64 bi) := (cell_block q1 0).trans rfl
  have b1 : w2.cell? ⟨w.heap.size + 1, 1, none⟩ = some (.int .i64 ba) := (cell_block q1 1).trans rfl
  have b2 : w2.cell? ⟨w.heap.size + 1, 2, none⟩ = some (.int .i64 bz) := (cell_block q1 2).trans rfl
  clear q0 q1
  repeat (first | still_step | still_call (still_of (compare64_c _ _ _)) | still_call (still_of (compare_c _ _ _)))
  refine wpStill_nil ?_
  clear a0 a1 a2 b0 b1 b2
  generalize cmpI aa ba = r1 at *
  generalize cmpI az bz = r2 at *
  generalize cmpI ai bi = r3 at *
  go_wp2_with fail
  refine (or_c (l := [r1, r2, r3]) (G := fun _ => True) (Rd.lit3 w2 _ r1 r2 r3)).mono ?_
  rintro e w3 ⟨rfl, rfl⟩
  generalize orI [r1, r2, r3] = r at *
  go_wp2
  go_ret
  exact ⟨ret_int HE.out.symm, HG.out.alloc _⟩
end Go.Proofs.Ytpoolfnfboohjaa.HeapC
