/-
  The law's own awake() of layer 5 over any package that meets 'Tr': it returns true and leaves old memory as it was. Conditions: none but 'Tr'.
-/
import Derived.Test.YtgmbpknmjeegiaaTreeI
namespace Go.Proofs.Ytgmbpknmjeegiaa.TreeI
open Go.ChangeShapes Go.WideShapes Go.ChangeAt Go.RowKit Mem TreeP RefTree Hand

theorem in64s (a : Int) (h : -1000 ≤ a ∧ a ≤ 1000) : In64 a := ⟨by omega, by omega⟩
theorem litI (w : World) (e : TypeId) (l : List Int) {cs : Array Value} (hc : cs.toList = l.map (Value.int .i64)) (hl : l.length ≤ 1000000) {n : Nat} (hn : n = l.length) : Rd (w.alloc (.cells cs e)) (fun _ => True) (.slice (some ⟨w.heap.size, 0, none⟩) n n) l := by
  subst hn
  have hs : cs.size = l.length * 1 := by rw [← Array.length_toList, hc, List.length_map, Nat.mul_one]
  have h := World.ownsRow_lit (e := e) (size := 1) (base := 0) w cs l.length (Nat.zero_le _) (by unfold maxLen; omega) hs
  rw [hc] at h
  exact Own.rd (base := 0) h hl fun _ _ => trivial
def four : List Nd := [⟨-1, false⟩, ⟨0, false⟩, ⟨1, true⟩, ⟨0, false⟩]

set_option maxHeartbeats 4000000 in
set_option maxRecDepth 100000 in
theorem awake_any (I : Tr) (w : World) : Calls Try.prog 6 #[] w fun e w' => e = .returned (.bool true) ∧ Below w.heap.size w w' := by
  go_enter Try.func6, Try.ntmps6
  go_wp2_with fail
  refine (t_new (Sep.nil (fun _ => False) w) I 4 (by omega) (by omega)).mono ?_
  rintro e w1 ⟨a, rfl, h⟩
  have S1 := Lib.hid h
  clear h
  go_wp2_with fail
  refine (I.new_no 0 w1 (in64s _ (by omega)) (by omega)).mono ?_
  rintro e w2 ⟨rfl, hb⟩
  have S2 := Lib.hid (S1.out.next hb)
  clear hb S1
  go_wp2_with fail
  refine (t_root S2.out 0 rfl (V := 0) (E := 0) (L' := [⟨-1, false⟩]) (by decide) (by decide) (by decide)).mono ?_
  rintro e w3 ⟨rfl, h⟩
  have S3 := Lib.hid h
  clear h S2
  go_wp2_with fail
  refine (t_add S3.out 0 rfl 0 false (in64s _ (by omega)) (V := 1) (E := 0) (L' := [⟨-1, false⟩, ⟨0, false⟩]) (by decide) (by decide) (by decide)).mono ?_
  rintro e w4 ⟨rfl, h⟩
  have S4 := Lib.hid h
  clear h S3
  go_wp2_with fail
  refine (t_add S4.out 0 rfl 1 true (in64s _ (by omega)) (V := 2) (E := 0) (L' := [⟨-1, false⟩, ⟨0, false⟩, ⟨1, true⟩]) (by decide) (by decide) (by decide)).mono ?_
  rintro e w5 ⟨rfl, h⟩
  have S5 := Lib.hid h
  clear h S4
  go_wp2_with fail
  refine (t_add S5.out 0 rfl 0 false (in64s _ (by omega)) (V := 3) (E := 0) (L' := four) (by decide) (by decide) (by decide)).mono ?_
  rintro e w6 ⟨rfl, h⟩
  have S6 := Lib.hid h
  clear h S5
  go_wp2_with fail
  refine (t_add S6.out 0 rfl 0 false (in64s _ (by omega)) (V := -1) (E := 2) (L' := four) (by decide) (by decide) (by decide)).mono ?_
  rintro e w7 ⟨rfl, h⟩
  have S7 := Lib.hid h
  clear h S6
  go_wp2_with fail
  refine (t_add S7.out 0 rfl 9 false (in64s _ (by omega)) (V := -1) (E := 3) (L' := four) (by decide) (by decide) (by decide)).mono ?_
  rintro e w8 ⟨rfl, h⟩
  have S8 := Lib.hid h
  clear h S7
  go_wp2_with fail
  refine (t_reach S8.out 0 rfl 0 (in64s _ (by omega)) (l := [0, 1, 3]) (by decide)).mono ?_
  rintro e w9 ⟨A8, c8, rfl, h, hr, _, _⟩
  have S9 := Lib.hid (h.next (new_below0 w9 (.cells #[.int .i64 0, .int .i64 1, .int .i64 3] 3)))
  have R9 := Lib.hid (hr.alloc (.cells #[.int .i64 0, .int .i64 1, .int .i64 3] 3))
  have K9 := Lib.hid (litI w9 3 [0, 1, 3] (cs := #[.int .i64 0, .int .i64 1, .int .i64 3]) rfl (by decide) (n := 3) rfl)
  clear h hr S8
  simp only [List.length_cons, List.length_nil, Nat.zero_add, Nat.reduceAdd] at R9 ⊢
  go_wp2_with fail
  refine (SameI.same_any R9.out K9.out).mono ?_
  rintro e w10 ⟨rfl, n10, rfl⟩
  rw [show decide (([0, 1, 3] : List Int) = [0, 1, 3]) = true from by decide]
  have S10 := Lib.hid (S9.out.drewN n10)
  clear S9 R9 K9
  generalize hw8 : (w9.alloc (.cells #[.int .i64 0, .int .i64 1, .int .i64 3] 3)).drewN n10 = w10 at *
  clear hw8
  go_wp2_with fail
  refine (t_path S10.out 0 rfl 2 (in64s _ (by omega)) (l := [2, 1, 0]) (by decide)).mono ?_
  rintro e w11 ⟨A10, c10, rfl, h, hr, _, _⟩
  have S11 := Lib.hid (h.next (new_below0 w11 (.cells #[.int .i64 2, .int .i64 1, .int .i64 0] 3)))
  have R11 := Lib.hid (hr.alloc (.cells #[.int .i64 2, .int .i64 1, .int .i64 0] 3))
  have K11 := Lib.hid (litI w11 3 [2, 1, 0] (cs := #[.int .i64 2, .int .i64 1, .int .i64 0]) rfl (by decide) (n := 3) rfl)
  clear h hr S10
  simp only [List.length_cons, List.length_nil, Nat.zero_add, Nat.reduceAdd] at R11 ⊢
  go_wp2_with fail
  refine (SameI.same_any R11.out K11.out).mono ?_
  rintro e w12 ⟨rfl, n12, rfl⟩
  rw [show decide (([2, 1, 0] : List Int) = [2, 1, 0]) = true from by decide]
  have S12 := Lib.hid (S11.out.drewN n12)
  clear S11 R11 K11
  generalize hw10 : (w11.alloc (.cells #[.int .i64 2, .int .i64 1, .int .i64 0] 3)).drewN n12 = w12 at *
  clear hw10
  go_wp2_with fail
  refine (t_chain S12.out 0 rfl 2 (in64s _ (by omega)) (l := [2]) (by decide)).mono ?_
  rintro e w13 ⟨A12, c12, rfl, h, hr, _, _⟩
  have S13 := Lib.hid (h.next (new_below0 w13 (.cells #[.int .i64 2] 3)))
  have R13 := Lib.hid (hr.alloc (.cells #[.int .i64 2] 3))
  have K13 := Lib.hid (litI w13 3 [2] (cs := #[.int .i64 2]) rfl (by decide) (n := 1) rfl)
  clear h hr S12
  simp only [List.length_cons, List.length_nil, Nat.zero_add] at R13 ⊢
  go_wp2_with fail
  refine (SameI.same_any R13.out K13.out).mono ?_
  rintro e w14 ⟨rfl, n14, rfl⟩
  rw [show decide (([2] : List Int) = [2]) = true from by decide]
  have S14 := Lib.hid (S13.out.drewN n14)
  clear S13 R13 K13
  generalize hw12 : (w13.alloc (.cells #[.int .i64 2] 3)).drewN n14 = w14 at *
  clear hw12
  go_wp2_with fail
  refine (t_chain S14.out 0 rfl 1 (in64s _ (by omega)) (l := [1, 0]) (by decide)).mono ?_
  rintro e w15 ⟨A14, c14, rfl, h, hr, _, _⟩
  have S15 := Lib.hid (h.next (new_below0 w15 (.cells #[.int .i64 1, .int .i64 0] 3)))
  have R15 := Lib.hid (hr.alloc (.cells #[.int .i64 1, .int .i64 0] 3))
  have K15 := Lib.hid (litI w15 3 [1, 0] (cs := #[.int .i64 1, .int .i64 0]) rfl (by decide) (n := 2) rfl)
  clear h hr S14
  simp only [List.length_cons, List.length_nil, Nat.zero_add, Nat.reduceAdd] at R15 ⊢
  go_wp2_with fail
  refine (SameI.same_any R15.out K15.out).mono ?_
  rintro e w16 ⟨rfl, n16, rfl⟩
  rw [show decide (([1, 0] : List Int) = [1, 0]) = true from by decide]
  have S16 := Lib.hid (S15.out.drewN n16)
  clear S15 R15 K15
  generalize hw14 : (w15.alloc (.cells #[.int .i64 1, .int .i64 0] 3)).drewN n16 = w16 at *
  clear hw14
  go_wp2_with fail
  refine (t_kids S16.out 0 rfl 0 (in64s _ (by omega)) (l := [1, 3]) (by decide)).mono ?_
  rintro e w17 ⟨A16, c16, rfl, h, hr, _, _⟩
  have S17 := Lib.hid (h.next (new_below0 w17 (.cells #[.int .i64 1, .int .i64 3] 3)))
  have R17 := Lib.hid (hr.alloc (.cells #[.int .i64 1, .int .i64 3] 3))
  have K17 := Lib.hid (litI w17 3 [1, 3] (cs := #[.int .i64 1, .int .i64 3]) rfl (by decide) (n := 2) rfl)
  clear h hr S16
  simp only [List.length_cons, List.length_nil, Nat.zero_add, Nat.reduceAdd] at R17 ⊢
  go_wp2_with fail
  refine (SameI.same_any R17.out K17.out).mono ?_
  rintro e w18 ⟨rfl, n18, rfl⟩
  rw [show decide (([1, 3] : List Int) = [1, 3]) = true from by decide]
  have S18 := Lib.hid (S17.out.drewN n18)
  clear S17 R17 K17
  generalize hw16 : (w17.alloc (.cells #[.int .i64 1, .int .i64 3] 3)).drewN n18 = w18 at *
  clear hw16
  go_wp2_with fail
  refine (t_kids S18.out 0 rfl 1 (in64s _ (by omega)) (l := [2]) (by decide)).mono ?_
  rintro e w19 ⟨A18, c18, rfl, h, hr, _, _⟩
  have S19 := Lib.hid (h.next (new_below0 w19 (.cells #[.int .i64 2] 3)))
  have R19 := Lib.hid (hr.alloc (.cells #[.int .i64 2] 3))
  have K19 := Lib.hid (litI w19 3 [2] (cs := #[.int .i64 2]) rfl (by decide) (n := 1) rfl)
  clear h hr S18
  simp only [List.length_cons, List.length_nil, Nat.zero_add] at R19 ⊢
  go_wp2_with fail
  refine (SameI.same_any R19.out K19.out).mono ?_
  rintro e w20 ⟨rfl, n20, rfl⟩
  rw [show decide (([2] : List Int) = [2]) = true from by decide]
  have S20 := Lib.hid (S19.out.drewN n20)
  clear S19 R19 K19
  generalize hw18 : (w19.alloc (.cells #[.int .i64 2] 3)).drewN n20 = w20 at *
  clear hw18
  go_wp2_with fail
  refine (t_over S20.out 0 rfl 2 (in64s _ (by omega))).mono ?_
  rintro e w21 ⟨rfl, h⟩
  rw [show overT four 2 = 1 from by decide]
  have S21 := Lib.hid h
  clear h S20
  go_wp2_with fail
  refine (t_over S21.out 0 rfl 0 (in64s _ (by omega))).mono ?_
  rintro e w22 ⟨rfl, h⟩
  rw [show overT four 0 = -1 from by decide]
  have S22 := Lib.hid h
  clear h S21
  go_wp2_with fail
  refine (t_cut S22.out 0 rfl 2 (in64s _ (by omega))).mono ?_
  rintro e w23 ⟨rfl, h⟩
  rw [show cutT four 2 = true from by decide]
  have S23 := Lib.hid h
  clear h S22
  go_wp2_with fail
  refine (t_cut S23.out 0 rfl 1 (in64s _ (by omega))).mono ?_
  rintro e w24 ⟨rfl, h⟩
  rw [show cutT four 1 = false from by decide]
  have S24 := Lib.hid h
  clear h S23
  go_wp2_with fail
  refine (t_len S24.out 0 rfl).mono ?_
  rintro e w25 ⟨rfl, h⟩
  rw [show four.length = 4 from by decide]
  have S25 := Lib.hid h
  clear h S24
  go_wp2
  go_ret
  exact ⟨rfl, S25.out.old⟩
end Go.Proofs.Ytgmbpknmjeegiaa.TreeI
