/-
  The law's own awake() of layer 14 over any package that meets 'Tm': it returns true and leaves old memory as it was. Conditions: none but 'Tm'.
-/
import Derived.Test.YtkgmcifianhogaaTeamI
namespace Go.Proofs.Ytkgmcifianhogaa.TeamI
open Go.ChangeShapes Go.WideShapes Go.ChangeAt Go.RowKit Mem MutP TeamP Hand RefMut RefTeam

theorem in64s (a : Int) (h : -1000 ≤ a ∧ a ≤ 1000) : In64 a := ⟨by omega, by omega⟩
theorem litI (w : World) (e : TypeId) (l : List Int) {cs : Array Value} (hc : cs.toList = l.map (Value.int .i64)) (hl : l.length ≤ 1000000) {n : Nat} (hn : n = l.length) : Rd (w.alloc (.cells cs e)) (fun b => b = w.heap.size) (.slice (some ⟨w.heap.size, 0, none⟩) n n) l := by
  subst hn
  have hs : cs.size = l.length * 1 := by rw [← Array.length_toList, hc, List.length_map, Nat.mul_one]
  have h := World.ownsRow_lit (e := e) (size := 1) (base := 0) w cs l.length (Nat.zero_le _) (by unfold maxLen; omega) hs
  rw [hc] at h
  exact Own.rd (base := 0) h hl fun k hk => by simp [Value.ownBlock] at hk; exact hk.symm
/-- Same of two lists that can be read. -/
theorem same_b {w : World} {G G' : Nat → Prop} {va vb : Value} {xs ys : List Int} (ha : Rd w G va xs) (hb : Rd w G' vb ys) :
    Calls Try.prog 17 #[va, vb] w fun e w' => e = .returned (.bool (decide (xs = ys))) ∧ Below w.heap.size w w' := by
  refine (SameI.same_any ha hb).mono ?_
  rintro e w' ⟨rfl, n, rfl⟩
  exact ⟨rfl, below_drewN (Below.refl _ _) n⟩
theorem same_d {w : World} {G G' : Nat → Prop} {va vb : Value} {xs ys : List Int} (ha : Rd w G va xs) (hb : Rd w G' vb ys) (h : xs = ys) :
    Calls Try.prog 17 #[va, vb] w fun e w' => e = .returned (.bool true) ∧ Below w.heap.size w w' := by
  refine (same_b ha hb).mono ?_
  rintro e w' ⟨rfl, hb⟩
  exact ⟨by rw [decide_eq_true h], hb⟩

set_option maxHeartbeats 4000000 in
set_option maxRecDepth 100000 in
theorem awake_any (I : Tm) (w : World) : Calls Try.prog 6 #[] w fun e w' => e = .returned (.bool true) ∧ Below w.heap.size w w' := by
  go_enter Try.func6, Try.ntmps6
  go_wp2_with fail
  refine (m_new (Sep.nil (fun _ => False) w) I 5 (by omega) (by omega)).mono ?_
  rintro e w1 ⟨a, rfl, h⟩
  have S1 := Lib.hid h
  clear h
  go_wp2_with fail
  refine (I.new_no 0 w1 (in64s _ (by omega)) (by omega)).mono ?_
  rintro e w2 ⟨rfl, hb⟩
  have S2 := Lib.hid (S1.out.next hb)
  clear hb S1
  go_wp2_with fail
  refine (m_limit S2.out 0 rfl 1 (in64s _ (by omega)) (E := 0) (s' := ⟨1, 0, 0, [], [], 5⟩) (by decide) (by rfl)).mono ?_
  rintro e w3 ⟨rfl, h⟩
  have S3 := Lib.hid h
  clear h S2
  go_wp2_with fail
  refine (m_go S3.out 0 rfl (by decide) 1 (in64s _ (by omega)) (b := true) (E := 0) (s' := ⟨1, 1, 0, [], [], 5⟩) (by decide) (by decide) (by rfl)).mono ?_
  rintro e w4 ⟨rfl, h⟩
  have S4 := Lib.hid h
  clear h S3
  go_wp2_with fail
  refine (m_go S4.out 0 rfl (by decide) 2 (in64s _ (by omega)) (b := false) (E := 0) (s' := ⟨1, 1, 0, [2], [], 5⟩) (by decide) (by decide) (by rfl)).mono ?_
  rintro e w5 ⟨rfl, h⟩
  have S5 := Lib.hid h
  clear h S4
  go_wp2_with fail
  refine (m_go S5.out 0 rfl (by decide) 2 (in64s _ (by omega)) (b := false) (E := 6) (s' := ⟨1, 1, 0, [2], [], 5⟩) (by decide) (by decide) (by rfl)).mono ?_
  rintro e w6 ⟨rfl, h⟩
  have S6 := Lib.hid h
  clear h S5
  go_wp2_with fail
  refine (m_wait S6.out 0 rfl 3 (in64s _ (by omega)) (b := false) (E := 0) (s' := ⟨1, 1, 0, [2], [3], 5⟩) (by decide) (by decide) (by rfl)).mono ?_
  rintro e w7 ⟨rfl, h⟩
  have S7 := Lib.hid h
  clear h S6
  go_wp2_with fail
  refine (m_try S7.out 0 rfl (by decide) (b := false) (s' := ⟨1, 1, 0, [2], [3], 5⟩) (by decide) (by rfl)).mono ?_
  rintro e w8 ⟨rfl, h⟩
  have S8 := Lib.hid h
  clear h S7
  go_wp2_with fail
  refine (m_limit S8.out 0 rfl 2 (in64s _ (by omega)) (E := 5) (s' := ⟨1, 1, 0, [2], [3], 5⟩) (by decide) (by rfl)).mono ?_
  rintro e w9 ⟨rfl, h⟩
  have S9 := Lib.hid h
  clear h S8
  go_wp2_with fail
  refine (m_waiting S9.out 0 rfl).mono ?_
  rintro e w10 ⟨A10, c10, A10', c10', rfl, h, _⟩
  have S10 : Hid (Sep (fun _ => False) w w10 [nums2 (.slice A10 1 c10) (.slice A10' 1 c10') [2] [3], ob I.O (.pointer (some a)) ⟨1, 1, 0, [2], [3], 5⟩]) := h
  clear h S9
  go_wp2_with fail
  refine (m_end S10.out 1 rfl (by decide) 7 (in64s _ (by omega)) (x := 2) (l := []) (f := true) (m := 0) (E := 0) (s' := ⟨1, 1, 7, [], [3], 5⟩) (by rfl) rfl (by decide) (by rfl)).mono ?_
  rintro e w11 ⟨A11, c11, rfl, h⟩
  have S11 : Hid (Sep (fun _ => False) w (w11.alloc (.cells #[.int .i64 2, .slice A11 0 c11, .bool true] 35)) [blk w11.heap.size (.cells #[.int .i64 2, .slice A11 0 c11, .bool true] 35), nums2 (.slice A10 1 c10) (.slice A10' 1 c10') [2] [3], ob I.O (.pointer (some a)) ⟨1, 1, 7, [], [3], 5⟩]) := h.tail.new _
  clear h S10
  go_wp2_with fail
  refine (m_end S11.out 2 rfl (by decide) 8 (in64s _ (by omega)) (x := -1) (l := [3]) (f := false) (m := 1) (E := 0) (s' := ⟨1, 0, 7, [], [], 5⟩) (by rfl) rfl (by decide) (by rfl)).mono ?_
  rintro e w12 ⟨A12, c12, rfl, h⟩
  have S12 : Hid (Sep (fun _ => False) w (w12.alloc (.cells #[.int .i64 (-1), .slice A12 1 c12, .bool false] 35)) [blk w12.heap.size (.cells #[.int .i64 (-1), .slice A12 1 c12, .bool false] 35), nums (.slice A12 1 c12) [3], blk w11.heap.size (.cells #[.int .i64 2, .slice A11 0 c11, .bool true] 35), nums2 (.slice A10 1 c10) (.slice A10' 1 c10') [2] [3], ob I.O (.pointer (some a)) ⟨1, 0, 7, [], [], 5⟩]) := h.new _
  clear h S11
  go_wp2_with fail
  refine (m_end S12.out 4 rfl (by decide) 9 (in64s _ (by omega)) (x := 0) (l := []) (f := false) (m := 0) (E := 4) (s' := ⟨1, 0, 7, [], [], 5⟩) (by rfl) rfl (by decide) (by rfl)).mono ?_
  rintro e w13 ⟨A13, c13, rfl, h⟩
  have S13 : Hid (Sep (fun _ => False) w ((w13.alloc (.cells #[.int .i64 0, .slice A13 0 c13, .bool false] 35)).alloc (.cells #[.int .i64 2] 3)) [blk w12.heap.size (.cells #[.int .i64 (-1), .slice A12 1 c12, .bool false] 35), nums (.slice A12 1 c12) [3], blk w11.heap.size (.cells #[.int .i64 2, .slice A11 0 c11, .bool true] 35), nums2 (.slice A10 1 c10) (.slice A10' 1 c10') [2] [3], ob I.O (.pointer (some a)) ⟨1, 0, 7, [], [], 5⟩]) := (h.tail.next (new_below0 _ _)).next (new_below0 _ _)
  have HL13 := Lib.hid (litI (w13.alloc (.cells #[.int .i64 0, .slice A13 0 c13, .bool false] 35)) 3 [2] (cs := #[.int .i64 2]) rfl (by decide) (n := 1) rfl)
  have hsz : (w13.alloc (.cells #[.int .i64 0, .slice A13 0 c13, .bool false] 35)).heap.size = w13.heap.size + 1 := World.size_alloc ..
  rw [hsz] at HL13
  clear h S12 hsz
  go_wp2_with fail
  refine (same_d (S13.out.rd2 3 rfl).1 HL13.out rfl).mono ?_
  rintro e w14 ⟨rfl, hb⟩
  have S14 := Lib.hid ((S13.out.next hb).next (new_below0 _ (.cells #[.int .i64 3] 3)))
  have HL14 := Lib.hid (litI w14 3 [3] (cs := #[.int .i64 3]) rfl (by decide) (n := 1) rfl)
  clear hb S13 HL13
  go_wp2_with fail
  refine (same_d (S14.out.rd2 3 rfl).2 HL14.out rfl).mono ?_
  rintro e w15 ⟨rfl, hb⟩
  have S15 := Lib.hid (S14.out.next hb)
  obtain ⟨⟨x0, x1, x2⟩, _⟩ := cells3 (S15.out.blk_at 2 rfl)
  obtain ⟨⟨y0, y1, y2⟩, _⟩ := cells3 (S15.out.blk_at 0 rfl)
  have S16 := Lib.hid (S15.out.next (new_below0 _ (.cells #[.int .i64 3] 3)))
  have HL16 := Lib.hid (litI w15 3 [3] (cs := #[.int .i64 3]) rfl (by decide) (n := 1) rfl)
  clear hb S14 HL14 S15
  go_wp2_with fail
  refine (same_d (S16.out.rd 1 rfl) HL16.out rfl).mono ?_
  rintro e w17 ⟨rfl, hb⟩
  have S17 := Lib.hid (S16.out.next hb)
  clear hb S16 HL16 x0 x1 x2 y0 y1 y2
  go_wp2_with fail
  refine (m_first S17.out 4 rfl).mono ?_
  rintro e w18 ⟨rfl, h, _⟩
  have S18 := Lib.hid h
  clear h S17
  go_wp2_with fail
  refine (m_active S18.out 4 rfl).mono ?_
  rintro e w19 ⟨rfl, h, _⟩
  have S19 := Lib.hid h
  clear h S18
  go_wp2_with fail
  refine (m_lim S19.out 4 rfl).mono ?_
  rintro e w20 ⟨rfl, h, _⟩
  have S20 := Lib.hid h
  clear h S19
  go_wp2_with fail
  refine (m_leave S20.out 4 rfl 3 (in64s _ (by omega)) (b := false) (s' := ⟨1, 0, 7, [], [], 5⟩) (by decide) (by rfl)).mono ?_
  rintro e w21 ⟨rfl, h⟩
  have S21 := Lib.hid h
  clear h S20
  go_wp2
  go_ret
  exact ⟨rfl, S21.out.old⟩
end Go.Proofs.Ytkgmcifianhogaa.TeamI
