/-
  The law's own awake() of layer 15 over any package that meets 'Fl': it returns true and leaves old memory as it was. Conditions: none but 'Fl'.
-/
import Derived.Test.YtbkeodjebfkkdaaFlightI
namespace Go.Proofs.Ytbkeodjebfkkdaa.FlightI
open Go.ChangeShapes Go.WideShapes Go.ChangeAt Go.RowKit Mem MutP FlightP Hand RefMut RefFlight

theorem in64s (a : Int) (h : -1000 ≤ a ∧ a ≤ 1000) : In64 a := ⟨by omega, by omega⟩
theorem litI (w : World) (e : TypeId) (l : List Int) {cs : Array Value} (hc : cs.toList = l.map (Value.int .i64)) (hl : l.length ≤ 1000000) {n : Nat} (hn : n = l.length) : Rd (w.alloc (.cells cs e)) (fun b => b = w.heap.size) (.slice (some ⟨w.heap.size, 0, none⟩) n n) l := by
  subst hn
  have hs : cs.size = l.length * 1 := by rw [← Array.length_toList, hc, List.length_map, Nat.mul_one]
  have h := World.ownsRow_lit (e := e) (size := 1) (base := 0) w cs l.length (Nat.zero_le _) (by unfold maxLen; omega) hs
  rw [hc] at h
  exact Own.rd (base := 0) h hl fun k hk => by simp [Value.ownBlock] at hk; exact hk.symm
/-- Same of two lists that can be read. -/
theorem same_b {w : World} {G G' : Nat → Prop} {va vb : Value} {xs ys : List Int} (ha : Rd w G va xs) (hb : Rd w G' vb ys) :
    Calls Try.prog 15 #[va, vb] w fun e w' => e = .returned (.bool (decide (xs = ys))) ∧ Below w.heap.size w w' := by
  refine (SameI.same_any ha hb).mono ?_
  rintro e w' ⟨rfl, n, rfl⟩
  exact ⟨rfl, below_drewN (Below.refl _ _) n⟩
theorem same_d {w : World} {G G' : Nat → Prop} {va vb : Value} {xs ys : List Int} (ha : Rd w G va xs) (hb : Rd w G' vb ys) (h : xs = ys) :
    Calls Try.prog 15 #[va, vb] w fun e w' => e = .returned (.bool true) ∧ Below w.heap.size w w' := by
  refine (same_b ha hb).mono ?_
  rintro e w' ⟨rfl, hb⟩
  exact ⟨by rw [decide_eq_true h], hb⟩

set_option maxHeartbeats 4000000 in
set_option maxRecDepth 100000 in
theorem awake_any (I : Fl) (w : World) : Calls Try.prog 6 #[] w fun e w' => e = .returned (.bool true) ∧ Below w.heap.size w w' := by
  go_enter Try.func6, Try.ntmps6
  go_wp2_with fail
  refine (m_new (Sep.nil (fun _ => False) w) I 6 (by omega) (by omega)).mono ?_
  rintro e w1 ⟨a, rfl, h⟩
  have S1 := Lib.hid h
  clear h
  go_wp2_with fail
  refine (I.new_no 0 w1 (in64s _ (by omega)) (by omega)).mono ?_
  rintro e w2 ⟨rfl, hb⟩
  have S2 := Lib.hid (S1.out.next hb)
  clear hb S1
  go_wp2_with fail
  refine (m_doit S2.out 0 rfl 1 7 (in64s _ (by omega)) (in64s _ (by omega)) (x := 1) (E := 0) (s' := ⟨[⟨1, 7, false, []⟩], 6⟩) (by decide) (by decide) (by rfl)).mono ?_
  rintro e w3 ⟨rfl, h⟩
  have S3 := Lib.hid h
  clear h S2
  go_wp2_with fail
  refine (m_doit S3.out 0 rfl 2 7 (in64s _ (by omega)) (in64s _ (by omega)) (x := 1) (E := 0) (s' := ⟨[⟨1, 7, false, [2]⟩], 6⟩) (by decide) (by decide) (by rfl)).mono ?_
  rintro e w4 ⟨rfl, h⟩
  have S4 := Lib.hid h
  clear h S3
  go_wp2_with fail
  refine (m_doit S4.out 0 rfl 2 8 (in64s _ (by omega)) (in64s _ (by omega)) (x := (-1)) (E := 6) (s' := ⟨[⟨1, 7, false, [2]⟩], 6⟩) (by decide) (by decide) (by rfl)).mono ?_
  rintro e w5 ⟨rfl, h⟩
  have S5 := Lib.hid h
  clear h S4
  go_wp2_with fail
  refine (m_doit S5.out 0 rfl 1 8 (in64s _ (by omega)) (in64s _ (by omega)) (x := (-1)) (E := 4) (s' := ⟨[⟨1, 7, false, [2]⟩], 6⟩) (by decide) (by decide) (by rfl)).mono ?_
  rintro e w6 ⟨rfl, h⟩
  have S6 := Lib.hid h
  clear h S5
  go_wp2_with fail
  refine (m_forget S6.out 0 rfl 7 (in64s _ (by omega)) (b := true) (s' := ⟨[⟨1, 7, true, [2]⟩], 6⟩) (by decide) (by rfl)).mono ?_
  rintro e w7 ⟨rfl, h⟩
  have S7 := Lib.hid h
  clear h S6
  go_wp2_with fail
  refine (m_forget S7.out 0 rfl 7 (in64s _ (by omega)) (b := false) (s' := ⟨[⟨1, 7, true, [2]⟩], 6⟩) (by decide) (by rfl)).mono ?_
  rintro e w8 ⟨rfl, h⟩
  have S8 := Lib.hid h
  clear h S7
  go_wp2_with fail
  refine (m_doit S8.out 0 rfl 3 7 (in64s _ (by omega)) (in64s _ (by omega)) (x := 3) (E := 0) (s' := ⟨[⟨1, 7, true, [2]⟩, ⟨3, 7, false, []⟩], 6⟩) (by decide) (by decide) (by rfl)).mono ?_
  rintro e w9 ⟨rfl, h⟩
  have S9 := Lib.hid h
  clear h S8
  go_wp2_with fail
  refine (m_doit S9.out 0 rfl 4 7 (in64s _ (by omega)) (in64s _ (by omega)) (x := 3) (E := 0) (s' := ⟨[⟨1, 7, true, [2]⟩, ⟨3, 7, false, [4]⟩], 6⟩) (by decide) (by decide) (by rfl)).mono ?_
  rintro e w10 ⟨rfl, h⟩
  have S10 := Lib.hid h
  clear h S9
  go_wp2_with fail
  refine (m_leader S10.out 0 rfl 7 (in64s _ (by omega)) (x := 3) (by decide)).mono ?_
  rintro e w11 ⟨rfl, h, _⟩
  have S11 := Lib.hid h
  clear h S10
  go_wp2_with fail
  refine (m_joins S11.out 0 rfl 2 (in64s _ (by omega)) (x := 1) (by decide)).mono ?_
  rintro e w12 ⟨rfl, h, _⟩
  have S12 := Lib.hid h
  clear h S11
  go_wp2_with fail
  refine (m_leads S12.out 0 rfl 1 (in64s _ (by omega)) (x := 7) (b := true) (by decide) (by decide)).mono ?_
  rintro e w13 ⟨rfl, h, _⟩
  have S13 := Lib.hid h
  clear h S12
  go_wp2_with fail
  refine (m_joined S13.out 0 rfl 1 (in64s _ (by omega)) (l := [2]) (by rfl)).mono ?_
  rintro e w14 ⟨A14, c14, rfl, h, _⟩
  have S14 : Hid (Sep (fun _ => False) w w14 [nums (.slice A14 1 c14) [2], ob I.O (.pointer (some a)) ⟨[⟨1, 7, true, [2]⟩, ⟨3, 7, false, [4]⟩], 6⟩]) := h
  clear h S13
  go_wp2_with fail
  refine (m_finish S14.out 1 rfl 1 (in64s _ (by omega)) (l := [2]) (m := 1) (E := 0) (s' := ⟨[⟨3, 7, false, [4]⟩], 6⟩) (by rfl) rfl (by decide) (by rfl)).mono ?_
  rintro e w15 ⟨A15, c15, rfl, h⟩
  have S15 : Hid (Sep (fun _ => False) w w15 [nums (.slice A15 1 c15) [2], nums (.slice A14 1 c14) [2], ob I.O (.pointer (some a)) ⟨[⟨3, 7, false, [4]⟩], 6⟩]) := h
  clear h S14
  go_wp2_with fail
  refine (m_finish S15.out 2 rfl 1 (in64s _ (by omega)) (l := []) (m := 0) (E := 4) (s' := ⟨[⟨3, 7, false, [4]⟩], 6⟩) (by rfl) rfl (by decide) (by rfl)).mono ?_
  rintro e w16 ⟨A16, c16, rfl, h⟩
  have S16 : Hid (Sep (fun _ => False) w w16 [nums (.slice A16 0 c16) [], nums (.slice A15 1 c15) [2], nums (.slice A14 1 c14) [2], ob I.O (.pointer (some a)) ⟨[⟨3, 7, false, [4]⟩], 6⟩]) := h
  clear h S15
  go_wp2_with fail
  refine (m_leave S16.out 3 rfl 4 (in64s _ (by omega)) (b := true) (s' := ⟨[⟨3, 7, false, []⟩], 6⟩) (by decide) (by rfl)).mono ?_
  rintro e w17 ⟨rfl, h⟩
  have S17 := Lib.hid h
  clear h S16
  go_wp2_with fail
  refine (m_finish S17.out 3 rfl 3 (in64s _ (by omega)) (l := []) (m := 0) (E := 0) (s' := ⟨[], 6⟩) (by rfl) rfl (by decide) (by rfl)).mono ?_
  rintro e w18 ⟨A18, c18, rfl, h⟩
  have S18 : Hid (Sep (fun _ => False) w w18 [nums (.slice A18 0 c18) [], nums (.slice A16 0 c16) [], nums (.slice A15 1 c15) [2], nums (.slice A14 1 c14) [2], ob I.O (.pointer (some a)) ⟨[], 6⟩]) := h
  clear h S17
  go_wp2_with fail
  refine (m_doit S18.out 4 rfl 6 1 (in64s _ (by omega)) (in64s _ (by omega)) (x := (-1)) (E := 3) (s' := ⟨[], 6⟩) (by decide) (by decide) (by rfl)).mono ?_
  rintro e w19 ⟨rfl, h⟩
  have S19 := Lib.hid (h.next (new_below0 _ (.cells #[.int .i64 2] 3)))
  have HL19 := Lib.hid (litI w19 3 [2] (cs := #[.int .i64 2]) rfl (by decide) (n := 1) rfl)
  clear h S18
  go_wp2_with fail
  refine (same_d (S19.out.rd 3 rfl) HL19.out rfl).mono ?_
  rintro e w20 ⟨rfl, hb⟩
  have S20 := Lib.hid ((S19.out.next hb).next (new_below0 _ (.cells #[.int .i64 2] 3)))
  have HL20 := Lib.hid (litI w20 3 [2] (cs := #[.int .i64 2]) rfl (by decide) (n := 1) rfl)
  clear hb S19 HL19
  go_wp2_with fail
  refine (same_d (S20.out.rd 2 rfl) HL20.out rfl).mono ?_
  rintro e w21 ⟨rfl, hb⟩
  have S21 := Lib.hid (S20.out.next hb)
  clear hb S20 HL20
  go_wp2_with fail
  refine (m_leader S21.out 4 rfl 7 (in64s _ (by omega)) (x := (-1)) (by decide)).mono ?_
  rintro e w22 ⟨rfl, h, _⟩
  have S22 := Lib.hid h
  clear h S21
  go_wp2_with fail
  refine (m_joins S22.out 4 rfl 2 (in64s _ (by omega)) (x := (-1)) (by decide)).mono ?_
  rintro e w23 ⟨rfl, h, _⟩
  have S23 := Lib.hid h
  clear h S22
  go_wp2
  go_ret
  exact ⟨rfl, S23.out.old⟩
end Go.Proofs.Ytbkeodjebfkkdaa.FlightI
