/-
  The law's own awake() of layer 13 over any package that meets 'Sg': it returns true and leaves old memory as it was. Conditions: none but 'Sg'.
-/
import Derived.Test.YtaplikopapnlpaaSemaI
import Derived.Test.YtaplikopapnlpaaObjL
namespace Go.Proofs.Ytaplikopapnlpaa.SemaI
open Go.ChangeShapes Go.WideShapes Go.ChangeAt Go.RowKit Mem MutP SemaP Hand RefMut RefSema FitsC

theorem in64s (a : Int) (h : -1000 ≤ a ∧ a ≤ 1000) : In64 a := ⟨by omega, by omega⟩
theorem litI (w : World) (e : TypeId) (l : List Int) {cs : Array Value} (hc : cs.toList = l.map (Value.int .i64)) (hl : l.length ≤ 1000000) {n : Nat} (hn : n = l.length) : Rd (w.alloc (.cells cs e)) (fun b => b = w.heap.size) (.slice (some ⟨w.heap.size, 0, none⟩) n n) l := by
  subst hn
  have hs : cs.size = l.length * 1 := by rw [← Array.length_toList, hc, List.length_map, Nat.mul_one]
  have h := World.ownsRow_lit (e := e) (size := 1) (base := 0) w cs l.length (Nat.zero_le _) (by unfold maxLen; omega) hs
  rw [hc] at h
  exact Own.rd (base := 0) h hl fun k hk => by simp [Value.ownBlock] at hk; exact hk.symm
/-- Same of two lists that can be read. -/
theorem same_b {w : World} {G G' : Nat → Prop} {va vb : Value} {xs ys : List Int} (ha : Rd w G va xs) (hb : Rd w G' vb ys) :
    Calls Try.prog 15 #[va, vb] w fun e w' => e = .returned (.bool (decide (xs = ys))) ∧ Below w.heap.size w w' := by
  refine (SameI.same_any ha hb).mono ?_
  rintro e w' ⟨rfl, n, rfl⟩
  exact ⟨rfl, below_drewN (Below.refl _ _) n⟩
theorem same_d {w : World} {G G' : Nat → Prop} {va vb : Value} {xs ys : List Int} (ha : Rd w G va xs) (hb : Rd w G' vb ys) (h : xs = ys) :
    Calls Try.prog 15 #[va, vb] w fun e w' => e = .returned (.bool true) ∧ Below w.heap.size w w' := by
  refine (same_b ha hb).mono ?_
  rintro e w' ⟨rfl, hb⟩
  exact ⟨by rw [decide_eq_true h], hb⟩
def g2 : Int → Int := updF (fun _ => 0) 2 3
def g3 : Int → Int := updF g2 3 1
def g4 : Int → Int := updF g3 4 6

set_option maxHeartbeats 4000000 in
set_option maxRecDepth 100000 in
theorem awake_any (I : Sg) (w : World) : Calls Try.prog 7 #[] w fun e w' => e = .returned (.bool true) ∧ Below w.heap.size w w' := by
  go_enter Try.func7, Try.ntmps7
  go_wp2_with fail
  refine (m_new (Sep.nil (fun _ => False) w) I 6 5 (by omega) (by omega) (by omega) (by omega)).mono ?_
  rintro e w1 ⟨a, rfl, h⟩
  have S1 := Lib.hid h
  clear h
  go_wp2_with fail
  refine (I.new_no 6 (-1) w1 (in64s _ (by omega)) (in64s _ (by omega)) (by omega)).mono ?_
  rintro e w2 ⟨rfl, hb⟩
  have S2 := Lib.hid (S1.out.next hb)
  clear hb S1
  go_wp2_with fail
  refine (m_acquire S2.out 0 rfl 1 4 (in64s _ (by omega)) (in64s _ (by omega)) (b := true) (E := 0) (s' := ⟨4, 5, [], [], fun _ => 0, 6⟩) (by decide) (by decide) (by rfl)).mono ?_
  rintro e w3 ⟨rfl, h⟩
  have S3 := Lib.hid h
  clear h S2
  go_wp2_with fail
  refine (m_acquire S3.out 0 rfl 2 3 (in64s _ (by omega)) (in64s _ (by omega)) (b := false) (E := 0) (s' := ⟨4, 5, [2], [], g2, 6⟩) (by decide) (by decide) (by rfl)).mono ?_
  rintro e w4 ⟨rfl, h⟩
  have S4 := Lib.hid h
  clear h S3
  go_wp2_with fail
  refine (m_acquire S4.out 0 rfl 3 1 (in64s _ (by omega)) (in64s _ (by omega)) (b := false) (E := 0) (s' := ⟨4, 5, [2, 3], [], g3, 6⟩) (by decide) (by decide) (by rfl)).mono ?_
  rintro e w5 ⟨rfl, h⟩
  have S5 := Lib.hid h
  clear h S4
  go_wp2_with fail
  refine (m_acquire S5.out 0 rfl 4 6 (in64s _ (by omega)) (in64s _ (by omega)) (b := false) (E := 0) (s' := ⟨4, 5, [2, 3], [4], g4, 6⟩) (by decide) (by decide) (by rfl)).mono ?_
  rintro e w6 ⟨rfl, h⟩
  have S6 := Lib.hid h
  clear h S5
  go_wp2_with fail
  refine (m_try S6.out 0 rfl 5 1 (in64s _ (by omega)) (in64s _ (by omega)) (b := false) (E := 0) (s' := ⟨4, 5, [2, 3], [4], g4, 6⟩) (by decide) (by decide) (by rfl)).mono ?_
  rintro e w7 ⟨rfl, h⟩
  have S7 := Lib.hid h
  clear h S6
  go_wp2_with fail
  refine (m_acquire S7.out 0 rfl 2 1 (in64s _ (by omega)) (in64s _ (by omega)) (b := false) (E := 6) (s' := ⟨4, 5, [2, 3], [4], g4, 6⟩) (by decide) (by decide) (by rfl)).mono ?_
  rintro e w8 ⟨rfl, h⟩
  have S8 := Lib.hid h
  clear h S7
  go_wp2_with fail
  refine (m_waiting S8.out 0 rfl).mono ?_
  rintro e w9 ⟨A9, c9, A9', c9', rfl, h, _⟩
  have S9 : Hid (Sep (fun _ => False) w w9 [nums2 (.slice A9 2 c9) (.slice A9' 1 c9') [2, 3] [4], ob I.O (.pointer (some a)) ⟨4, 5, [2, 3], [4], g4, 6⟩]) := h
  clear h S8
  go_wp2_with fail
  refine (m_wants S9.out 1 rfl 4 (in64s _ (by omega))).mono ?_
  rintro e w10 ⟨rfl, h, _⟩
  have S10 := Lib.hid h
  have hw4 : wantN ⟨4, 5, [2, 3], [4], g4, 6⟩ 4 = 6 := by decide
  have hb4 : SemaP.waitsB ⟨4, 5, [2, 3], [4], g4, 6⟩ 4 = true := by decide
  rw [hw4, hb4]
  clear h S9 hw4 hb4
  go_wp2_with fail
  refine (m_release S10.out 1 rfl 5 (in64s _ (by omega)) (l := []) (m := 0) (E := 4) (s' := ⟨4, 5, [2, 3], [4], g4, 6⟩) (by decide) rfl (by decide) (by rfl)).mono ?_
  rintro e w11 ⟨A11, c11, rfl, h⟩
  have S11 := Lib.hid h.tail
  clear h S10
  simp only [List.set_cons_zero, List.set_cons_succ] at S11
  go_wp2_with fail
  refine (m_release S11.out 1 rfl 4 (in64s _ (by omega)) (l := [2, 3]) (m := 2) (E := 0) (s' := ⟨4, 5, [], [4], g4, 6⟩) (by decide) rfl (by decide) (by rfl)).mono ?_
  rintro e w12 ⟨A12, c12, rfl, h⟩
  have S12 := Lib.hid h
  clear h S11
  simp only [List.set_cons_zero, List.set_cons_succ] at S12
  go_wp2_with fail
  refine (m_leave S12.out 2 rfl 4 (in64s _ (by omega)) (l := []) (m := 0) (b := true) (s' := ⟨4, 5, [], [], g4, 6⟩) (by decide) rfl (by decide) (by rfl)).mono ?_
  rintro e w13 ⟨A13, c13, rfl, h⟩
  have S13 := Lib.hid h.tail
  clear h S12
  simp only [List.set_cons_zero, List.set_cons_succ] at S13
  go_wp2_with fail
  refine (m_acquire S13.out 2 rfl 0 (-1) (in64s _ (by omega)) (in64s _ (by omega)) (b := false) (E := 1) (s' := ⟨4, 5, [], [], g4, 6⟩) (by decide) (by decide) (by rfl)).mono ?_
  rintro e w14 ⟨rfl, h⟩
  have S14 := Lib.hid (h.next (new_below0 _ (.cells #[.int .i64 2, .int .i64 3] 3)))
  have HL14 := Lib.hid (litI w14 3 [2, 3] (cs := #[.int .i64 2, .int .i64 3]) rfl (by decide) (n := 2) rfl)
  clear h S13
  simp only [List.set_cons_zero, List.set_cons_succ] at S14
  go_wp2_with fail
  refine (same_d (S14.out.rd2 1 rfl).1 HL14.out rfl).mono ?_
  rintro e w15 ⟨rfl, hb⟩
  have S15 := Lib.hid ((S14.out.next hb).next (new_below0 _ (.cells #[.int .i64 4] 3)))
  have HL15 := Lib.hid (litI w15 3 [4] (cs := #[.int .i64 4]) rfl (by decide) (n := 1) rfl)
  clear hb S14
  go_wp2_with fail
  refine (same_d (S15.out.rd2 1 rfl).2 HL15.out rfl).mono ?_
  rintro e w16 ⟨rfl, hb⟩
  have S16 := Lib.hid ((S15.out.next hb).next (new_below0 _ (.cells #[.int .i64 2, .int .i64 3] 3)))
  have HL16 := Lib.hid (litI w16 3 [2, 3] (cs := #[.int .i64 2, .int .i64 3]) rfl (by decide) (n := 2) rfl)
  clear hb S15
  go_wp2_with fail
  refine (same_d (S16.out.rd 0 rfl) HL16.out rfl).mono ?_
  rintro e w17 ⟨rfl, hb⟩
  have S17 := Lib.hid (S16.out.next hb)
  clear hb S16
  go_wp2_with fail
  refine (m_held S17.out 2 rfl).mono ?_
  rintro e w18 ⟨rfl, h, _⟩
  have S18 := Lib.hid h
  clear h S17
  go_wp2_with fail
  refine (m_cap S18.out 2 rfl).mono ?_
  rintro e w19 ⟨rfl, h, _⟩
  have S19 := Lib.hid h
  clear h S18
  go_wp2
  go_ret
  exact ⟨rfl, S19.out.old⟩
end Go.Proofs.Ytaplikopapnlpaa.SemaI
