/-
  The law's own awake() of layer 9 over any package that meets 'Rw': it returns true and leaves old memory as it was. Conditions: none but 'Rw'.
-/
import Derived.Test.YtmlicljoadcoeaaRwI
import Derived.Deep.DeepCutAuto
import Derived.Deep.CutBlock
namespace Go.Proofs.Ytmlicljoadcoeaa.RwI
open Go.ChangeShapes Go.WideShapes Go.ChangeAt Go.RowKit Mem MutP RwP Hand RefMut RefRw

theorem in64s (a : Int) (h : -1000 ≤ a ∧ a ≤ 1000) : MutP.In64 a := ⟨by omega, by omega⟩
theorem litI (w : World) (e : TypeId) (l : List Int) {cs : Array Value} (hc : cs.toList = l.map (Value.int .i64)) (hl : l.length ≤ 1000000) {n : Nat} (hn : n = l.length) : Rd (w.alloc (.cells cs e)) (fun b => b = w.heap.size) (.slice (some ⟨w.heap.size, 0, none⟩) n n) l := by
  subst hn
  have hs : cs.size = l.length * 1 := by rw [← Array.length_toList, hc, List.length_map, Nat.mul_one]
  have h := World.ownsRow_lit (e := e) (size := 1) (base := 0) w cs l.length (Nat.zero_le _) (by unfold maxLen; omega) hs
  rw [hc] at h
  exact Own.rd (base := 0) h hl fun k hk => by simp [Value.ownBlock] at hk; exact hk.symm
theorem any_rd {w : World} {G : Nat → Prop} {u : Value} {l : List Int} (h : Rd w G u l) : Rd w (fun _ => True) u l := h.mono fun _ _ _ => trivial
/-- Same of two lists that can be read. -/
theorem same_b {w : World} {G G' : Nat → Prop} {va vb : Value} {xs ys : List Int} (ha : Rd w G va xs) (hb : Rd w G' vb ys) :
    Calls Try.prog 15 #[va, vb] w fun e w' => e = .returned (.bool (decide (xs = ys))) ∧ Below w.heap.size w w' := by
  refine (SameI.same_any ha hb).mono ?_
  rintro e w' ⟨rfl, n, rfl⟩
  exact ⟨rfl, below_drewN (Below.refl _ _) n⟩
theorem same_d {w : World} {G G' : Nat → Prop} {va vb : Value} {xs ys : List Int} (ha : Rd w G va xs) (hb : Rd w G' vb ys) (h : xs = ys) :
    Calls Try.prog 15 #[va, vb] w fun e w' => e = .returned (.bool true) ∧ Below w.heap.size w w' := by
  refine (same_b ha hb).mono ?_
  rintro e w' ⟨rfl, hb⟩
  exact ⟨by rw [decide_eq_true h], hb⟩

set_option maxHeartbeats 4000000 in
set_option maxRecDepth 100000 in
theorem awake_any (I : Rw) (w : World) : Calls Try.prog 7 #[] w fun e w' => e = .returned (.bool true) ∧ Below w.heap.size w w' := by
  go_enter Try.func7, Try.ntmps7
  go_wp2_with fail
  refine (m_new (Sep.nil (fun _ => False) w) I 6 (by omega) (by omega)).mono ?_
  rintro e w1 ⟨a, rfl, h⟩
  have S1 := Lib.hid h
  clear h
  go_wp2_with fail
  refine (I.new_no 0 w1 (in64s _ (by omega)) (by omega)).mono ?_
  rintro e w2 ⟨rfl, hb⟩
  have S2 := Lib.hid (S1.out.next hb)
  clear hb S1
  go_wp2_with fail
  refine (m_rlock S2.out 0 rfl 1 (in64s _ (by omega)) (b := true) (E := 0) (s' := ⟨-1, [1], [], [], 6⟩) (by decide) (by decide) (by decide)).mono ?_
  rintro e w3 ⟨rfl, h⟩
  have S3 := Lib.hid h
  clear h S2
  go_wp2_with fail
  refine (m_lock S3.out 0 rfl 2 (in64s _ (by omega)) (b := false) (E := 0) (s' := ⟨-1, [1], [], [2], 6⟩) (by decide) (by decide) (by decide)).mono ?_
  rintro e w4 ⟨rfl, h⟩
  have S4 := Lib.hid h
  clear h S3
  go_wp2_with fail
  refine (m_rlock S4.out 0 rfl 3 (in64s _ (by omega)) (b := false) (E := 0) (s' := ⟨-1, [1], [3], [2], 6⟩) (by decide) (by decide) (by decide)).mono ?_
  rintro e w5 ⟨rfl, h⟩
  have S5 := Lib.hid h
  clear h S4
  go_wp2_with fail
  refine (m_rlock S5.out 0 rfl 1 (in64s _ (by omega)) (b := false) (E := 4) (s' := ⟨-1, [1], [3], [2], 6⟩) (by decide) (by decide) (by decide)).mono ?_
  rintro e w6 ⟨rfl, h⟩
  have S6 := Lib.hid h
  clear h S5
  go_wp2_with fail
  refine (m_lock S6.out 0 rfl 3 (in64s _ (by omega)) (b := false) (E := 6) (s' := ⟨-1, [1], [3], [2], 6⟩) (by decide) (by decide) (by decide)).mono ?_
  rintro e w7 ⟨rfl, h⟩
  have S7 := Lib.hid h
  clear h S6
  go_wp2_with fail
  refine (m_waiting S7.out 0 rfl).mono ?_
  rintro e w8 ⟨A8, c8, B8, d8, rfl, h, hb⟩
  have S8 := Lib.hid h
  clear h hb S7
  simp only [List.set_cons_zero, List.length_cons, List.length_nil, Nat.zero_add] at S8 ⊢
  go_wp2_with fail
  refine (m_unlock S8.out 1 rfl 1 (in64s _ (by omega)) (l := [2]) (E := 0) (s' := ⟨2, [], [3], [], 6⟩) (by decide) (by decide) (by decide)).mono ?_
  rintro e w9 ⟨A9, c9, rfl, h⟩
  have S9 := Lib.hid h
  clear h S8
  simp only [List.set_cons_zero, List.set_cons_succ, List.length_cons, List.length_nil, Nat.zero_add] at S9 ⊢
  go_wp2_with fail
  refine (m_writer S9.out 2 rfl).mono ?_
  rintro e w10 ⟨rfl, h, hb⟩
  have S10 := Lib.hid h
  clear h hb S9
  go_wp2_with fail
  refine (m_leave S10.out 2 rfl 3 (in64s _ (by omega)) (l := []) (b := true) (s' := ⟨2, [], [], [], 6⟩) (by decide) (by decide) (by decide)).mono ?_
  rintro e w11 ⟨A11, c11, rfl, h⟩
  have S11 := Lib.hid h
  clear h S10
  simp only [List.set_cons_zero, List.set_cons_succ, List.length_nil] at S11 ⊢
  go_wp2_with fail
  refine (m_unlock S11.out 3 rfl 2 (in64s _ (by omega)) (l := []) (E := 0) (s' := ⟨-1, [], [], [], 6⟩) (by decide) (by decide) (by decide)).mono ?_
  rintro e w12 ⟨A12, c12, rfl, h⟩
  have S12 := Lib.hid h
  clear h S11
  simp only [List.set_cons_zero, List.set_cons_succ, List.length_nil] at S12 ⊢
  go_upto_region 15 with (fail)
  simp only [List.append_eq, List.cons_append, List.nil_append]
  go_wp2_with fail
  refine (same_d ((S12.out.rd2 3 rfl).1.below (new_below0 w12 _)) (litI w12 3 [3] (cs := #[.int .i64 3]) rfl (by decide) rfl) rfl).mono ?_
  rintro e w13 ⟨rfl, hb⟩
  have S13 := Lib.hid ((S12.out.next (new_below0 w12 (.cells #[.int .i64 3] 3))).next hb)
  clear hb S12
  go_wp2_with fail
  refine (same_d ((S13.out.rd2 3 rfl).2.below (new_below0 w13 _)) (litI w13 3 [2] (cs := #[.int .i64 2]) rfl (by decide) rfl) rfl).mono ?_
  rintro e w14 ⟨rfl, hb⟩
  have S14 := Lib.hid ((S13.out.next (new_below0 w13 (.cells #[.int .i64 2] 3))).next hb)
  clear hb S13
  go_wp2_with fail
  refine (same_d ((S14.out.rd 2 rfl).below (new_below0 w14 _)) (litI w14 3 [2] (cs := #[.int .i64 2]) rfl (by decide) rfl) rfl).mono ?_
  rintro e w15 ⟨rfl, hb⟩
  have S15 := Lib.hid ((S14.out.next (new_below0 w14 (.cells #[.int .i64 2] 3))).next hb)
  clear hb S14
  go_wp2_with fail
  refine (m_writer S15.out 4 rfl).mono ?_
  rintro e w16 ⟨rfl, h, hb⟩
  have S16 := Lib.hid h
  clear h hb S15
  go_wp2_with fail
  refine (m_readers S16.out 4 rfl).mono ?_
  rintro e w17 ⟨A17, c17, rfl, h, hb⟩
  have S17 := Lib.hid h
  clear h hb S16
  simp only [List.length_nil]
  go_wp2
  go_ret
  exact ⟨rfl, S17.out.old⟩
end Go.Proofs.Ytmlicljoadcoeaa.RwI
