/-
  The law's own awake() of layer 12 over any package that meets 'Wg': it returns true and leaves old memory as it was. Conditions: none but 'Wg'.
-/
import Derived.Test.YtjojpejhmengaaaWaitsI
import Derived.Test.YtjojpejhmengaaaObjL
namespace Go.Proofs.Ytjojpejhmengaaa.WaitsI
open Go.ChangeShapes Go.WideShapes Go.ChangeAt Go.RowKit Mem MutP WaitsP Hand RefMut RefWaits

theorem in64s (a : Int) (h : -1000 ≤ a ∧ a ≤ 1000) : In64 a := ⟨by omega, by omega⟩
theorem litI (w : World) (e : TypeId) (l : List Int) {cs : Array Value} (hc : cs.toList = l.map (Value.int .i64)) (hl : l.length ≤ 1000000) {n : Nat} (hn : n = l.length) : Rd (w.alloc (.cells cs e)) (fun b => b = w.heap.size) (.slice (some ⟨w.heap.size, 0, none⟩) n n) l := by
  subst hn
  have hs : cs.size = l.length * 1 := by rw [← Array.length_toList, hc, List.length_map, Nat.mul_one]
  have h := World.ownsRow_lit (e := e) (size := 1) (base := 0) w cs l.length (Nat.zero_le _) (by unfold maxLen; omega) hs
  rw [hc] at h
  exact Own.rd (base := 0) h hl fun k hk => by simp [Value.ownBlock] at hk; exact hk.symm
/-- Same of two lists that can be read. -/
theorem same_b {w : World} {G G' : Nat → Prop} {va vb : Value} {xs ys : List Int} (ha : Rd w G va xs) (hb : Rd w G' vb ys) :
    Calls Try.prog 13 #[va, vb] w fun e w' => e = .returned (.bool (decide (xs = ys))) ∧ Below w.heap.size w w' := by
  refine (SameI.same_any ha hb).mono ?_
  rintro e w' ⟨rfl, n, rfl⟩
  exact ⟨rfl, below_drewN (Below.refl _ _) n⟩
theorem same_d {w : World} {G G' : Nat → Prop} {va vb : Value} {xs ys : List Int} (ha : Rd w G va xs) (hb : Rd w G' vb ys) (h : xs = ys) :
    Calls Try.prog 13 #[va, vb] w fun e w' => e = .returned (.bool true) ∧ Below w.heap.size w w' := by
  refine (same_b ha hb).mono ?_
  rintro e w' ⟨rfl, hb⟩
  exact ⟨by rw [decide_eq_true h], hb⟩
section
variable {I : Wg} {B : Nat → Prop} {w wk : World} {Rs : List Res} {v : Value} {C : Int} {W : List Int} {N : Int}
theorem n_add (h : Sep B w wk Rs) (i : Nat) (hi : Rs[i]? = some (ob I.O v (C, W, N))) (n : Int) (h1 : In64 n) {E C' : Int} {L W' : List Int} {m : Nat} (hE : addE C n = E) (hC : addC C n = C') (hW : addW C W n = W') (hL : addL C W n = L) (hm : L.length = m) :
    Calls Try.prog 19 #[v, .int .i64 n] wk fun e wn => ∃ A c, e = .returned (.tuple #[.slice A m c, .int .i64 E]) ∧ Sep B w wn (nums (.slice A m c) L :: Rs.set i (ob I.O v (C', W', N))) := by subst hE hC hW hL hm; exact m_add h i hi n h1
theorem n_dec (h : Sep B w wk Rs) (i : Nat) (hi : Rs[i]? = some (ob I.O v (C, W, N))) {E C' : Int} {L W' : List Int} {m : Nat} (hE : addE C (-1) = E) (hC : addC C (-1) = C') (hW : addW C W (-1) = W') (hL : addL C W (-1) = L) (hm : L.length = m) :
    Calls Try.prog 21 #[v] wk fun e wn => ∃ A c, e = .returned (.tuple #[.slice A m c, .int .i64 E]) ∧ Sep B w wn (nums (.slice A m c) L :: Rs.set i (ob I.O v (C', W', N))) := by subst hE hC hW hL hm; exact m_dec h i hi
theorem n_wait (h : Sep B w wk Rs) (i : Nat) (hi : Rs[i]? = some (ob I.O v (C, W, N))) (t : Int) (h1 : In64 t) {b : Bool} {E : Int} {W' : List Int} (hb : wtB C W N t = b) (hE : wtE W N t = E) (hW : wtW C W N t = W') :
    Calls Try.prog 18 #[v, .int .i64 t] wk fun e wn => e = .returned (.tuple #[.bool b, .int .i64 E]) ∧ Sep B w wn (Rs.set i (ob I.O v (C, W', N))) := by subst hb hE hW; exact m_wait h i hi t h1
theorem n_leave (h : Sep B w wk Rs) (i : Nat) (hi : Rs[i]? = some (ob I.O v (C, W, N))) (t : Int) (h1 : In64 t) {b : Bool} {W' : List Int} (hb : inL W t = b) (hW : withoutL W t = W') :
    Calls Try.prog 20 #[v, .int .i64 t] wk fun e wn => e = .returned (.bool b) ∧ Sep B w wn (Rs.set i (ob I.O v (C, W', N))) := by subst hb hW; exact m_leave h i hi t h1
end

set_option maxHeartbeats 4000000 in
set_option maxRecDepth 100000 in
theorem awake_any (I : Wg) (w : World) : Calls Try.prog 6 #[] w fun e w' => e = .returned (.bool true) ∧ Below w.heap.size w w' := by
  go_enter Try.func6, Try.ntmps6
  go_wp2_with fail
  refine (m_new (Sep.nil (fun _ => False) w) I 5 (by omega) (by omega)).mono ?_
  rintro e w1 ⟨a, rfl, h⟩
  have S1 := Lib.hid h
  clear h
  go_wp2_with fail
  refine (I.new_no 0 w1 (in64s _ (by omega)) (by omega)).mono ?_
  rintro e w2 ⟨rfl, hb⟩
  have S2 := Lib.hid (S1.out.next hb)
  clear hb S1
  go_wp2_with fail
  refine (n_wait S2.out 0 rfl 0 (in64s _ (by omega)) (b := true) (E := 0) (W' := []) (by decide) (by decide) (by decide)).mono ?_
  rintro e w3 ⟨rfl, h⟩
  have S3 := Lib.hid h
  clear h S2
  go_wp2_with fail
  refine (n_add S3.out 0 rfl 2 (in64s _ (by omega)) (E := 0) (C' := 2) (W' := []) (L := []) (m := 0) (by decide) (by decide) (by decide) (by decide) rfl).mono ?_
  rintro e w4 ⟨A4, c4, rfl, h⟩
  have S4 := Lib.hid h.tail
  clear h S3
  go_wp2_with fail
  refine (n_wait S4.out 0 rfl 1 (in64s _ (by omega)) (b := false) (E := 0) (W' := [1]) (by decide) (by decide) (by decide)).mono ?_
  rintro e w5 ⟨rfl, h⟩
  have S5 := Lib.hid h
  clear h S4
  go_wp2_with fail
  refine (n_wait S5.out 0 rfl 1 (in64s _ (by omega)) (b := false) (E := 6) (W' := [1]) (by decide) (by decide) (by decide)).mono ?_
  rintro e w6 ⟨rfl, h⟩
  have S6 := Lib.hid h
  clear h S5
  go_wp2_with fail
  refine (n_wait S6.out 0 rfl 3 (in64s _ (by omega)) (b := false) (E := 0) (W' := [1, 3]) (by decide) (by decide) (by decide)).mono ?_
  rintro e w7 ⟨rfl, h⟩
  have S7 := Lib.hid h
  clear h S6
  go_wp2_with fail
  refine (n_wait S7.out 0 rfl 2 (in64s _ (by omega)) (b := false) (E := 0) (W' := [1, 3, 2]) (by decide) (by decide) (by decide)).mono ?_
  rintro e w8 ⟨rfl, h⟩
  have S8 := Lib.hid h
  clear h S7
  go_wp2_with fail
  refine (n_leave S8.out 0 rfl 2 (in64s _ (by omega)) (b := true) (W' := [1, 3]) (by decide) (by decide)).mono ?_
  rintro e w9 ⟨rfl, h⟩
  have S9 := Lib.hid h
  clear h S8
  go_wp2_with fail
  refine (n_dec S9.out 0 rfl (E := 0) (C' := 1) (W' := [1, 3]) (L := []) (m := 0) (by decide) (by decide) (by decide) (by decide) rfl).mono ?_
  rintro e w10 ⟨A10, c10, rfl, h⟩
  have S10 := Lib.hid h.tail
  clear h S9
  go_wp2_with fail
  refine (n_add S10.out 0 rfl (-2) (in64s _ (by omega)) (E := 1) (C' := 1) (W' := [1, 3]) (L := []) (m := 0) (by decide) (by decide) (by decide) (by decide) rfl).mono ?_
  rintro e w11 ⟨A11, c11, rfl, h⟩
  have S11 := Lib.hid h.tail
  clear h S10
  go_wp2_with fail
  refine (n_add S11.out 0 rfl 9223372036854775807 ⟨by omega, by omega⟩ (E := 2) (C' := 1) (W' := [1, 3]) (L := []) (m := 0) (by decide) (by decide) (by decide) (by decide) rfl).mono ?_
  rintro e w12 ⟨A12, c12, rfl, h⟩
  have S12 := Lib.hid h.tail
  clear h S11
  go_wp2_with fail
  refine (n_dec S12.out 0 rfl (E := 0) (C' := 0) (W' := []) (L := [1, 3]) (m := 2) (by decide) (by decide) (by decide) (by decide) rfl).mono ?_
  rintro e w13 ⟨A13, c13, rfl, h⟩
  have S13 := Lib.hid h
  clear h S12
  simp only [List.set_cons_zero] at S13
  go_wp2_with fail
  refine (n_wait S13.out 1 rfl 5 (in64s _ (by omega)) (b := false) (E := 3) (W' := []) (by decide) (by decide) (by decide)).mono ?_
  rintro e w14 ⟨rfl, h⟩
  have S14 := Lib.hid (h.next (new_below0 _ (.cells #[.int .i64 1, .int .i64 3] 3)))
  have HL14 := Lib.hid (litI w14 3 [1, 3] (cs := #[.int .i64 1, .int .i64 3]) rfl (by decide) (n := 2) rfl)
  clear h S13
  simp only [List.set_cons_zero, List.set_cons_succ] at S14
  go_wp2_with fail
  refine (same_d (S14.out.rd 0 rfl) HL14.out rfl).mono ?_
  rintro e w15 ⟨rfl, hb⟩
  have S15 := Lib.hid (S14.out.next hb)
  clear hb S14
  go_wp2_with fail
  refine (m_count S15.out 1 rfl).mono ?_
  rintro e w16 ⟨rfl, h, _⟩
  have S16 := Lib.hid h
  clear h S15
  go_wp2_with fail
  refine (m_waiting S16.out 1 rfl).mono ?_
  rintro e w17 ⟨A17, c17, rfl, h, _⟩
  have S17 := Lib.hid h
  clear h S16
  go_wp2
  go_ret
  exact ⟨rfl, S17.out.old⟩
end Go.Proofs.Ytjojpejhmengaaa.WaitsI
