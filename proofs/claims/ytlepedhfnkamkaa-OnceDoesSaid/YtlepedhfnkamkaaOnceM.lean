/-
  The law's own awake() of layer 11 over any package that meets 'On': it returns true and leaves old memory as it was. Conditions: none but 'On'.
-/
import Derived.Test.YtlepedhfnkamkaaOnceI
import Derived.Test.YtlepedhfnkamkaaObjL
namespace Go.Proofs.Ytlepedhfnkamkaa.OnceI
open Go.ChangeShapes Go.WideShapes Go.ChangeAt Go.RowKit Mem MutP OnceP Hand RefMut RefOnce

theorem in64s (a : Int) (h : -1000 ≤ a ∧ a ≤ 1000) : In64 a := ⟨by omega, by omega⟩
theorem litI (w : World) (e : TypeId) (l : List Int) {cs : Array Value} (hc : cs.toList = l.map (Value.int .i64)) (hl : l.length ≤ 1000000) {n : Nat} (hn : n = l.length) : Rd (w.alloc (.cells cs e)) (fun b => b = w.heap.size) (.slice (some ⟨w.heap.size, 0, none⟩) n n) l := by
  subst hn
  have hs : cs.size = l.length * 1 := by rw [← Array.length_toList, hc, List.length_map, Nat.mul_one]
  have h := World.ownsRow_lit (e := e) (size := 1) (base := 0) w cs l.length (Nat.zero_le _) (by unfold maxLen; omega) hs
  rw [hc] at h
  exact Own.rd (base := 0) h hl fun k hk => by simp [Value.ownBlock] at hk; exact hk.symm
/-- Same of two lists that can be read. -/
theorem same_b {w : World} {G G' : Nat → Prop} {va vb : Value} {xs ys : List Int} (ha : Rd w G va xs) (hb : Rd w G' vb ys) :
    Calls Try.prog 13 #[va, vb] w fun e w' => e = .returned (.bool (decide (xs = ys))) ∧ Below w.heap.size w w' := by
  refine (SameI.same_any ha hb).mono ?_
  rintro e w' ⟨rfl, n, rfl⟩
  exact ⟨rfl, below_drewN (Below.refl _ _) n⟩
theorem same_d {w : World} {G G' : Nat → Prop} {va vb : Value} {xs ys : List Int} (ha : Rd w G va xs) (hb : Rd w G' vb ys) (h : xs = ys) :
    Calls Try.prog 13 #[va, vb] w fun e w' => e = .returned (.bool true) ∧ Below w.heap.size w w' := by
  refine (same_b ha hb).mono ?_
  rintro e w' ⟨rfl, hb⟩
  exact ⟨by rw [decide_eq_true h], hb⟩
section
variable {I : On} {B : Nat → Prop} {w wk : World} {Rs : List Res} {v : Value} {S D : Int} {W : List Int} {N : Int}
theorem n_beg (h : Sep B w wk Rs) (i : Nat) (hi : Rs[i]? = some (ob I.O v (S, D, W, N))) (t : Int) (h1 : In64 t) {K E S' D' : Int} {W' : List Int} (hK : begK S D W N t = K) (hE : begE D W N t = E) (hS : begS S D W N t = S') (hD : begD S D W N t = D') (hW : begW S D W N t = W') :
    Calls Try.prog 21 #[v, .int .i64 t] wk fun e wn => e = .returned (.tuple #[.int .i64 K, .int .i64 E]) ∧ Sep B w wn (Rs.set i (ob I.O v (S', D', W', N))) := by subst hK hE hS hD hW; exact m_beg h i hi t h1
theorem n_end (h : Sep B w wk Rs) (i : Nat) (hi : Rs[i]? = some (ob I.O v (S, D, W, N))) (t : Int) (h1 : In64 t) {E S' D' : Int} {L W' : List Int} {n : Nat} (hE : endE D N t = E) (hS : endS S D N t = S') (hD : endD D N t = D') (hW : endW D W N t = W') (hL : endL D W N t = L) (hn : L.length = n) :
    Calls Try.prog 20 #[v, .int .i64 t] wk fun e wn => ∃ A c, e = .returned (.tuple #[.slice A n c, .int .i64 E]) ∧ Sep B w wn (nums (.slice A n c) L :: Rs.set i (ob I.O v (S', D', W', N))) := by subst hE hS hD hW hL hn; exact m_end h i hi t h1
theorem n_leave (h : Sep B w wk Rs) (i : Nat) (hi : Rs[i]? = some (ob I.O v (S, D, W, N))) (t : Int) (h1 : In64 t) {b : Bool} {W' : List Int} (hb : inL W t = b) (hW : withoutL W t = W') :
    Calls Try.prog 18 #[v, .int .i64 t] wk fun e wn => e = .returned (.bool b) ∧ Sep B w wn (Rs.set i (ob I.O v (S, D, W', N))) := by subst hb hW; exact m_leave h i hi t h1
end

set_option maxHeartbeats 4000000 in
set_option maxRecDepth 100000 in
theorem awake_any (I : On) (w : World) : Calls Try.prog 6 #[] w fun e w' => e = .returned (.bool true) ∧ Below w.heap.size w w' := by
  go_enter Try.func6, Try.ntmps6
  go_wp2_with fail
  refine (m_new (Sep.nil (fun _ => False) w) I 5 (by omega) (by omega)).mono ?_
  rintro e w1 ⟨a, rfl, h⟩
  have S1 := Lib.hid h
  clear h
  go_wp2_with fail
  refine (I.new_no 0 w1 (in64s _ (by omega)) (by omega)).mono ?_
  rintro e w2 ⟨rfl, hb⟩
  have S2 := Lib.hid (S1.out.next hb)
  clear hb S1
  go_wp2_with fail
  refine (n_beg S2.out 0 rfl 1 (in64s _ (by omega)) (K := 0) (E := 0) (S' := 1) (D' := 1) (W' := []) (by decide) (by decide) (by decide) (by decide) (by decide)).mono ?_
  rintro e w3 ⟨rfl, h⟩
  have S3 := Lib.hid h
  clear h S2
  go_wp2_with fail
  refine (n_beg S3.out 0 rfl 3 (in64s _ (by omega)) (K := 1) (E := 0) (S' := 1) (D' := 1) (W' := [3]) (by decide) (by decide) (by decide) (by decide) (by decide)).mono ?_
  rintro e w4 ⟨rfl, h⟩
  have S4 := Lib.hid h
  clear h S3
  go_wp2_with fail
  refine (n_beg S4.out 0 rfl 3 (in64s _ (by omega)) (K := 0) (E := 6) (S' := 1) (D' := 1) (W' := [3]) (by decide) (by decide) (by decide) (by decide) (by decide)).mono ?_
  rintro e w5 ⟨rfl, h⟩
  have S5 := Lib.hid h
  clear h S4
  go_wp2_with fail
  refine (n_beg S5.out 0 rfl 1 (in64s _ (by omega)) (K := 0) (E := 4) (S' := 1) (D' := 1) (W' := [3]) (by decide) (by decide) (by decide) (by decide) (by decide)).mono ?_
  rintro e w6 ⟨rfl, h⟩
  have S6 := Lib.hid h
  clear h S5
  go_wp2_with fail
  refine (n_beg S6.out 0 rfl 2 (in64s _ (by omega)) (K := 1) (E := 0) (S' := 1) (D' := 1) (W' := [3, 2]) (by decide) (by decide) (by decide) (by decide) (by decide)).mono ?_
  rintro e w7 ⟨rfl, h⟩
  have S7 := Lib.hid h
  clear h S6
  go_wp2_with fail
  refine (m_by S7.out 0 rfl).mono ?_
  rintro e w8 ⟨rfl, h, _⟩
  have S8 := Lib.hid h
  clear h S7
  go_wp2_with fail
  refine (m_waiting S8.out 0 rfl).mono ?_
  rintro e w9 ⟨A9, c9, rfl, h, _⟩
  have S9 := Lib.hid h
  clear h S8
  simp only [List.set_cons_zero, List.length_cons, List.length_nil, Nat.zero_add, Nat.reduceAdd] at S9 ⊢
  go_wp2_with fail
  refine (n_end S9.out 1 rfl 3 (in64s _ (by omega)) (E := 4) (S' := 1) (D' := 1) (W' := [3, 2]) (L := []) (n := 0) (by decide) (by decide) (by decide) (by decide) (by decide) rfl).mono ?_
  rintro e w10 ⟨A10, c10, rfl, h⟩
  have S10 := Lib.hid h
  clear h S9
  simp only [List.set_cons_zero, List.set_cons_succ] at S10
  go_wp2_with fail
  refine (n_end S10.out 2 rfl 1 (in64s _ (by omega)) (E := 0) (S' := 2) (D' := -1) (W' := []) (L := [3, 2]) (n := 2) (by decide) (by decide) (by decide) (by decide) (by decide) rfl).mono ?_
  rintro e w11 ⟨A11, c11, rfl, h⟩
  have S11 := Lib.hid h
  clear h S10
  simp only [List.set_cons_zero, List.set_cons_succ] at S11
  go_wp2_with fail
  refine (n_beg S11.out 3 rfl 4 (in64s _ (by omega)) (K := 2) (E := 0) (S' := 2) (D' := -1) (W' := []) (by decide) (by decide) (by decide) (by decide) (by decide)).mono ?_
  rintro e w12 ⟨rfl, h⟩
  have S12 := Lib.hid h
  clear h S11
  simp only [List.set_cons_zero, List.set_cons_succ] at S12
  go_wp2_with fail
  refine (n_beg S12.out 3 rfl 5 (in64s _ (by omega)) (K := 0) (E := 3) (S' := 2) (D' := -1) (W' := []) (by decide) (by decide) (by decide) (by decide) (by decide)).mono ?_
  rintro e w13 ⟨rfl, h⟩
  have S13 := Lib.hid (h.next (new_below0 _ (.cells #[.int .i64 3, .int .i64 2] 3)))
  have HL13 := Lib.hid (litI w13 3 [3, 2] (cs := #[.int .i64 3, .int .i64 2]) rfl (by decide) (n := 2) rfl)
  clear h S12
  simp only [List.set_cons_zero, List.set_cons_succ] at S13
  go_wp2_with fail
  refine (same_d (S13.out.rd 2 rfl) HL13.out rfl).mono ?_
  rintro e w14 ⟨rfl, hb⟩
  have S14 := Lib.hid ((S13.out.next hb).next (new_below0 _ (.cells #[.int .i64 3, .int .i64 2] 3)))
  have HL14 := Lib.hid (litI w14 3 [3, 2] (cs := #[.int .i64 3, .int .i64 2]) rfl (by decide) (n := 2) rfl)
  clear hb S13
  go_wp2_with fail
  refine (same_d (S14.out.rd 0 rfl) HL14.out rfl).mono ?_
  rintro e w15 ⟨rfl, hb⟩
  have S15 := Lib.hid (S14.out.next hb)
  clear hb S14
  go_wp2_with fail
  refine (m_state S15.out 3 rfl).mono ?_
  rintro e w16 ⟨rfl, h, _⟩
  have S16 := Lib.hid h
  clear h S15
  go_wp2_with fail
  refine (m_by S16.out 3 rfl).mono ?_
  rintro e w17 ⟨rfl, h, _⟩
  have S17 := Lib.hid h
  clear h S16
  go_wp2_with fail
  refine (n_leave S17.out 3 rfl 3 (in64s _ (by omega)) (b := false) (W' := []) (by decide) (by decide)).mono ?_
  rintro e w18 ⟨rfl, h⟩
  have S18 := Lib.hid h
  clear h S17
  go_wp2
  go_ret
  exact ⟨rfl, S18.out.old⟩
end Go.Proofs.Ytlepedhfnkamkaa.OnceI
