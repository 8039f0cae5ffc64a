/-
  The law's own awake() of layer 8 over any package that meets 'Mu': it returns true and leaves old memory as it was. Conditions: none but 'Mu'.
-/
import Derived.Test.YtjgfiiehanggoaaMutI
namespace Go.Proofs.Ytjgfiiehanggoaa.MutI
open Go.ChangeShapes Go.WideShapes Go.ChangeAt Go.RowKit Mem MutP Hand RefMut

theorem in64s (a : Int) (h : -1000 ≤ a ∧ a ≤ 1000) : In64 a := ⟨by omega, by omega⟩
theorem litI (w : World) (e : TypeId) (l : List Int) {cs : Array Value} (hc : cs.toList = l.map (Value.int .i64)) (hl : l.length ≤ 1000000) {n : Nat} (hn : n = l.length) : Rd (w.alloc (.cells cs e)) (fun b => b = w.heap.size) (.slice (some ⟨w.heap.size, 0, none⟩) n n) l := by
  subst hn
  have hs : cs.size = l.length * 1 := by rw [← Array.length_toList, hc, List.length_map, Nat.mul_one]
  have h := World.ownsRow_lit (e := e) (size := 1) (base := 0) w cs l.length (Nat.zero_le _) (by unfold maxLen; omega) hs
  rw [hc] at h
  exact Own.rd (base := 0) h hl fun k hk => by simp [Value.ownBlock] at hk; exact hk.symm
theorem any_rd {w : World} {G : Nat → Prop} {u : Value} {l : List Int} (h : Rd w G u l) : Rd w (fun _ => True) u l := h.mono fun _ _ _ => trivial
/-- Same of two lists that can be read. -/
theorem same_b {w : World} {G G' : Nat → Prop} {va vb : Value} {xs ys : List Int} (ha : Rd w G va xs) (hb : Rd w G' vb ys) :
    Calls Try.prog 14 #[va, vb] w fun e w' => e = .returned (.bool (decide (xs = ys))) ∧ Below w.heap.size w w' := by
  refine (SameI.same_any ha hb).mono ?_
  rintro e w' ⟨rfl, n, rfl⟩
  exact ⟨rfl, below_drewN (Below.refl _ _) n⟩
theorem same_d {w : World} {G G' : Nat → Prop} {va vb : Value} {xs ys : List Int} (ha : Rd w G va xs) (hb : Rd w G' vb ys) (h : xs = ys) :
    Calls Try.prog 14 #[va, vb] w fun e w' => e = .returned (.bool true) ∧ Below w.heap.size w w' := by
  refine (same_b ha hb).mono ?_
  rintro e w' ⟨rfl, hb⟩
  exact ⟨by rw [decide_eq_true h], hb⟩
section
variable {I : Mu} {B : Nat → Prop} {w wk : World} {Rs : List Res} {v : Value} {H : Int} {W : List Int} {N : Int}
theorem m_lock (h : Sep B w wk Rs) (i : Nat) (hi : Rs[i]? = some (ob I.O v (H, W, N))) (t : Int) (h1 : In64 t) {b : Bool} {E H' : Int} {W' : List Int} (hb : lockB H W N t = b) (hE : lockE W N t = E) (hH : lockH H W N t = H') (hW : lockW H W N t true = W') :
    Calls Try.prog 17 #[v, .int .i64 t] wk fun e wn => e = .returned (.tuple #[.bool b, .int .i64 E]) ∧ Sep B w wn (Rs.set i (ob I.O v (H', W', N))) := by subst hb hE hH hW; exact ob_to h i hi fun _ hA => I.lock hA t h1
theorem m_try (h : Sep B w wk Rs) (i : Nat) (hi : Rs[i]? = some (ob I.O v (H, W, N))) (t : Int) (h1 : In64 t) {b : Bool} {E H' : Int} (hb : lockB H W N t = b) (hE : lockE W N t = E) (hH : lockH H W N t = H') :
    Calls Try.prog 18 #[v, .int .i64 t] wk fun e wn => e = .returned (.tuple #[.bool b, .int .i64 E]) ∧ Sep B w wn (Rs.set i (ob I.O v (H', W, N))) := by subst hb hE hH; exact ob_to h i hi fun _ hA => I.try_ hA t h1
theorem m_unlock (h : Sep B w wk Rs) (i : Nat) (hi : Rs[i]? = some (ob I.O v (H, W, N))) (t : Int) (h1 : In64 t) {V E H' : Int} {W' : List Int} (hV : unlV H W N t = V) (hE : unlE H N t = E) (hH : unlH H W N t = H') (hW : unlW H W N t = W') :
    Calls Try.prog 20 #[v, .int .i64 t] wk fun e wn => e = .returned (.tuple #[.int .i64 V, .int .i64 E]) ∧ Sep B w wn (Rs.set i (ob I.O v (H', W', N))) := by subst hV hE hH hW; exact ob_to h i hi fun _ hA => I.unlock hA t h1
theorem m_leave (h : Sep B w wk Rs) (i : Nat) (hi : Rs[i]? = some (ob I.O v (H, W, N))) (t : Int) (h1 : In64 t) {b : Bool} {W' : List Int} (hb : inL W t = b) (hW : withoutL W t = W') :
    Calls Try.prog 19 #[v, .int .i64 t] wk fun e wn => e = .returned (.bool b) ∧ Sep B w wn (Rs.set i (ob I.O v (H, W', N))) := by subst hb hW; exact ob_to h i hi fun _ hA => I.leave hA t h1
end

set_option maxHeartbeats 4000000 in
set_option maxRecDepth 100000 in
theorem awake_any (I : Mu) (w : World) : Calls Try.prog 6 #[] w fun e w' => e = .returned (.bool true) ∧ Below w.heap.size w w' := by
  go_enter Try.func6, Try.ntmps6
  go_wp2_with fail
  refine (m_new (Sep.nil (fun _ => False) w) I 5 (by omega) (by omega)).mono ?_
  rintro e w1 ⟨a, rfl, h⟩
  have S1 := Lib.hid h
  clear h
  go_wp2_with fail
  refine (I.new_no 0 w1 (in64s _ (by omega)) (by omega)).mono ?_
  rintro e w2 ⟨rfl, hb⟩
  have S2 := Lib.hid (S1.out.next hb)
  clear hb S1
  go_wp2_with fail
  refine (m_lock S2.out 0 rfl 1 (in64s _ (by omega)) (b := true) (E := 0) (H' := 1) (W' := []) (by decide) (by decide) (by decide) (by decide)).mono ?_
  rintro e w3 ⟨rfl, h⟩
  have S3 := Lib.hid h
  clear h S2
  go_wp2_with fail
  refine (m_lock S3.out 0 rfl 2 (in64s _ (by omega)) (b := false) (E := 0) (H' := 1) (W' := [2]) (by decide) (by decide) (by decide) (by decide)).mono ?_
  rintro e w4 ⟨rfl, h⟩
  have S4 := Lib.hid h
  clear h S3
  go_wp2_with fail
  refine (m_lock S4.out 0 rfl 2 (in64s _ (by omega)) (b := false) (E := 6) (H' := 1) (W' := [2]) (by decide) (by decide) (by decide) (by decide)).mono ?_
  rintro e w5 ⟨rfl, h⟩
  have S5 := Lib.hid h
  clear h S4
  go_wp2_with fail
  refine (m_try S5.out 0 rfl 4 (in64s _ (by omega)) (b := false) (E := 0) (H' := 1) (by decide) (by decide) (by decide)).mono ?_
  rintro e w6 ⟨rfl, h⟩
  have S6 := Lib.hid h
  clear h S5
  go_wp2_with fail
  refine (m_lock S6.out 0 rfl 3 (in64s _ (by omega)) (b := false) (E := 0) (H' := 1) (W' := [2, 3]) (by decide) (by decide) (by decide) (by decide)).mono ?_
  rintro e w7 ⟨rfl, h⟩
  have S7 := Lib.hid h
  clear h S6
  go_wp2_with fail
  refine (m_waiting S7.out 0 rfl).mono ?_
  rintro e w8 ⟨A8, c8, rfl, h, hb⟩
  have S8 := Lib.hid h
  clear h hb S7
  simp only [List.set_cons_zero, List.length_cons, List.length_nil, Nat.zero_add, Nat.reduceAdd] at S8 ⊢
  go_wp2_with fail
  refine (m_leave S8.out 1 rfl 2 (in64s _ (by omega)) (b := true) (W' := [3]) (by decide) (by decide)).mono ?_
  rintro e w9 ⟨rfl, h⟩
  have S9 := Lib.hid h
  clear h S8
  go_wp2_with fail
  refine (m_unlock S9.out 1 rfl 2 (in64s _ (by omega)) (V := -1) (E := 4) (H' := 1) (W' := [3]) (by decide) (by decide) (by decide) (by decide)).mono ?_
  rintro e w10 ⟨rfl, h⟩
  have S10 := Lib.hid h
  clear h S9
  go_wp2_with fail
  refine (m_unlock S10.out 1 rfl 1 (in64s _ (by omega)) (V := 3) (E := 0) (H' := 3) (W' := []) (by decide) (by decide) (by decide) (by decide)).mono ?_
  rintro e w11 ⟨rfl, h⟩
  have S11 := Lib.hid h
  clear h S10
  go_wp2_with fail
  refine (m_lock S11.out 1 rfl 5 (in64s _ (by omega)) (b := false) (E := 3) (H' := 3) (W' := []) (by decide) (by decide) (by decide) (by decide)).mono ?_
  rintro e w12 ⟨rfl, h⟩
  have S12 := Lib.hid (h.new (.cells #[.int .i64 2, .int .i64 3] 3))
  have K12 := Lib.hid (any_rd (litI w12 3 [2, 3] (cs := #[.int .i64 2, .int .i64 3]) rfl (by decide) (n := 2) rfl))
  clear h S11
  simp only [List.set_cons_zero, List.set_cons_succ] at S12 ⊢
  go_wp2_with fail
  refine (same_d (S12.out.rd 1 rfl) K12.out rfl).mono ?_
  rintro e w13 ⟨rfl, hb⟩
  have S13 := Lib.hid (S12.out.tail.tail.next hb)
  clear hb S12 K12
  go_wp2_with fail
  refine (m_holder S13.out 0 rfl).mono ?_
  rintro e w14 ⟨rfl, h, hb⟩
  have S14 := Lib.hid h
  clear h hb S13
  go_wp2_with fail
  refine (m_waiting S14.out 0 rfl).mono ?_
  rintro e w15 ⟨A15, c15, rfl, h, hb⟩
  have S15 := Lib.hid h.tail
  clear h hb S14
  simp only [List.length_nil] at S15 ⊢
  go_wp2_with fail
  refine (m_leave S15.out 0 rfl 3 (in64s _ (by omega)) (b := false) (W' := []) (by decide) (by decide)).mono ?_
  rintro e w16 ⟨rfl, h⟩
  have S16 := Lib.hid h
  clear h S15
  go_wp2
  go_ret
  exact ⟨rfl, S16.out.old⟩
end Go.Proofs.Ytjgfiiehanggoaa.MutI
