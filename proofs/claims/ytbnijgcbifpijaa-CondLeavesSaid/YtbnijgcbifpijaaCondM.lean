/-
  The law's own awake() of layer 10 over any package that meets 'Cd': it returns true and leaves old memory as it was. Conditions: none but 'Cd'.
-/
import Derived.Test.YtbnijgcbifpijaaCondI
namespace Go.Proofs.Ytbnijgcbifpijaa.CondI
open Go.ChangeShapes Go.WideShapes Go.ChangeAt Go.RowKit Mem MutP CondP Hand RefCond

theorem in64s (a : Int) (h : -1000 ≤ a ∧ a ≤ 1000) : In64 a := ⟨by omega, by omega⟩
theorem tdHeld : Try.prog.stoodInHeld 50 = false := by kernel_rfl
theorem tdGuard : Try.prog.eqGuardType Try.prog.depth 50 = false := by kernel_rfl
/-- '==' of two who are told. -/
theorem run_eql_td (W : World) (xt xk yt yk : Int) :
    (binOp .eql 50 (.agg #[.int .i64 xt, .int .i64 xk]) (.agg #[.int .i64 yt, .int .i64 yk])).run Try.prog W = .ok (.bool (decide ((⟨xt, xk⟩ : Tl) = ⟨yt, yk⟩))) W := by
  have hut : Try.prog.underlying 50 = some (.struct (Try.prog.fieldsOf 50)) := by simp only [Program.fieldsOf, Try.underlying50]
  rw [run_eql_struct, run_equalIn_agg _ 9999 _ _ _ hut tdHeld]
  simp only [Program.fieldsOf, Try.underlying50]
  have h3 := Try.underlying3
  simp [go_sem, h3]
  by_cases e1 : xt = yt <;> by_cases e2 : xk = yk <;> simp [e1, e2]
theorem same_b {w : World} {G G' : Nat → Prop} {va vb : Value} {xs ys : List Tl} (ha : RdL tlE w G va xs) (hb : RdL tlE w G' vb ys) :
    Calls Try.prog 13 #[va, vb] w fun e w' => e = .returned (.bool (decide (xs = ys))) ∧ Below w.heap.size w w' := by
  refine (same_any ha hb).mono ?_
  rintro e w' ⟨rfl, n, rfl⟩
  exact ⟨rfl, below_drewN (Below.refl _ _) n⟩
theorem same_d {w : World} {G G' : Nat → Prop} {va vb : Value} {xs ys : List Tl} (ha : RdL tlE w G va xs) (hb : RdL tlE w G' vb ys) (h : xs = ys) :
    Calls Try.prog 13 #[va, vb] w fun e w' => e = .returned (.bool true) ∧ Below w.heap.size w w' := by
  refine (same_b ha hb).mono ?_
  rintro e w' ⟨rfl, hb⟩
  exact ⟨by rw [decide_eq_true h], hb⟩
section
variable {I : Cd} {B : Nat → Prop} {w wk : World} {Rs : List Res} {v : Value} {W : List Tl} {N : Int}
theorem n_own (h : Sep B w wk Rs) {G : Nat → Prop} {u : Value} {l : List Tl} (hr : RdL tlE wk G u l) (hl : l.length ≤ 100000) : Calls Try.prog 14 #[u] wk fun e wn => ∃ A c, e = .returned (.slice A l.length c) ∧ Sep B w wn (told tlE (.slice A l.length c) l :: Rs) ∧ Below wk.heap.size wk wn := by
  refine (own_any hr hl).mono ?_
  rintro e wn ⟨u, rfl, hs⟩
  obtain ⟨A, c, rfl⟩ := hs.1.form
  exact ⟨A, c, rfl, SaysL.sep h hs, hs.2⟩
theorem n_wait (h : Sep B w wk Rs) (i : Nat) (hi : Rs[i]? = some (ob I.O v (W, N))) (t k : Int) (h1 : In64 t) (h2 : In64 k) {E : Int} {W' : List Tl} (hE : waitE W N t = E) (hW : waitW W N t k = W') :
    Calls Try.prog 19 #[v, .int .i64 t, .int .i64 k] wk fun e wn => e = .returned (.int .i64 E) ∧ Sep B w wn (Rs.set i (ob I.O v (W', N))) := by subst hE hW; exact m_wait h i hi t k h1 h2
theorem n_leave (h : Sep B w wk Rs) (i : Nat) (hi : Rs[i]? = some (ob I.O v (W, N))) (t : Int) (h1 : In64 t) {xt xk : Int} {b : Bool} {W' : List Tl} (hg : getT W t = ⟨xt, xk⟩) (hb : hasT W t = b) (hW : outT W t = W') :
    Calls Try.prog 18 #[v, .int .i64 t] wk fun e wn => e = .returned (.tuple #[.agg #[.int .i64 xt, .int .i64 xk], .bool b]) ∧ Sep B w wn (Rs.set i (ob I.O v (W', N))) := by
  have h2 := m_leave h i hi t h1
  rw [hg, hb, hW] at h2
  exact h2
theorem n_signal (h : Sep B w wk Rs) (i : Nat) (hi : Rs[i]? = some (ob I.O v (W, N))) {l W' : List Tl} {n : Nat} (hl : oneT W = l) (hW : restT W = W') (hn : l.length = n) :
    Calls Try.prog 16 #[v] wk fun e wn => ∃ A c, e = .returned (.slice A n c) ∧ Sep B w wn (told tlE (.slice A n c) l :: Rs.set i (ob I.O v (W', N))) := by subst hl hW hn; exact m_signal h i hi
theorem n_broadcast (h : Sep B w wk Rs) (i : Nat) (hi : Rs[i]? = some (ob I.O v (W, N))) {n : Nat} (hn : W.length = n) :
    Calls Try.prog 17 #[v] wk fun e wn => ∃ A c, e = .returned (.slice A n c) ∧ Sep B w wn (told tlE (.slice A n c) W :: Rs.set i (ob I.O v ([], N))) := by subst hn; exact m_broadcast h i hi
end

set_option maxHeartbeats 4000000 in
set_option maxRecDepth 100000 in
theorem awake_any (I : Cd) (w : World) : Calls Try.prog 6 #[] w fun e w' => e = .returned (.bool true) ∧ Below w.heap.size w w' := by
  have hgu := tdGuard
  have heq := fun W => run_eql_td W 3 0 3 0
  rw [decide_eq_true rfl] at heq
  go_enter Try.func6, Try.ntmps6
  go_wp2_with fail
  refine (m_new (Sep.nil (fun _ => False) w) I 5 (by omega) (by omega)).mono ?_
  rintro e w1 ⟨a, rfl, h⟩
  have S1 := Lib.hid h
  clear h
  go_wp2_with fail
  refine (I.new_no 0 w1 (in64s _ (by omega)) (by omega)).mono ?_
  rintro e w2 ⟨rfl, hb⟩
  have S2 := Lib.hid (S1.out.next hb)
  clear hb S1
  go_wp2_with fail
  refine (n_wait S2.out 0 rfl 3 0 (in64s _ (by omega)) (in64s _ (by omega)) (E := 0) (W' := [⟨3, 0⟩]) (by decide) (by decide)).mono ?_
  rintro e w3 ⟨rfl, h⟩
  have S3 := Lib.hid h
  clear h S2
  go_wp2_with fail
  refine (n_wait S3.out 0 rfl 1 2 (in64s _ (by omega)) (in64s _ (by omega)) (E := 0) (W' := [⟨3, 0⟩, ⟨1, 2⟩]) (by decide) (by decide)).mono ?_
  rintro e w4 ⟨rfl, h⟩
  have S4 := Lib.hid h
  clear h S3
  go_wp2_with fail
  refine (n_wait S4.out 0 rfl 3 9 (in64s _ (by omega)) (in64s _ (by omega)) (E := 6) (W' := [⟨3, 0⟩, ⟨1, 2⟩]) (by decide) (by decide)).mono ?_
  rintro e w5 ⟨rfl, h⟩
  have S5 := Lib.hid h
  clear h S4
  go_wp2_with fail
  refine (n_wait S5.out 0 rfl 5 0 (in64s _ (by omega)) (in64s _ (by omega)) (E := 3) (W' := [⟨3, 0⟩, ⟨1, 2⟩]) (by decide) (by decide)).mono ?_
  rintro e w6 ⟨rfl, h⟩
  have S6 := Lib.hid h
  clear h S5
  go_wp2_with fail
  refine (n_wait S6.out 0 rfl 2 7 (in64s _ (by omega)) (in64s _ (by omega)) (E := 0) (W' := [⟨3, 0⟩, ⟨1, 2⟩, ⟨2, 7⟩]) (by decide) (by decide)).mono ?_
  rintro e w7 ⟨rfl, h⟩
  have S7 := Lib.hid h
  clear h S6
  go_wp2_with fail
  refine (n_leave S7.out 0 rfl 3 (in64s _ (by omega)) (xt := 3) (xk := 0) (b := true) (W' := [⟨1, 2⟩, ⟨2, 7⟩]) (by decide) (by decide) (by decide)).mono ?_
  rintro e w8 ⟨rfl, h⟩
  have S8 := Lib.hid (h.new (.cells #[.int .i64 3, .int .i64 0] 50))
  clear h S7
  simp only [List.set_cons_zero] at S8
  go_wp2_with fail
  refine (n_leave S8.out 1 rfl 3 (in64s _ (by omega)) (xt := 0) (xk := 0) (b := false) (W' := [⟨1, 2⟩, ⟨2, 7⟩]) (by decide) (by decide) (by decide)).mono ?_
  rintro e w9 ⟨rfl, h⟩
  have S9 := Lib.hid (h.next (new_below0 _ (.cells #[.int .i64 0, .int .i64 0] 50)))
  clear h S8
  simp only [List.set_cons_zero, List.set_cons_succ] at S9
  go_wp2_with fail
  refine (n_signal S9.out 1 rfl (l := [⟨1, 2⟩]) (W' := [⟨2, 7⟩]) (n := 1) (by decide) (by decide) rfl).mono ?_
  rintro e w10 ⟨A10, c10, rfl, h⟩
  have S10 := Lib.hid h
  clear h S9
  simp only [List.set_cons_zero, List.set_cons_succ] at S10
  go_wp2_with fail
  refine (m_waiting S10.out 2 rfl).mono ?_
  rintro e w11 ⟨A11, c11, rfl, h, _⟩
  have S11 := Lib.hid h
  clear h S10
  simp only [List.length_cons, List.length_nil, Nat.zero_add] at S11 ⊢
  go_wp2_with fail
  refine (n_broadcast S11.out 3 rfl (n := 1) rfl).mono ?_
  rintro e w12 ⟨A12, c12, rfl, h⟩
  have S12 := Lib.hid h
  clear h S11
  simp only [List.set_cons_zero, List.set_cons_succ] at S12
  have x0 : w12.cell? ⟨w8.heap.size, 0, none⟩ = some (.int .i64 3) := (cell_block (S12.out.blk_at 3 rfl) 0).trans rfl
  have x1 : w12.cell? ⟨w8.heap.size, 1, none⟩ = some (.int .i64 0) := (cell_block (S12.out.blk_at 3 rfl) 1).trans rfl
  go_wp2_with fail
  refine (n_own S12.out (S12.out.rdL 2 rfl) (by decide)).mono ?_
  rintro e w13 ⟨A13, c13, rfl, h, _⟩
  have S13 := Lib.hid (h.lit_told 40 [⟨1, 2⟩] (cs := #[.int .i64 1, .int .i64 2]) (E := tlE) rfl (by decide) (n := 1) rfl)
  clear h S12
  go_wp2_with fail
  refine (same_d (S13.out.rdL 1 rfl) (S13.out.rdL 0 rfl) rfl).mono ?_
  rintro e w14 ⟨rfl, hb⟩
  have S14 := Lib.hid (S13.out.tail.tail.next hb)
  clear hb S13
  go_wp2_with fail
  refine (n_own S14.out (S14.out.rdL 1 rfl) (by decide)).mono ?_
  rintro e w15 ⟨A15, c15, rfl, h, _⟩
  have S15 := Lib.hid (h.lit_told 40 [⟨2, 7⟩] (cs := #[.int .i64 2, .int .i64 7]) (E := tlE) rfl (by decide) (n := 1) rfl)
  clear h S14
  go_wp2_with fail
  refine (same_d (S15.out.rdL 1 rfl) (S15.out.rdL 0 rfl) rfl).mono ?_
  rintro e w16 ⟨rfl, hb⟩
  have S16 := Lib.hid (S15.out.tail.tail.next hb)
  clear hb S15
  go_wp2_with fail
  refine (n_own S16.out (S16.out.rdL 0 rfl) (by decide)).mono ?_
  rintro e w17 ⟨A17, c17, rfl, h, _⟩
  have S17 := Lib.hid (h.lit_told 40 [⟨2, 7⟩] (cs := #[.int .i64 2, .int .i64 7]) (E := tlE) rfl (by decide) (n := 1) rfl)
  clear h S16
  go_wp2_with fail
  refine (same_d (S17.out.rdL 1 rfl) (S17.out.rdL 0 rfl) rfl).mono ?_
  rintro e w18 ⟨rfl, hb⟩
  have S18 := Lib.hid (S17.out.tail.tail.next hb)
  clear hb S17
  go_wp2_with fail
  refine (n_signal S18.out 4 rfl (l := []) (W' := []) (n := 0) (by decide) (by decide) rfl).mono ?_
  rintro e w19 ⟨A19, c19, rfl, h⟩
  have S19 := Lib.hid h
  clear h S18
  go_wp2
  go_ret
  exact ⟨rfl, S19.out.old⟩
end Go.Proofs.Ytbnijgcbifpijaa.CondI
