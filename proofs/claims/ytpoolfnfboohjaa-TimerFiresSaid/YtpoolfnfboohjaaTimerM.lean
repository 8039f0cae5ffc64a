/-
  The law's own awake() of layer 4 over any package that meets 'Clk': it returns true and leaves old memory as it was. Conditions: none but 'Clk'.
-/
import Derived.Test.YtpoolfnfboohjaaTimerI
namespace Go.Proofs.Ytpoolfnfboohjaa.TimerI
open Go.ChangeShapes Go.WideShapes Go.ChangeAt Go.RowKit Mem RefHeap RefTimer Hand

section
variable {I : Clk} {B : Nat → Prop} {w wk : World} {Rs : List Res} {v : Value} {T C : Int} {L : List Ent} {M : Int}
theorem c_after (h : Sep B w wk Rs) (i : Nat) (hi : Rs[i]? = some (ck I v T C L M)) (hC : C ≤ 1000000) (key t : Int) (hk : In64 key) (ht : In64 t) {E C' : Int} {L' : List Ent} (hE : setE L M key = E) (hN : setN L M C key = C') (hL : setL L M C key (laterT T t) = L') :
    Calls Try.prog 24 #[v, .int .i64 key, .int .i64 t] wk fun e wn => e = .returned (.int .i64 E) ∧ Sep B w wn (Rs.set i (ck I v T C' L' M)) := by subst hE hN hL; exact h.to i hi (R' := ck I v _ _ _ _) fun _ ha => I.after ha hC key t hk ht
theorem c_set (h : Sep B w wk Rs) (i : Nat) (hi : Rs[i]? = some (ck I v T C L M)) (hC : C ≤ 1000000) (key t : Int) (hk : In64 key) (ht : In64 t) {E C' : Int} {L' : List Ent} (hE : setE L M key = E) (hN : setN L M C key = C') (hL : setL L M C key t = L') :
    Calls Try.prog 25 #[v, .int .i64 key, .int .i64 t] wk fun e wn => e = .returned (.int .i64 E) ∧ Sep B w wn (Rs.set i (ck I v T C' L' M)) := by subst hE hN hL; exact h.to i hi (R' := ck I v _ _ _ _) fun _ ha => I.set ha hC key t hk ht
theorem c_reset (h : Sep B w wk Rs) (i : Nat) (hi : Rs[i]? = some (ck I v T C L M)) (hC : C ≤ 1000000) (key t : Int) (hk : In64 key) (ht : In64 t) {E C' : Int} {L' : List Ent} (hE : resE M key = E) (hN : resN M C key = C') (hL : resL L M C key t = L') :
    Calls Try.prog 27 #[v, .int .i64 key, .int .i64 t] wk fun e wn => e = .returned (.int .i64 E) ∧ Sep B w wn (Rs.set i (ck I v T C' L' M)) := by subst hE hN hL; exact h.to i hi (R' := ck I v _ _ _ _) fun _ ha => I.reset ha hC key t hk ht
theorem c_stop (h : Sep B w wk Rs) (i : Nat) (hi : Rs[i]? = some (ck I v T C L M)) (key : Int) (hk : In64 key) {E : Bool} {L' : List Ent} (hE : getB L key = E) (hL : dropH L key = L') :
    Calls Try.prog 28 #[v, .int .i64 key] wk fun e wn => e = .returned (.bool E) ∧ Sep B w wn (Rs.set i (ck I v T C L' M)) := by subst hE hL; exact h.to i hi (R' := ck I v _ _ _ _) fun _ ha => I.stop ha key hk
theorem c_by (h : Sep B w wk Rs) (i : Nat) (hi : Rs[i]? = some (ck I v T C L M)) (t : Int) (ht : In64 t) {T' : Int} (hT : toT T (laterT T t) = T') {l l' : List Ent} (hl : L.filter (fun y => decide (y.at_ ≤ T')) = l) (hl' : L.filter (fun y => decide (T' < y.at_)) = l') :
    Calls Try.prog 26 #[v, .int .i64 t] wk fun e wn => ∃ A c, e = .returned (.slice A l.length c) ∧ Sep B w wn (told entE (.slice A l.length c) l :: Rs.set i (ck I v T' C l' M)) := by
  subst hT hl hl'
  obtain ⟨F, hR, hn⟩ := h.splice2 i hi
  refine (I.by_ hR t ht).mono ?_
  rintro e wn ⟨u, rfl, hu⟩
  obtain ⟨A, c, rfl⟩ : ∃ A c, u = .slice A _ c := by obtain ⟨_, _, _, hr, _⟩ := hu; exact hr.form
  exact ⟨A, c, rfl, hn hu.sep⟩
end
theorem in64s (a : Int) (h : -1000 ≤ a ∧ a ≤ 1000) : In64 a := ⟨by omega, by omega⟩
theorem lit2 (w : World) (e : TypeId) (x y : Ent) : RdL entE (w.alloc (.cells #[.int .i64 x.id, .int .i64 x.at_, .int .i64 x.seq, .int .i64 y.id, .int .i64 y.at_, .int .i64 y.seq] e)) (fun _ => True) (.slice (some ⟨w.heap.size, 0, none⟩) 2 2) [x, y] :=
  OwnL.rd (E := entE) (base := 0) (e := e) (World.ownsRow_lit w #[.int .i64 x.id, .int .i64 x.at_, .int .i64 x.seq, .int .i64 y.id, .int .i64 y.at_, .int .i64 y.seq] 2 (Nat.zero_le _) (by simp [maxLen]) (by rfl)) (by simp) fun _ _ => trivial

set_option maxHeartbeats 4000000 in
set_option maxRecDepth 100000 in
theorem awake_any (I : Clk) (w : World) : Calls Try.prog 6 #[] w fun e w' => e = .returned (.bool true) ∧ Below w.heap.size w w' := by
  go_enter Try.func6, Try.ntmps6
  go_wp2_with fail
  refine (c_new (Sep.nil (fun _ => False) w) I 4 (by omega) (by omega)).mono ?_
  rintro e w1 ⟨a, rfl, h⟩
  have S1 := Lib.hid h
  clear h
  go_wp2_with fail
  refine (I.new_no 0 w1 (in64s _ (by omega)) (by omega)).mono ?_
  rintro e w2 ⟨rfl, hb⟩
  have S2 := Lib.hid (S1.out.next hb)
  clear hb S1
  go_wp2_with fail
  refine (c_after S2.out 0 rfl (by omega) 0 9 (in64s _ (by omega)) (in64s _ (by omega)) (E := 0) (C' := 1) (L' := [⟨0, 9, 1⟩]) (by decide) (by decide) (by decide)).mono ?_
  rintro e w3 ⟨rfl, h⟩
  have S3 := Lib.hid h
  clear h S2
  go_wp2_with fail
  refine (c_after S3.out 0 rfl (by omega) 2 5 (in64s _ (by omega)) (in64s _ (by omega)) (E := 0) (C' := 2) (L' := [⟨2, 5, 2⟩, ⟨0, 9, 1⟩]) (by decide) (by decide) (by decide)).mono ?_
  rintro e w4 ⟨rfl, h⟩
  have S4 := Lib.hid h
  clear h S3
  go_wp2_with fail
  refine (c_after S4.out 0 rfl (by omega) 1 5 (in64s _ (by omega)) (in64s _ (by omega)) (E := 0) (C' := 3) (L' := [⟨2, 5, 2⟩, ⟨1, 5, 3⟩, ⟨0, 9, 1⟩]) (by decide) (by decide) (by decide)).mono ?_
  rintro e w5 ⟨rfl, h⟩
  have S5 := Lib.hid h
  clear h S4
  go_wp2_with fail
  refine (c_set S5.out 0 rfl (by omega) 1 7 (in64s _ (by omega)) (in64s _ (by omega)) (E := 5) (C' := 3) (L' := [⟨2, 5, 2⟩, ⟨1, 5, 3⟩, ⟨0, 9, 1⟩]) (by decide) (by decide) (by decide)).mono ?_
  rintro e w6 ⟨rfl, h⟩
  have S6 := Lib.hid h
  clear h S5
  go_wp2_with fail
  refine (c_set S6.out 0 rfl (by omega) 4 0 (in64s _ (by omega)) (in64s _ (by omega)) (E := 3) (C' := 3) (L' := [⟨2, 5, 2⟩, ⟨1, 5, 3⟩, ⟨0, 9, 1⟩]) (by decide) (by decide) (by decide)).mono ?_
  rintro e w7 ⟨rfl, h⟩
  have S7 := Lib.hid h
  clear h S6
  go_wp2_with fail
  refine (c_by S7.out 0 rfl 5 (in64s _ (by omega)) (T' := 5) (l := [⟨2, 5, 2⟩, ⟨1, 5, 3⟩]) (l' := [⟨0, 9, 1⟩]) (by decide) (by decide) (by decide)).mono ?_
  rintro e w8 ⟨A1, c1, rfl, h⟩
  have S8 := Lib.hid h
  clear h S7
  go_wp2_with fail
  refine (c_own S8.out (S8.out.rdL 0 rfl) (by decide)).mono ?_
  rintro e w9 ⟨A2, c2, rfl, h⟩
  have S9 := Lib.hid h.swap.tail
  clear h S8
  go_wp2_with fail
  refine (c_now S9.out 1 rfl).mono ?_
  rintro e w10 ⟨rfl, h⟩
  have S10 := Lib.hid h
  clear h S9
  go_wp2_with fail
  refine (c_next S10.out 1 rfl).mono ?_
  rintro e w11 ⟨rfl, h⟩
  have S11 := Lib.hid h
  clear h S10
  rw [show nextT [⟨0, 9, 1⟩] = 9 from rfl]
  go_wp2_with fail
  refine (c_get S11.out 1 rfl 0 (in64s _ (by omega))).mono ?_
  rintro e w12 ⟨rfl, h⟩
  rw [show getE [⟨0, 9, 1⟩] 0 = ⟨0, 9, 1⟩ from rfl, show getB [⟨0, 9, 1⟩] 0 = true from rfl]
  simp only [Ent.val]
  have S12 := Lib.hid (h.new (.cells #[.int .i64 0, .int .i64 9, .int .i64 1] 48))
  clear h S11
  go_wp2_with fail
  refine (c_reset S12.out 2 rfl (by omega) 0 6 (in64s _ (by omega)) (in64s _ (by omega)) (E := 0) (C' := 4) (L' := [⟨0, 6, 4⟩]) (by decide) (by decide) (by decide)).mono ?_
  rintro e w13 ⟨rfl, h⟩
  have S13 := Lib.hid h
  clear h S12
  go_wp2_with fail
  refine (c_stop S13.out 2 rfl 0 (in64s _ (by omega)) (E := true) (L' := []) (by decide) (by decide)).mono ?_
  rintro e w14 ⟨rfl, h⟩
  have S14 := Lib.hid h
  clear h S13
  go_wp2_with fail
  refine (c_to S14.out 2 rfl 3 (in64s _ (by omega)) (T' := 5) (l := []) (l' := []) (by decide) (by decide) (by decide)).mono ?_
  rintro e w15 ⟨A3, c3, rfl, h⟩
  have S15 := Lib.hid h.tail
  clear h S14
  go_wp2_with fail
  have S16 := Lib.hid (S15.out.next (new_below0 w15 (.cells #[.int .i64 2, .int .i64 5, .int .i64 2, .int .i64 1, .int .i64 5, .int .i64 3] 51)))
  have HL : Hid (RdL entE (w15.alloc (.cells #[.int .i64 2, .int .i64 5, .int .i64 2, .int .i64 1, .int .i64 5, .int .i64 3] 51)) (fun _ => True) (.slice (some ⟨w15.heap.size, 0, none⟩) 2 2) [⟨2, 5, 2⟩, ⟨1, 5, 3⟩]) := lit2 w15 51 ⟨2, 5, 2⟩ ⟨1, 5, 3⟩
  refine (same_any ((S16.out.own 1 rfl).rd (G := fun _ => True) (by decide) fun _ _ => trivial) HL.out).mono ?_
  rintro e wd ⟨rfl, n1, rfl⟩
  have S17 := Lib.hid (S16.out.drewN n1)
  clear S16 S15 HL
  rw [show decide (([⟨2, 5, 2⟩, ⟨1, 5, 3⟩] : List Ent) = [⟨2, 5, 2⟩, ⟨1, 5, 3⟩]) = true from by decide]
  generalize hwD : (w15.alloc (.cells #[.int .i64 2, .int .i64 5, .int .i64 2, .int .i64 1, .int .i64 5, .int .i64 3] 51)).drewN n1 = w17 at *
  clear hwD
  have bx := S17.out.blk_at 0 rfl
  have bx0 := (cell_block bx 0).trans rfl
  have bx1 := (cell_block bx 1).trans rfl
  have bx2 := (cell_block bx 2).trans rfl
  clear bx
  go_wp2_with fail
  refine (c_now S17.out 2 rfl).mono ?_
  rintro e w18 ⟨rfl, h⟩
  have S18 := Lib.hid h
  clear h S17 bx0 bx1 bx2
  go_wp2_with fail
  refine (c_next S18.out 2 rfl).mono ?_
  rintro e w19 ⟨rfl, h⟩
  rw [show nextT [] = 9223372036854775807 from rfl]
  have S19 := Lib.hid h
  clear h S18
  go_wp2_with fail
  refine (c_alarms S19.out 2 rfl).mono ?_
  rintro e w20 ⟨A5, c5, rfl, h, _⟩
  have S20 := Lib.hid h
  clear h S19
  go_wp2
  go_ret
  exact ⟨rfl, S20.out.old⟩
end Go.Proofs.Ytpoolfnfboohjaa.TimerI
