/-
  The law's own awake() of layer 7 over any package that meets 'Af': it returns true and leaves old memory as it was. Conditions: none but 'Af'.
-/
import Derived.Test.YtindcpcfilfnkaaAfterI
namespace Go.Proofs.Ytindcpcfilfnkaa.AfterI
open Go.ChangeShapes Go.WideShapes Go.ChangeAt Go.RowKit Mem AfterP Hand RefAfter

theorem in64s (a : Int) (h : -1000 ≤ a ∧ a ≤ 1000) : In64 a := ⟨by omega, by omega⟩
theorem litI (w : World) (e : TypeId) (l : List Int) {cs : Array Value} (hc : cs.toList = l.map (Value.int .i64)) (hl : l.length ≤ 1000000) {n : Nat} (hn : n = l.length) : Rd (w.alloc (.cells cs e)) (fun b => b = w.heap.size) (.slice (some ⟨w.heap.size, 0, none⟩) n n) l := by
  subst hn
  have hs : cs.size = l.length * 1 := by rw [← Array.length_toList, hc, List.length_map, Nat.mul_one]
  have h := World.ownsRow_lit (e := e) (size := 1) (base := 0) w cs l.length (Nat.zero_le _) (by unfold maxLen; omega) hs
  rw [hc] at h
  exact Own.rd (base := 0) h hl fun k hk => by simp [Value.ownBlock] at hk; exact hk.symm
theorem any_rd {w : World} {G : Nat → Prop} {u : Value} {l : List Int} (h : Rd w G u l) : Rd w (fun _ => True) u l := h.mono fun _ _ _ => trivial
theorem same_d {w : World} {G G' : Nat → Prop} {va vb : Value} {xs ys : List Int} (ha : Rd w G va xs) (hb : Rd w G' vb ys) (h : xs = ys) :
    Calls Try.prog 14 #[va, vb] w fun e w' => e = .returned (.bool true) ∧ Below w.heap.size w w' := by
  refine (SameI.same_any ha hb).mono ?_
  rintro e w' ⟨rfl, n, rfl⟩
  exact ⟨by rw [decide_eq_true h], below_drewN (Below.refl _ _) n⟩
theorem lits_in (l : List Int) (h : l.all (fun x => decide (-1000 ≤ x ∧ x ≤ 1000)) = true) : ∀ x ∈ l, In64 x := fun x hx => by
  have := List.all_eq_true.1 h x hx
  exact in64s x (by simpa using this)
section
variable {I : Af} {B : Nat → Prop} {w wk : World} {Rs : List Res} {v : Value} {L : List Rg} {M : Int}
theorem f_new (h : Sep B w wk Rs) (I : Af) (n : Int) (h1 : 1 ≤ n) (h2 : n ≤ 200) : Calls Try.prog 8 #[.int .i64 n] wk fun e wn => ∃ a, e = .returned (.tuple #[.pointer (some a), .int .i64 0]) ∧ Sep B w wn (ob I.O (.pointer (some a)) ([], n) :: Rs) :=
  ob_new h (e0 := fun v => .returned (.tuple #[v, .int .i64 0])) (I.new_yes n wk h1 h2)
theorem f_add (h : Sep B w wk Rs) (i : Nat) (hi : Rs[i]? = some (ob I.O v (L, M))) (on th : Int) (h1 : In64 on) (h2 : In64 th) {V E : Int} {L' : List Rg} (hV : addV L M = V) (hE : addE L M = E) (hL : addL L M on th = L') :
    Calls Try.prog 22 #[v, .int .i64 on, .int .i64 th] wk fun e wn => e = .returned (.tuple #[.int .i64 V, .int .i64 E]) ∧ Sep B w wn (Rs.set i (ob I.O v (L', M))) := by subst hV hE hL; exact ob_to h i hi fun _ hA => I.add hA on th h1 h2
theorem f_stop (h : Sep B w wk Rs) (i : Nat) (hi : Rs[i]? = some (ob I.O v (L, M))) (n : Int) (h1 : In64 n) {b : Bool} {L' : List Rg} (hb : stopB L n = b) (hL : stopL L n = L') :
    Calls Try.prog 20 #[v, .int .i64 n] wk fun e wn => e = .returned (.bool b) ∧ Sep B w wn (Rs.set i (ob I.O v (L', M))) := by subst hb hL; exact ob_to h i hi fun _ hA => I.stop hA n h1
theorem f_waiting (h : Sep B w wk Rs) (i : Nat) (hi : Rs[i]? = some (ob I.O v (L, M))) (d : Int) (h1 : In64 d) {l : List Int} (hl : waitsL L d = l) :
    Calls Try.prog 18 #[v, .int .i64 d] wk fun e wn => ∃ A c, e = .returned (.slice A l.length c) ∧ Sep B w wn (nums (.slice A l.length c) l :: Rs) ∧ Below wk.heap.size wk wn := by subst hl; exact ob_told h i hi fun _ hA => I.waiting hA d h1
theorem f_rows (h : Sep B w wk Rs) (i : Nat) (hi : Rs[i]? = some (ob I.O v (L, M))) :
    Calls Try.prog 17 #[v] wk fun e wn => ∃ A c, e = .returned (.slice A L.length c) ∧ Sep B w wn (told rgE (.slice A L.length c) L :: Rs) ∧ Below wk.heap.size wk wn := by
  obtain ⟨F, hR⟩ := h.get i hi
  refine (I.rows hR).mono ?_
  rintro e wn ⟨u, rfl, hr, hb⟩
  obtain ⟨A, c, rfl⟩ := hr.form
  exact ⟨A, c, rfl, h.add hb (R := told rgE _ L) (F := fun k => wk.heap.size ≤ k ∧ k < wn.heap.size) ⟨hr.mono fun k hk hg => ⟨hg, hk⟩, fun k hk => hk.2⟩ fun k hk => hk.1, hb⟩
theorem f_fire_lit {g : Nat} {o : Obj} {u : Value} {l : List Int} (h : Sep B w wk (blk g o :: Rs)) (i : Nat) (hi : Rs[i]? = some (ob I.O v (L, M))) (hr : Rd wk (fun b => b = g) u l) (hl : l.length ≤ 1000) (hin : ∀ x ∈ l, In64 x) {O : List Int} {L' : List Rg} (hO : fireO L l = O) (hL : fireL L l = L') :
    Calls Try.prog 21 #[v, u] wk fun e wn => ∃ A c, e = .returned (.slice A O.length c) ∧ Sep B w wn (blk g o :: nums (.slice A O.length c) O :: Rs.set i (ob I.O v (L', M))) := by
  subst hO hL
  obtain ⟨F1, F2, ⟨_, rfl⟩, hd, hlt, hs, hn⟩ := h.frame
  refine (ob_tells3 hs i hi fun F hA hF => I.fire hA _ u l hr (fun k hk hf => ?_) hl hin).mono ?_
  · rcases hF k hf with hf | hf
    · exact hd k hk hf
    · have := I.O.lt hA k ‹_›; omega
  · rintro e wn ⟨A, c, rfl, h1⟩
    exact ⟨A, c, rfl, hn h1⟩
end

set_option maxHeartbeats 4000000 in
set_option maxRecDepth 100000 in
theorem awake_any (I : Af) (w : World) : Calls Try.prog 6 #[] w fun e w' => e = .returned (.bool true) ∧ Below w.heap.size w w' := by
  go_enter Try.func6, Try.ntmps6
  go_wp2_with fail
  refine (f_new (Sep.nil (fun _ => False) w) I 3 (by omega) (by omega)).mono ?_
  rintro e w1 ⟨a, rfl, h⟩
  have S1 := Lib.hid h
  clear h
  go_wp2_with fail
  refine (I.new_no 0 w1 (in64s _ (by omega)) (by omega)).mono ?_
  rintro e w2 ⟨rfl, hb⟩
  have S2 := Lib.hid (S1.out.next hb)
  clear hb S1
  go_wp2_with fail
  refine (f_add S2.out 0 rfl 7 1 (in64s _ (by omega)) (in64s _ (by omega)) (V := 0) (E := 0) (L' := [⟨7, 1, 1⟩]) (by decide) (by decide) (by decide)).mono ?_
  rintro e w3 ⟨rfl, h⟩
  have S3 := Lib.hid h
  clear h S2
  go_wp2_with fail
  refine (f_add S3.out 0 rfl 8 2 (in64s _ (by omega)) (in64s _ (by omega)) (V := 1) (E := 0) (L' := [⟨7, 1, 1⟩, ⟨8, 2, 1⟩]) (by decide) (by decide) (by decide)).mono ?_
  rintro e w4 ⟨rfl, h⟩
  have S4 := Lib.hid h
  clear h S3
  go_wp2_with fail
  refine (f_add S4.out 0 rfl 7 3 (in64s _ (by omega)) (in64s _ (by omega)) (V := 2) (E := 0) (L' := [⟨7, 1, 1⟩, ⟨8, 2, 1⟩, ⟨7, 3, 1⟩]) (by decide) (by decide) (by decide)).mono ?_
  rintro e w5 ⟨rfl, h⟩
  have S5 := Lib.hid h
  clear h S4
  go_wp2_with fail
  refine (f_add S5.out 0 rfl 7 4 (in64s _ (by omega)) (in64s _ (by omega)) (V := (-1)) (E := 2) (L' := [⟨7, 1, 1⟩, ⟨8, 2, 1⟩, ⟨7, 3, 1⟩]) (by decide) (by decide) (by decide)).mono ?_
  rintro e w6 ⟨rfl, h⟩
  have S6 := Lib.hid h
  clear h S5
  go_wp2_with fail
  refine (f_stop S6.out 0 rfl 0 (in64s _ (by omega)) (b := true) (L' := [⟨7, 1, 3⟩, ⟨8, 2, 1⟩, ⟨7, 3, 1⟩]) (by decide) (by decide)).mono ?_
  rintro e w7 ⟨rfl, h⟩
  have S7 := Lib.hid h
  clear h S6
  go_wp2_with fail
  refine (f_stop S7.out 0 rfl 0 (in64s _ (by omega)) (b := false) (L' := [⟨7, 1, 3⟩, ⟨8, 2, 1⟩, ⟨7, 3, 1⟩]) (by decide) (by decide)).mono ?_
  rintro e w8 ⟨rfl, h⟩
  have S8 := Lib.hid h
  clear h S7
  go_wp2_with fail
  refine (f_waiting S8.out 0 rfl 7 (in64s _ (by omega)) (l := [2]) (by decide)).mono ?_
  rintro e w9 ⟨A9, c9, rfl, h, hb⟩
  have S9 := Lib.hid (h.new (.cells #[.int .i64 7] 3))
  have K9 := Lib.hid (litI w9 3 [7] (cs := #[.int .i64 7]) rfl (by decide) (n := 1) rfl)
  clear h hb S8
  simp only [List.length_cons, List.length_nil, Nat.zero_add] at S9 ⊢
  go_wp2_with fail
  refine (f_fire_lit S9.out 1 rfl K9.out (by decide) (lits_in _ (by decide)) (O := [2]) (L' := [⟨7, 1, 3⟩, ⟨8, 2, 1⟩, ⟨7, 3, 2⟩]) (by decide) (by decide)).mono ?_
  rintro e w10 ⟨A10, c10, rfl, h⟩
  have S10 := Lib.hid (h.tail.new (.cells #[.int .i64 9, .int .i64 7, .int .i64 8] 3))
  have K10 := Lib.hid (litI w10 3 [9, 7, 8] (cs := #[.int .i64 9, .int .i64 7, .int .i64 8]) rfl (by decide) (n := 3) rfl)
  clear h S9 K9
  simp only [List.length_cons, List.length_nil, Nat.zero_add] at S10 ⊢
  go_wp2_with fail
  refine (f_fire_lit S10.out 2 rfl K10.out (by decide) (lits_in _ (by decide)) (O := [1]) (L' := [⟨7, 1, 3⟩, ⟨8, 2, 2⟩, ⟨7, 3, 2⟩]) (by decide) (by decide)).mono ?_
  rintro e w11 ⟨A11, c11, rfl, h⟩
  have S11 := Lib.hid (h.tail.new (.cells #[.int .i64 2] 3))
  have K11 := Lib.hid (any_rd (litI w11 3 [2] (cs := #[.int .i64 2]) rfl (by decide) (n := 1) rfl))
  clear h S10 K10
  simp only [List.set_cons_zero, List.set_cons_succ, List.length_cons, List.length_nil, Nat.zero_add] at S11 ⊢
  go_wp2_with fail
  refine (same_d (S11.out.rd 3 rfl) K11.out rfl).mono ?_
  rintro e w12 ⟨rfl, hb⟩
  have S12 := Lib.hid ((S11.out.tail.next hb).new (.cells #[.int .i64 2] 3))
  have K12 := Lib.hid (any_rd (litI w12 3 [2] (cs := #[.int .i64 2]) rfl (by decide) (n := 1) rfl))
  clear hb S11 K11
  go_wp2_with fail
  refine (same_d (S12.out.rd 2 rfl) K12.out rfl).mono ?_
  rintro e w13 ⟨rfl, hb⟩
  have S13 := Lib.hid ((S12.out.tail.next hb).new (.cells #[.int .i64 1] 3))
  have K13 := Lib.hid (any_rd (litI w13 3 [1] (cs := #[.int .i64 1]) rfl (by decide) (n := 1) rfl))
  clear hb S12 K12
  go_wp2_with fail
  refine (same_d (S13.out.rd 1 rfl) K13.out rfl).mono ?_
  rintro e w14 ⟨rfl, hb⟩
  have S14 := Lib.hid (S13.out.tail.next hb)
  clear hb S13 K13
  go_wp2_with fail
  refine (f_rows S14.out 3 rfl).mono ?_
  rintro e w15 ⟨A15, c15, rfl, h, hb⟩
  have S15 := Lib.hid h
  clear h hb S14
  go_wp2_with fail
  refine (own_any (S15.out.rdL 0 rfl) (by decide)).mono ?_
  rintro e w16 ⟨u16, rfl, hr, hb⟩
  obtain ⟨A16, c16, rfl⟩ := hr.form
  have S16 := Lib.hid (S15.out.next hb)
  have R16 := Lib.hid (hr.mono (G' := fun _ => True) fun _ _ _ => trivial)
  clear hr hb S15
  simp only [List.length_cons, List.length_nil, Nat.zero_add, Nat.reduceAdd] at R16 ⊢
  have S17 := Lib.hid (S16.out.new (.cells #[.int .i64 7, .int .i64 1, .int .i64 3, .int .i64 8, .int .i64 2, .int .i64 2, .int .i64 7, .int .i64 3, .int .i64 2] 57))
  have R17 := Lib.hid (R16.out.alloc (.cells #[.int .i64 7, .int .i64 1, .int .i64 3, .int .i64 8, .int .i64 2, .int .i64 2, .int .i64 7, .int .i64 3, .int .i64 2] 57))
  have K17 := Lib.hid ((litL rgE w16 57 [⟨7, 1, 3⟩, ⟨8, 2, 2⟩, ⟨7, 3, 2⟩] (cs := #[.int .i64 7, .int .i64 1, .int .i64 3, .int .i64 8, .int .i64 2, .int .i64 2, .int .i64 7, .int .i64 3, .int .i64 2]) rfl (by decide) (n := 3) rfl).mono (G' := fun _ => True) fun _ _ _ => trivial)
  clear R16 S16
  go_wp2_with fail
  refine (same_any R17.out K17.out).mono ?_
  rintro e w18 ⟨rfl, n18, rfl⟩
  rw [show decide (([⟨7, 1, 3⟩, ⟨8, 2, 2⟩, ⟨7, 3, 2⟩] : List Rg) = [⟨7, 1, 3⟩, ⟨8, 2, 2⟩, ⟨7, 3, 2⟩]) = true from by decide]
  have S18 := Lib.hid (S17.out.drewN n18)
  clear S17 R17 K17
  go_wp2
  go_ret
  exact ⟨rfl, S18.out.old⟩
end Go.Proofs.Ytindcpcfilfnkaa.AfterI
