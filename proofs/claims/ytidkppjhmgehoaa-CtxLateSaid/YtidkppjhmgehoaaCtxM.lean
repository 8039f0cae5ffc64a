/-
  The law's own awake() of layer 6 over any package that meets 'Cx': it returns true and leaves old memory as it was. Conditions: none but 'Cx'.
-/
import Derived.Test.YtidkppjhmgehoaaCtxS
namespace Go.Proofs.Ytidkppjhmgehoaa.CtxI
open Go.ChangeShapes Go.WideShapes Go.ChangeAt Go.RowKit Mem TreeP RefTree CtxP Hand TreeI RefCtx

section
variable {I : Cx} {B : Nat → Prop} {w wk : World} {Rs : List Res} {v : Value} {T T' : List Nd} {X X' : List Cn} {M V E : Int} {O : List Int}
theorem x_wc (h : Sep B w wk Rs) (i : Nat) (hi : Rs[i]? = some (cx I v T X M)) (o : Int) (ho : In64 o) (hV : addV T M o = V) (hE : addE T M o = E) (hT : addL T M o false = T') (hX : withX T X M o false zeroCn 0 = X') :
    Calls Try.prog 26 #[v, .int .i64 o] wk fun e wn => e = .returned (.tuple #[.int .i64 V, .int .i64 E]) ∧ Sep B w wn (Rs.set i (cx I v T' X' M)) := by subst hV hE hT hX; exact x_after h i hi fun _ ha => I.cancel_ ha o ho
theorem x_wd (h : Sep B w wk Rs) (i : Nat) (hi : Rs[i]? = some (cx I v T X M)) (o t c now : Int) (ho : In64 o) (ht : In64 t) (hc : In64 c) (hn : In64 now) (hV : addV T M o = V) (hE : addE T M o = E) (hT : addL T M o false = T') (hX : withX T X M o false (lateX t c) now = X') :
    Calls Try.prog 30 #[v, .int .i64 o, .int .i64 t, .int .i64 c, .int .i64 now] wk fun e wn => e = .returned (.tuple #[.int .i64 V, .int .i64 E]) ∧ Sep B w wn (Rs.set i (cx I v T' X' M)) := by subst hV hE hT hX; exact x_after h i hi fun _ ha => I.deadline_ ha o t c now ho ht hc hn
theorem x_wv (h : Sep B w wk Rs) (i : Nat) (hi : Rs[i]? = some (cx I v T X M)) (o k x : Int) (ho : In64 o) (hk : In64 k) (hx : In64 x) (hV : addV T M o = V) (hE : addE T M o = E) (hT : addL T M o false = T') (hX : withX T X M o false (namedX k x) 0 = X') :
    Calls Try.prog 27 #[v, .int .i64 o, .int .i64 k, .int .i64 x] wk fun e wn => e = .returned (.tuple #[.int .i64 V, .int .i64 E]) ∧ Sep B w wn (Rs.set i (cx I v T' X' M)) := by subst hV hE hT hX; exact x_after h i hi fun _ ha => I.value_ ha o k x ho hk hx
theorem x_wo (h : Sep B w wk Rs) (i : Nat) (hi : Rs[i]? = some (cx I v T X M)) (o : Int) (ho : In64 o) (hV : addV T M o = V) (hE : addE T M o = E) (hT : addL T M o true = T') (hX : withX T X M o true zeroCn 0 = X') :
    Calls Try.prog 28 #[v, .int .i64 o] wk fun e wn => e = .returned (.tuple #[.int .i64 V, .int .i64 E]) ∧ Sep B w wn (Rs.set i (cx I v T' X' M)) := by subst hV hE hT hX; exact x_after h i hi fun _ ha => I.without_ ha o ho
theorem x_cancel (h : Sep B w wk Rs) (i : Nat) (hi : Rs[i]? = some (cx I v T X M)) (n c : Int) (hn : In64 n) (hc : In64 c) (hO : cancelO T X n = O) (hX : cancelX T X n c = X') :
    Calls Try.prog 29 #[v, .int .i64 n, .int .i64 c] wk fun e wn => ∃ A cc, e = .returned (.slice A O.length cc) ∧ Sep B w wn (nums (.slice A O.length cc) O :: Rs.set i (cx I v T X' M)) := by subst hO hX; exact x_told h i hi fun _ ha => I.cancel ha n c hn hc
theorem x_due (h : Sep B w wk Rs) (i : Nat) (hi : Rs[i]? = some (cx I v T X M)) (now : Int) (hn : In64 now) (hO : dueO T X now = O) (hX : dueX T X now = X') :
    Calls Try.prog 25 #[v, .int .i64 now] wk fun e wn => ∃ A cc, e = .returned (.slice A O.length cc) ∧ Sep B w wn (nums (.slice A O.length cc) O :: Rs.set i (cx I v T X' M)) := by subst hO hX; exact x_told h i hi fun _ ha => I.due ha now hn
theorem x_len (h : Sep B w wk Rs) (i : Nat) (hi : Rs[i]? = some (cx I v T X M)) : Calls Try.prog 13 #[v] wk fun e wn => e = .returned (.int .i64 T.length) ∧ Sep B w wn Rs := h.still i hi fun _ ha => I.len ha
theorem x_next (h : Sep B w wk Rs) (i : Nat) (hi : Rs[i]? = some (cx I v T X M)) (hV : nextX X = V) : Calls Try.prog 14 #[v] wk fun e wn => e = .returned (.int .i64 V) ∧ Sep B w wn Rs := by subst hV; exact h.still i hi fun _ ha => I.next ha
theorem x_err (h : Sep B w wk Rs) (i : Nat) (hi : Rs[i]? = some (cx I v T X M)) (n : Int) (hn : In64 n) (hV : (getX T X n).e = V) : Calls Try.prog 21 #[v, .int .i64 n] wk fun e wn => e = .returned (.int .i64 V) ∧ Sep B w wn Rs := by subst hV; exact h.still i hi fun _ ha => I.err ha n hn
theorem x_cause (h : Sep B w wk Rs) (i : Nat) (hi : Rs[i]? = some (cx I v T X M)) (n : Int) (hn : In64 n) (hV : (getX T X n).cause = V) : Calls Try.prog 22 #[v, .int .i64 n] wk fun e wn => e = .returned (.int .i64 V) ∧ Sep B w wn Rs := by subst hV; exact h.still i hi fun _ ha => I.cause ha n hn
theorem x_done (h : Sep B w wk Rs) (i : Nat) (hi : Rs[i]? = some (cx I v T X M)) (n : Int) (hn : In64 n) {b : Bool} (hV : decide ((getX T X n).e ≠ 0) = b) : Calls Try.prog 23 #[v, .int .i64 n] wk fun e wn => e = .returned (.bool b) ∧ Sep B w wn Rs := by subst hV; exact h.still i hi fun _ ha => I.done ha n hn
theorem x_dl (h : Sep B w wk Rs) (i : Nat) (hi : Rs[i]? = some (cx I v T X M)) (n : Int) (hn : In64 n) {b : Bool} (hV : dlX T X n = (V, b)) : Calls Try.prog 17 #[v, .int .i64 n] wk fun e wn => e = .returned (.tuple #[.int .i64 V, .bool b]) ∧ Sep B w wn Rs := by
  have := h.still (e0 := .returned (.tuple #[.int .i64 (dlX T X n).1, .bool (dlX T X n).2])) i hi fun _ ha => I.deadline ha n hn
  rw [hV] at this
  exact this
theorem x_val (h : Sep B w wk Rs) (i : Nat) (hi : Rs[i]? = some (cx I v T X M)) (n k : Int) (hn : In64 n) (hk : In64 k) {b : Bool} (hV : valX T X n k = (V, b)) : Calls Try.prog 19 #[v, .int .i64 n, .int .i64 k] wk fun e wn => e = .returned (.tuple #[.int .i64 V, .bool b]) ∧ Sep B w wn Rs := by
  have := h.still (e0 := .returned (.tuple #[.int .i64 (valX T X n k).1, .bool (valX T X n k).2])) i hi fun _ ha => I.value ha n k hn hk
  rw [hV] at this
  exact this
theorem x_reach (h : Sep B w wk Rs) (i : Nat) (hi : Rs[i]? = some (cx I v T X M)) (n : Int) (hn : In64 n) (hO : reachT T n = O) : Calls Try.prog 24 #[v, .int .i64 n] wk fun e wn => ∃ A c, e = .returned (.slice A O.length c) ∧ Sep B w wn Rs ∧ Rd wn (fun _ => True) (.slice A O.length c) O ∧ Below wk.heap.size wk wn := by
  subst hO
  obtain ⟨F, hR⟩ := h.get i hi
  refine (I.reach hR n hn).mono ?_
  rintro e wn ⟨u, rfl, hr, hb⟩
  obtain ⟨A, c, rfl⟩ : ∃ A c, u = .slice A (reachT T n).length c := by obtain ⟨A, c, e, _⟩ := hr; exact ⟨A, c, e⟩
  exact ⟨A, c, rfl, h.next hb, hr.mono fun _ _ _ => trivial, hb⟩
end

theorem in64s (a : Int) (h : -1000 ≤ a ∧ a ≤ 1000) : In64 a := ⟨by omega, by omega⟩
theorem litI (w : World) (e : TypeId) (l : List Int) {cs : Array Value} (hc : cs.toList = l.map (Value.int .i64)) (hl : l.length ≤ 1000000) {n : Nat} (hn : n = l.length) : Rd (w.alloc (.cells cs e)) (fun _ => True) (.slice (some ⟨w.heap.size, 0, none⟩) n n) l := by
  subst hn
  have h := World.ownsRow_lit (e := e) (size := 1) w cs l.length (Nat.zero_le _) (by unfold maxLen; omega) (by rw [← Array.length_toList, hc, List.length_map, Nat.mul_one])
  rw [hc] at h
  exact Own.rd (base := 0) (e := e) h hl fun _ _ => trivial

def aT : List Nd := [⟨-1, false⟩, ⟨0, false⟩, ⟨1, false⟩, ⟨1, true⟩, ⟨2, false⟩]
def aX : List Cn := [zeroCn, zeroCn, lateX 9 0, zeroCn, namedX 5 50]
def aY : List Cn := [zeroCn, ⟨10, 7, false, 0, 0, false, 0, 0⟩, ⟨10, 7, true, 9, 0, false, 0, 0⟩, zeroCn, ⟨10, 7, false, 0, 0, true, 5, 50⟩]
def aZ : List Cn := aY ++ [⟨11, 8, true, 4, 8, false, 0, 0⟩]
def aU : List Nd := aT ++ [⟨3, false⟩]

set_option maxHeartbeats 4000000 in
set_option maxRecDepth 100000 in
theorem awake_any (I : Cx) (w : World) : Calls Try.prog 7 #[] w fun e w' => e = .returned (.bool true) ∧ Below w.heap.size w w' := by
  go_enter Try.func7, Try.ntmps7
  go_wp2_with fail
  refine (x_new (Sep.nil (fun _ => False) w) I 6 (by omega) (by omega)).mono ?_
  rintro e w1 ⟨a, rfl, h⟩
  have S1 := Lib.hid h
  clear h
  go_wp2_with fail
  refine (I.new_no 0 w1 (in64s _ (by omega)) (by omega)).mono ?_
  rintro e w2 ⟨rfl, hb⟩
  have S2 := Lib.hid (S1.out.next hb)
  clear hb S1
  go_wp2_with fail
  refine (x_wc S2.out 0 rfl 0 (in64s _ (by omega)) (V := 1) (E := 0) (T' := [⟨-1, false⟩, ⟨0, false⟩]) (X' := [zeroCn, zeroCn]) (by rfl) (by rfl) (by rfl) (by rfl)).mono ?_
  rintro e w3 ⟨rfl, h⟩
  have S3 := Lib.hid h
  clear h S2
  go_wp2_with fail
  refine (x_wd S3.out 0 rfl 1 9 0 0 (in64s _ (by omega)) (in64s _ (by omega)) (in64s _ (by omega)) (in64s _ (by omega)) (V := 2) (E := 0) (T' := [⟨-1, false⟩, ⟨0, false⟩, ⟨1, false⟩]) (X' := [zeroCn, zeroCn, lateX 9 0]) (by rfl) (by rfl) (by rfl) (by rfl)).mono ?_
  rintro e w4 ⟨rfl, h⟩
  have S4 := Lib.hid h
  clear h S3
  go_wp2_with fail
  refine (x_wo S4.out 0 rfl 1 (in64s _ (by omega)) (V := 3) (E := 0) (T' := [⟨-1, false⟩, ⟨0, false⟩, ⟨1, false⟩, ⟨1, true⟩]) (X' := [zeroCn, zeroCn, lateX 9 0, zeroCn]) (by rfl) (by rfl) (by rfl) (by rfl)).mono ?_
  rintro e w5 ⟨rfl, h⟩
  have S5 := Lib.hid h
  clear h S4
  go_wp2_with fail
  refine (x_wv S5.out 0 rfl 2 5 50 (in64s _ (by omega)) (in64s _ (by omega)) (in64s _ (by omega)) (V := 4) (E := 0) (T' := aT) (X' := aX) (by rfl) (by rfl) (by rfl) (by rfl)).mono ?_
  rintro e w6 ⟨rfl, h⟩
  have S6 := Lib.hid h
  clear h S5
  go_wp2_with fail
  refine (x_dl S6.out 0 rfl 4 (in64s _ (by omega)) (V := 9) (b := true) (by rfl)).mono ?_
  rintro e w7 ⟨rfl, h⟩
  have S7 := Lib.hid h
  clear h S6
  go_wp2_with fail
  refine (x_dl S7.out 0 rfl 3 (in64s _ (by omega)) (V := 0) (b := false) (by rfl)).mono ?_
  rintro e w8 ⟨rfl, h⟩
  have S8 := Lib.hid h
  clear h S7
  go_wp2_with fail
  refine (x_val S8.out 0 rfl 4 5 (in64s _ (by omega)) (in64s _ (by omega)) (V := 50) (b := true) (by rfl)).mono ?_
  rintro e w9 ⟨rfl, h⟩
  have S9 := Lib.hid h
  clear h S8
  go_wp2_with fail
  refine (x_next S9.out 0 rfl (V := 9) (by rfl)).mono ?_
  rintro e w10 ⟨rfl, h⟩
  have S10 := Lib.hid h
  clear h S9
  go_wp2_with fail
  refine (x_cancel S10.out 0 rfl 1 7 (in64s _ (by omega)) (in64s _ (by omega)) (O := [1, 2, 4]) (X' := aY) (by rfl) (by rfl)).mono ?_
  rintro e w11 ⟨A1, c1, rfl, h⟩
  have S11 := Lib.hid h
  clear h S10
  go_wp2_with fail
  refine (x_wd S11.out 1 rfl 3 4 8 4 (in64s _ (by omega)) (in64s _ (by omega)) (in64s _ (by omega)) (in64s _ (by omega)) (V := 5) (E := 0) (T' := aU) (X' := aZ) (by rfl) (by rfl) (by rfl) (by rfl)).mono ?_
  rintro e w12 ⟨rfl, h⟩
  have S12 := Lib.hid h
  clear h S11
  go_wp2_with fail
  refine (x_wc S12.out 1 rfl 9 (in64s _ (by omega)) (V := -1) (E := 3) (T' := aU) (X' := aZ) (by rfl) (by rfl) (by rfl) (by rfl)).mono ?_
  rintro e w13 ⟨rfl, h⟩
  have S13 := Lib.hid h
  clear h S12
  go_wp2_with fail
  refine (x_wc S13.out 1 rfl 0 (in64s _ (by omega)) (V := -1) (E := 2) (T' := aU) (X' := aZ) (by rfl) (by rfl) (by rfl) (by rfl)).mono ?_
  rintro e w14 ⟨rfl, h⟩
  have S14 := Lib.hid h
  clear h S13
  go_upto_region 17 with (fail)
  simp only [List.append_eq, List.cons_append, List.nil_append]
  go_wp2_with fail
  refine (SameI.same_any ((S14.out.rd 0 rfl).below (new_below0 w14 _)) (litI w14 3 [1, 2, 4] (cs := #[.int .i64 1, .int .i64 2, .int .i64 4]) rfl (by decide) rfl)).mono ?_
  rintro e wd ⟨rfl, n1, rfl⟩
  have S15 := Lib.hid ((S14.out.next (new_below0 w14 (.cells #[.int .i64 1, .int .i64 2, .int .i64 4] 3))).drewN n1)
  rw [show decide (([1, 2, 4] : List Int) = [1, 2, 4]) = true from by decide]
  clear S14
  generalize hwD : (w14.alloc (.cells #[.int .i64 1, .int .i64 2, .int .i64 4] 3)).drewN n1 = w15 at *
  clear hwD
  go_wp2_with fail
  refine (x_err S15.out 1 rfl 4 (in64s _ (by omega)) (V := 10) (by rfl)).mono ?_
  rintro e w16 ⟨rfl, h⟩
  have S16 := Lib.hid h
  clear h S15
  go_wp2_with fail
  refine (x_cause S16.out 1 rfl 4 (in64s _ (by omega)) (V := 7) (by rfl)).mono ?_
  rintro e w17 ⟨rfl, h⟩
  have S17 := Lib.hid h
  clear h S16
  go_wp2_with fail
  refine (x_done S17.out 1 rfl 3 (in64s _ (by omega)) (b := false) (by rfl)).mono ?_
  rintro e w18 ⟨rfl, h⟩
  have S18 := Lib.hid h
  clear h S17
  go_wp2_with fail
  refine (x_err S18.out 1 rfl 5 (in64s _ (by omega)) (V := 11) (by rfl)).mono ?_
  rintro e w19 ⟨rfl, h⟩
  have S19 := Lib.hid h
  clear h S18
  go_wp2_with fail
  refine (x_cause S19.out 1 rfl 5 (in64s _ (by omega)) (V := 8) (by rfl)).mono ?_
  rintro e w20 ⟨rfl, h⟩
  have S20 := Lib.hid h
  clear h S19
  go_wp2_with fail
  refine (x_next S20.out 1 rfl (V := 9223372036854775807) (by rfl)).mono ?_
  rintro e w21 ⟨rfl, h⟩
  have S21 := Lib.hid h
  clear h S20
  go_wp2_with fail
  refine (x_due S21.out 1 rfl 99 (in64s _ (by omega)) (O := []) (X' := aZ) (by rfl) (by rfl)).mono ?_
  rintro e w22 ⟨A2, c2, rfl, h⟩
  have S22 := Lib.hid h.tail
  clear h S21
  go_wp2_with fail
  refine (x_len S22.out 1 rfl).mono ?_
  rintro e w23 ⟨rfl, h⟩
  have S23 := Lib.hid h
  clear h S22
  go_wp2_with fail
  refine (x_cancel S23.out 1 rfl 0 1 (in64s _ (by omega)) (in64s _ (by omega)) (O := []) (X' := aZ) (by rfl) (by rfl)).mono ?_
  rintro e w24 ⟨A3, c3, rfl, h⟩
  have S24 := Lib.hid h.tail
  clear h S23
  go_wp2_with fail
  refine (x_reach S24.out 1 rfl 1 (in64s _ (by omega)) (O := [1, 2, 4]) (by rfl)).mono ?_
  rintro e w25 ⟨A4, c4, rfl, h, r25, _⟩
  have S25 := Lib.hid h
  have R25 := Lib.hid r25
  clear h r25 S24
  go_wp2_with fail
  refine (SameI.same_any (R25.out.below (new_below0 w25 _)) (litI w25 3 [1, 2, 4] (cs := #[.int .i64 1, .int .i64 2, .int .i64 4]) rfl (by decide) rfl)).mono ?_
  rintro e wd ⟨rfl, n1, rfl⟩
  have S26 := Lib.hid ((S25.out.next (new_below0 w25 (.cells #[.int .i64 1, .int .i64 2, .int .i64 4] 3))).drewN n1)
  rw [show decide (([1, 2, 4] : List Int) = [1, 2, 4]) = true from by decide]
  clear S25
  generalize hwD : (w25.alloc (.cells #[.int .i64 1, .int .i64 2, .int .i64 4] 3)).drewN n1 = w26 at *
  clear hwD
  go_wp2
  go_ret
  exact ⟨rfl, S26.out.old⟩
end Go.Proofs.Ytidkppjhmgehoaa.CtxI
