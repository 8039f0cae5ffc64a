/-
  The law's own awake() of layer 16 over any package that meets 'Co': it returns true and leaves old memory as it was. Conditions: none but 'Co'.
-/
import Derived.Test.YtoblkoljaeobkaaDoorCodeI
namespace Go.Proofs.YtoblkoljaeobkaaDoor.CodeI
open Go.ChangeShapes Go.WideShapes Go.ChangeAt Go.RowKit Mem MutP CodeP Hand RefCode

theorem in64s (n : Int) (h : -1000 ≤ n ∧ n ≤ 1000) : In64 n := by unfold In64; omega
theorem inIn (o a b n : Int) (ho : -1000 ≤ o ∧ o ≤ 1000) (ha : -1000 ≤ a ∧ a ≤ 1000) (hb : -1000 ≤ b ∧ b ≤ 1000) (hn : -1000 ≤ n ∧ n ≤ 1000) : InIn ⟨o, a, b, n⟩ := ⟨in64s _ ho, in64s _ ha, in64s _ hb, in64s _ hn⟩
theorem all_one {p : In → Prop} {x : In} (h : p x) : ∀ y ∈ [x], p y := fun y hy => by rw [List.mem_singleton] at hy; rw [hy]; exact h
theorem own_fits {w wk : World} {B : Nat → Prop} {Rs : List Res} {α : Type} {E : Enc α} {e : TypeId} {A : Option Addr} {n c : Nat} {l : List α} (h : Sep B w wk Rs) (i : Nat) (hi : Rs[i]? = some (grow E e (.slice A n c) l)) : n ≤ c := fits_ownL (h.own i hi) _ _ _ rfl

section
variable {B : Nat → Prop} {w wk : World} {Rs : List Res} {A A' : Option Addr} {n n' c c' : Nat} {l m : List In} {b b' : List Int}
theorem n_form (I : Co w) (h : Sep (fun _ => False) w wk Rs) (op : Int) (ho : In64 op) {v : Value} (hv : formV op = v) : Calls Tryd.prog 12 #[.int .i64 op] wk fun e wn => e = .returned v ∧ Sep (fun _ => False) w wn Rs := by subst hv; exact m_form I h op ho
theorem n_right (I : Co w) (h : Sep (fun _ => False) w wk Rs) (x : In) (k : Int) (hx : InIn x) (hk : In64 k) {r : Bool} (hr : rightB x k = r) : Calls Tryd.prog 14 #[.agg #[.int .i64 x.o, .int .i64 x.a, .int .i64 x.b, .int .i64 x.n], .int .i64 k] wk fun e wn => e = .returned (.bool r) ∧ Sep (fun _ => False) w wn Rs := by subst hr; exact m_right I h x k hx hk
theorem n_may (I : Co w) (h : Sep (fun _ => False) w wk Rs) (i : Nat) (hi : Rs[i]? = some (told inE (.slice A n c) l)) (hc : n ≤ c) (hl : ∀ x ∈ l, InIn x) {r : Bool} (hr : mayB l = r) : Calls Tryd.prog 16 #[.slice A n c] wk fun e wn => e = .returned (.bool r) ∧ Sep (fun _ => False) w wn Rs := by subst hr; exact m_may I h i hi hc hl
theorem n_bytes (I : Co w) (h : Sep (fun _ => False) w wk Rs) (i : Nat) (hi : Rs[i]? = some (told inE (.slice A n c) l)) (hc : n ≤ c) (hl : ∀ x ∈ l, InIn x) {E : Int} {R : List Int} {k : Nat} (hE : bytesE l = E) (hR : bytesR l = R) (hk : R.length = k) : Calls Tryd.prog 7 #[.slice A n c] wk fun e wn => ∃ A' c', k ≤ c' ∧ e = .returned (.tuple #[.slice A' k c', .int .i64 E]) ∧ Sep (fun _ => False) w wn (told byE (.slice A' k c') R :: Rs) := by subst hE hR hk; exact m_bytes I h i hi hc hl
theorem n_read (I : Co w) (h : Sep (fun _ => False) w wk Rs) (i : Nat) (hi : Rs[i]? = some (told byE (.slice A n c) b)) (hc : n ≤ c) (hl : ∀ x ∈ b, Byte x) {E N : Int} {R : List In} {k : Nat} (hE : readE b = E) (hN : readN b = N) (hR : readR b = R) (hk : R.length = k) : Calls Tryd.prog 10 #[.slice A n c] wk fun e wn => ∃ A' c', k ≤ c' ∧ e = .returned (.tuple #[.slice A' k c', .int .i64 N, .int .i64 E]) ∧ Sep (fun _ => False) w wn (told inE (.slice A' k c') R :: Rs) := by subst hE hN hR hk; exact m_read I h i hi hc hl
theorem n_same (I : Co w) (h : Sep (fun _ => False) w wk Rs) (i j : Nat) (hi : Rs[i]? = some (told inE (.slice A n c) l)) (hc : n ≤ c) (hj : Rs[j]? = some (told inE (.slice A' n' c') m)) (hc' : n' ≤ c') (hl : ∀ x ∈ l, InIn x) (hm : ∀ x ∈ m, InIn x) {r : Bool} (hr : decide (l = m) = r) : Calls Tryd.prog 20 #[.slice A n c, .slice A' n' c'] wk fun e wn => e = .returned (.bool r) ∧ Sep (fun _ => False) w wn Rs := by subst hr; exact m_same I h i j hi hc hj hc' hl hm
theorem n_own (h : Sep B w wk Rs) (i : Nat) (hi : Rs[i]? = some (told inE (.slice A n c) l)) (hl : l.length ≤ 100000) {k : Nat} (hk : l.length = k) : Calls Tryd.prog 9 #[.slice A n c] wk fun e wn => ∃ A' c', e = .returned (.slice A' k c') ∧ Sep B w wn (told inE (.slice A' k c') l :: Rs) := by subst hk; exact m_own h i hi hl
theorem rn_same (h : Sep B w wk Rs) (i j : Nat) (hi : Rs[i]? = some (told inE (.slice A n c) l)) (hj : Rs[j]? = some (told inE (.slice A' n' c') m)) {r : Bool} (hr : decide (l = m) = r) : Calls Tryd.prog 19 #[.slice A n c, .slice A' n' c'] wk fun e wn => e = .returned (.bool r) ∧ Sep B w wn Rs := by subst hr; exact r_same h i j hi hj
theorem rn_sameB (h : Sep B w wk Rs) (i j : Nat) (hi : Rs[i]? = some (told byE (.slice A n c) b)) (hj : Rs[j]? = some (told byE (.slice A' n' c') b')) {r : Bool} (hr : decide (b = b') = r) : Calls Tryd.prog 18 #[.slice A n c, .slice A' n' c'] wk fun e wn => e = .returned (.bool r) ∧ Sep B w wn Rs := by subst hr; exact r_sameB h i j hi hj
end

/-- The program that awake() writes out, and its bytes. -/
def wakeL : List In := [⟨1, 2, 0, -1⟩]
def wakeB : List Int := [1, 1, 2, 0, 255, 255, 255, 255, 255, 255, 255, 255]
theorem wake_in : ∀ x ∈ wakeL, InIn x := all_one (inIn 1 2 0 (-1) (by omega) (by omega) (by omega) (by omega))
theorem wake_bytes : bytesE wakeL = 0 ∧ bytesR wakeL = wakeB := ⟨by kernel_rfl, by kernel_rfl⟩
theorem wake_read : readE (wakeB ++ [9]) = 0 ∧ readN (wakeB ++ [9]) = 12 ∧ readR (wakeB ++ [9]) = wakeL := ⟨by kernel_rfl, by kernel_rfl, by kernel_rfl⟩

theorem wake_byte : ∀ x ∈ wakeB ++ [9], Byte x := by unfold Byte; decide

set_option maxRecDepth 100000 in
set_option maxHeartbeats 4000000 in
theorem awake_any {w0 : World} (I0 : Co w0) (w : World) (h0 : Below w0.heap.size w0 w) : Calls Tryd.prog 6 #[] w fun e w' => e = .returned (.bool true) ∧ Below w.heap.size w w' := by
  have I := I0.later h0
  clear I0 h0
  have S0 : Hid (Sep (fun _ => False) w (w.alloc (.cells #[.int .i64 1, .int .i64 2, .int .i64 0, .int .i64 (-1)] 23)) [told inE (.slice (some ⟨w.heap.size, 0, none⟩) 1 1) wakeL]) := (Sep.nil _ _).lit_told 23 wakeL (cs := #[.int .i64 1, .int .i64 2, .int .i64 0, .int .i64 (-1)]) rfl (by decide) rfl
  go_enter Tryd.func6, Tryd.ntmps6
  go_wp2_with fail
  refine (n_bytes I S0.out 0 rfl (by omega) wake_in (E := 0) (R := wakeB) (k := 12) wake_bytes.1 wake_bytes.2 rfl).mono ?_
  rintro e w1 ⟨A1, c1, f1, rfl, h⟩
  have S1 := Lib.hid h
  clear h S0
  have S2 : Hid (Sep (fun _ => False) w (w1.alloc (.cells #[] 5)) [grow byE 5 (.slice (some ⟨w1.heap.size, 0, none⟩) 0 0) [], told byE (.slice A1 12 c1) wakeB, told inE (.slice (some ⟨w.heap.size, 0, none⟩) 1 1) wakeL]) := S1.out.grow0 byE 5
  go_wp2_with (at_builtin; refine wpList_appS rfl _ _ byElem rfl rfl rfl S2.out 0 rfl (S2.out.rdL 1 rfl) (by decide) ?_)
  intro A3 c3 w3 l3 HL3 h3
  obtain rfl : l3 = wakeB := HL3.out
  have S3 : Hid (Sep (fun _ => False) w (w3.alloc (.cells #[.int .u8 9] 5)) [told byE (.slice (some ⟨w3.heap.size, 0, none⟩) 1 1) [9], grow byE 5 (.slice A3 12 c3) wakeB, told byE (.slice A1 12 c1) wakeB, told inE (.slice (some ⟨w.heap.size, 0, none⟩) 1 1) wakeL]) := Sep.lit_told h3 5 [(9 : Int)] (cs := #[.int .u8 9]) rfl (by simp) rfl
  clear h3 HL3 S1 S2
  go_wp2_with (at_builtin; refine wpList_appS rfl _ _ byElem rfl rfl rfl S3.out 1 rfl (S3.out.rdL 0 rfl) (by decide) ?_)
  intro A4 c4 w4 l4 HL4 h4
  obtain rfl : l4 = wakeB ++ [9] := HL4.out
  have f4 : 13 ≤ c4 := own_fits h4 1 rfl
  have S4 : Hid (Sep (fun _ => False) w w4 [told byE (.slice A4 13 c4) (wakeB ++ [9]), told byE (.slice A1 12 c1) wakeB, told inE (.slice (some ⟨w.heap.size, 0, none⟩) 1 1) wakeL]) := grow_told (Sep.tail h4) (by decide)
  clear h4 HL4 S3
  go_wp2_with fail
  refine (n_read I S4.out 0 rfl f4 wake_byte (E := 0) (N := 12) (R := wakeL) (k := 1) wake_read.1 wake_read.2.1 wake_read.2.2 rfl).mono ?_
  rintro e w5 ⟨A5, c5, f5, rfl, h5⟩
  have S5 : Hid (Sep (fun _ => False) w (w5.alloc (.cells #[.int .u8 1, .int .u8 0] 5)) [told byE (.slice (some ⟨w5.heap.size, 0, none⟩) 2 2) [1, 0], told inE (.slice A5 1 c5) wakeL, told byE (.slice A1 12 c1) wakeB, told inE (.slice (some ⟨w.heap.size, 0, none⟩) 1 1) wakeL]) := Sep.lit_told (h5.sub (.cons_cons _ (.cons _ (List.Sublist.refl _)))) 5 [1, 0] (cs := #[.int .u8 1, .int .u8 0]) rfl (by decide) rfl
  clear h5 S4
  go_wp2_with fail
  refine (n_read I S5.out 0 rfl (by omega) (by unfold Byte; decide) (E := 8) (N := 0) (R := []) (k := 0) (by kernel_rfl) (by kernel_rfl) (by kernel_rfl) rfl).mono ?_
  rintro e w6 ⟨A6, c6, _, rfl, h6⟩
  have S6 : Hid (Sep (fun _ => False) w (w6.alloc (.cells #[.int .u8 0] 5)) [told byE (.slice (some ⟨w6.heap.size, 0, none⟩) 1 1) [0], told inE (.slice A5 1 c5) wakeL, told byE (.slice A1 12 c1) wakeB, told inE (.slice (some ⟨w.heap.size, 0, none⟩) 1 1) wakeL]) := Sep.lit_told (h6.sub (.cons _ (.cons _ (List.Sublist.refl _)))) 5 [0] (cs := #[.int .u8 0]) rfl (by decide) rfl
  clear h6 S5
  go_wp2_with fail
  refine (n_read I S6.out 0 rfl (by omega) (by unfold Byte; decide) (E := 7) (N := 0) (R := []) (k := 0) (by kernel_rfl) (by kernel_rfl) (by kernel_rfl) rfl).mono ?_
  rintro e w7 ⟨A7, c7, _, rfl, h7⟩
  have S7 : Hid (Sep (fun _ => False) w w7 [told inE (.slice none 0 0) [], told inE (.slice A5 1 c5) wakeL, told byE (.slice A1 12 c1) wakeB, told inE (.slice (some ⟨w.heap.size, 0, none⟩) 1 1) wakeL]) := (h7.sub (.cons _ (.cons _ (List.Sublist.refl _)))).nil_told inE
  clear h7 S6
  go_wp2_with fail
  refine (n_bytes I S7.out 0 rfl (by omega) (by simp) (E := 1) (R := []) (k := 0) (by kernel_rfl) (by kernel_rfl) rfl).mono ?_
  rintro e w8 ⟨A8, c8, _, rfl, h8⟩
  have S8 : Hid (Sep (fun _ => False) w (w8.alloc (.cells #[.int .u8 1, .int .u8 1, .int .u8 2, .int .u8 0, .int .u8 255, .int .u8 255, .int .u8 255, .int .u8 255, .int .u8 255, .int .u8 255, .int .u8 255, .int .u8 255] 5)) [told byE (.slice (some ⟨w8.heap.size, 0, none⟩) 12 12) wakeB, told inE (.slice none 0 0) [], told inE (.slice A5 1 c5) wakeL, told byE (.slice A1 12 c1) wakeB, told inE (.slice (some ⟨w.heap.size, 0, none⟩) 1 1) wakeL]) := Sep.lit_told h8.tail 5 wakeB (cs := #[.int .u8 1, .int .u8 1, .int .u8 2, .int .u8 0, .int .u8 255, .int .u8 255, .int .u8 255, .int .u8 255, .int .u8 255, .int .u8 255, .int .u8 255, .int .u8 255]) rfl (by decide) rfl
  clear h8 S7
  go_wp2_with fail
  refine (rn_sameB S8.out 3 0 rfl rfl (r := true) (by decide)).mono ?_
  rintro e w9 ⟨rfl, h9⟩
  have S9 : Hid (Sep (fun _ => False) w w9 [told inE (.slice none 0 0) [], told inE (.slice A5 1 c5) wakeL, told inE (.slice (some ⟨w.heap.size, 0, none⟩) 1 1) wakeL]) := h9.sub (.cons _ (.cons_cons _ (.cons_cons _ (.cons _ (List.Sublist.refl _)))))
  clear h9 S8
  go_wp2_with fail
  refine (n_own S9.out 1 rfl (by decide) (k := 1) rfl).mono ?_
  rintro e w10 ⟨A10, c10, rfl, h10⟩
  go_wp2_with fail
  refine (n_own h10 3 rfl (by decide) (k := 1) rfl).mono ?_
  rintro e w11 ⟨A11, c11, rfl, h11⟩
  go_wp2_with fail
  refine (rn_same h11 1 0 rfl rfl (r := true) (by decide)).mono ?_
  rintro e w12 ⟨rfl, h12⟩
  have S12 := Lib.hid h12.tail.tail
  clear h12 h11 h10 S9
  go_wp2_with fail
  refine (n_may I S12.out 2 rfl (by omega) wake_in (r := true) (by kernel_rfl)).mono ?_
  rintro e w13 ⟨rfl, h13⟩
  have S13 := Lib.hid h13
  clear h13 S12
  go_wp2_with fail
  refine (n_form I S13.out 36 (in64s _ (by omega)) (v := .string ⟨#[114, 114, 111]⟩) (by kernel_rfl)).mono ?_
  rintro e w14 ⟨rfl, h14⟩
  have S14 := Lib.hid h14
  clear h14 S13
  go_wp2_with fail
  refine (n_form I S14.out 47 (in64s _ (by omega)) (v := .string ⟨#[]⟩) (by kernel_rfl)).mono ?_
  rintro e w15 ⟨rfl, h15⟩
  have S15 := Lib.hid h15
  clear h15 S14
  go_wp2_with fail
  refine (n_right I S15.out ⟨4, 0, 0, 3⟩ 3 (inIn _ _ _ _ (by omega) (by omega) (by omega) (by omega)) (in64s _ (by omega)) (r := true) (by kernel_rfl)).mono ?_
  rintro e w16 ⟨rfl, h16⟩
  have S16 := Lib.hid h16
  clear h16 S15
  go_wp2_with fail
  refine (n_right I S16.out ⟨4, 0, 0, 4⟩ 3 (inIn _ _ _ _ (by omega) (by omega) (by omega) (by omega)) (in64s _ (by omega)) (r := false) (by kernel_rfl)).mono ?_
  rintro e w17 ⟨rfl, h17⟩
  have S17 := Lib.hid h17
  clear h17 S16
  go_wp2_with fail
  refine (n_same I S17.out 2 1 rfl (by omega) rfl f5 wake_in wake_in (r := true) (by decide)).mono ?_
  rintro e w18 ⟨rfl, h18⟩
  have S18 := Lib.hid h18
  clear h18 S17
  go_wp2_with fail
  refine (n_same I S18.out 2 0 rfl (by omega) rfl (by omega) wake_in (by simp) (r := false) (by decide)).mono ?_
  rintro e w19 ⟨rfl, h19⟩
  have S19 := Lib.hid h19
  clear h19 S18
  go_wp2
  go_ret
  exact ⟨rfl, S19.out.old⟩
end Go.Proofs.YtoblkoljaeobkaaDoor.CodeI
