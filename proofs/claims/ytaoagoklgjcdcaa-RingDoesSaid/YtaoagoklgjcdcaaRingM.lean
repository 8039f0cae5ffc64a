/-
  The law's own awake() over any package that meets 'Ring': it returns true and leaves old memory as it was. Conditions: none but 'Ring'.
-/
import Derived.Test.YtaoagoklgjcdcaaRingI
namespace Go.Proofs.Ytaoagoklgjcdcaa.RingI
open Go.ChangeShapes Go.WideShapes Go.ChangeAt Go.RowKit Mem RefRing
variable (I : Ring)

/-- An arena of the call's own, in a world in which nothing that lay in w has changed, and slices that it has told. -/
def Mine (w wk : World) (v : Value) (L : List (List Int)) (N : Int) (Hs : List (Value × List Int)) : Prop :=
  ∃ F, I.A wk v F L N ∧ Below w.heap.size w wk ∧ (∀ k, F k → w.heap.size ≤ k) ∧ ∀ h ∈ Hs, Rd wk (fun k => ¬ F k) h.1 h.2

theorem Mine.ok {I : Ring} {w wk : World} {v : Value} {L : List (List Int)} {N : Int} {Hs : List (Value × List Int)} (h : Mine I w wk v L N Hs) : Ok L N := by obtain ⟨F, ha, _⟩ := h; exact I.ok ha
theorem Mine.ptr {I : Ring} {w wk : World} {v : Value} {L : List (List Int)} {N : Int} {Hs : List (Value × List Int)} (h : Mine I w wk v L N Hs) : ∃ a, v = .pointer (some a) := by obtain ⟨F, ha, _⟩ := h; exact I.ptr ha
theorem Mine.old {I : Ring} {w wk : World} {v : Value} {L : List (List Int)} {N : Int} {Hs : List (Value × List Int)} (h : Mine I w wk v L N Hs) : Below w.heap.size w wk := by obtain ⟨F, _, hb, _⟩ := h; exact hb
theorem Mine.next {I : Ring} {w wk wn : World} {v : Value} {L : List (List Int)} {N : Int} {Hs : List (Value × List Int)} (h : Mine I w wk v L N Hs) (hb : Below wk.heap.size wk wn) : Mine I w wn v L N Hs := by
  obtain ⟨F, ha, ho, hf, hh⟩ := h
  exact ⟨F, I.keep ha hb.size fun k hk _ => hb.block k hk, ho.trans (hb.mono ho.size), hf, fun x hx => (hh x hx).below hb⟩
theorem Mine.fewer {I : Ring} {w wk : World} {v : Value} {L : List (List Int)} {N : Int} {Hs Hs' : List (Value × List Int)} (h : Mine I w wk v L N Hs) (hs : ∀ x ∈ Hs', x ∈ Hs) : Mine I w wk v L N Hs' := by
  obtain ⟨F, ha, ho, hf, hh⟩ := h
  exact ⟨F, ha, ho, hf, fun x hx => hh x (hs x hx)⟩
theorem Mine.rd {I : Ring} {w wk : World} {v : Value} {L : List (List Int)} {N : Int} {Hs : List (Value × List Int)} (h : Mine I w wk v L N Hs) {x : Value × List Int} (hx : x ∈ Hs) : Rd wk (fun _ => True) x.1 x.2 := by
  obtain ⟨F, ha, ho, hf, hh⟩ := h
  exact (hh x hx).mono fun _ _ _ => trivial
theorem mine_after {I : Ring} {w wk wn : World} {v : Value} {F : Nat → Prop} {L' : List (List Int)} {N : Int} {Hs : List (Value × List Int)} (ho : Below w.heap.size w wk) (hf : ∀ k, F k → w.heap.size ≤ k) (hh : ∀ h ∈ Hs, Rd wk (fun k => ¬ F k) h.1 h.2)
    (h : After I.A wk wn v F L' N) : Mine I w wn v L' N Hs := by
  obtain ⟨F', ha', hon, hF'⟩ := h
  refine ⟨F', ha', ?_, fun k hk => ?_, fun x hx => ?_⟩
  · exact ⟨hon.os.trans ho.os, hon.tape.trans ho.tape, hon.output.trans ho.output, Nat.le_trans ho.size hon.size, fun k hk => (hon.block k (Nat.lt_of_lt_of_le hk ho.size) (fun hF => by have := hf k hF; omega)).trans (ho.block k hk)⟩
  · rcases hF' k hk with h | h
    · exact hf k h
    · exact Nat.le_trans ho.size h
  · refine (Rd.keep (G := fun k => ¬ F k ∧ ¬ F' k) ((hh x hx).mono fun k hk hF => ⟨hF, fun h' => ?_⟩) hon.size fun k hk hF => hon.block k hk hF.1).mono fun _ _ h => h.2
    rcases hF' k h' with h | h
    · exact hF h
    · omega

section
variable {I} {w wk : World} {v : Value} {L : List (List Int)} {N : Int} {Hs : List (Value × List Int)}
theorem m_new (r n : Int) (w wk : World) (ho : Below w.heap.size w wk) (h1 : 1 ≤ r) (h2 : r ≤ 1000) (h3 : 1 ≤ n) (h4 : n ≤ 1000) {L' : List (List Int)} (hL : List.replicate r.toNat [] = L') :
    Calls Try.prog 7 #[.int .i64 r, .int .i64 n] wk fun e wn => ∃ v, e = .returned (.tuple #[v, .int .i64 0]) ∧ Mine I w wn v L' n [] := by
  subst hL
  refine (I.new_yes r n wk h1 h2 h3 h4).mono ?_
  rintro e wn ⟨v, F, rfl, ha, hb, hf⟩
  exact ⟨v, rfl, F, ha, ho.trans (hb.mono ho.size), fun k hk => Nat.le_trans ho.size (hf k hk), fun x hx => by cases hx⟩
theorem m_put (h : Mine I w wk v L N Hs) (r x : Int) (hr : In64 r) (hx : In64 x) {E : Int} {L' : List (List Int)} (hE : putE L N r x = E) (hL : putL L N r x false = L') :
    Calls Try.prog 12 #[v, .int .i64 r, .int .i64 x] wk fun e wn => e = .returned (.int .i64 E) ∧ Mine I w wn v L' N Hs := by
  obtain ⟨F, ha, ho, hf, hh⟩ := h
  subst hE hL
  exact (I.put ha r x hr hx).mono fun _ _ k => ⟨k.1, mine_after ho hf hh k.2⟩
theorem m_push (h : Mine I w wk v L N Hs) (r x : Int) (hr : In64 r) (hx : In64 x) {E : Int} {L' : List (List Int)} (hE : putE L N r x = E) (hL : putL L N r x true = L') :
    Calls Try.prog 18 #[v, .int .i64 r, .int .i64 x] wk fun e wn => e = .returned (.int .i64 E) ∧ Mine I w wn v L' N Hs := by
  obtain ⟨F, ha, ho, hf, hh⟩ := h
  subst hE hL
  exact (I.push ha r x hr hx).mono fun _ _ k => ⟨k.1, mine_after ho hf hh k.2⟩
theorem m_take (h : Mine I w wk v L N Hs) (r : Int) (hr : In64 r) {E : Int} {B : Bool} {L' : List (List Int)} (hE : firstL L r = E) (hB : decide (0 ≤ inL L (firstL L r)) = B) (hL : dropL L (firstL L r) = L') :
    Calls Try.prog 14 #[v, .int .i64 r] wk fun e wn => e = .returned (.tuple #[.int .i64 E, .bool B]) ∧ Mine I w wn v L' N Hs := by
  obtain ⟨F, ha, ho, hf, hh⟩ := h
  subst hE hB hL
  exact (I.take ha r hr).mono fun _ _ k => ⟨k.1, mine_after ho hf hh k.2⟩
theorem m_drop (h : Mine I w wk v L N Hs) (x : Int) (hx : In64 x) {B : Bool} {L' : List (List Int)} (hB : decide (0 ≤ inL L x) = B) (hL : dropL L x = L') :
    Calls Try.prog 13 #[v, .int .i64 x] wk fun e wn => e = .returned (.bool B) ∧ Mine I w wn v L' N Hs := by
  obtain ⟨F, ha, ho, hf, hh⟩ := h
  subst hB hL
  exact (I.drop ha x hx).mono fun _ _ k => ⟨k.1, mine_after ho hf hh k.2⟩
theorem m_move (h : Mine I w wk v L N Hs) (a b : Int) (hr : In64 a) (hx : In64 b) {E : Int} {L' : List (List Int)} (hE : moveE L a b = E) (hL : moveL L a b = L') :
    Calls Try.prog 19 #[v, .int .i64 a, .int .i64 b] wk fun e wn => e = .returned (.int .i64 E) ∧ Mine I w wn v L' N Hs := by
  obtain ⟨F, ha, ho, hf, hh⟩ := h
  subst hE hL
  exact (I.move ha a b hr hx).mono fun _ _ k => ⟨k.1, mine_after ho hf hh k.2⟩
theorem m_in (h : Mine I w wk v L N Hs) (x : Int) (hx : In64 x) {E : Int} (hE : inL L x = E) :
    Calls Try.prog 17 #[v, .int .i64 x] wk fun e wn => e = .returned (.int .i64 E) ∧ Mine I w wn v L N Hs := by
  have h' := h
  obtain ⟨F, ha, ho, hf, hh⟩ := h
  subst hE
  refine (I.isIn ha x hx).mono ?_
  rintro e wn ⟨rfl, m, rfl⟩
  exact ⟨rfl, h'.next (below_drewN (Below.refl _ _) m)⟩
theorem m_first (h : Mine I w wk v L N Hs) (r : Int) (hr : In64 r) {E : Int} (hE : firstL L r = E) :
    Calls Try.prog 21 #[v, .int .i64 r] wk fun e wn => e = .returned (.int .i64 E) ∧ Mine I w wn v L N Hs := by
  have h' := h
  obtain ⟨F, ha, ho, hf, hh⟩ := h
  subst hE
  exact (I.first ha r hr).mono fun _ _ k => ⟨k.1, h'.next k.2⟩
theorem m_len (h : Mine I w wk v L N Hs) (r : Int) (hr : In64 r) {E : Int} (hE : ((listL L r).length : Int) = E) :
    Calls Try.prog 15 #[v, .int .i64 r] wk fun e wn => e = .returned (.int .i64 E) ∧ Mine I w wn v L N Hs := by
  have h' := h
  obtain ⟨F, ha, ho, hf, hh⟩ := h
  subst hE
  exact (I.len ha r hr).mono fun _ _ k => ⟨k.1, h'.next k.2⟩
theorem m_list (h : Mine I w wk v L N Hs) (r : Int) (hr : In64 r) {l : List Int} (hE : listL L r = l) :
    Calls Try.prog 16 #[v, .int .i64 r] wk fun e wn => ∃ A c, e = .returned (.slice A l.length c) ∧ Mine I w wn v L N ((.slice A l.length c, l) :: Hs) := by
  have h' := h
  obtain ⟨F, ha, ho, hf, hh⟩ := h
  subst hE
  refine (I.list ha r hr).mono ?_
  rintro e wn ⟨u, rfl, hu, hb⟩
  have hu' := hu
  obtain ⟨A, c, rfl, _⟩ := hu
  refine ⟨A, c, rfl, F, I.keep ha hb.size fun k hk _ => hb.block k hk, ho.trans (hb.mono ho.size), hf, fun x hx => ?_⟩
  rcases List.mem_cons.1 hx with rfl | hx
  · exact hu'
  · exact (hh x hx).below hb
theorem m_rows (h : Mine I w wk v L N Hs) {E : Int} (hE : (L.length : Int) = E) :
    Calls Try.prog 22 #[v] wk fun e wn => e = .returned (.int .i64 E) ∧ wk = wn := by
  obtain ⟨F, ha, ho, hf, hh⟩ := h
  subst hE
  exact I.rows ha
theorem m_nodes (h : Mine I w wk v L N Hs) {E : Int} (hE : N = E) :
    Calls Try.prog 23 #[v] wk fun e wn => e = .returned (.int .i64 E) ∧ wk = wn := by
  obtain ⟨F, ha, ho, hf, hh⟩ := h
  subst hE
  exact I.nodes ha
end

theorem lit2 (w : World) (e : TypeId) (x y : Int) : Rd (w.alloc (.cells #[.int .i64 x, .int .i64 y] e)) (fun _ => True) (.slice (some ⟨w.heap.size, 0, none⟩) 2 2) [x, y] :=
  Own.rd (base := 0) (e := e) (World.ownsRow_lit w #[.int .i64 x, .int .i64 y] 2 (Nat.zero_le _) (by simp [maxLen]) (by simp)) (by simp) fun _ _ => trivial

set_option maxHeartbeats 2000000 in
set_option maxRecDepth 100000 in
theorem awake_any (I : Ring) (w : World) : Calls Try.prog 6 #[] w fun e w' => e = .returned (.bool true) ∧ Below w.heap.size w w' := by
  go_enter Try.func6, Try.ntmps6
  go_wp2_with fail
  refine (m_new (I := I) 2 5 w w (Below.refl _ _) (by omega) (by omega) (by omega) (by omega) (L' := [[], []]) rfl).mono ?_
  rintro e w1 ⟨v, rfl, hm1⟩
  obtain ⟨pa, rfl⟩ := hm1.ptr
  have M1 := Lib.hid hm1
  clear hm1
  go_wp2_with fail
  refine (I.new_no 0 5 w1 ⟨by omega, by omega⟩ ⟨by omega, by omega⟩ (by omega)).mono ?_
  rintro e w2 ⟨rfl, hb2⟩
  have M2 := Lib.hid (M1.out.next hb2)
  clear hb2 M1
  go_wp2_with fail
  refine (m_put M2.out 0 3 ⟨by omega, by omega⟩ ⟨by omega, by omega⟩ (E := 0) (L' := [[3], []]) (by decide) (by decide)).mono ?_
  rintro e w3 ⟨rfl, hm⟩
  have M3 := Lib.hid hm
  clear hm M2
  go_wp2_with fail
  refine (m_put M3.out 0 1 ⟨by omega, by omega⟩ ⟨by omega, by omega⟩ (E := 0) (L' := [[3, 1], []]) (by decide) (by decide)).mono ?_
  rintro e w4 ⟨rfl, hm⟩
  have M4 := Lib.hid hm
  clear hm M3
  go_wp2_with fail
  refine (m_put M4.out 0 2 ⟨by omega, by omega⟩ ⟨by omega, by omega⟩ (E := 0) (L' := [[3, 1, 2], []]) (by decide) (by decide)).mono ?_
  rintro e w5 ⟨rfl, hm⟩
  have M5 := Lib.hid hm
  clear hm M4
  go_wp2_with fail
  refine (m_put M5.out 1 2 ⟨by omega, by omega⟩ ⟨by omega, by omega⟩ (E := 6) (L' := [[3, 1, 2], []]) (by decide) (by decide)).mono ?_
  rintro e w6 ⟨rfl, hm⟩
  have M6 := Lib.hid hm
  clear hm M5
  go_wp2_with fail
  refine (m_drop M6.out 1 ⟨by omega, by omega⟩ (B := true) (L' := [[3, 2], []]) (by decide) (by decide)).mono ?_
  rintro e w7 ⟨rfl, hm⟩
  have M7 := Lib.hid hm
  clear hm M6
  go_wp2_with fail
  refine (m_list M7.out 0 ⟨by omega, by omega⟩ (l := [3, 2]) (by decide)).mono ?_
  rintro e w8 ⟨A1, c1, rfl, hm⟩
  have M8 := Lib.hid hm
  clear hm M7
  go_wp2_with fail
  refine (m_push M8.out 1 4 ⟨by omega, by omega⟩ ⟨by omega, by omega⟩ (E := 0) (L' := [[3, 2], [4]]) (by decide) (by decide)).mono ?_
  rintro e w9 ⟨rfl, hm⟩
  have M9 := Lib.hid hm
  clear hm M8
  go_wp2_with fail
  refine (m_move M9.out 0 1 ⟨by omega, by omega⟩ ⟨by omega, by omega⟩ (E := 0) (L' := [[], [4, 3, 2]]) (by decide) (by decide)).mono ?_
  rintro e w10 ⟨rfl, hm⟩
  have M10 := Lib.hid hm
  clear hm M9
  go_wp2_with fail
  refine (m_take M10.out 1 ⟨by omega, by omega⟩ (E := 4) (B := true) (L' := [[], [3, 2]]) (by decide) (by decide) (by decide)).mono ?_
  rintro e w11 ⟨rfl, hm⟩
  have M11 := Lib.hid hm
  clear hm M10
  go_wp2_with fail
  have N1 := Lib.hid (M11.out.next ((Below.refl _ _).alloc (Nat.le_refl _) (.cells #[.int .i64 3, .int .i64 2] 3)))
  refine (same_any (N1.out.rd (List.mem_cons_self ..)) (lit2 w11 3 3 2)).mono ?_
  rintro e wd ⟨rfl, n1, rfl⟩
  have M20 := Lib.hid (N1.out.next (below_drewN (Below.refl _ _) n1))
  clear N1 M11
  rw [show decide ([(3 : Int), 2] = [3, 2]) = true from by decide]
  go_wp2_with fail
  refine (m_list M20.out 1 ⟨by omega, by omega⟩ (l := [3, 2]) (by decide)).mono ?_
  rintro e w21 ⟨A2, c2, rfl, hm⟩
  have M21 := Lib.hid hm
  clear hm M20
  go_wp2_with fail
  have N2 := Lib.hid (M21.out.next ((Below.refl _ _).alloc (Nat.le_refl _) (.cells #[.int .i64 3, .int .i64 2] 3)))
  refine (same_any (N2.out.rd (List.mem_cons_self ..)) (lit2 w21 3 3 2)).mono ?_
  rintro e we ⟨rfl, n2, rfl⟩
  have M22 := Lib.hid (N2.out.next (below_drewN (Below.refl _ _) n2))
  clear N2 M21
  rw [show decide ([(3 : Int), 2] = [3, 2]) = true from by decide]
  go_wp2_with fail
  refine (m_len M22.out 0 ⟨by omega, by omega⟩ (E := 0) (by decide)).mono ?_
  rintro e w23 ⟨rfl, hm⟩
  have M23 := Lib.hid hm
  clear hm M22
  go_wp2_with fail
  refine (m_first M23.out 0 ⟨by omega, by omega⟩ (E := -1) (by decide)).mono ?_
  rintro e w24 ⟨rfl, hm⟩
  have M24 := Lib.hid hm
  clear hm M23
  go_wp2_with fail
  refine (m_first M24.out 1 ⟨by omega, by omega⟩ (E := 3) (by decide)).mono ?_
  rintro e w25 ⟨rfl, hm⟩
  have M25 := Lib.hid hm
  clear hm M24
  go_wp2_with fail
  refine (m_in M25.out 3 ⟨by omega, by omega⟩ (E := 1) (by decide)).mono ?_
  rintro e w26 ⟨rfl, hm⟩
  have M26 := Lib.hid hm
  clear hm M25
  go_wp2_with fail
  refine (m_in M26.out 1 ⟨by omega, by omega⟩ (E := -1) (by decide)).mono ?_
  rintro e w27 ⟨rfl, hm⟩
  have M27 := Lib.hid hm
  clear hm M26
  go_wp2_with fail
  refine (m_rows M27.out (E := 2) (by decide)).mono ?_
  rintro e w28 ⟨rfl, rfl⟩
  go_wp2_with fail
  refine (m_nodes M27.out (E := 5) (by decide)).mono ?_
  rintro e w28 ⟨rfl, rfl⟩
  go_wp2_with fail
  refine (m_put M27.out 2 0 ⟨by omega, by omega⟩ ⟨by omega, by omega⟩ (E := 3) (L' := [[], [3, 2]]) (by decide) (by decide)).mono ?_
  rintro e w28 ⟨rfl, hm⟩
  have M28 := Lib.hid hm
  clear hm M27
  go_wp2
  go_ret
  exact ⟨rfl, M28.out.old⟩
end Go.Proofs.Ytaoagoklgjcdcaa.RingI
