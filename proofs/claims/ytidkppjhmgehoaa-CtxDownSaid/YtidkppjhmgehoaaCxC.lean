/-
  Contracts of the functions of package ctx, as it landed, third part: those that go through lists. Condition: the arena is as 'Sees' says.
-/
import Derived.Test.YtidkppjhmgehoaaCxB
namespace Go.Proofs.Ytidkppjhmgehoaa.CxC
open Go.ChangeShapes Go.WideShapes Go.ChangeAt Go.RowKit Mem TreeP CtxP Hand TreeC CtxI

/-- The least of them; Forever, of none. -/
def leastL (l : List Int) : Int := l.foldl (fun a b => if b < a then b else a) 9223372036854775807
theorem least_snoc (l : List Int) (b : Int) : leastL (l ++ [b]) = if b < leastL l then b else leastL l := by unfold leastL; rw [List.foldl_append]; rfl

set_option maxRecDepth 100000 in
theorem least_c {w : World} {G : Nat → Prop} {v : Value} {l : List Int} (h : Rd w G v l) : Calls Try.prog 39 #[v] w fun e w' => e = .returned (.int .i64 (leastL l)) ∧ w = w' := by
  obtain ⟨A, c, rfl, hm, hx⟩ := h
  have HX := Lib.hid hx
  clear hx
  go_enter Try.func39, Try.ntmps39
  go_wp2
  go_loopw [3, 8] (fun s t wr => ∃ i : Nat, i ≤ l.length ∧ t = .int .i64 i ∧ s = .int .i64 (leastL (l.take i)) ∧ wr = w) (fun _ t _ => l.length - (intOf t).toNat)
  case atStart => exact ⟨0, Nat.zero_le _, rfl, rfl, rfl⟩
  case round =>
    obtain ⟨i, hi, rfl, rfl, rfl⟩ := hrel
    by_cases hlt : i < l.length
    · obtain ⟨b, off, rfl, _, _, hc⟩ := HX.out (by omega)
      have q0 := hc i hlt
      have hg : l[i]? = some (l.getD i 0) := by rw [List.getD_eq_getElem?_getD, List.getElem?_eq_getElem hlt]; rfl
      have HS : Hid (leastL (l.take (i + 1)) = if l.getD i 0 < leastL (l.take i) then l.getD i 0 else leastL (l.take i)) := by show _ = _; rw [List.take_add_one, hg]; exact least_snoc _ _
      have i0 : (0 : Int) ≤ (i : Int) := by omega
      have i1 : (i : Int) < (l.length : Int) := by omega
      generalize leastL (l.take i) = a at *
      generalize l.getD i 0 = x at *
      clear hc hg
      by_cases hx : x < a
      · have HS2 : Hid (leastL (l.take (i + 1)) = x) := by show _ = _; rw [HS.out, if_pos hx]
        clear HS
        go_wp2
        go_roundw
        case rel => exact ⟨i + 1, by omega, by go_num, by rw [HS2.out], trivial⟩
        case measure => simp [intOf]; omega
      · have HS2 : Hid (leastL (l.take (i + 1)) = a) := by show _ = _; rw [HS.out, if_neg hx]
        clear HS
        go_wp2
        go_roundw
        case rel => exact ⟨i + 1, by omega, by go_num, by rw [HS2.out], trivial⟩
        case measure => simp [intOf]; omega
    · have HE : Hid (l.take i = l) := List.take_of_length_le (by omega)
      go_wp2
      go_ret
      exact ⟨ret_int (by rw [HE.out]), rfl⟩

theorem own_new {w wk : World} {e : TypeId} {v : Value} {l : List Int} (h : Sep (fun _ => False) w wk [grow intE e v l]) : OwnL intE wk w.heap.size e v l := by
  obtain ⟨F, ⟨ho, hF⟩, hF2, _⟩ := h.upd 0 rfl
  refine ⟨ho.1, ?_⟩
  rcases ho.2 with h0 | ⟨g, cap, cur, rfl, hb, rest⟩
  · exact .inl h0
  · refine .inr ⟨g, cap, cur, rfl, ?_, rest⟩
    rcases hF2 g (by rw [hF]; rfl) with h | h
    · exact h.elim
    · exact h

/-- Those that aren't done, of the first m. -/
def undTo (X : List Cn) : Nat → List Int
  | 0 => []
  | m + 1 => undTo X m ++ if (cn X (m : Nat)).e = 0 then [(m : Int)] else []
theorem undTo_len (X : List Cn) : ∀ m, (undTo X m).length ≤ m
  | 0 => Nat.le_refl _
  | m + 1 => by
    have := undTo_len X m
    rw [undTo, List.length_append]
    split <;> simp <;> omega

set_option maxRecDepth 100000 in
set_option maxHeartbeats 1000000 in
theorem undone_c {w : World} {p : Nat} {T : List Nd} {X : List Cn} {M : Int} {q : Nat} {A : Option Addr} {c : Nat} {G : Nat → Prop} (h : Sees w p T X M q A c G) :
    Calls Try.prog 41 #[.pointer (some ⟨p, 0, none⟩)] w fun e w' => ∃ u, e = .returned u ∧ New w w' u (undTo X X.length) := by
  have hm := small h
  have k1 := h.c1
  have H := Lib.hid h
  have S0 : Hid (Sep (fun _ => False) w w [grow intE 3 (.slice none 0 0) []]) := (Sep.nil (fun _ => False) w).add (Below.refl _ _) (R := grow intE 3 (.slice none 0 0) []) (F := fun _ => False) ⟨OwnL.none_ _ _ _, by funext k; simp [Value.ownBlock]⟩ fun _ h => h.elim
  have HDC := Lib.hid (done_c)
  clear h
  go_enter Try.func41, Try.ntmps41
  go_wp2
  go_loopw [3, 11] (fun v t wr => ∃ i : Nat, i ≤ X.length ∧ t = .int .i64 i ∧ Hid (∃ A c, v = .slice A (undTo X i).length c ∧ Sep (fun _ => False) w wr [grow intE 3 (.slice A (undTo X i).length c) (undTo X i)])) (fun _ t _ => X.length - (intOf t).toNat)
  case atStart => exact ⟨0, Nat.zero_le _, rfl, none, 0, rfl, S0.out⟩
  case round =>
    obtain ⟨i, hi, rfl, HS⟩ := hrel
    obtain ⟨A1, c1, rfl, hs⟩ := HS.out
    have S1 := Lib.hid hs
    have hul := undTo_len X i
    clear HS S0 hs
    by_cases hlt : i < X.length
    · have hw := H.out.below S1.out.old
      obtain ⟨bb, off, rfl, _, hbl, d0, d1, d2, d3, d4, d5, d6, d7, d8⟩ := x_cells hw.rd (cn_at hlt)
      have HU : Hid (undTo X (i + 1) = undTo X i ++ if (cn X (i : Nat)).e = 0 then [(i : Int)] else []) := rfl
      have i0 : (0 : Int) ≤ (i : Int) := by omega
      have i1 : (i : Int) < (X.length : Int) := by omega
      generalize cn X (i : Nat) = x at *
      generalize lateE x = le at *
      generalize lateZ x = lz at *
      clear hw k1
      have S2 := Lib.hid (S1.out.next (new_below0 wr (.cells #[.bool x.has, .int .i64 x.at_, .int .i64 le, .int .i64 lz, .bool x.named, .int .i64 x.key, .int .i64 x.value, .int .i64 x.e, .int .i64 x.cause] 76)))
      unfold endV at HDC
      go_wp2_with fail
      refine (HDC.out x.e x.cause _).mono ?_
      rintro e w2 ⟨rfl, hb⟩
      have S3 := Lib.hid (S2.out.next hb)
      clear hb S2 S1
      by_cases h0 : x.e = 0
      · have hd : decide (x.e ≠ 0) = false := by simpa using h0
        have HU2 : Hid (undTo X (i + 1) = undTo X i ++ [(i : Int)]) := by show _ = _; rw [HU.out, if_pos h0]
        have HX1 : Hid (RdL intE (w2.alloc (.cells #[.int .i64 (i : Int)] 3)) (fun _ => True) (.slice (some ⟨w2.heap.size, 0, none⟩) 1 1) [(i : Int)]) :=
          RdL.lit1 (E := intE) w2 3 (i : Int) (cs := #[.int .i64 (i : Int)]) rfl (fun _ => True) trivial
        generalize decide (x.e ≠ 0) = dd at *
        subst hd
        clear HU h0
        go_wp2_with (at_builtin; refine wpList_appS rfl _ _ intElemL rfl rfl rfl (S3.out.next (new_below0 _ _)) 0 rfl HX1.out (by simp; omega) ?_; intro A3 c3 w5 l3 HL3 h3)
        have S4 := Lib.hid h3
        clear h3 S3 HX1
        go_wp2
        go_roundw
        case rel => exact ⟨i + 1, by omega, by go_num, by rw [HU2.out, ← HL3.out]; exact ⟨_, _, rfl, S4.out⟩⟩
        case measure => simp [intOf]; omega
      · have hd : decide (x.e ≠ 0) = true := by simpa using h0
        have HU2 : Hid (undTo X (i + 1) = undTo X i) := by show _ = _; rw [HU.out, if_neg h0, List.append_nil]
        generalize decide (x.e ≠ 0) = dd at *
        subst hd
        clear HU h0
        go_wp2
        go_roundw
        case rel => exact ⟨i + 1, by omega, by go_num, by rw [HU2.out]; exact ⟨_, _, rfl, S3.out⟩⟩
        case measure => simp [intOf]; omega
    · have hE : i = X.length := by omega
      go_wp2
      go_ret
      rw [← hE]
      exact ⟨_, rfl, _, _, rfl, own_new S1.out, S1.out.old⟩

/-- The deadlines of their own that those have. -/
def dlsL (X : List Cn) (l : List Int) : List Int := (l.filter fun k => (cn X k).has).map fun k => (cn X k).at_
theorem dls_snoc (X : List Cn) (l : List Int) (k : Int) : dlsL X (l ++ [k]) = dlsL X l ++ if (cn X k).has = true then [(cn X k).at_] else [] := by
  unfold dlsL
  rw [List.filter_append, List.map_append]
  by_cases h : (cn X k).has = true
  · simp [h]
  · simp [h]
theorem dls_len (X : List Cn) (l : List Int) : (dlsL X l).length ≤ l.length := by
  unfold dlsL
  rw [List.length_map]
  exact List.length_filter_le _ _
theorem intElem64 : Elem intE Try.prog 86 2 := elem_of (z := .int .i64 0) (bytes := 8) Try.underlying86 (by kernel_rfl) rfl (by omega)

set_option maxRecDepth 100000 in
set_option maxHeartbeats 1000000 in
theorem deadlines_c {w : World} {p : Nat} {T : List Nd} {X : List Cn} {M : Int} {q : Nat} {A : Option Addr} {c : Nat} {G : Nat → Prop} (h : Sees w p T X M q A c G) {GL : Nat → Prop} {v : Value} {l : List Int} (hv : Rd w GL v l) (hth : ∀ k ∈ l, there T k = true) :
    Calls Try.prog 40 #[.pointer (some ⟨p, 0, none⟩), v] w fun e w' => ∃ A c, e = .returned (.slice A (dlsL X l).length c) ∧ Rd w' (fun k => w.heap.size ≤ k) (.slice A (dlsL X l).length c) (dlsL X l) ∧ Below w.heap.size w w' := by
  have hm := small h
  have H := Lib.hid h
  have HTH := Lib.hid hth
  have hlen := h.len
  obtain ⟨Av, cv, rfl, hlm, hx⟩ := hv
  have HX := Lib.hid hx
  have S0 : Hid (Sep (fun _ => False) w w [grow intE 2 (.slice none 0 0) []]) := (Sep.nil (fun _ => False) w).add (Below.refl _ _) (R := grow intE 2 (.slice none 0 0) []) (F := fun _ => False) ⟨OwnL.none_ _ _ _, by funext k; simp [Value.ownBlock]⟩ fun _ h => h.elim
  clear h hth hx
  go_enter Try.func40, Try.ntmps40
  go_wp2
  go_loopw [5, 11] (fun v t wr => ∃ i : Nat, i ≤ l.length ∧ t = .int .i64 i ∧ Hid (∃ A c, v = .slice A (dlsL X (l.take i)).length c ∧ Sep (fun _ => False) w wr [grow intE 2 (.slice A (dlsL X (l.take i)).length c) (dlsL X (l.take i))])) (fun _ t _ => l.length - (intOf t).toNat)
  case atStart => exact ⟨0, Nat.zero_le _, rfl, none, 0, rfl, S0.out⟩
  case round =>
    obtain ⟨i, hi, rfl, HS⟩ := hrel
    obtain ⟨A1, c1, rfl, hs⟩ := HS.out
    have S1 := Lib.hid hs
    have hul : (dlsL X (l.take i)).length ≤ i := Nat.le_trans (dls_len X _) (List.length_take_le _ _)
    clear HS S0 hs
    by_cases hlt : i < l.length
    · obtain ⟨b1, o1, rfl, _, hbl1, hc⟩ := HX.out (by omega)
      have q0 := (S1.out.old.cell (p := ⟨b1, o1 + i, none⟩) hbl1).trans (hc i hlt)
      have hg : l[i]? = some (l.getD i 0) := by rw [List.getD_eq_getElem?_getD, List.getElem?_eq_getElem hlt]; rfl
      have hk := HTH.out _ (List.mem_of_getElem? hg)
      have HU : Hid (dlsL X (l.take (i + 1)) = dlsL X (l.take i) ++ if (cn X (l.getD i 0)).has = true then [(cn X (l.getD i 0)).at_] else []) := by show _ = _; rw [List.take_add_one, hg]; exact dls_snoc X _ _
      obtain ⟨j, hj, hjl⟩ := there_nat hk
      rw [hj] at q0 HU
      have hw := H.out.below S1.out.old
      have k1 := hw.c1
      have hjX : j < X.length := by omega
      obtain ⟨bb, off, rfl, _, hbl, d0, d1, d2, d3, d4, d5, d6, d7, d8⟩ := x_cells hw.rd (cn_at hjX)
      have i0 : (0 : Int) ≤ (i : Int) := by omega
      have i1 : (i : Int) < (l.length : Int) := by omega
      have j0 : (0 : Int) ≤ (j : Int) := by omega
      have j1 : (j : Int) < (X.length : Int) := by omega
      generalize cn X (j : Nat) = x at *
      generalize lateE x = le at *
      generalize lateZ x = lz at *
      clear hw hc hg hk hj
      have S2 := Lib.hid (S1.out.next (new_below0 wr (.cells #[.bool x.has, .int .i64 x.at_, .int .i64 le, .int .i64 lz, .bool x.named, .int .i64 x.key, .int .i64 x.value, .int .i64 x.e, .int .i64 x.cause] 76)))
      rcases hh : x.has with _ | _
      · have HU2 : Hid (dlsL X (l.take (i + 1)) = dlsL X (l.take i)) := by show _ = _; rw [HU.out, if_neg (by rw [hh]; simp), List.append_nil]
        rw [hh] at d0 S2
        clear hh HU S1
        go_wp2
        go_roundw
        case rel => exact ⟨i + 1, by omega, by go_num, by rw [HU2.out]; exact ⟨_, _, rfl, S2.out⟩⟩
        case measure => simp [intOf]; omega
      · have HU2 : Hid (dlsL X (l.take (i + 1)) = dlsL X (l.take i) ++ [x.at_]) := by show _ = _; rw [HU.out, if_pos hh]
        rw [hh] at d0 S2
        clear hh HU S1
        generalize hw2 : (wr.alloc (.cells #[.bool true, .int .i64 x.at_, .int .i64 le, .int .i64 lz, .bool x.named, .int .i64 x.key, .int .i64 x.value, .int .i64 x.e, .int .i64 x.cause] 76)) = w2 at *
        have HX1 : Hid (RdL intE (w2.alloc (.cells #[.int .i64 x.at_] 2)) (fun _ => True) (.slice (some ⟨w2.heap.size, 0, none⟩) 1 1) [x.at_]) :=
          RdL.lit1 (E := intE) w2 2 x.at_ (cs := #[.int .i64 x.at_]) rfl (fun _ => True) trivial
        have HX2 : Hid (Sep (fun _ => False) w (w2.alloc (.cells #[.int .i64 x.at_] 2)) [grow intE 2 (.slice A1 (dlsL X (l.take i)).length c1) (dlsL X (l.take i))]) := S2.out.next (new_below0 _ _)
        have hsz : w2.heap.size = wr.heap.size + 1 := by rw [← hw2]; simp
        rw [hsz] at HX1
        rw [← hw2] at HX1 HX2
        clear hw2 hsz S2
        go_wp2_with (at_builtin; refine wpList_appS rfl _ _ intElem64 rfl rfl rfl HX2.out 0 rfl HX1.out (by simp; omega) ?_; intro A3 c3 w5 l3 HL3 h3)
        have S4 := Lib.hid h3
        clear h3 HX1 HX2
        go_wp2
        go_roundw
        case rel => exact ⟨i + 1, by omega, by go_num, by rw [HU2.out, ← HL3.out]; exact ⟨_, _, rfl, S4.out⟩⟩
        case measure => simp [intOf]; omega
    · have hE : l.take i = l := List.take_of_length_le (by omega)
      have hs := S1.out
      rw [hE] at hs
      have S9 := Lib.hid hs
      clear hs S1
      go_wp2
      go_ret
      rw [hE]
      have ho := S9.out.own 0 rfl
      obtain ⟨F, ⟨_, hF⟩, hF2, _⟩ := S9.out.upd 0 rfl
      refine ⟨_, _, rfl, rd_of (ho.rd (by have := dls_len X l; omega) fun k hk => ?_), S9.out.old⟩
      rcases hF2 k (by rw [hF]; exact hk) with h | h
      · exact h.elim
      · exact h
end Go.Proofs.Ytidkppjhmgehoaa.CxC
