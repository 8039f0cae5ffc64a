/-
  Contracts of the functions of package countermandref18 (the document's answer for layer 18), sixth part: lists of tasks of a table that is only seen; Begin as one. Condition: what the table's cells are.
-/
import Derived.Test.YthdipkdolgcmgaaRefTaskE
namespace Go.Proofs.Ythdipkdolgcmgaa.RefTask
open Go.ChangeShapes Go.WideShapes Go.ChangeAt Go.RowKit Mem MutP TaskP Hand

/-- A table of the document's that can be read. -/
structure Seen (wk : World) (p : Nat) (A : Option Addr) (c : Nat) (L : List Tk) : Prop where
  k0 : wk.cell? ⟨p, 0, none⟩ = some (.slice A L.length c)
  rd : RdL tkE wk (fun _ => True) (.slice A L.length c) L
  len : L.length ≤ 200
  lt : p < wk.heap.size
section
variable {B : Nat → Prop} {w wk wn : World} {Rs : List Res} {p : Nat} {L : List Tk} {N : Int}
theorem Seen.below {A : Option Addr} {c : Nat} (h : Seen wk p A c L) (hb : Below wk.heap.size wk wn) : Seen wn p A c L :=
  ⟨(hb.cell (p := ⟨p, 0, none⟩) h.lt).trans h.k0, h.rd.below hb, h.len, Nat.lt_of_lt_of_le h.lt hb.size⟩
theorem rt_seen (h : Sep B w wk (rt p L N :: Rs)) : ∃ A c, Seen wk p A c L := by
  obtain ⟨A, c, k0, _, hr, hl, hpl⟩ := rt_sees h
  exact ⟨A, c, k0, hr, hl, hpl⟩
set_option maxRecDepth 100000 in
theorem in_seen {A : Option Addr} {c : Nat} (h : Seen wk p A c L) (s : Int) :
    Calls Try.prog 19 #[.pointer (some ⟨p, 0, none⟩), .int .i64 s] wk fun e wn => ∃ A c, e = .returned (.slice A (inS L s).length c) ∧ Sep (fun _ => False) wk wn (grow intE 3 (.slice A (inS L s).length c) (inS L s) :: []) := by
  have hm : L.length ≤ 200 := h.len
  have HSEE := Lib.hid h
  have S0 : Hid (Sep (fun _ => False) wk (wk.alloc (.cells #[] 3)) (grow intE 3 (.slice (some ⟨wk.heap.size, 0, none⟩) 0 0) [] :: [])) := (Sep.nil (fun _ => False) wk).grow0 intE 3
  clear h
  go_enter Try.func19, Try.ntmps19
  go_wp2
  go_loopw [5, 6] (fun o u wr => ∃ i : Nat, i ≤ L.length ∧ u = .int .i64 i ∧ Hid (∃ A c, o = .slice A (pick (inP s) L i).length c ∧ Sep (fun _ => False) wk wr (grow intE 3 (.slice A (pick (inP s) L i).length c) (pick (inP s) L i) :: []))) (fun _ u _ => L.length - (intOf u).toNat)
  case atStart => exact ⟨0, Nat.zero_le _, rfl, _, _, rfl, S0.out⟩
  case round =>
    obtain ⟨i, hi, rfl, HS⟩ := hrel
    obtain ⟨A1, c1, rfl, hs⟩ := HS.out
    have S1 := Lib.hid hs
    have hul := pick_len (inP s) L i
    obtain ⟨k0, hr, _, hpl⟩ := HSEE.out.below hs.old
    have HR := Lib.hid hr
    clear HS S0 hs hr
    by_cases hlt : i < L.length
    · have hk := List.getElem?_eq_getElem hlt
      generalize L[i] = t at *
      have HP := Lib.hid (pick_succ (p := inP s) hk)
      obtain ⟨bb, off, rfl, hbl, c0, _⟩ := tk_cells HR.out hk
      have i0 : (0 : Int) ≤ (i : Int) := by omega
      have i1 : (i : Int) < (L.length : Int) := by omega
      clear HR hk
      by_cases hx : get t 0 = s
      · have HU : Hid (pick (inP s) L (i + 1) = pick (inP s) L i ++ [(i : Int)]) := by show _ = _; rw [HP.out, if_pos (by unfold inP; exact decide_eq_true hx)]
        have HX1 : Hid (RdL intE (wr.alloc (.cells #[.int .i64 (i : Int)] 3)) (fun _ => True) (.slice (some ⟨wr.heap.size, 0, none⟩) 1 1) [(i : Int)]) := RdL.lit1 (E := intE) wr 3 (i : Int) (cs := #[.int .i64 (i : Int)]) rfl (fun _ => True) trivial
        rw [hx] at c0
        clear hx HP
        go_wp2_with (at_builtin; refine wpList_appS rfl _ _ intElemL rfl rfl rfl (S1.out.next (new_below0 _ _)) 0 rfl HX1.out (by simp; omega) ?_; intro A3 c3 w5 l3 HL3 h3)
        have S4 := Lib.hid h3
        clear h3 S1 HX1
        go_wp2
        go_roundw
        case rel => exact ⟨i + 1, by omega, by go_num, by rw [HU.out, ← HL3.out]; exact ⟨_, _, rfl, S4.out⟩⟩
        case measure => simp [intOf]; omega
      · have HU : Hid (pick (inP s) L (i + 1) = pick (inP s) L i) := by show _ = _; rw [HP.out, if_neg (by unfold inP; simp [hx])]
        generalize get t 0 = g at *
        have e1 : (g == s) = false := by simpa using hx
        clear hx HP
        go_wp2
        go_roundw
        case rel => exact ⟨i + 1, by omega, by go_num, by rw [HU.out]; exact ⟨_, _, rfl, S1.out⟩⟩
        case measure => simp [intOf]; omega
    · obtain rfl : i = L.length := by omega
      clear HR
      go_wp2
      go_ret
      exact ⟨_, _, rfl, S1.out⟩
set_option maxRecDepth 100000 in
theorem under_seen {A : Option Addr} {c : Nat} (h : Seen wk p A c L) (s : Int) :
    Calls Try.prog 21 #[.pointer (some ⟨p, 0, none⟩), .int .i64 s] wk fun e wn => ∃ A c, e = .returned (.slice A (underS L s).length c) ∧ Sep (fun _ => False) wk wn (grow intE 3 (.slice A (underS L s).length c) (underS L s) :: []) := by
  have hm : L.length ≤ 200 := h.len
  have HSEE := Lib.hid h
  have S0 : Hid (Sep (fun _ => False) wk (wk.alloc (.cells #[] 3)) (grow intE 3 (.slice (some ⟨wk.heap.size, 0, none⟩) 0 0) [] :: [])) := (Sep.nil (fun _ => False) wk).grow0 intE 3
  clear h
  go_enter Try.func21, Try.ntmps21
  go_wp2
  go_loopw [5, 6] (fun o u wr => ∃ i : Nat, i ≤ L.length ∧ u = .int .i64 i ∧ Hid (∃ A c, o = .slice A (pick (underP s) L i).length c ∧ Sep (fun _ => False) wk wr (grow intE 3 (.slice A (pick (underP s) L i).length c) (pick (underP s) L i) :: []))) (fun _ u _ => L.length - (intOf u).toNat)
  case atStart => exact ⟨0, Nat.zero_le _, rfl, _, _, rfl, S0.out⟩
  case round =>
    obtain ⟨i, hi, rfl, HS⟩ := hrel
    obtain ⟨A1, c1, rfl, hs⟩ := HS.out
    have S1 := Lib.hid hs
    have hul := pick_len (underP s) L i
    obtain ⟨k0, hr, _, hpl⟩ := HSEE.out.below hs.old
    have HR := Lib.hid hr
    clear HS S0 hs hr
    by_cases hlt : i < L.length
    · have hk := List.getElem?_eq_getElem hlt
      generalize L[i] = t at *
      have HP := Lib.hid (pick_succ (p := underP s) hk)
      obtain ⟨bb, off, rfl, hbl, c0, hc⟩ := tk_cells HR.out hk
      have c12 := hc 12 (by omega)
      have i0 : (0 : Int) ≤ (i : Int) := by omega
      have i1 : (i : Int) < (L.length : Int) := by omega
      clear HR hk hc
      by_cases h0 : 0 ≤ s
      · by_cases h1 : get t 0 = 2
        · by_cases h2 : get t 12 = s
          · have HU : Hid (pick (underP s) L (i + 1) = pick (underP s) L i ++ [(i : Int)]) := by show _ = _; rw [HP.out, if_pos (by unfold underP; exact decide_eq_true ⟨h0, h1, h2⟩)]
            have HX1 : Hid (RdL intE (wr.alloc (.cells #[.int .i64 (i : Int)] 3)) (fun _ => True) (.slice (some ⟨wr.heap.size, 0, none⟩) 1 1) [(i : Int)]) := RdL.lit1 (E := intE) wr 3 (i : Int) (cs := #[.int .i64 (i : Int)]) rfl (fun _ => True) trivial
            rw [h1] at c0
            rw [h2] at c12
            clear h1 h2 HP
            go_wp2_with (at_builtin; refine wpList_appS rfl _ _ intElemL rfl rfl rfl (S1.out.next (new_below0 _ _)) 0 rfl HX1.out (by simp; omega) ?_; intro A3 c3 w5 l3 HL3 h3)
            have S4 := Lib.hid h3
            clear h3 S1 HX1
            go_wp2
            go_roundw
            case rel => exact ⟨i + 1, by omega, by go_num, by rw [HU.out, ← HL3.out]; exact ⟨_, _, rfl, S4.out⟩⟩
            case measure => simp [intOf]; omega
          · have HU : Hid (pick (underP s) L (i + 1) = pick (underP s) L i) := by show _ = _; rw [HP.out, if_neg (by unfold underP; simp [h2])]
            rw [h1] at c0
            generalize get t 12 = g at *
            have e1 : (g == s) = false := by simpa using h2
            clear h2 h1
            clear HP
            go_wp2
            go_roundw
            case rel => exact ⟨i + 1, by omega, by go_num, by rw [HU.out]; exact ⟨_, _, rfl, S1.out⟩⟩
            case measure => simp [intOf]; omega
        · have HU : Hid (pick (underP s) L (i + 1) = pick (underP s) L i) := by show _ = _; rw [HP.out, if_neg (by unfold underP; simp [h1])]
          clear c12
          generalize get t 0 = g at *
          have e1 : (g == 2) = false := by simpa using h1
          clear h1
          clear HP
          go_wp2
          go_roundw
          case rel => exact ⟨i + 1, by omega, by go_num, by rw [HU.out]; exact ⟨_, _, rfl, S1.out⟩⟩
          case measure => simp [intOf]; omega
      · have HU : Hid (pick (underP s) L (i + 1) = pick (underP s) L i) := by show _ = _; rw [HP.out, if_neg (by unfold underP; simp [h0])]
        clear HP
        go_wp2
        go_roundw
        case rel => exact ⟨i + 1, by omega, by go_num, by rw [HU.out]; exact ⟨_, _, rfl, S1.out⟩⟩
        case measure => simp [intOf]; omega
    · obtain rfl : i = L.length := by omega
      clear HR
      go_wp2
      go_ret
      exact ⟨_, _, rfl, S1.out⟩

/-- Begin, as one. -/
theorem begin_r (h : Sep B w wk (rt p L N :: Rs)) (g m : Int) {V E : Int} {L' : List Tk} (hV : beginV L N = V) (hE : beginE L N = E) (hL : beginL L N g m = L') :
    Calls Try.prog 10 #[.pointer (some ⟨p, 0, none⟩), .int .i64 g, .int .i64 m] wk fun e wn => e = .returned (.tuple #[.int .i64 V, .int .i64 E]) ∧ Sep B w wn (rt p L' N :: Rs) := by
  subst hV hE hL
  unfold beginV beginE beginL
  by_cases hN : (L.length : Int) < N
  · rw [show beginB L N = true from decide_eq_true hN]
    exact beginR h g m hN
  · rw [show beginB L N = false from decide_eq_false hN]
    refine (beginR_no h g m hN).mono ?_
    rintro e wn ⟨rfl, d, rfl⟩
    exact ⟨rfl, h.drewN d⟩
end
end Go.Proofs.Ythdipkdolgcmgaa.RefTask
