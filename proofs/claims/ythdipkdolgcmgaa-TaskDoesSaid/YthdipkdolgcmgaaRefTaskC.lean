/-
  Contracts of the functions of package countermandref18 (the document's answer for layer 18), third part: lists of tasks. Condition: the table is at hand.
-/
import Derived.Test.YthdipkdolgcmgaaRefTaskB
namespace Go.Proofs.Ythdipkdolgcmgaa.RefTask
open Go.ChangeShapes Go.WideShapes Go.ChangeAt Go.RowKit Mem MutP TaskP Hand

section
variable {B : Nat → Prop} {w wk : World} {Rs : List Res} {p : Nat} {L : List Tk} {N : Int}
set_option maxRecDepth 100000 in
theorem inR (h : Sep B w wk (rt p L N :: Rs)) (s : Int) :
    Calls Try.prog 19 #[.pointer (some ⟨p, 0, none⟩), .int .i64 s] wk fun e wn => ∃ A c, e = .returned (.slice A (inS L s).length c) ∧ Sep B w wn (grow intE 3 (.slice A (inS L s).length c) (inS L s) :: rt p L N :: Rs) := by
  have hm : L.length ≤ 200 := by have h1 := (rt_ok h).len; have h2 := (rt_ok h).n1; omega
  have S0 : Hid (Sep B w (wk.alloc (.cells #[] 3)) (grow intE 3 (.slice (some ⟨wk.heap.size, 0, none⟩) 0 0) [] :: rt p L N :: Rs)) := h.grow0 intE 3
  clear h
  go_enter Try.func19, Try.ntmps19
  go_wp2
  go_loopw [5, 6] (fun o u wr => ∃ i : Nat, i ≤ L.length ∧ u = .int .i64 i ∧ Hid (∃ A c, o = .slice A (pick (inP s) L i).length c ∧ Sep B w wr (grow intE 3 (.slice A (pick (inP s) L i).length c) (pick (inP s) L i) :: rt p L N :: Rs))) (fun _ u _ => L.length - (intOf u).toNat)
  case atStart => exact ⟨0, Nat.zero_le _, rfl, _, _, rfl, S0.out⟩
  case round =>
    obtain ⟨i, hi, rfl, HS⟩ := hrel
    obtain ⟨A1, c1, rfl, hs⟩ := HS.out
    have S1 := Lib.hid hs
    have hul := pick_len (inP s) L i
    obtain ⟨A, c, k0, _, hr, _, hpl⟩ := rt_sees hs.tail
    have HR := Lib.hid hr
    clear HS S0 hs hr
    by_cases hlt : i < L.length
    · have hk := List.getElem?_eq_getElem hlt
      generalize L[i] = t at *
      have HP := Lib.hid (pick_succ (p := inP s) hk)
      obtain ⟨bb, off, rfl, hbl, c0, _⟩ := tk_cells HR.out hk
      have i0 : (0 : Int) ≤ (i : Int) := by omega
      have i1 : (i : Int) < (L.length : Int) := by omega
      clear HR hk
      by_cases hx : get t 0 = s
      · have HU : Hid (pick (inP s) L (i + 1) = pick (inP s) L i ++ [(i : Int)]) := by show _ = _; rw [HP.out, if_pos (by unfold inP; exact decide_eq_true hx)]
        have HX1 : Hid (RdL intE (wr.alloc (.cells #[.int .i64 (i : Int)] 3)) (fun _ => True) (.slice (some ⟨wr.heap.size, 0, none⟩) 1 1) [(i : Int)]) := RdL.lit1 (E := intE) wr 3 (i : Int) (cs := #[.int .i64 (i : Int)]) rfl (fun _ => True) trivial
        rw [hx] at c0
        clear hx HP
        go_wp2_with (at_builtin; refine wpList_appS rfl _ _ intElemL rfl rfl rfl (S1.out.next (new_below0 _ _)) 0 rfl HX1.out (by simp; omega) ?_; intro A3 c3 w5 l3 HL3 h3)
        have S4 := Lib.hid h3
        clear h3 S1 HX1
        go_wp2
        go_roundw
        case rel => exact ⟨i + 1, by omega, by go_num, by rw [HU.out, ← HL3.out]; exact ⟨_, _, rfl, S4.out⟩⟩
        case measure => simp [intOf]; omega
      · have HU : Hid (pick (inP s) L (i + 1) = pick (inP s) L i) := by show _ = _; rw [HP.out, if_neg (by unfold inP; simp [hx])]
        generalize get t 0 = g at *
        have e1 : (g == s) = false := by simpa using hx
        clear hx HP
        go_wp2
        go_roundw
        case rel => exact ⟨i + 1, by omega, by go_num, by rw [HU.out]; exact ⟨_, _, rfl, S1.out⟩⟩
        case measure => simp [intOf]; omega
    · obtain rfl : i = L.length := by omega
      clear HR
      go_wp2
      go_ret
      exact ⟨_, _, rfl, S1.out⟩
set_option maxRecDepth 100000 in
theorem underR (h : Sep B w wk (rt p L N :: Rs)) (s : Int) :
    Calls Try.prog 21 #[.pointer (some ⟨p, 0, none⟩), .int .i64 s] wk fun e wn => ∃ A c, e = .returned (.slice A (underS L s).length c) ∧ Sep B w wn (grow intE 3 (.slice A (underS L s).length c) (underS L s) :: rt p L N :: Rs) := by
  have hm : L.length ≤ 200 := by have h1 := (rt_ok h).len; have h2 := (rt_ok h).n1; omega
  have S0 : Hid (Sep B w (wk.alloc (.cells #[] 3)) (grow intE 3 (.slice (some ⟨wk.heap.size, 0, none⟩) 0 0) [] :: rt p L N :: Rs)) := h.grow0 intE 3
  clear h
  go_enter Try.func21, Try.ntmps21
  go_wp2
  go_loopw [5, 6] (fun o u wr => ∃ i : Nat, i ≤ L.length ∧ u = .int .i64 i ∧ Hid (∃ A c, o = .slice A (pick (underP s) L i).length c ∧ Sep B w wr (grow intE 3 (.slice A (pick (underP s) L i).length c) (pick (underP s) L i) :: rt p L N :: Rs))) (fun _ u _ => L.length - (intOf u).toNat)
  case atStart => exact ⟨0, Nat.zero_le _, rfl, _, _, rfl, S0.out⟩
  case round =>
    obtain ⟨i, hi, rfl, HS⟩ := hrel
    obtain ⟨A1, c1, rfl, hs⟩ := HS.out
    have S1 := Lib.hid hs
    have hul := pick_len (underP s) L i
    obtain ⟨A, c, k0, _, hr, _, hpl⟩ := rt_sees hs.tail
    have HR := Lib.hid hr
    clear HS S0 hs hr
    by_cases hlt : i < L.length
    · have hk := List.getElem?_eq_getElem hlt
      generalize L[i] = t at *
      have HP := Lib.hid (pick_succ (p := underP s) hk)
      obtain ⟨bb, off, rfl, hbl, c0, hc⟩ := tk_cells HR.out hk
      have c12 := hc 12 (by omega)
      have i0 : (0 : Int) ≤ (i : Int) := by omega
      have i1 : (i : Int) < (L.length : Int) := by omega
      clear HR hk hc
      by_cases h0 : 0 ≤ s
      · by_cases h1 : get t 0 = 2
        · by_cases h2 : get t 12 = s
          · have HU : Hid (pick (underP s) L (i + 1) = pick (underP s) L i ++ [(i : Int)]) := by show _ = _; rw [HP.out, if_pos (by unfold underP; exact decide_eq_true ⟨h0, h1, h2⟩)]
            have HX1 : Hid (RdL intE (wr.alloc (.cells #[.int .i64 (i : Int)] 3)) (fun _ => True) (.slice (some ⟨wr.heap.size, 0, none⟩) 1 1) [(i : Int)]) := RdL.lit1 (E := intE) wr 3 (i : Int) (cs := #[.int .i64 (i : Int)]) rfl (fun _ => True) trivial
            rw [h1] at c0
            rw [h2] at c12
            clear h1 h2 HP
            go_wp2_with (at_builtin; refine wpList_appS rfl _ _ intElemL rfl rfl rfl (S1.out.next (new_below0 _ _)) 0 rfl HX1.out (by simp; omega) ?_; intro A3 c3 w5 l3 HL3 h3)
            have S4 := Lib.hid h3
            clear h3 S1 HX1
            go_wp2
            go_roundw
            case rel => exact ⟨i + 1, by omega, by go_num, by rw [HU.out, ← HL3.out]; exact ⟨_, _, rfl, S4.out⟩⟩
            case measure => simp [intOf]; omega
          · have HU : Hid (pick (underP s) L (i + 1) = pick (underP s) L i) := by show _ = _; rw [HP.out, if_neg (by unfold underP; simp [h2])]
            rw [h1] at c0
            generalize get t 12 = g at *
            have e1 : (g == s) = false := by simpa using h2
            clear h2 h1
            clear HP
            go_wp2
            go_roundw
            case rel => exact ⟨i + 1, by omega, by go_num, by rw [HU.out]; exact ⟨_, _, rfl, S1.out⟩⟩
            case measure => simp [intOf]; omega
        · have HU : Hid (pick (underP s) L (i + 1) = pick (underP s) L i) := by show _ = _; rw [HP.out, if_neg (by unfold underP; simp [h1])]
          clear c12
          generalize get t 0 = g at *
          have e1 : (g == 2) = false := by simpa using h1
          clear h1
          clear HP
          go_wp2
          go_roundw
          case rel => exact ⟨i + 1, by omega, by go_num, by rw [HU.out]; exact ⟨_, _, rfl, S1.out⟩⟩
          case measure => simp [intOf]; omega
      · have HU : Hid (pick (underP s) L (i + 1) = pick (underP s) L i) := by show _ = _; rw [HP.out, if_neg (by unfold underP; simp [h0])]
        clear HP
        go_wp2
        go_roundw
        case rel => exact ⟨i + 1, by omega, by go_num, by rw [HU.out]; exact ⟨_, _, rfl, S1.out⟩⟩
        case measure => simp [intOf]; omega
    · obtain rfl : i = L.length := by omega
      clear HR
      go_wp2
      go_ret
      exact ⟨_, _, rfl, S1.out⟩
end
end Go.Proofs.Ythdipkdolgcmgaa.RefTask
