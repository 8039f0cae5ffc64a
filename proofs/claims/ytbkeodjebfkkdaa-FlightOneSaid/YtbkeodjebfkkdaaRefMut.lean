/-
  Contracts of the functions of package countermandref08 (the document's answer for layer 8). Condition: the lock is at hand.
-/
import Derived.Test.YtbkeodjebfkkdaaMutP
import Derived.Test.YtbkeodjebfkkdaaObj
import Derived.Test.YtbkeodjebfkkdaaInts
namespace Go.Proofs.Ytbkeodjebfkkdaa.RefMut
open Go.ChangeShapes Go.WideShapes Go.ChangeAt Go.RowKit Mem MutP Hand

/-- A slice's length is no more than its capacity. -/
def Fits (u : Value) : Prop := ∀ A n c, u = .slice A n c → n ≤ c
section
variable {B : Nat → Prop} {w wk : World} {Rs : List Res} {p : Nat} {H : Int} {W : List Int} {N : Int}
end
/-- All of the list but its first. -/
theorem nums_next {B : Nat → Prop} {w wk : World} {Rs : List Res} {R : Res} {b off c c' : Nat} {x : Int} {W : List Int} {A' : Option Addr} (h : Sep B w wk (R :: nums (.slice (some ⟨b, off, none⟩) (W.length + 1) c) (x :: W) :: Rs)) (hA : 0 < W.length → A' = some ⟨b, off + 1, none⟩) : Sep B w wk (R :: nums (.slice A' W.length c') W :: Rs) := by
  obtain ⟨F, ⟨⟨A1, c1, e, hm, hx⟩, hlt⟩, _, hn⟩ := h.upd 1 rfl
  injection e with e1 e2 e3
  subst e1
  obtain ⟨b1, off1, e, hF, hb, hc⟩ := hx (by simp)
  injection e with e
  injection e with e e'
  subst e e'
  have hm : W.length + 1 ≤ 1000000 := hm
  refine hn (nums (.slice A' W.length c') W) (F' := F) ⟨⟨A', c', rfl, by omega, fun h0 => ⟨b, off + 1, hA h0, hF, hb, fun j hj => ?_⟩⟩, hlt⟩ (.refl _ _) fun k hk => .inl hk
  have h1 := hc (j + 1) (by simp; omega)
  rw [show off + 1 + j = off + (j + 1) by omega]
  exact h1
theorem fits_nil : Fits (.slice none 0 0) := fun _ _ _ e => by injection e with _ e2 e3; omega
theorem fits_own {w : World} {b0 : Nat} {e : TypeId} {v : Value} {l : List Int} (h : OwnL intE w b0 e v l) : Fits v := fun A n c he => by
  subst he
  rcases h.2 with ⟨e, hn⟩ | ⟨g, cap, cur, e, _, _, hnc, _⟩
  · injection e with _ e2 e3; omega
  · injection e with _ e2 e3; omega

theorem rd_at {w : World} {G : Nat → Prop} {A : Option Addr} {n c : Nat} {xs : List Int} (h : Rd w G (.slice A n c) xs) {i : Nat} (hi : i < xs.length) : ∃ b off, A = some ⟨b, off, none⟩ ∧ b < w.heap.size ∧ w.cell? ⟨b, off + i, none⟩ = some (.int .i64 (xs.getD i 0)) ∧ xs[i]? = some (xs.getD i 0) := by
  obtain ⟨A', c', e, _, hx⟩ := h
  injection e with e1 e2 e3
  subst e1
  obtain ⟨b, off, e, _, hb, hc⟩ := hx (by omega)
  exact ⟨b, off, e, hb, hc i hi, by rw [List.getD_eq_getElem?_getD, List.getElem?_eq_getElem hi]; rfl⟩

set_option maxRecDepth 100000 in
theorem in_any {w : World} {G : Nat → Prop} {A : Option Addr} {c : Nat} {W : List Int} (h : Rd w G (.slice A W.length c) W) (t : Int) :
    Calls Try.prog 22 #[.slice A W.length c, .int .i64 t] w fun e w' => e = .returned (.bool (inL W t)) ∧ w = w' := by
  have hm : W.length ≤ 1000000 := by obtain ⟨_, _, _, hm, _⟩ := h; exact hm
  have HR := Lib.hid h
  clear h
  go_enter Try.func22, Try.ntmps22
  go_wp2
  go_loopw [5] (fun u wr => ∃ i : Nat, i ≤ W.length ∧ u = .int .i64 i ∧ Hid (t ∉ W.take i) ∧ wr = w) (fun u _ => W.length - (intOf u).toNat)
  case atStart => exact ⟨0, Nat.zero_le _, rfl, by show t ∉ _; simp, rfl⟩
  case round =>
    obtain ⟨i, hi, rfl, HN, rfl⟩ := hrel
    by_cases hlt : i < W.length
    · obtain ⟨b, off, rfl, _, q0, hg⟩ := rd_at HR.out hlt
      have HTk : Hid (W.take (i + 1) = W.take i ++ [W.getD i 0]) := by show _ = _; rw [List.take_add_one, hg]; rfl
      have HG := Lib.hid hg
      have i0 : (0 : Int) ≤ (i : Int) := by omega
      have i1 : (i : Int) < (W.length : Int) := by omega
      clear hg
      generalize W.getD i 0 = x at *
      by_cases hx : x = t
      · subst hx
        have HE : Hid (inL W x = true) := by show _ = _; unfold inL; exact decide_eq_true (List.mem_of_getElem? HG.out)
        go_wp2
        go_ret
        exact ⟨ret_bool HE.out.symm, rfl⟩
      · have e1 : (x == t) = false := by simpa using hx
        have HN2 : Hid (t ∉ W.take (i + 1)) := by
          show t ∉ _
          rw [HTk.out]
          intro hm
          rcases List.mem_append.1 hm with hm | hm
          · exact HN.out hm
          · rw [List.mem_singleton] at hm; exact hx hm.symm
        clear hx
        go_wp2
        go_roundw
        case rel => exact ⟨i + 1, by omega, by go_num, HN2, trivial⟩
        case measure => simp [intOf]; omega
    · have HE : Hid (inL W t = false) := by
        have := HN.out
        rw [List.take_of_length_le (by omega)] at this
        show _ = _
        unfold inL
        exact decide_eq_false this
      go_wp2
      go_ret
      exact ⟨ret_bool HE.out.symm, rfl⟩

set_option maxRecDepth 100000 in
theorem without_g {B : Nat → Prop} {w wk : World} {Rs : List Res} (h : Sep B w wk Rs) {G : Nat → Prop} {A : Option Addr} {c : Nat} {W : List Int} (hr : Rd wk G (.slice A W.length c) W) (t : Int) :
    Calls Try.prog 23 #[.slice A W.length c, .int .i64 t] wk fun e wn => ∃ A' c', e = .returned (.slice A' (withoutL W t).length c') ∧ Sep B w wn (grow intE 3 (.slice A' (withoutL W t).length c') (withoutL W t) :: Rs) ∧ Below wk.heap.size wk wn ∧ Fits (.slice A' (withoutL W t).length c') := by
  have hm : W.length ≤ 1000000 := by obtain ⟨_, _, _, hm, _⟩ := hr; exact hm
  have HR := Lib.hid hr
  have H0 := Lib.hid h
  have S0 : Hid (Sep (fun _ => False) wk (wk.alloc (.cells #[] 3)) [grow intE 3 (.slice (some ⟨wk.heap.size, 0, none⟩) 0 0) []]) := (Sep.nil (fun _ => False) wk).grow0 intE 3
  clear h hr
  go_enter Try.func23, Try.ntmps23
  go_wp2
  go_loopw [5, 6] (fun o u wr => ∃ i : Nat, i ≤ W.length ∧ u = .int .i64 i ∧ Hid (∃ A c, o = .slice A (withoutL (W.take i) t).length c ∧ Sep (fun _ => False) wk wr [grow intE 3 (.slice A (withoutL (W.take i) t).length c) (withoutL (W.take i) t)])) (fun _ u _ => W.length - (intOf u).toNat)
  case atStart => exact ⟨0, Nat.zero_le _, rfl, _, _, rfl, S0.out⟩
  case round =>
    obtain ⟨i, hi, rfl, HS⟩ := hrel
    obtain ⟨A1, c1, rfl, hs⟩ := HS.out
    have S1 := Lib.hid hs
    have hul : (withoutL (W.take i) t).length ≤ i := Nat.le_trans (List.length_filter_le _ _) (List.length_take_le _ _)
    clear HS S0 hs
    by_cases hlt : i < W.length
    · obtain ⟨b, off, rfl, hb, q, hg⟩ := rd_at HR.out hlt
      have q0 := (S1.out.old.cell (p := ⟨b, off + i, none⟩) hb).trans q
      have HTk : Hid (W.take (i + 1) = W.take i ++ [W.getD i 0]) := by show _ = _; rw [List.take_add_one, hg]; rfl
      have i0 : (0 : Int) ≤ (i : Int) := by omega
      have i1 : (i : Int) < (W.length : Int) := by omega
      clear hg q
      generalize W.getD i 0 = x at *
      by_cases hx : x = t
      · have e1 : (x != t) = false := by simpa using hx
        have HU : Hid (withoutL (W.take (i + 1)) t = withoutL (W.take i) t) := by show _ = _; rw [HTk.out]; unfold withoutL; rw [List.filter_append]; simp [hx]
        clear hx
        go_wp2
        go_roundw
        case rel => exact ⟨i + 1, by omega, by go_num, by rw [HU.out]; exact ⟨_, _, rfl, S1.out⟩⟩
        case measure => simp [intOf]; omega
      · have e1 : (x != t) = true := by simpa using hx
        have HU : Hid (withoutL (W.take (i + 1)) t = withoutL (W.take i) t ++ [x]) := by show _ = _; rw [HTk.out]; unfold withoutL; rw [List.filter_append]; simp [hx]
        have HX1 : Hid (RdL intE (wr.alloc (.cells #[.int .i64 x] 3)) (fun _ => True) (.slice (some ⟨wr.heap.size, 0, none⟩) 1 1) [x]) := RdL.lit1 (E := intE) wr 3 x (cs := #[.int .i64 x]) rfl (fun _ => True) trivial
        clear hx
        go_wp2_with (at_builtin; refine wpList_appS rfl _ _ intElemL rfl rfl rfl (S1.out.next (new_below0 _ _)) 0 rfl HX1.out (by simp; omega) ?_; intro A3 c3 w5 l3 HL3 h3)
        have S4 := Lib.hid h3
        clear h3 S1 HX1
        go_wp2
        go_roundw
        case rel => exact ⟨i + 1, by omega, by go_num, by rw [HU.out, ← HL3.out]; exact ⟨_, _, rfl, S4.out⟩⟩
        case measure => simp [intOf]; omega
    · have hE : W.take i = W := List.take_of_length_le (by omega)
      have hs := S1.out
      rw [hE] at hs hul
      have S9 := Lib.hid hs
      clear hs S1
      go_wp2
      go_ret
      rw [hE]
      have ho := S9.out.own 0 rfl
      obtain ⟨F, ⟨_, hF⟩, hF2, _⟩ := S9.out.upd 0 rfl
      refine ⟨_, _, rfl, H0.out.add S9.out.old (R := grow intE 3 _ (withoutL W t)) ⟨ho, rfl⟩ fun k hk => ?_, S9.out.old, fits_own ho⟩
      rcases hF2 k (by rw [hF]; exact hk) with h | h
      · exact h.elim
      · exact h

theorem without_s {B : Nat → Prop} {w wk : World} {Rs : List Res} (h : Sep B w wk Rs) {G : Nat → Prop} {A : Option Addr} {c : Nat} {W : List Int} (hr : Rd wk G (.slice A W.length c) W) (t : Int) :
    Calls Try.prog 23 #[.slice A W.length c, .int .i64 t] wk fun e wn => ∃ A' c', e = .returned (.slice A' (withoutL W t).length c') ∧ Sep B w wn (nums (.slice A' (withoutL W t).length c') (withoutL W t) :: Rs) ∧ Below wk.heap.size wk wn ∧ Fits (.slice A' (withoutL W t).length c') := by
  have hm : W.length ≤ 1000000 := by obtain ⟨_, _, _, hm, _⟩ := hr; exact hm
  refine (without_g h hr t).mono ?_
  rintro e wn ⟨A', c', rfl, h1, h2, h3⟩
  exact ⟨A', c', rfl, grow_nums h1 (Nat.le_trans (List.length_filter_le _ _) hm), h2, h3⟩

end Go.Proofs.Ytbkeodjebfkkdaa.RefMut
