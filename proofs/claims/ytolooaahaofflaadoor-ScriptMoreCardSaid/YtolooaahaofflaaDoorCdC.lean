/-
  What package code does as it landed, third part: May (a function literal that captures the program, handed to the library's ContainsFunc). Condition: the table lies as it was written.
-/
import Derived.Test.YtolooaahaofflaaDoorCdB
namespace Go.Proofs.YtolooaahaofflaaDoor.CdA
open Go.ChangeShapes Go.WideShapes Go.ChangeAt Go.RowKit Mem MutP CodeP Hand RefCode CodeT CodeI

theorem ciElem : Elem inE Tryd.prog 57 56 := elem_of (z := .agg #[.int .i64 0, .int .i64 0, .int .i64 0, .int .i64 0]) (bytes := 32) Tryd.underlying57 (by kernel_rfl) rfl (by omega)
/-- The function literal of May, that holds the program in a block. -/
def wrongF (q : Nat) : Value := .func (.func 52) #[] #[.pointer (some ⟨q, 0, none⟩)]

set_option maxRecDepth 100000 in
theorem wrong_l (x : In) {w : World} {q : Nat} {A : Option Addr} {n c : Nat} (hT : Tab w) (hq : w.cell? ⟨q, 0, none⟩ = some (.slice A n c)) :
    Calls Tryd.prog 52 #[.agg #[.int .i64 x.o, .int .i64 x.a, .int .i64 x.b, .int .i64 x.n], .pointer (some ⟨q, 0, none⟩)] w fun e w' => e = .returned (.bool (!rightB x n)) ∧ Below w.heap.size w w' := by
  have hlt : q < w.heap.size := World.block_lt_of_cell? _ _ hq
  have HR := Lib.hid (right_l x n (w.alloc (.cells #[.int .i64 x.o, .int .i64 x.a, .int .i64 x.b, .int .i64 x.n] 56)) (hT.next (new_below0 w _)))
  have HB : Hid (Below w.heap.size w (w.alloc (.cells #[.int .i64 x.o, .int .i64 x.a, .int .i64 x.b, .int .i64 x.n] 56))) := new_below0 w _
  generalize rightB x n = r at *
  clear hT
  go_enter Tryd.func52, Tryd.ntmps52
  go_wp2_with fail
  refine HR.out.mono ?_
  rintro e w1 ⟨rfl, hb⟩
  have HB1 : Hid (Below w.heap.size w w1) := HB.out.trans (hb.mono (by simp))
  clear hb HB HR
  go_wp2
  go_ret
  exact ⟨rfl, HB1.out⟩

set_option maxRecDepth 100000 in
set_option maxHeartbeats 1000000 in
theorem index_l {w : World} {G : Nat → Prop} {q : Nat} {A : Option Addr} {n c : Nat} {l : List In} (hT : Tab w) (hq : w.cell? ⟨q, 0, none⟩ = some (.slice A n c)) (h : RdL inE w G (.slice A n c) l) :
    Calls Tryd.prog 63 #[.slice A n c, wrongF q] w fun e w' => ∃ d : Int, e = .returned (.int .i64 d) ∧ Below w.heap.size w w' ∧ decide (d ≥ 0) = !(l.all fun x => rightB x n) := by
  obtain rfl := len_of h
  have hlen := h.le
  have HT := Lib.hid hT
  have HQ := Lib.hid (show q < w.heap.size ∧ w.cell? ⟨q, 0, none⟩ = some (.slice A l.length c) from ⟨World.block_lt_of_cell? _ _ hq, hq⟩)
  have HR := Lib.hid h
  clear hT hq h
  unfold wrongF
  go_enter Tryd.func63, Tryd.ntmps63
  go_wp2
  go_loopw [8] (fun t W => ∃ j : Nat, j ≤ l.length ∧ t = .int .i64 j ∧ Hid (Below w.heap.size w W) ∧ Hid ((l.take j).all (fun x => rightB x l.length) = true)) (fun t _ => l.length - (intOf t).toNat)
  case atStart => exact ⟨0, Nat.zero_le _, rfl, Below.refl _ _, by show List.all _ _ = _; simp⟩
  case round =>
    obtain ⟨j, hj, rfl, HB, HA⟩ := hrel
    by_cases hlt : j < l.length
    · have hg : l[j]? = some l[j] := List.getElem?_eq_getElem hlt
      generalize l[j] = x at hg
      have HTk : Hid (l.take (j + 1) = l.take j ++ [x]) := take_snocI l j x hg
      have HG : Hid (x ∈ l) := List.mem_of_getElem? hg
      obtain ⟨b, off, rfl, hb, c0, c1, c2, c3⟩ := in_at HR.out hg
      have q0 := (HB.out.cell (p := ⟨b, off + j * 4, none⟩) hb).trans c0
      have q1 := (HB.out.cell (p := ⟨b, off + j * 4 + 1, none⟩) hb).trans c1
      have q2 := (HB.out.cell (p := ⟨b, off + j * 4 + 2, none⟩) hb).trans c2
      have q3 := (HB.out.cell (p := ⟨b, off + j * 4 + 3, none⟩) hb).trans c3
      have HC := Lib.hid (wrong_l x (HT.out.next HB.out) ((HB.out.cell (p := ⟨q, 0, none⟩) HQ.out.1).trans HQ.out.2))
      have j0 : (0 : Int) ≤ (j : Int) := by omega
      have j1 : (j : Int) < (l.length : Int) := by omega
      clear hg c0 c1 c2 c3 hb
      cases hp : rightB x l.length with
      | true =>
        rw [hp] at HC
        have HN : Hid ((l.take (j + 1)).all (fun x => rightB x l.length) = true) := by
          show _ = _
          rw [HTk.out, List.all_append, HA.out]
          simp [hp]
        clear hp
        go_wp2_with fail
        refine HC.out.mono ?_
        rintro e w1 ⟨rfl, hb1⟩
        have HB1 : Hid (Below w.heap.size w w1) := HB.out.trans (hb1.mono HB.out.size)
        clear hb1 HC HB HA
        go_wp2
        go_roundw
        case rel => exact ⟨j + 1, by omega, by go_num, HB1, HN⟩
        case measure => simp [intOf]; omega
      | false =>
        rw [hp] at HC
        have HN : Hid (l.all (fun x => rightB x l.length) = false) := by
          show _ = _
          rw [Bool.eq_false_iff]
          intro ha
          rw [List.all_eq_true.1 ha x HG.out] at hp
          cases hp
        clear hp
        go_wp2_with fail
        refine HC.out.mono ?_
        rintro e w1 ⟨rfl, hb1⟩
        have HB1 : Hid (Below w.heap.size w w1) := HB.out.trans (hb1.mono HB.out.size)
        clear hb1 HC HB HA
        go_wp2
        go_ret
        exact ⟨_, rfl, HB1.out, by rw [HN.out]; simp⟩
    · have HN : Hid (l.all (fun x => rightB x l.length) = true) := by
        have := HA.out
        rwa [List.take_of_length_le (by omega)] at this
      go_wp2
      go_ret
      exact ⟨_, rfl, HB.out, by rw [HN.out]; simp⟩

theorem contains_l {w : World} {G : Nat → Prop} {q : Nat} {A : Option Addr} {n c : Nat} {l : List In} (hT : Tab w) (hq : w.cell? ⟨q, 0, none⟩ = some (.slice A n c)) (h : RdL inE w G (.slice A n c) l) :
    Calls Tryd.prog 54 #[.slice A n c, wrongF q] w fun e w' => e = .returned (.bool !(l.all fun x => rightB x n)) ∧ Below w.heap.size w w' := by
  have HI := Lib.hid (index_l hT hq h)
  generalize (!(l.all fun x => rightB x n)) = r at *
  clear hT hq h
  unfold wrongF at *
  go_enter Tryd.func54, Tryd.ntmps54
  go_wp2_with fail
  refine HI.out.mono ?_
  rintro e w1 ⟨d, rfl, hb, hd⟩
  have HB := Lib.hid hb
  have HD := Lib.hid hd
  clear hb hd HI
  go_wp2
  go_ret
  exact ⟨ret_bool HD.out, HB.out⟩

set_option maxRecDepth 100000 in
theorem may_l {w : World} {G : Nat → Prop} {A : Option Addr} {n c : Nat} {l : List In} (hT : Tab w) (h : RdL inE w G (.slice A n c) l) :
    Calls Tryd.prog 40 #[.slice A n c] w fun e w' => e = .returned (.bool (mayB l)) ∧ Below w.heap.size w w' := by
  obtain rfl := len_of h
  have HL := Lib.hid (long_l l.length)
  have HN : Hid (Below w.heap.size w (w.alloc (.cells #[.slice A l.length c] 57))) := new_below0 w _
  have k0 : (w.alloc (.cells #[.slice A l.length c] 57)).cell? ⟨w.heap.size, 0, none⟩ = some (.slice A l.length c) := (cell_block (heap_alloc_new w _) 0).trans rfl
  have HC := Lib.hid (contains_l (hT.next (new_below0 w _)) k0 (h.below (new_below0 w _)))
  have HM : Hid (mayB l = ((l.all fun x => rightB x l.length) && decide (1 ≤ l.length ∧ l.length ≤ 24))) := rfl
  have HD : Hid (decide (1 ≤ (l.length : Int) ∧ (l.length : Int) ≤ 24) = decide (1 ≤ l.length ∧ l.length ≤ 24)) := decide_eq_decide.2 (by omega)
  generalize (l.all fun x => rightB x l.length) = a at *
  generalize mayB l = r at *
  rw [HD.out] at HL
  generalize decide (1 ≤ l.length ∧ l.length ≤ 24) = b at *
  unfold wrongF at HC
  clear hT h HD
  cases b
  · have HR : Hid (r = false) := HM.out.trans (by simp)
    clear HM
    go_enter Tryd.func40, Tryd.ntmps40
    go_wp2_with fail
    refine (HL.out _).mono ?_
    rintro e w1 ⟨rfl, rfl⟩
    go_wp2
    go_ret
    exact ⟨ret_bool HR.out.symm, HN.out⟩
  · have HR : Hid (r = a) := HM.out.trans (by simp)
    clear HM
    go_enter Tryd.func40, Tryd.ntmps40
    go_wp2_with fail
    refine (HL.out _).mono ?_
    rintro e w1 ⟨rfl, rfl⟩
    go_wp2_with fail
    refine HC.out.mono ?_
    rintro e w1 ⟨rfl, hb⟩
    have HB : Hid (Below w.heap.size w w1) := HN.out.trans (hb.mono (by simp))
    clear hb HC
    go_wp2
    go_ret
    exact ⟨ret_bool (by rw [HR.out]), HB.out⟩
end Go.Proofs.YtolooaahaofflaaDoor.CdA
