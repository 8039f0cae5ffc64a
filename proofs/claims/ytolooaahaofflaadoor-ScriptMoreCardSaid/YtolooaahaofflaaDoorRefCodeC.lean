/-
  Contracts of the functions of package countermandref16 (the document's answer for layer 16), third part: eight, Eight, Num. Condition: what the slices read as.
-/
import Derived.Test.YtolooaahaofflaaDoorRefCodeB
namespace Go.Proofs.YtolooaahaofflaaDoor.RefCode
open Go.ChangeShapes Go.WideShapes Go.ChangeAt Go.RowKit Mem MutP CodeP Hand

set_option maxRecDepth 100000 in
set_option maxHeartbeats 1000000 in
theorem eight_u {B : Nat → Prop} {w wk : World} {Rs : List Res} (h : Sep B w wk Rs) (m : Int) (h0 : 0 ≤ m) (h1 : m ≤ 18446744073709551615) :
    Calls Tryd.prog 46 #[.int .u64 m] wk fun e wn => ∃ g, e = .returned (.slice (some ⟨g, 0, none⟩) 8 8) ∧ Sep B w wn (grow byE 5 (.slice (some ⟨g, 0, none⟩) 8 8) (bytesOf 8 m) :: Rs) := by
  have H := Lib.hid h
  have HM : Hid (0 ≤ m ∧ m ≤ 18446744073709551615) := ⟨h0, h1⟩
  clear h h0 h1
  go_enter Tryd.func46, Tryd.ntmps46
  go_wp2_with (refine wpList_makeB rfl _ _ Tryd.underlying29 (by kernel_rfl) rfl 8 rfl rfl (by omega) H.out ?_; intro w1 h1)
  have S1 := Lib.hid h1
  clear h1 H
  generalize wk.heap.size = g at *
  go_wp2
  go_loopw [0, 4] (fun u v wr => ∃ (i k : Nat), i + k = 8 ∧ v = .int .i64 ((i : Int) - 1) ∧ u = .int .u64 (m / 256 ^ k) ∧ Hid (Sep B w wr (grow byE 5 (.slice (some ⟨g, 0, none⟩) 8 8) (List.replicate i 0 ++ bytesOf k m) :: Rs))) (fun _ v _ => (intOf v + 1).toNat)
  case atStart => exact ⟨8, 0, rfl, rfl, by simp, Lib.hid S1.out⟩
  case round =>
    obtain ⟨i, k, hik, rfl, rfl, HS⟩ := hrel
    obtain rfl | ⟨j, rfl⟩ : i = 0 ∨ ∃ j, i = j + 1 := by cases i <;> simp
    · have hk8 : k = 8 := by simpa using hik
      subst hk8
      have d0 : decide ((((0 : Nat) : Int) - 1) ≥ 0) = false := rfl
      go_wp2
      go_ret
      exact ⟨g, rfl, HS.out⟩
    · obtain ⟨x, hx⟩ : ∃ x, m / 256 ^ k = x := ⟨_, rfl⟩
      have HX := Lib.hid hx
      have x0 : 0 ≤ x ∧ x ≤ 18446744073709551615 := by
        have := HM.out
        rw [← hx]
        exact ⟨Int.ediv_nonneg this.1 (Int.le_of_lt (Int.pow_pos (by decide))), Int.le_trans (Int.ediv_le_self _ this.1) this.2⟩
      rw [hx]
      clear hx
      have e1 : ((j + 1 : Nat) : Int) - 1 = (j : Int) := by omega
      rw [e1]
      obtain ⟨y, hy⟩ : ∃ y, x % 256 = y := ⟨_, rfl⟩
      obtain ⟨z, hz⟩ : ∃ z, x / 256 = z := ⟨_, rfl⟩
      have hy0 : 0 ≤ y ∧ y ≤ 255 := by omega
      have hz0 : 0 ≤ z ∧ z ≤ 18446744073709551615 := by omega
      have m1 : x.tmod 256 = y := by rw [Int.tmod_eq_emod_of_nonneg (by omega)]; exact hy
      have m2 : x.tdiv 256 = z := by rw [Int.tdiv_eq_ediv_of_nonneg (by omega)]; exact hz
      clear e1
      obtain ⟨b, c, hv, hb, q0, q1⟩ := HS.out.elem 0 rfl (k := j) (x := 0) (by rw [List.getElem?_append_left (by simp)]; simp)
      have q2 := q0 0 _ rfl
      have q3 := q1 j
      clear q0 q1
      have e1 : b = g := by have := congrArg Value.ownBlock hv; simpa [Value.ownBlock] using this.symm
      subst e1
      rw [show j * byE.sz + 0 = j by show j * 1 + 0 = j; omega] at q2
      have HS2 : Hid (Sep B w (wr.setCell ⟨b, j, none⟩ (.int .u8 y)) (grow byE 5 (.slice (some ⟨b, 0, none⟩) 8 8) (List.replicate j 0 ++ bytesOf (k + 1) m) :: Rs)) := by
        have h1 := HS.out.setc 0 rfl (k := j) (x := 0) (x' := y) (j := 0) (u := .int .u8 y) (by rw [List.getElem?_append_left (by simp)]; simp) (by decide) rfl
        rw [show j * byE.sz + 0 = j by show j * 1 + 0 = j; omega] at h1
        have h2 : (List.replicate (j + 1) (0 : Int) ++ bytesOf k m).set j y = List.replicate j 0 ++ bytesOf (k + 1) m := by
          rw [bytesOf_front, HX.out, hy, List.replicate_succ', List.append_assoc, List.set_append_right _ _ (by simp)]
          simp
        rw [h2] at h1
        exact h1
      clear hv HS
      go_wp2
      go_roundw
      case rel => exact ⟨j, k + 1, by omega, rfl, by rw [Int.pow_succ, ← Int.ediv_ediv_of_nonneg (Int.le_of_lt (Int.pow_pos (by decide))), HX.out, hz], HS2⟩
      case measure => simp [intOf]

set_option maxRecDepth 100000 in
set_option maxHeartbeats 1000000 in
theorem eight_c {B : Nat → Prop} {w wk : World} {Rs : List Res} (h : Sep B w wk Rs) (n : Int) (hn : In64 n) :
    Calls Tryd.prog 24 #[.int .i64 n] wk fun e wn => ∃ g, e = .returned (.slice (some ⟨g, 0, none⟩) 8 8) ∧ Sep B w wn (grow byE 5 (.slice (some ⟨g, 0, none⟩) 8 8) (eightL n) :: Rs) := by
  obtain ⟨m, hm⟩ : ∃ m, top64 n = m := ⟨_, rfl⟩
  have hw : IntKind.u64.wrap n = m := by
    rw [← hm]
    obtain ⟨h1, h2⟩ := hn
    unfold top64 IntKind.wrap
    simp [IntKind.bits, IntKind.signed]
    split <;> omega
  have h0 := (top_in hn)
  rw [hm] at h0
  have e8 : (256 : Int) ^ 8 = 18446744073709551616 := by decide
  rw [e8] at h0
  have HC := Lib.hid (eight_u h m h0.1 (by omega))
  have HE : Hid (bytesOf 8 m = eightL n) := by show _ = _; unfold eightL; rw [hm]
  clear h h0 e8 hm
  go_enter Tryd.func24, Tryd.ntmps24
  go_wp2_with fail
  refine HC.out.mono ?_
  rintro e w2 ⟨g, rfl, h2⟩
  rw [HE.out] at h2
  have H2 := Lib.hid h2
  clear h2
  go_wp2
  go_ret
  exact ⟨g, rfl, H2.out⟩

/-- A byte of a slice at hand or given: where it lies. -/
theorem numU_take {b : List Int} {i : Nat} {x : Int} (h : b[i]? = some x) : numU (b.take (i + 1)) = 256 * numU (b.take i) + x := by rw [take_snocI b i x h, numU_snoc]
theorem numU_in {b : List Int} (hb : ∀ x ∈ b, Byte x) {i : Nat} (hi : i ≤ 8) (hl : 8 ≤ b.length) : 0 ≤ numU (b.take i) ∧ numU (b.take i) < 256 ^ i :=
  (bytes_numU i (b.take i) (by rw [List.length_take]; omega) fun x hx => hb x (List.mem_of_mem_take hx)).1

set_option maxRecDepth 100000 in
set_option maxHeartbeats 1000000 in
theorem num_c {w : World} {b : List Int} {A : Nat} {off n c : Nat} (hl : 8 ≤ b.length) (hb : ∀ x ∈ b, Byte x) (hn : b.length = n) (_hnc : n ≤ c)
    (hc : ∀ (i : Nat) (x : Int), b[i]? = some x → w.cell? ⟨A, off + i, none⟩ = some (.int .u8 x)) :
    Calls Tryd.prog 31 #[.slice (some ⟨A, off, none⟩) n c] w fun e w' => e = .returned (.int .i64 (numI b)) ∧ w = w' := by
  have HB := Lib.hid hb
  have HC := Lib.hid hc
  have HL := Lib.hid hl
  have HN := Lib.hid hn
  clear hb hc hl hn
  go_enter Tryd.func31, Tryd.ntmps31
  go_wp2
  go_loopw [3, 4] (fun u v wr => ∃ i : Nat, i ≤ 8 ∧ v = .int .i64 (i : Int) ∧ u = .int .u64 (numU (b.take i)) ∧ w = wr) (fun _ v _ => (8 - intOf v).toNat)
  case atStart => exact ⟨0, by omega, rfl, rfl, rfl⟩
  case round =>
    obtain ⟨i, hi, rfl, rfl, rfl⟩ := hrel
    rcases (by omega : i = 8 ∨ i < 8) with h8 | h8
    · have HE : Hid (IntKind.i64.wrap (numU (b.take i)) = numI b) := by
        obtain ⟨h1, h2⟩ := numU_in HB.out (i := i) (by omega) HL.out
        subst h8
        have e8 : (256 : Int) ^ 8 = 18446744073709551616 := by decide
        rw [e8] at h2
        show _ = _
        unfold numI low64 IntKind.wrap
        simp [IntKind.bits, IntKind.signed]
        split <;> omega
      obtain ⟨u, hu⟩ : ∃ u, numU (b.take i) = u := ⟨_, rfl⟩
      obtain ⟨z, hz⟩ : ∃ z, numI b = z := ⟨_, rfl⟩
      have hw : IntKind.i64.wrap u = z := by rw [← hu, ← hz]; exact HE.out
      have HZ := Lib.hid hz
      rw [hu]
      clear hu hz
      have d0 : decide ((i : Int) < 8) = false := decide_eq_false (by omega)
      go_wp2
      go_ret
      exact ⟨by rw [HZ.out]; rfl, rfl⟩
    · obtain ⟨x, hx⟩ : ∃ x, b[i]? = some x := ⟨_, List.getElem?_eq_getElem (by have := HL.out; omega)⟩
      have hx0 : 0 ≤ x ∧ x ≤ 255 := HB.out x (List.mem_of_getElem? hx)
      have q := HC.out i x hx
      have HT := Lib.hid (numU_take hx)
      have hu0 : 0 ≤ numU (b.take i) ∧ numU (b.take i) < 72057594037927936 := by
        obtain ⟨h1, h2⟩ := numU_in HB.out (i := i) (by omega) HL.out
        have hp : (256 : Int) ^ i ≤ 72057594037927936 := by
          rcases (by omega : i = 0 ∨ i = 1 ∨ i = 2 ∨ i = 3 ∨ i = 4 ∨ i = 5 ∨ i = 6 ∨ i = 7) with rfl | rfl | rfl | rfl | rfl | rfl | rfl | rfl <;> decide
        omega
      obtain ⟨u, hu⟩ : ∃ u, numU (b.take i) = u := ⟨_, rfl⟩
      have HU := Lib.hid hu
      rw [hu] at hu0 ⊢
      have i1 : (i : Int) < (n : Int) := by have := HL.out; have := HN.out; omega
      have i8 : (i : Int) < 8 := by omega
      have d0 : decide ((i : Int) < 8) = true := decide_eq_true i8
      clear hx hu
      go_wp2
      go_roundw
      case rel => exact ⟨i + 1, by omega, by go_num, by rw [HT.out, HU.out], by simp⟩
      case measure => simp [intOf]; omega
end Go.Proofs.YtolooaahaofflaaDoor.RefCode
