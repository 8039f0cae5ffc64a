/-
  What package code does as it landed, second part: Right: it goes through a form's letters as runes. Condition: the table lies as it was written.
-/
import Derived.Test.YtolooaahaofflaaDoorCdA
import Derived.WalkSmall
namespace Go.Proofs.YtolooaahaofflaaDoor.CdA
open Go.ChangeShapes Go.WideShapes Go.ChangeAt Go.RowKit Mem MutP CodeP Hand RefCode CodeT

/-- A world of three blocks more: the instruction, its parts, and the place in its form. -/
def stood (w : World) (o a b n : Int) (s : ByteArray) (i : Nat) : World := ((w.alloc (.cells #[.int .i64 o, .int .i64 a, .int .i64 b, .int .i64 n] 56)).alloc (.cells #[.int .i64 a, .int .i64 b, .int .i64 n] 101)).iter s i
theorem stood_below (w : World) (o a b n : Int) (s : ByteArray) (i : Nat) : Below w.heap.size w (stood w o a b n s i) :=
  ((new_below0 w _).alloc (by simp) _).alloc (by simp; omega) _
theorem stood_cell (w : World) (o a b n : Int) (s : ByteArray) (i : Nat) (j : Nat) (_hj : j < 3) : (stood w o a b n s i).cell? ⟨w.heap.size + 1, j, none⟩ = #[Value.int .i64 a, .int .i64 b, .int .i64 n][j]? := by
  have h1 : (stood w o a b n s i).heap[w.heap.size + 1]? = some (.cells #[.int .i64 a, .int .i64 b, .int .i64 n] 101) := by
    have e1 := Below.heap_alloc ((w.alloc (.cells #[.int .i64 o, .int .i64 a, .int .i64 b, .int .i64 n] 56)).alloc (.cells #[.int .i64 a, .int .i64 b, .int .i64 n] 101)) (.stringIter s i) (w.heap.size + 1) (by simp)
    have e2 := heap_alloc_new (w.alloc (.cells #[.int .i64 o, .int .i64 a, .int .i64 b, .int .i64 n] 56)) (.cells #[.int .i64 a, .int .i64 b, .int .i64 n] 101)
    rw [show (w.alloc (.cells #[.int .i64 o, .int .i64 a, .int .i64 b, .int .i64 n] 56)).heap.size = w.heap.size + 1 by simp] at e2
    exact e1.trans e2
  exact cell_block h1 j
theorem stood_next (w : World) (o a b n : Int) (s : ByteArray) (i : Nat) (h : i < s.size) (ha : (s[i]'h).toNat < 128) (ty : TypeId) :
    (Instr.next (.pointer (some ⟨w.heap.size + 1 + 1, 0, none⟩)) true ty).run Tryd.prog (stood w o a b n s i) = .ok (.tuple #[.bool true, .int .i64 i, .int .i32 (s[i]'h).toNat]) (stood w o a b n s (i + 1)) := by
  have h1 := run_next_ascii (P := Tryd.prog) ((w.alloc (.cells #[.int .i64 o, .int .i64 a, .int .i64 b, .int .i64 n] 56)).alloc (.cells #[.int .i64 a, .int .i64 b, .int .i64 n] 101)) s i ty h ha
  simpa [stood] using h1
theorem stood_end (w : World) (o a b n : Int) (s : ByteArray) (i : Nat) (h : ¬ i < s.size) (ty : TypeId) :
    (Instr.next (.pointer (some ⟨w.heap.size + 1 + 1, 0, none⟩)) true ty).run Tryd.prog (stood w o a b n s i) = .ok (.tuple #[.bool false]) (stood w o a b n s i) := by
  have h1 := run_next_end (P := Tryd.prog) ((w.alloc (.cells #[.int .i64 o, .int .i64 a, .int .i64 b, .int .i64 n] 56)).alloc (.cells #[.int .i64 a, .int .i64 b, .int .i64 n] 101)) s i ty h
  simpa [stood] using h1
theorem stood_pos (w : World) (o a b n : Int) (s : ByteArray) (i : Nat) : (stood w o a b n s i).iterPos (w.heap.size + 1 + 1) = i := by
  have h1 := World.iter_heap ((w.alloc (.cells #[.int .i64 o, .int .i64 a, .int .i64 b, .int .i64 n] 56)).alloc (.cells #[.int .i64 a, .int .i64 b, .int .i64 n] 101)) s i
  exact iterPos_of (by simpa [stood] using h1)

set_option maxRecDepth 100000 in
set_option maxHeartbeats 2000000 in
theorem right_l (x : In) (long : Int) (w : World) (hT : Tab w) : Calls Tryd.prog 53 #[.agg #[.int .i64 x.o, .int .i64 x.a, .int .i64 x.b, .int .i64 x.n], .int .i64 long] w fun e w' => e = .returned (.bool (rightB x long)) ∧ Below w.heap.size w w' := by
  obtain ⟨xo, xa, xb, xn⟩ := x
  have HF : Hid (Calls Tryd.prog 61 #[.int .i64 xo] (w.alloc (.cells #[.int .i64 xo, .int .i64 xa, .int .i64 xb, .int .i64 xn] 56)) fun e w' => e = .returned (formV xo) ∧ (w.alloc (.cells #[.int .i64 xo, .int .i64 xa, .int .i64 xb, .int .i64 xn] 56)) = w') := form_l xo _ (hT.next (new_below0 w _))
  clear hT
  rcases form_letters xo with ⟨e, _⟩ | ⟨_, c0, c1, c2, e, l0, l1, l2⟩
  · have HR : Hid (rightB ⟨xo, xa, xb, xn⟩ long = false) := right_none e
    have HV : formV xo = .string ⟨#[]⟩ := by unfold formV; rw [e]
    rw [HV] at HF
    have HB : Hid (Below w.heap.size w (stood w xo xa xb xn ⟨#[]⟩ 0)) := stood_below ..
    have hnx := stood_end w xo xa xb xn ⟨#[]⟩ 0 (by decide)
    clear e HV
    go_enter Tryd.func53, Tryd.ntmps53
    go_wp2_with fail
    refine HF.out.mono ?_
    rintro e w1 ⟨rfl, rfl⟩
    go_wp2
    go_loopw [7] (fun _ wr => wr = stood w xo xa xb xn ⟨#[]⟩ 0) (fun _ _ => 0)
    case atStart => rfl
    case round =>
      obtain rfl := hrel
      go_wp2
      go_ret
      exact ⟨ret_bool HR.out.symm, HB.out⟩
  · have HR : Hid (rightB ⟨xo, xa, xb, xn⟩ long = (fitsB c0.toNat xa long && fitsB c1.toNat xb long && fitsB c2.toNat xn long)) := right_some e
    have HV : formV xo = .string ⟨#[c0, c1, c2]⟩ := by unfold formV; rw [e]
    rw [HV] at HF
    have HB : Hid (∀ i, Below w.heap.size w (stood w xo xa xb xn ⟨#[c0, c1, c2]⟩ i)) := stood_below w xo xa xb xn _
    have small : (c0.toNat < 128 ∧ c1.toNat < 128 ∧ c2.toNat < 128) ∧ Letter c0.toNat ∧ Letter c1.toNat ∧ Letter c2.toNat := by
      refine ⟨?_, ?_, ?_, ?_⟩
      · rcases l0 with rfl | rfl <;> rcases l1 with rfl | rfl | rfl | rfl <;> rcases l2 with rfl | rfl | rfl | rfl | rfl <;> decide
      · unfold Letter; rcases l0 with rfl | rfl <;> decide
      · unfold Letter; rcases l1 with rfl | rfl | rfl | rfl <;> decide
      · unfold Letter; rcases l2 with rfl | rfl | rfl | rfl | rfl <;> decide
    obtain ⟨⟨s0, s1, s2⟩, t0, t1, t2⟩ := small
    have n0 := stood_next w xo xa xb xn ⟨#[c0, c1, c2]⟩ 0 (show 0 < 3 by decide) s0
    have n1 := stood_next w xo xa xb xn ⟨#[c0, c1, c2]⟩ 1 (show 1 < 3 by decide) s1
    have n2 := stood_next w xo xa xb xn ⟨#[c0, c1, c2]⟩ 2 (show 2 < 3 by decide) s2
    have n3 := stood_end w xo xa xb xn ⟨#[c0, c1, c2]⟩ 3 (show ¬ 3 < 3 by decide)
    have q0 : ∀ i, (stood w xo xa xb xn ⟨#[c0, c1, c2]⟩ i).cell? ⟨w.heap.size + 1, 0, none⟩ = some (.int .i64 xa) := fun i => stood_cell w xo xa xb xn _ i 0 (by omega)
    have q1 : ∀ i, (stood w xo xa xb xn ⟨#[c0, c1, c2]⟩ i).cell? ⟨w.heap.size + 1, 1, none⟩ = some (.int .i64 xb) := fun i => stood_cell w xo xa xb xn _ i 1 (by omega)
    have q2 : ∀ i, (stood w xo xa xb xn ⟨#[c0, c1, c2]⟩ i).cell? ⟨w.heap.size + 1, 2, none⟩ = some (.int .i64 xn) := fun i => stood_cell w xo xa xb xn _ i 2 (by omega)
    have HP := Lib.hid (stood_pos w xo xa xb xn ⟨#[c0, c1, c2]⟩)
    have k0 : (⟨#[c0, c1, c2]⟩ : ByteArray)[0]'(show 0 < 3 by decide) = c0 := rfl
    have k1 : (⟨#[c0, c1, c2]⟩ : ByteArray)[1]'(show 1 < 3 by decide) = c1 := rfl
    have k2 : (⟨#[c0, c1, c2]⟩ : ByteArray)[2]'(show 2 < 3 by decide) = c2 := rfl
    rw [k0] at n0
    rw [k1] at n1
    rw [k2] at n2
    have H0 : Hid (∀ v, Calls Tryd.prog 62 #[.int .i64 xa, .int .i32 c0.toNat, .int .i64 long] v fun e w' => e = .returned (.bool (fitsB c0.toNat xa long)) ∧ v = w') := stand_l t0 _ _
    have H1 : Hid (∀ v, Calls Tryd.prog 62 #[.int .i64 xb, .int .i32 c1.toNat, .int .i64 long] v fun e w' => e = .returned (.bool (fitsB c1.toNat xb long)) ∧ v = w') := stand_l t1 _ _
    have H2 : Hid (∀ v, Calls Tryd.prog 62 #[.int .i64 xn, .int .i32 c2.toNat, .int .i64 long] v fun e w' => e = .returned (.bool (fitsB c2.toNat xn long)) ∧ v = w') := stand_l t2 _ _
    generalize fitsB c0.toNat xa long = f0 at *
    generalize fitsB c1.toNat xb long = f1 at *
    generalize fitsB c2.toNat xn long = f2 at *
    clear e HV l0 l1 l2 s0 s1 s2 t0 t1 t2 k0 k1 k2
    go_enter Tryd.func53, Tryd.ntmps53
    go_wp2_with fail
    refine HF.out.mono ?_
    rintro e w1 ⟨rfl, rfl⟩
    go_wp2
    go_loopw [7] (fun _ wr => ∃ i : Nat, i ≤ 3 ∧ wr = stood w xo xa xb xn ⟨#[c0, c1, c2]⟩ i ∧ Hid ((1 ≤ i → f0 = true) ∧ (2 ≤ i → f1 = true) ∧ (3 ≤ i → f2 = true))) (fun _ wr => 3 - wr.iterPos (w.heap.size + 1 + 1))
    case atStart => exact ⟨0, by omega, rfl, by omega, by omega, by omega⟩
    case round =>
      obtain ⟨i, hi, rfl, HI⟩ := hrel
      rcases (by omega : i = 0 ∨ i = 1 ∨ i = 2 ∨ i = 3) with rfl | rfl | rfl | rfl
      · clear HI hi
        go_wp2_with fail
        refine (H0.out _).mono ?_
        rintro e w1 ⟨rfl, rfl⟩
        cases f0
        · have HE : Hid (rightB ⟨xo, xa, xb, xn⟩ long = false) := HR.out.trans rfl
          go_wp2
          go_ret
          exact ⟨ret_bool HE.out.symm, HB.out _⟩
        · go_wp2
          go_roundw
          case rel => exact ⟨1, by omega, rfl, by show _ ∧ _; simp⟩
          case measure => rw [HP.out, HP.out]; omega
      · obtain rfl : f0 = true := HI.out.1 (by omega)
        clear HI hi
        go_wp2_with fail
        refine (H1.out _).mono ?_
        rintro e w1 ⟨rfl, rfl⟩
        cases f1
        · have HE : Hid (rightB ⟨xo, xa, xb, xn⟩ long = false) := HR.out.trans rfl
          go_wp2
          go_ret
          exact ⟨ret_bool HE.out.symm, HB.out _⟩
        · go_wp2
          go_roundw
          case rel => exact ⟨2, by omega, rfl, by show _ ∧ _; simp⟩
          case measure => rw [HP.out, HP.out]; omega
      · obtain rfl : f0 = true := HI.out.1 (by omega)
        obtain rfl : f1 = true := HI.out.2.1 (by omega)
        clear HI hi
        go_wp2_with fail
        refine (H2.out _).mono ?_
        rintro e w1 ⟨rfl, rfl⟩
        cases f2
        · have HE : Hid (rightB ⟨xo, xa, xb, xn⟩ long = false) := HR.out.trans rfl
          go_wp2
          go_ret
          exact ⟨ret_bool HE.out.symm, HB.out _⟩
        · go_wp2
          go_roundw
          case rel => exact ⟨3, by omega, rfl, by show _ ∧ _; simp⟩
          case measure => rw [HP.out, HP.out]; omega
      · obtain rfl : f0 = true := HI.out.1 (by omega)
        obtain rfl : f1 = true := HI.out.2.1 (by omega)
        obtain rfl : f2 = true := HI.out.2.2 (by omega)
        have HE : Hid (rightB ⟨xo, xa, xb, xn⟩ long = true) := HR.out.trans rfl
        clear HI hi
        go_wp2
        go_ret
        exact ⟨ret_bool HE.out.symm, HB.out _⟩
end Go.Proofs.YtolooaahaofflaaDoor.CdA
