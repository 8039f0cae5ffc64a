/-
  Contracts of the functions of package countermandref16 (the document's answer for layer 16), first part: Form, fits, Right, May. Condition: what the slices read as.
-/
import Derived.Test.YtolooaahaofflaaDoorCodeP
import Derived.Test.YtolooaahaofflaaDoorRows
import Derived.Test.YtolooaahaofflaaDoorRow
import Derived.Test.YtolooaahaofflaaDoorGrow
import Derived.Test.YtolooaahaofflaaDoorObjL
import Derived.BigRegion
import Derived.Deep.QuietTactic
import Derived.BigQuiet
import Derived.Deep.DeepCutAuto
import Derived.Deep.CutBlock
namespace Go.Proofs.YtolooaahaofflaaDoor.RefCode
open Go.ChangeShapes Go.WideShapes Go.ChangeAt Go.RowKit Mem MutP CodeP Hand

/-- Bytes, and instructions, as a slice's elements. -/
def byE : Enc Int := ⟨1, fun x => [.int .u8 x], fun _ => rfl, by intro a u hu; simp at hu; subst hu; rfl, by omega⟩
def inE : Enc In := ⟨4, fun x => [.int .i64 x.o, .int .i64 x.a, .int .i64 x.b, .int .i64 x.n], fun _ => rfl, by intro a u hu; simp at hu; rcases hu with rfl | rfl | rfl | rfl <;> rfl, by omega⟩
def In.val (x : In) : Value := .agg #[.int .i64 x.o, .int .i64 x.a, .int .i64 x.b, .int .i64 x.n]
theorem byElem : Elem byE Tryd.prog 29 5 := elem_of (z := .int .u8 0) (bytes := 1) Tryd.underlying29 (by kernel_rfl) rfl (by omega)
theorem riElem : Elem inE Tryd.prog 64 88 := elem_of (z := .agg #[.int .i64 0, .int .i64 0, .int .i64 0, .int .i64 0]) (bytes := 32) Tryd.underlying64 (by kernel_rfl) rfl (by omega)
theorem in_at {w : World} {G : Nat → Prop} {A : Option Addr} {n c : Nat} {l : List In} (h : RdL inE w G (.slice A n c) l) {i : Nat} {x : In} (hi : l[i]? = some x) :
    ∃ b off, A = some ⟨b, off, none⟩ ∧ b < w.heap.size ∧ w.cell? ⟨b, off + i * 4, none⟩ = some (.int .i64 x.o) ∧ w.cell? ⟨b, off + i * 4 + 1, none⟩ = some (.int .i64 x.a) ∧ w.cell? ⟨b, off + i * 4 + 2, none⟩ = some (.int .i64 x.b) ∧ w.cell? ⟨b, off + i * 4 + 3, none⟩ = some (.int .i64 x.n) := by
  obtain ⟨b, off, hA, _, hb, hc⟩ := h.at_ hi
  exact ⟨b, off, hA, hb, hc 0 _ rfl, hc 1 _ rfl, hc 2 _ rfl, hc 3 _ rfl⟩
theorem by_at {w : World} {G : Nat → Prop} {A : Option Addr} {n c : Nat} {l : List Int} (h : RdL byE w G (.slice A n c) l) {i : Nat} {x : Int} (hi : l[i]? = some x) :
    ∃ b off, A = some ⟨b, off, none⟩ ∧ b < w.heap.size ∧ w.cell? ⟨b, off + i, none⟩ = some (.int .u8 x) := by
  obtain ⟨b, off, hA, _, hb, hc⟩ := h.at_ hi
  have h1 := hc 0 _ rfl
  rw [show off + (i * byE.sz + 0) = off + i by show off + (i * 1 + 0) = _; omega] at h1
  exact ⟨b, off, hA, hb, h1⟩

set_option maxRecDepth 100000 in
set_option maxHeartbeats 2000000 in
theorem form_c (op : Int) (w : World) : Calls Tryd.prog 59 #[.int .i64 op] w fun e w' => e = .returned (formV op) ∧ w = w' := by
  by_cases h : 0 ≤ op ∧ op ≤ 46
  · rcases (by omega : op = 0 ∨ op = 1 ∨ op = 2 ∨ op = 3 ∨ op = 4 ∨ op = 5 ∨ op = 6 ∨ op = 7 ∨ op = 8 ∨ op = 9 ∨ op = 10 ∨ op = 11 ∨ op = 12 ∨ op = 13 ∨ op = 14 ∨ op = 15 ∨ op = 16 ∨ op = 17 ∨ op = 18 ∨ op = 19 ∨ op = 20 ∨ op = 21 ∨ op = 22 ∨ op = 23 ∨ op = 24 ∨ op = 25 ∨ op = 26 ∨ op = 27 ∨ op = 28 ∨ op = 29 ∨ op = 30 ∨ op = 31 ∨ op = 32 ∨ op = 33 ∨ op = 34 ∨ op = 35 ∨ op = 36 ∨ op = 37 ∨ op = 38 ∨ op = 39 ∨ op = 40 ∨ op = 41 ∨ op = 42 ∨ op = 43 ∨ op = 44 ∨ op = 45 ∨ op = 46) with rfl | rfl | rfl | rfl | rfl | rfl | rfl | rfl | rfl | rfl | rfl | rfl | rfl | rfl | rfl | rfl | rfl | rfl | rfl | rfl | rfl | rfl | rfl | rfl | rfl | rfl | rfl | rfl | rfl | rfl | rfl | rfl | rfl | rfl | rfl | rfl | rfl | rfl | rfl | rfl | rfl | rfl | rfl | rfl | rfl | rfl | rfl
    all_goals
      clear h
      go_enter Tryd.func59, Tryd.ntmps59
      go_wp2
      go_ret
      exact ⟨rfl, rfl⟩
  · have hE : formL op = [] := by
      unfold formL
      repeat' rw [if_neg (by omega)]
    have HV : Hid (formV op = .string ⟨#[]⟩) := by show _ = _; unfold formV; rw [hE]
    clear hE
    have e0 : (op == 0) = false := by simp; omega
    have e1 : (op == 1) = false := by simp; omega
    have e2 : (op == 2) = false := by simp; omega
    have e3 : (op == 3) = false := by simp; omega
    have e4 : (op == 4) = false := by simp; omega
    have e5 : (op == 5) = false := by simp; omega
    have e6 : (op == 6) = false := by simp; omega
    have e7 : (op == 7) = false := by simp; omega
    have e8 : (op == 8) = false := by simp; omega
    have e9 : (op == 9) = false := by simp; omega
    have e10 : (op == 10) = false := by simp; omega
    have e11 : (op == 11) = false := by simp; omega
    have e12 : (op == 12) = false := by simp; omega
    have e13 : (op == 13) = false := by simp; omega
    have e14 : (op == 14) = false := by simp; omega
    have e15 : (op == 15) = false := by simp; omega
    have e16 : (op == 16) = false := by simp; omega
    have e17 : (op == 17) = false := by simp; omega
    have e18 : (op == 18) = false := by simp; omega
    have e19 : (op == 19) = false := by simp; omega
    have e20 : (op == 20) = false := by simp; omega
    have e21 : (op == 21) = false := by simp; omega
    have e22 : (op == 22) = false := by simp; omega
    have e23 : (op == 23) = false := by simp; omega
    have e24 : (op == 24) = false := by simp; omega
    have e25 : (op == 25) = false := by simp; omega
    have e26 : (op == 26) = false := by simp; omega
    have e27 : (op == 27) = false := by simp; omega
    have e28 : (op == 28) = false := by simp; omega
    have e29 : (op == 29) = false := by simp; omega
    have e30 : (op == 30) = false := by simp; omega
    have e31 : (op == 31) = false := by simp; omega
    have e32 : (op == 32) = false := by simp; omega
    have e33 : (op == 33) = false := by simp; omega
    have e34 : (op == 34) = false := by simp; omega
    have e35 : (op == 35) = false := by simp; omega
    have e36 : (op == 36) = false := by simp; omega
    have e37 : (op == 37) = false := by simp; omega
    have e38 : (op == 38) = false := by simp; omega
    have e39 : (op == 39) = false := by simp; omega
    have e40 : (op == 40) = false := by simp; omega
    have e41 : (op == 41) = false := by simp; omega
    have e42 : (op == 42) = false := by simp; omega
    have e43 : (op == 43) = false := by simp; omega
    have e44 : (op == 44) = false := by simp; omega
    have e45 : (op == 45) = false := by simp; omega
    have e46 : (op == 46) = false := by simp; omega
    clear h
    go_enter Tryd.func59, Tryd.ntmps59
    go_wp2
    go_ret
    exact ⟨by rw [HV.out]; rfl, rfl⟩

set_option maxRecDepth 100000 in
theorem fits_c (c : Int) (n long : Int) (w : World) : Calls Tryd.prog 60 #[.int .u8 c, .int .i64 n, .int .i64 long] w fun e w' => e = .returned (.bool (fitsB c n long)) ∧ w = w' := by
  by_cases h114 : c = 114
  · subst h114
    have HE : Hid (fitsB 114 n long = decide (0 ≤ n ∧ n < 6)) := rfl
    rcases (by omega : n < 0 ∨ (0 ≤ n ∧ n < 6) ∨ (0 ≤ n ∧ 6 ≤ n)) with h | ⟨h, h2⟩ | ⟨h, h2⟩
    · have HB : Hid (fitsB 114 n long = false) := HE.out.trans (decide_eq_false (by omega))
      have d0 : decide (n ≥ 0) = false := decide_eq_false (by omega)
      clear HE
      go_enter Tryd.func60, Tryd.ntmps60
      go_wp2
      go_ret
      exact ⟨ret_bool HB.out.symm, rfl⟩
    · have HB : Hid (fitsB 114 n long = true) := HE.out.trans (decide_eq_true ⟨h, h2⟩)
      clear HE
      go_enter Tryd.func60, Tryd.ntmps60
      go_wp2
      go_ret
      exact ⟨ret_bool HB.out.symm, rfl⟩
    · have HB : Hid (fitsB 114 n long = false) := HE.out.trans (decide_eq_false (by omega))
      have d0 : decide (n < 6) = false := decide_eq_false (by omega)
      clear HE
      go_enter Tryd.func60, Tryd.ntmps60
      go_wp2
      go_ret
      exact ⟨ret_bool HB.out.symm, rfl⟩
  have g114 : (c == 114) = false := by simpa using h114
  by_cases h111 : c = 111
  · subst h111
    have HE : Hid (fitsB 111 n long = decide (0 ≤ n ∧ n < 4)) := rfl
    rcases (by omega : n < 0 ∨ (0 ≤ n ∧ n < 4) ∨ (0 ≤ n ∧ 4 ≤ n)) with h | ⟨h, h2⟩ | ⟨h, h2⟩
    · have HB : Hid (fitsB 111 n long = false) := HE.out.trans (decide_eq_false (by omega))
      have d0 : decide (n ≥ 0) = false := decide_eq_false (by omega)
      clear HE
      go_enter Tryd.func60, Tryd.ntmps60
      go_wp2
      go_ret
      exact ⟨ret_bool HB.out.symm, rfl⟩
    · have HB : Hid (fitsB 111 n long = true) := HE.out.trans (decide_eq_true ⟨h, h2⟩)
      clear HE
      go_enter Tryd.func60, Tryd.ntmps60
      go_wp2
      go_ret
      exact ⟨ret_bool HB.out.symm, rfl⟩
    · have HB : Hid (fitsB 111 n long = false) := HE.out.trans (decide_eq_false (by omega))
      have d0 : decide (n < 4) = false := decide_eq_false (by omega)
      clear HE
      go_enter Tryd.func60, Tryd.ntmps60
      go_wp2
      go_ret
      exact ⟨ret_bool HB.out.symm, rfl⟩
  have g111 : (c == 111) = false := by simpa using h111
  by_cases h112 : c = 112
  · subst h112
    have HE : Hid (fitsB 112 n long = decide (0 ≤ n ∧ n < 8)) := rfl
    rcases (by omega : n < 0 ∨ (0 ≤ n ∧ n < 8) ∨ (0 ≤ n ∧ 8 ≤ n)) with h | ⟨h, h2⟩ | ⟨h, h2⟩
    · have HB : Hid (fitsB 112 n long = false) := HE.out.trans (decide_eq_false (by omega))
      have d0 : decide (n ≥ 0) = false := decide_eq_false (by omega)
      clear HE
      go_enter Tryd.func60, Tryd.ntmps60
      go_wp2
      go_ret
      exact ⟨ret_bool HB.out.symm, rfl⟩
    · have HB : Hid (fitsB 112 n long = true) := HE.out.trans (decide_eq_true ⟨h, h2⟩)
      clear HE
      go_enter Tryd.func60, Tryd.ntmps60
      go_wp2
      go_ret
      exact ⟨ret_bool HB.out.symm, rfl⟩
    · have HB : Hid (fitsB 112 n long = false) := HE.out.trans (decide_eq_false (by omega))
      have d0 : decide (n < 8) = false := decide_eq_false (by omega)
      clear HE
      go_enter Tryd.func60, Tryd.ntmps60
      go_wp2
      go_ret
      exact ⟨ret_bool HB.out.symm, rfl⟩
  have g112 : (c == 112) = false := by simpa using h112
  by_cases h106 : c = 106
  · subst h106
    have HE : Hid (fitsB 106 n long = decide (0 ≤ n ∧ n ≤ long)) := rfl
    rcases (by omega : n < 0 ∨ (0 ≤ n ∧ n ≤ long) ∨ (0 ≤ n ∧ long < n)) with h | ⟨h, h2⟩ | ⟨h, h2⟩
    · have HB : Hid (fitsB 106 n long = false) := HE.out.trans (decide_eq_false (by omega))
      have d0 : decide (n ≥ 0) = false := decide_eq_false (by omega)
      clear HE
      go_enter Tryd.func60, Tryd.ntmps60
      go_wp2
      go_ret
      exact ⟨ret_bool HB.out.symm, rfl⟩
    · have HB : Hid (fitsB 106 n long = true) := HE.out.trans (decide_eq_true ⟨h, h2⟩)
      clear HE
      go_enter Tryd.func60, Tryd.ntmps60
      go_wp2
      go_ret
      exact ⟨ret_bool HB.out.symm, rfl⟩
    · have HB : Hid (fitsB 106 n long = false) := HE.out.trans (decide_eq_false (by omega))
      have d0 : decide (n ≤ long) = false := decide_eq_false (by omega)
      clear HE
      go_enter Tryd.func60, Tryd.ntmps60
      go_wp2
      go_ret
      exact ⟨ret_bool HB.out.symm, rfl⟩
  have g106 : (c == 106) = false := by simpa using h106
  by_cases h48 : c = 48
  · subst h48
    clear h114 h111 h112 h106 g114 g111 g112 g106
    by_cases h : n = 0
    · subst h
      have HB : Hid (fitsB 48 0 long = true) := rfl
      go_enter Tryd.func60, Tryd.ntmps60
      go_wp2
      go_ret
      exact ⟨ret_bool HB.out.symm, rfl⟩
    · have HB : Hid (fitsB 48 n long = false) := decide_eq_false h
      have d0 : (n == 0) = false := by simpa using h
      clear h
      go_enter Tryd.func60, Tryd.ntmps60
      go_wp2
      go_ret
      exact ⟨ret_bool HB.out.symm, rfl⟩
  have g48 : (c == 48) = false := by simpa using h48
  have HB : Hid (fitsB c n long = true) := by show _ = _; unfold fitsB; rw [if_neg h114, if_neg h111, if_neg h112, if_neg h106, if_neg h48]
  clear h114 h111 h112 h106 h48
  go_enter Tryd.func60, Tryd.ntmps60
  go_wp2
  go_ret
  exact ⟨ret_bool HB.out.symm, rfl⟩

set_option maxRecDepth 100000 in
set_option maxHeartbeats 2000000 in
theorem right_c (x : In) (long : Int) (w : World) : Calls Tryd.prog 49 #[.agg #[.int .i64 x.o, .int .i64 x.a, .int .i64 x.b, .int .i64 x.n], .int .i64 long] w fun e w' => e = .returned (.bool (rightB x long)) ∧ Below w.heap.size w w' := by
  obtain ⟨xo, xa, xb, xn⟩ := x
  have HB : Hid (∀ n, Below w.heap.size w ((w.alloc (.cells #[.int .i64 xo, .int .i64 xa, .int .i64 xb, .int .i64 xn] 88)).drewN n)) := fun n => below_drewN (new_below0 w _) n
  have HF : Hid (∀ v, Calls Tryd.prog 59 #[.int .i64 xo] v fun e w' => e = .returned (formV xo) ∧ v = w') := form_c xo
  rcases form_letters xo with ⟨e, _⟩ | ⟨_, c0, c1, c2, e, _⟩
  · have HR : Hid (rightB ⟨xo, xa, xb, xn⟩ long = false) := right_none e
    have HV : formV xo = .string ⟨#[]⟩ := by unfold formV; rw [e]
    rw [HV] at HF
    clear e HV
    go_enter Tryd.func49, Tryd.ntmps49
    go_wp2_with fail
    refine (HF.out _).mono ?_
    rintro e w1 ⟨rfl, rfl⟩
    go_upto_region 2 with (fail)
    go_quiet ((fail))
    go_wp2
    go_ret
    exact ⟨ret_bool HR.out.symm, HB.out _⟩
  · have HR : Hid (rightB ⟨xo, xa, xb, xn⟩ long = (fitsB c0.toNat xa long && fitsB c1.toNat xb long && fitsB c2.toNat xn long)) := right_some e
    have HV : formV xo = .string ⟨#[c0, c1, c2]⟩ := by unfold formV; rw [e]
    rw [HV] at HF
    have H0 : Hid (∀ v, Calls Tryd.prog 60 #[.int .u8 c0.toNat, .int .i64 xa, .int .i64 long] v fun e w' => e = .returned (.bool (fitsB c0.toNat xa long)) ∧ v = w') := fits_c _ _ _
    have H1 : Hid (∀ v, Calls Tryd.prog 60 #[.int .u8 c1.toNat, .int .i64 xb, .int .i64 long] v fun e w' => e = .returned (.bool (fitsB c1.toNat xb long)) ∧ v = w') := fits_c _ _ _
    have H2 : Hid (∀ v, Calls Tryd.prog 60 #[.int .u8 c2.toNat, .int .i64 xn, .int .i64 long] v fun e w' => e = .returned (.bool (fitsB c2.toNat xn long)) ∧ v = w') := fits_c _ _ _
    have hi0 : ∀ v, (Instr.index 9 (.string ⟨#[c0, c1, c2]⟩) (.int .i64 0)).run Tryd.prog v = .ok (.int .u8 c0.toNat) v := fun v => by rw [run_index_string (h := Tryd.underlying9)]; rfl
    have hi1 : ∀ v, (Instr.index 9 (.string ⟨#[c0, c1, c2]⟩) (.int .i64 1)).run Tryd.prog v = .ok (.int .u8 c1.toNat) v := fun v => by rw [run_index_string (h := Tryd.underlying9)]; rfl
    have hi2 : ∀ v, (Instr.index 9 (.string ⟨#[c0, c1, c2]⟩) (.int .i64 2)).run Tryd.prog v = .ok (.int .u8 c2.toNat) v := fun v => by rw [run_index_string (h := Tryd.underlying9)]; rfl
    have hln : ByteArray.size ⟨#[c0, c1, c2]⟩ = 3 := rfl
    clear e HV
    generalize fitsB c0.toNat xa long = b0 at *
    generalize fitsB c1.toNat xb long = b1 at *
    generalize fitsB c2.toNat xn long = b2 at *
    go_enter Tryd.func49, Tryd.ntmps49
    go_wp2_with fail
    refine (HF.out _).mono ?_
    rintro e w1 ⟨rfl, rfl⟩
    cases b0
    · go_upto_region 2 with (fail)
      go_quiet ((go_at_call 60; exact RingI.quiet_left (H0.out _)))
      go_wp2
      go_ret
      exact ⟨ret_bool HR.out.symm, HB.out _⟩
    · cases b1
      · go_upto_region 2 with (fail)
        go_quiet ((first | (go_at_call 60; with_reducible exact RingI.quiet_left (H0.out _)) | (go_at_call 60; with_reducible exact RingI.quiet_left (H1.out _))))
        go_wp2
        go_ret
        exact ⟨ret_bool HR.out.symm, HB.out _⟩
      · go_upto_region 2 with (fail)
        go_quiet ((first | (go_at_call 60; with_reducible exact RingI.quiet_left (H0.out _)) | (go_at_call 60; with_reducible exact RingI.quiet_left (H1.out _)) | (go_at_call 60; with_reducible exact RingI.quiet_left (H2.out _))))
        go_wp2
        go_ret
        exact ⟨ret_bool HR.out.symm, HB.out _⟩
end Go.Proofs.YtolooaahaofflaaDoor.RefCode
