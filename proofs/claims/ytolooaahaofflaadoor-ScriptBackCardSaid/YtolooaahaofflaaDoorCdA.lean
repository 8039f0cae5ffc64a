/-
  What package code does as it landed, first part: Form (out of its table of constants), greatest, mayStand, mayBeLong, Right (a range over a string). Condition: the table lies as it was written.
-/
import Derived.Test.YtolooaahaofflaaDoorCodeI
import Derived.Test.YtolooaahaofflaaDoorCodeT
import Derived.Laws.RangeString
namespace Go.Proofs.YtolooaahaofflaaDoor.CdA
open Go.ChangeShapes Go.WideShapes Go.ChangeAt Go.RowKit Mem MutP CodeP Hand RefCode CodeT

set_option maxRecDepth 100000 in
set_option maxHeartbeats 2000000 in
theorem form_l (op : Int) (w : World) (hT : Tab w) : Calls Tryd.prog 61 #[.int .i64 op] w fun e w' => e = .returned (formV op) ∧ w = w' := by
  by_cases h : 0 ≤ op ∧ op ≤ 46
  · have hc := hT.at_ h.1 h.2
    obtain ⟨v, hv⟩ : ∃ v, formV op = v := ⟨_, rfl⟩
    rw [hv] at hc ⊢
    have d0 : decide (op < 0) = false := decide_eq_false (by omega)
    have d1 : decide (op ≥ 47) = false := decide_eq_false (by omega)
    have i0 : (0 : Int) ≤ op := h.1
    have i1 : op < 47 := by omega
    clear h hT hv
    go_enter Tryd.func61, Tryd.ntmps61
    go_wp2
    go_ret
    exact ⟨rfl, rfl⟩
  · have hE : formL op = [] := by
      unfold formL
      repeat' rw [if_neg (by omega)]
    have HV : Hid (formV op = .string ⟨#[]⟩) := by show _ = _; unfold formV; rw [hE]
    clear hE hT
    rcases (by omega : op < 0 ∨ (0 ≤ op ∧ 47 ≤ op)) with h | ⟨h, h2⟩
    · go_enter Tryd.func61, Tryd.ntmps61
      go_wp2
      go_ret
      exact ⟨by rw [HV.out]; rfl, rfl⟩
    · have d0 : decide (op < 0) = false := decide_eq_false (by omega)
      have d1 : decide (op ≥ 47) = true := decide_eq_true (by omega)
      go_enter Tryd.func61, Tryd.ntmps61
      go_wp2
      go_ret
      exact ⟨by rw [HV.out]; rfl, rfl⟩

/-- The greatest part that a letter asks for. -/
def mostOf (c long : Int) : Int := if c = 114 then 5 else if c = 111 then 3 else if c = 112 then 7 else if c = 106 then long else 0
theorem most_l (c long : Int) (w : World) : Calls Tryd.prog 65 #[.int .i32 c, .int .i64 long] w fun e w' => e = .returned (.int .i64 (mostOf c long)) ∧ w = w' := by
  obtain ⟨v, hv⟩ : ∃ v, mostOf c long = v := ⟨_, rfl⟩
  rw [hv]
  by_cases h114 : c = 114
  · subst h114
    obtain rfl : v = 5 := hv.symm
    go_enter Tryd.func65, Tryd.ntmps65
    go_wp2
    go_ret
    exact ⟨rfl, rfl⟩
  have g114 : (c == 114) = false := by simpa using h114
  by_cases h111 : c = 111
  · subst h111
    obtain rfl : v = 3 := hv.symm
    go_enter Tryd.func65, Tryd.ntmps65
    go_wp2
    go_ret
    exact ⟨rfl, rfl⟩
  have g111 : (c == 111) = false := by simpa using h111
  by_cases h112 : c = 112
  · subst h112
    obtain rfl : v = 7 := hv.symm
    go_enter Tryd.func65, Tryd.ntmps65
    go_wp2
    go_ret
    exact ⟨rfl, rfl⟩
  have g112 : (c == 112) = false := by simpa using h112
  by_cases h106 : c = 106
  · subst h106
    obtain rfl : v = long := hv.symm
    go_enter Tryd.func65, Tryd.ntmps65
    go_wp2
    go_ret
    exact ⟨rfl, rfl⟩
  have g106 : (c == 106) = false := by simpa using h106
  obtain rfl : v = 0 := by rw [← hv]; unfold mostOf; rw [if_neg h114, if_neg h111, if_neg h112, if_neg h106]
  clear hv h114 h111 h112 h106
  go_enter Tryd.func65, Tryd.ntmps65
  go_wp2
  go_ret
  exact ⟨rfl, rfl⟩

/-- The letters of a form. -/
def Letter (c : Int) : Prop := c = 48 ∨ c = 114 ∨ c = 112 ∨ c = 111 ∨ c = 106 ∨ c = 110
theorem fits_most {c : Int} (hc : Letter c) (n long : Int) : fitsB c n long = (decide (c = 110) || decide (0 ≤ n ∧ n ≤ mostOf c long)) := by
  rcases hc with rfl | rfl | rfl | rfl | rfl | rfl
  · show decide (n = 0) = _
    show _ = (false || decide (0 ≤ n ∧ n ≤ 0))
    rw [Bool.false_or]
    exact decide_eq_decide.2 (by omega)
  · show decide (0 ≤ n ∧ n < 6) = (false || decide (0 ≤ n ∧ n ≤ 5))
    rw [Bool.false_or]
    exact decide_eq_decide.2 (by omega)
  · show decide (0 ≤ n ∧ n < 8) = (false || decide (0 ≤ n ∧ n ≤ 7))
    rw [Bool.false_or]
    exact decide_eq_decide.2 (by omega)
  · show decide (0 ≤ n ∧ n < 4) = (false || decide (0 ≤ n ∧ n ≤ 3))
    rw [Bool.false_or]
    exact decide_eq_decide.2 (by omega)
  · show decide (0 ≤ n ∧ n ≤ long) = (false || decide (0 ≤ n ∧ n ≤ long))
    rw [Bool.false_or]
  · rfl
theorem stand_l {c : Int} (hc : Letter c) (n long : Int) (w : World) : Calls Tryd.prog 62 #[.int .i64 n, .int .i32 c, .int .i64 long] w fun e w' => e = .returned (.bool (fitsB c n long)) ∧ w = w' := by
  have HF : Hid (fitsB c n long = (decide (c = 110) || decide (0 ≤ n ∧ n ≤ mostOf c long))) := fits_most hc n long
  obtain ⟨r, hr⟩ : ∃ r, fitsB c n long = r := ⟨_, rfl⟩
  rw [hr] at HF ⊢
  clear hr hc
  by_cases h : c = 110
  · subst h
    have HR : Hid (r = true) := HF.out
    clear HF
    go_enter Tryd.func62, Tryd.ntmps62
    go_wp2
    go_ret
    exact ⟨ret_bool HR.out.symm, rfl⟩
  have g : (c == 110) = false := by simpa using h
  have HM : Hid (∀ v, Calls Tryd.prog 65 #[.int .i32 c, .int .i64 long] v fun e w' => e = .returned (.int .i64 (mostOf c long)) ∧ v = w') := most_l c long
  generalize mostOf c long = m at *
  rw [decide_eq_false h, Bool.false_or] at HF
  clear h
  rcases (by omega : n < 0 ∨ (0 ≤ n ∧ n ≤ m) ∨ (0 ≤ n ∧ m < n)) with h0 | ⟨h0, h1⟩ | ⟨h0, h1⟩
  · have HR : Hid (r = false) := HF.out.trans (decide_eq_false (by omega))
    have d0 : decide (n ≥ 0) = false := decide_eq_false (by omega)
    clear HF
    go_enter Tryd.func62, Tryd.ntmps62
    go_wp2
    go_ret
    exact ⟨ret_bool HR.out.symm, rfl⟩
  · have HR : Hid (r = true) := HF.out.trans (decide_eq_true ⟨h0, h1⟩)
    have d0 : decide (n ≥ 0) = true := decide_eq_true h0
    have d1 : decide (n ≤ m) = true := decide_eq_true h1
    clear HF
    go_enter Tryd.func62, Tryd.ntmps62
    go_wp2_with fail
    refine (HM.out _).mono ?_
    rintro e w1 ⟨rfl, rfl⟩
    go_wp2
    go_ret
    exact ⟨ret_bool HR.out.symm, rfl⟩
  · have HR : Hid (r = false) := HF.out.trans (decide_eq_false (by omega))
    have d0 : decide (n ≥ 0) = true := decide_eq_true h0
    have d1 : decide (n ≤ m) = false := decide_eq_false (by omega)
    clear HF
    go_enter Tryd.func62, Tryd.ntmps62
    go_wp2_with fail
    refine (HM.out _).mono ?_
    rintro e w1 ⟨rfl, rfl⟩
    go_wp2
    go_ret
    exact ⟨ret_bool HR.out.symm, rfl⟩

theorem long_l (n : Int) (w : World) : Calls Tryd.prog 51 #[.int .i64 n] w fun e w' => e = .returned (.bool (decide (1 ≤ n ∧ n ≤ 24))) ∧ w = w' := by
  obtain ⟨r, hr⟩ : ∃ r, decide (1 ≤ n ∧ n ≤ 24) = r := ⟨_, rfl⟩
  rw [hr]
  rcases (by omega : n < 1 ∨ (1 ≤ n ∧ n ≤ 24) ∨ (1 ≤ n ∧ 24 < n)) with h0 | ⟨h0, h1⟩ | ⟨h0, h1⟩
  · obtain rfl : r = false := by rw [← hr]; exact decide_eq_false (by omega)
    have d0 : decide (n ≥ 1) = false := decide_eq_false (by omega)
    clear hr
    go_enter Tryd.func51, Tryd.ntmps51
    go_wp2
    go_ret
    exact ⟨rfl, rfl⟩
  · obtain rfl : r = true := by rw [← hr]; exact decide_eq_true ⟨h0, h1⟩
    have d0 : decide (n ≥ 1) = true := decide_eq_true h0
    have d1 : decide (n ≤ 24) = true := decide_eq_true h1
    clear hr
    go_enter Tryd.func51, Tryd.ntmps51
    go_wp2
    go_ret
    exact ⟨rfl, rfl⟩
  · obtain rfl : r = false := by rw [← hr]; exact decide_eq_false (by omega)
    have d0 : decide (n ≥ 1) = true := decide_eq_true h0
    have d1 : decide (n ≤ 24) = false := decide_eq_false (by omega)
    clear hr
    go_enter Tryd.func51, Tryd.ntmps51
    go_wp2
    go_ret
    exact ⟨rfl, rfl⟩
end Go.Proofs.YtolooaahaofflaaDoor.CdA
