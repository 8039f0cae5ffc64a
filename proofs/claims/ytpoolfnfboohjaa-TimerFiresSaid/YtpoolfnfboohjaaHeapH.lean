/-
  Contracts of the functions of package heap, as it landed, ninth part: what a heap tells, and New. Condition: the pointer's blocks are as 'HB' says.
-/
import Derived.Test.YtpoolfnfboohjaaHeapG
import Derived.Lib.SliceRun
namespace Go.Proofs.Ytpoolfnfboohjaa.HeapC
open Go.ChangeShapes Go.WideShapes Go.ChangeAt Go.RowKit Mem RefHeap HeapI HeapP

section
variable {w : World} {g q : Nat} {u : Value} {R : List Ent} {p : List Int} (h : HB w g q u R p)
include h
theorem get_no (hp : p.length ≤ 100000) (id : Int) (hx : placeV p id = -1) :
    Calls Try.prog 34 #[.pointer (some ⟨g, 0, none⟩), .int .i64 id] w fun e w' => e = .returned (.tuple #[zeroEnt.val, .bool false]) ∧ Below w.heap.size w w' := by
  have H1 := Lib.hid (h.alloc (.cells #[.int .i64 0, .int .i64 0, .int .i64 0] 65))
  have HX := Lib.hid hx
  clear h hx
  go_enter Try.func34, Try.ntmps34
  go_wp2_with fail
  refine (placeOf_c H1.out hp id).mono ?_
  rintro e w1 ⟨rfl, rfl⟩
  rw [HX.out]
  go_wp2
  exact bodyPost_ret (v := .tuple #[zeroEnt.val, .bool false]) (by simp [results, Try.results34, go_sem, Ent.val, zeroEnt]) rfl ⟨rfl, (new_below0 w _)⟩
theorem get_yes (hp : p.length ≤ 100000) (_hR : R.length ≤ 100000) (id : Int) (j : Nat) (x : Ent) (hx : placeV p id = j) (hj : R[j]? = some x) :
    Calls Try.prog 34 #[.pointer (some ⟨g, 0, none⟩), .int .i64 id] w fun e w' => e = .returned (.tuple #[x.val, .bool true]) ∧ Below w.heap.size w w' := by
  have H1 := Lib.hid (h.alloc (.cells #[.int .i64 0, .int .i64 0, .int .i64 0] 65))
  have hjl : j < R.length := (List.getElem?_eq_some_iff.1 hj).1
  obtain ⟨b, c, rfl, hbg, hbq, hbl, c0, c1, c2, hf⟩ := (h.alloc (.cells #[.int .i64 0, .int .i64 0, .int .i64 0] 65)).row hj
  have g0 := (h.alloc (.cells #[.int .i64 0, .int .i64 0, .int .i64 0] 65)).c0
  have HX := Lib.hid hx
  have hj1 : ((j : Int) == -1) = false := by simp
  have i0 : (0 : Int) ≤ (j : Int) := by omega
  have i1 : (j : Int) < (R.length : Int) := by omega
  clear h hx hj hf hbg hbq hbl
  go_enter Try.func34, Try.ntmps34
  go_wp2_with fail
  refine (placeOf_c H1.out hp id).mono ?_
  rintro e w1 ⟨rfl, rfl⟩
  rw [HX.out]
  go_wp2
  exact bodyPost_ret (v := .tuple #[x.val, .bool true]) (by simp [results, Try.results34, go_sem, Ent.val]) rfl ⟨rfl, new_below0 w _⟩
theorem first_no (hR : R.length = 0) :
    Calls Try.prog 31 #[.pointer (some ⟨g, 0, none⟩)] w fun e w' => e = .returned (.tuple #[zeroEnt.val, .bool false]) ∧ Below w.heap.size w w' := by
  have g0 := (h.alloc (.cells #[.int .i64 0, .int .i64 0, .int .i64 0] 65)).c0
  obtain ⟨A, c, rfl⟩ := h.form
  rw [hR] at g0
  clear h hR
  go_enter Try.func31, Try.ntmps31
  go_wp2
  exact bodyPost_ret (v := .tuple #[zeroEnt.val, .bool false]) (by simp [results, Try.results31, go_sem, Ent.val, zeroEnt]) rfl ⟨rfl, (new_below0 w _)⟩
theorem first_yes (hR : R.length ≤ 100000) (x : Ent) (hj : R[0]? = some x) :
    Calls Try.prog 31 #[.pointer (some ⟨g, 0, none⟩)] w fun e w' => e = .returned (.tuple #[x.val, .bool true]) ∧ Below w.heap.size w w' := by
  have hjl : 0 < R.length := (List.getElem?_eq_some_iff.1 hj).1
  obtain ⟨b, c, rfl, hbg, hbq, hbl, c0, c1, c2, hf⟩ := (h.alloc (.cells #[.int .i64 0, .int .i64 0, .int .i64 0] 65)).row hj
  have g0 := (h.alloc (.cells #[.int .i64 0, .int .i64 0, .int .i64 0] 65)).c0
  simp only [Nat.zero_mul, Nat.zero_add] at c0 c1 c2
  have e0 : ((R.length : Int) == 0) = false := by simp; intro e; rw [e] at hjl; simp at hjl
  have i1 : (0 : Int) < (R.length : Int) := by omega
  clear h hj hf hbg hbq hbl
  go_enter Try.func31, Try.ntmps31
  go_wp2
  exact bodyPost_ret (v := .tuple #[x.val, .bool true]) (by simp [results, Try.results31, go_sem, Ent.val]) rfl ⟨rfl, new_below0 w _⟩
end

set_option maxRecDepth 100000 in
/-- slices.Clone of the rows. -/
theorem clone_c {w : World} {u : Value} {R : List Ent} (h : OwnL entE w 0 65 u R) (hR : R.length ≤ 100000) :
    Calls Try.prog 47 #[u] w fun e w' => ∃ v, e = .returned v ∧ OwnL entE w' w.heap.size 65 v R ∧ Below w.heap.size w w' := by
  obtain ⟨A, c, rfl⟩ := h.form
  have HR := Lib.hid h
  have hn : A = none → R.length = 0 ∧ c = 0 := by
    intro hA
    subst hA
    rcases h.2 with ⟨he, hn⟩ | ⟨g, cap, cur, he, _⟩
    · injection he with _ _ h3; exact ⟨hn, h3⟩
    · cases he
  have HN := Lib.hid hn
  clear h hn
  cases A with
  | none =>
    obtain ⟨h1, h2⟩ := HN.out rfl
    have HR0 : R = [] := List.eq_nil_of_length_eq_zero h1
    subst HR0
    subst h2
    have q22 : ∀ W, (binOp .eql 68 (.slice none 0 0) (.slice none 0 0)).run Try.prog W = .ok (.bool true) W := fun W => Lib.run_eql_slice_nil W _ _ none 0 0 0 0 Try.underlying68
    clear HR HN h1
    show Calls _ _ #[.slice none 0 0] _ _
    go_enter Try.func47, Try.ntmps47
    go_wp2
    go_ret
    exact ⟨_, rfl, OwnL.none_ _ _ _, Below.refl _ _⟩
  | some a =>
    have HR2 : Hid (RdL entE (w.alloc (.cells #[] 65)) (fun _ => True) (.slice (some a) R.length c) R) := (HR.out.rd (G := fun _ => True) (by omega) fun _ _ => trivial).alloc _
    have q22 : ∀ W, (binOp .eql 68 (.slice (some a) R.length c) (.slice none 0 0)).run Try.prog W = .ok (.bool false) W := fun W => Lib.run_eql_slice_nil W _ _ (some a) _ c 0 0 Try.underlying68
    go_enter Try.func47, Try.ntmps47
    go_wp2_with (at_builtin; refine wpList_appL rfl _ _ rowElem rfl rfl rfl (OwnL.lit0 (E := entE) w w.heap.size 65 (Nat.le_refl _)) HR2.out (by simp; omega) (by simp) ?_)
    intro v' w1 hown hgrow hat
    have HO := Lib.hid hown
    have HB1 : Hid (Below w.heap.size w w1) := Below.grown (new_below0 w _) hgrow (by simp) (fun k hk => by simp [Value.ownBlock] at hk; omega)
    clear hown hgrow hat
    go_wp2
    go_ret
    exact ⟨_, rfl, HO.out, HB1.out⟩
theorem rows_c {w : World} {g q : Nat} {u : Value} {R : List Ent} {p : List Int} (h : HB w g q u R p) (hR : R.length ≤ 100000) :
    Calls Try.prog 39 #[.pointer (some ⟨g, 0, none⟩)] w fun e w' => ∃ v, e = .returned v ∧ OwnL entE w' w.heap.size 65 v R ∧ Below w.heap.size w w' := by
  have g0 := h.c0
  obtain ⟨A, c, rfl⟩ := h.form
  have HR := Lib.hid h.rows
  clear h
  go_enter Try.func39, Try.ntmps39
  go_wp2_with fail
  refine (clone_c HR.out hR).mono ?_
  rintro e w1 ⟨v, rfl, ho, hb⟩
  obtain ⟨A1, c1, rfl⟩ := ho.form
  have HO := Lib.hid ho
  have HB1 := Lib.hid hb
  clear ho hb
  go_wp2
  go_ret
  exact ⟨_, rfl, HO.out, HB1.out⟩

theorem new_no (n : Int) (w : World) (h : n < 1 ∨ 1000 < n) :
    Calls Try.prog 29 #[.int .i64 n] w fun e w' => e = .returned (.tuple #[.pointer none, .int .i64 1]) ∧ Below w.heap.size w w' := by
  rcases (by omega : n < 1 ∨ (1 ≤ n ∧ 1000 < n)) with h1 | ⟨h1, h2⟩
  all_goals
    clear h
    go_enter Try.func29, Try.ntmps29
    go_wp2
    go_ret2
    exact ⟨rfl, Below.refl _ _⟩
end Go.Proofs.Ytpoolfnfboohjaa.HeapC
