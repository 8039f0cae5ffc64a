/-
  Contracts of the functions of package heap, as it landed, ninth part: what a heap tells, and New. Condition: the pointer's blocks are as 'HB' says.
-/
import Derived.Test.YtilfjhpellmfoaaHeapG
import Derived.Lib.SliceRun
namespace Go.Proofs.Ytilfjhpellmfoaa.HeapC
open Go.ChangeShapes Go.WideShapes Go.ChangeAt Go.RowKit Mem RefHeap HeapI HeapP

section
variable {w : World} {g q : Nat} {u : Value} {R : List Ent} {p : List Int} (h : HB w g q u R p)
include h
theorem get_no (hp : p.length ≤ 100000) (id : Int) (hx : placeV p id = -1) :
    Calls Try.prog 24 #[.pointer (some ⟨g, 0, none⟩), .int .i64 id] w fun e w' => e = .returned (.tuple #[zeroEnt.val, .bool false]) ∧ Below w.heap.size w w' := by
  have H1 := Lib.hid (h.alloc (.cells #[.int .i64 0, .int .i64 0, .int .i64 0] 32))
  have HX := Lib.hid hx
  clear h hx
  go_enter Try.func24, Try.ntmps24
  go_wp2_with fail
  refine (placeOf_c H1.out hp id).mono ?_
  rintro e w1 ⟨rfl, rfl⟩
  rw [HX.out]
  go_wp2
  exact bodyPost_ret (v := .tuple #[zeroEnt.val, .bool false]) (by simp [results, Try.results24, go_sem, Ent.val, zeroEnt]) rfl ⟨rfl, (new_below0 w _)⟩
theorem get_yes (hp : p.length ≤ 100000) (_hR : R.length ≤ 100000) (id : Int) (j : Nat) (x : Ent) (hx : placeV p id = j) (hj : R[j]? = some x) :
    Calls Try.prog 24 #[.pointer (some ⟨g, 0, none⟩), .int .i64 id] w fun e w' => e = .returned (.tuple #[x.val, .bool true]) ∧ Below w.heap.size w w' := by
  have H1 := Lib.hid (h.alloc (.cells #[.int .i64 0, .int .i64 0, .int .i64 0] 32))
  have hjl : j < R.length := (List.getElem?_eq_some_iff.1 hj).1
  obtain ⟨b, c, rfl, hbg, hbq, hbl, c0, c1, c2, hf⟩ := (h.alloc (.cells #[.int .i64 0, .int .i64 0, .int .i64 0] 32)).row hj
  have g0 := (h.alloc (.cells #[.int .i64 0, .int .i64 0, .int .i64 0] 32)).c0
  have HX := Lib.hid hx
  have hj1 : ((j : Int) == -1) = false := by simp
  have i0 : (0 : Int) ≤ (j : Int) := by omega
  have i1 : (j : Int) < (R.length : Int) := by omega
  clear h hx hj hf hbg hbq hbl
  go_enter Try.func24, Try.ntmps24
  go_wp2_with fail
  refine (placeOf_c H1.out hp id).mono ?_
  rintro e w1 ⟨rfl, rfl⟩
  rw [HX.out]
  go_wp2
  exact bodyPost_ret (v := .tuple #[x.val, .bool true]) (by simp [results, Try.results24, go_sem, Ent.val]) rfl ⟨rfl, new_below0 w _⟩
theorem first_no (hR : R.length = 0) :
    Calls Try.prog 15 #[.pointer (some ⟨g, 0, none⟩)] w fun e w' => e = .returned (.tuple #[zeroEnt.val, .bool false]) ∧ Below w.heap.size w w' := by
  have g0 := (h.alloc (.cells #[.int .i64 0, .int .i64 0, .int .i64 0] 32)).c0
  obtain ⟨A, c, rfl⟩ := h.form
  rw [hR] at g0
  clear h hR
  go_enter Try.func15, Try.ntmps15
  go_wp2
  exact bodyPost_ret (v := .tuple #[zeroEnt.val, .bool false]) (by simp [results, Try.results15, go_sem, Ent.val, zeroEnt]) rfl ⟨rfl, (new_below0 w _)⟩
theorem first_yes (hR : R.length ≤ 100000) (x : Ent) (hj : R[0]? = some x) :
    Calls Try.prog 15 #[.pointer (some ⟨g, 0, none⟩)] w fun e w' => e = .returned (.tuple #[x.val, .bool true]) ∧ Below w.heap.size w w' := by
  have hjl : 0 < R.length := (List.getElem?_eq_some_iff.1 hj).1
  obtain ⟨b, c, rfl, hbg, hbq, hbl, c0, c1, c2, hf⟩ := (h.alloc (.cells #[.int .i64 0, .int .i64 0, .int .i64 0] 32)).row hj
  have g0 := (h.alloc (.cells #[.int .i64 0, .int .i64 0, .int .i64 0] 32)).c0
  simp only [Nat.zero_mul, Nat.zero_add] at c0 c1 c2
  have e0 : ((R.length : Int) == 0) = false := by simp; intro e; rw [e] at hjl; simp at hjl
  have i1 : (0 : Int) < (R.length : Int) := by omega
  clear h hj hf hbg hbq hbl
  go_enter Try.func15, Try.ntmps15
  go_wp2
  exact bodyPost_ret (v := .tuple #[x.val, .bool true]) (by simp [results, Try.results15, go_sem, Ent.val]) rfl ⟨rfl, new_below0 w _⟩
theorem len_c (_hR : R.length ≤ 100000) : Calls Try.prog 17 #[.pointer (some ⟨g, 0, none⟩)] w fun e w' => e = .returned (.int .i64 R.length) ∧ w = w' := by
  have g0 := h.c0
  obtain ⟨A, c, rfl⟩ := h.form
  clear h
  go_enter Try.func17, Try.ntmps17
  go_wp2
  go_ret
  exact ⟨rfl, rfl⟩
end

theorem ahead_c (a b : Ent) (w : World) : Calls Try.prog 25 #[a.val, b.val] w fun e w' => e = .returned (.bool (RefHeap.ahead a b)) ∧ Below w.heap.size w w' := by
  have HE := Lib.hid (cmpE_neg a b)
  have hcon := fun W => against_c a b W
  unfold Ent.val at hcon
  have HC := Lib.hid hcon
  clear hcon
  have HB0 : Hid (Below w.heap.size w ((w.alloc (.cells #[.int .i64 a.id, .int .i64 a.at_, .int .i64 a.seq] 32)).alloc (.cells #[.int .i64 b.id, .int .i64 b.at_, .int .i64 b.seq] 32))) := (new_below0 w _).alloc (by simp) _
  unfold Ent.val
  go_enter Try.func25, Try.ntmps25
  go_wp2_with fail
  refine (HC.out _).mono ?_
  rintro e w1 ⟨rfl, hg⟩
  have HB1 := Lib.hid (HB0.out.trans (hg.below.mono (by simp; omega)))
  clear hg
  generalize cmpE a b = r at *
  go_wp2
  go_ret
  exact ⟨ret_bool HE.out, HB1.out⟩

set_option maxRecDepth 100000 in
/-- slices.Clone of the rows. -/
theorem clone_c {w : World} {u : Value} {R : List Ent} (h : OwnL entE w 0 32 u R) (hR : R.length ≤ 100000) :
    Calls Try.prog 33 #[u] w fun e w' => ∃ v, e = .returned v ∧ OwnL entE w' w.heap.size 32 v R ∧ Below w.heap.size w w' := by
  obtain ⟨A, c, rfl⟩ := h.form
  have HR := Lib.hid h
  have hn : A = none → R.length = 0 ∧ c = 0 := by
    intro hA
    subst hA
    rcases h.2 with ⟨he, hn⟩ | ⟨g, cap, cur, he, _⟩
    · injection he with _ _ h3; exact ⟨hn, h3⟩
    · cases he
  have HN := Lib.hid hn
  clear h hn
  cases A with
  | none =>
    obtain ⟨h1, h2⟩ := HN.out rfl
    have HR0 : R = [] := List.eq_nil_of_length_eq_zero h1
    subst HR0
    subst h2
    have q22 : ∀ W, (binOp .eql 52 (.slice none 0 0) (.slice none 0 0)).run Try.prog W = .ok (.bool true) W := fun W => Lib.run_eql_slice_nil W _ _ none 0 0 0 0 Try.underlying52
    clear HR HN h1
    show Calls _ _ #[.slice none 0 0] _ _
    go_enter Try.func33, Try.ntmps33
    go_wp2
    go_ret
    exact ⟨_, rfl, OwnL.none_ _ _ _, Below.refl _ _⟩
  | some a =>
    have HR2 : Hid (RdL entE (w.alloc (.cells #[] 32)) (fun _ => True) (.slice (some a) R.length c) R) := (HR.out.rd (G := fun _ => True) (by omega) fun _ _ => trivial).alloc _
    have q22 : ∀ W, (binOp .eql 52 (.slice (some a) R.length c) (.slice none 0 0)).run Try.prog W = .ok (.bool false) W := fun W => Lib.run_eql_slice_nil W _ _ (some a) _ c 0 0 Try.underlying52
    go_enter Try.func33, Try.ntmps33
    go_wp2_with (at_builtin; refine wpList_appL rfl _ _ rowElem rfl rfl rfl (OwnL.lit0 (E := entE) w w.heap.size 32 (Nat.le_refl _)) HR2.out (by simp; omega) (by simp) ?_)
    intro v' w1 hown hgrow hat
    have HO := Lib.hid hown
    have HB1 : Hid (Below w.heap.size w w1) := Below.grown (new_below0 w _) hgrow (by simp) (fun k hk => by simp [Value.ownBlock] at hk; omega)
    clear hown hgrow hat
    go_wp2
    go_ret
    exact ⟨_, rfl, HO.out, HB1.out⟩
theorem rows_c {w : World} {g q : Nat} {u : Value} {R : List Ent} {p : List Int} (h : HB w g q u R p) (hR : R.length ≤ 100000) :
    Calls Try.prog 22 #[.pointer (some ⟨g, 0, none⟩)] w fun e w' => ∃ v, e = .returned v ∧ OwnL entE w' w.heap.size 32 v R ∧ Below w.heap.size w w' := by
  have g0 := h.c0
  obtain ⟨A, c, rfl⟩ := h.form
  have HR := Lib.hid h.rows
  clear h
  go_enter Try.func22, Try.ntmps22
  go_wp2_with fail
  refine (clone_c HR.out hR).mono ?_
  rintro e w1 ⟨v, rfl, ho, hb⟩
  obtain ⟨A1, c1, rfl⟩ := ho.form
  have HO := Lib.hid ho
  have HB1 := Lib.hid hb
  clear ho hb
  go_wp2
  go_ret
  exact ⟨_, rfl, HO.out, HB1.out⟩

theorem new_no (n : Int) (w : World) (h : n < 1 ∨ 1000 < n) :
    Calls Try.prog 8 #[.int .i64 n] w fun e w' => e = .returned (.tuple #[.pointer none, .int .i64 1]) ∧ Below w.heap.size w w' := by
  rcases (by omega : n < 1 ∨ (1 ≤ n ∧ 1000 < n)) with h1 | ⟨h1, h2⟩
  all_goals
    clear h
    go_enter Try.func8, Try.ntmps8
    go_wp2
    go_ret2
    exact ⟨rfl, Below.refl _ _⟩
end Go.Proofs.Ytilfjhpellmfoaa.HeapC
