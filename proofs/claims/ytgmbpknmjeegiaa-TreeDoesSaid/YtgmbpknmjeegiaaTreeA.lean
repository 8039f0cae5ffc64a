/-
  Contracts of the functions of package tree, as it landed, first part: those that read one node. Condition: the tree is as 'View' says.
-/
import Derived.Test.YtgmbpknmjeegiaaTreeP
import Derived.Deep.QuietTactic
import Derived.BigQuiet
import Derived.Lib.SliceRun
namespace Go.Proofs.Ytgmbpknmjeegiaa.TreeC
open Go.ChangeShapes Go.WideShapes Go.ChangeAt Go.RowKit Mem TreeP Hand

section
variable {w : World} {G : Nat → Prop} {p : Nat} {L : List Nd} {M : Int} (h : View w G p L M)
include h
theorem has_c (n : Int) : Calls Try.prog 29 #[.pointer (some ⟨p, 0, none⟩), .int .i64 n] w fun e w' => e = .returned (.bool (there L n)) ∧ w = w' := by
  obtain ⟨A, c, h0, h1, hm⟩ := h.head
  clear h
  unfold there
  by_cases hr : 0 ≤ n
  all_goals
    go_enter Try.func29, Try.ntmps29
    go_wp2
    all_goals
      go_ret
      exact ⟨ret_bool (by rw [Bool.eq_iff_iff]; simp; try omega), rfl⟩
theorem len_c : Calls Try.prog 12 #[.pointer (some ⟨p, 0, none⟩)] w fun e w' => e = .returned (.int .i64 L.length) ∧ w = w' := by
  obtain ⟨A, c, h0, h1, hm⟩ := h.head
  clear h
  go_enter Try.func12, Try.ntmps12
  go_wp2
  go_ret
  exact ⟨rfl, rfl⟩
theorem over_c (n : Int) : Calls Try.prog 13 #[.pointer (some ⟨p, 0, none⟩), .int .i64 n] w fun e w' => e = .returned (.int .i64 (overT L n)) ∧ w = w' := by
  have H := Lib.hid h
  rcases ht : there L n with _ | _
  · have HT := Lib.hid ht
    have HO : Hid (overT L n = -1) := by show _ = _; unfold overT; rw [if_neg (by rw [ht]; simp)]
    clear h ht
    go_enter Try.func13, Try.ntmps13
    go_wp2_with fail
    refine (has_c H.out n).mono ?_
    rintro e w1 ⟨rfl, rfl⟩
    rw [HT.out]
    go_wp2
    go_ret
    exact ⟨ret_int HO.out.symm, rfl⟩
  · obtain ⟨i, rfl, hi⟩ := there_nat ht
    have HT := Lib.hid ht
    have HO : Hid (overT L i = (nd L i).over) := by show _ = _; unfold overT; rw [if_pos ht]
    obtain ⟨b, off, c, A, cc, h0, c0, c1, c2, _⟩ := h.node (nd_at hi)
    have i0 : (0 : Int) ≤ (i : Int) := by omega
    have i1 : (i : Int) < (L.length : Int) := by omega
    clear h ht
    go_enter Try.func13, Try.ntmps13
    go_wp2_with fail
    refine (has_c H.out i).mono ?_
    rintro e w1 ⟨rfl, rfl⟩
    rw [HT.out]
    go_wp2
    go_ret
    exact ⟨ret_int HO.out.symm, rfl⟩
theorem cut_c (n : Int) : Calls Try.prog 15 #[.pointer (some ⟨p, 0, none⟩), .int .i64 n] w fun e w' => e = .returned (.bool (cutT L n)) ∧ w = w' := by
  have H := Lib.hid h
  rcases ht : there L n with _ | _
  · have HT := Lib.hid ht
    have HO : Hid (cutT L n = false) := by show _ = _; unfold cutT; rw [ht]; rfl
    clear h ht
    go_enter Try.func15, Try.ntmps15
    go_wp2_with fail
    refine (has_c H.out n).mono ?_
    rintro e w1 ⟨rfl, rfl⟩
    rw [HT.out]
    go_wp2
    go_ret
    exact ⟨ret_bool HO.out.symm, rfl⟩
  · obtain ⟨i, rfl, hi⟩ := there_nat ht
    have HT := Lib.hid ht
    have HO : Hid (cutT L i = (nd L i).cut) := by show _ = _; unfold cutT; rw [ht]; rfl
    obtain ⟨b, off, c, A, cc, h0, c0, c1, c2, _⟩ := h.node (nd_at hi)
    have i0 : (0 : Int) ≤ (i : Int) := by omega
    have i1 : (i : Int) < (L.length : Int) := by omega
    clear h ht
    go_enter Try.func15, Try.ntmps15
    go_wp2_with fail
    refine (has_c H.out i).mono ?_
    rintro e w1 ⟨rfl, rfl⟩
    rw [HT.out]
    go_wp2
    go_ret
    exact ⟨ret_bool HO.out.symm, rfl⟩
end

set_option maxRecDepth 100000 in
/-- slices.Clone of what is read. -/
theorem clone_i {w : World} {G : Nat → Prop} {A : Option Addr} {c : Nat} {l : List Int} (h : Rd w G (.slice A l.length c) l) (hl : l.length ≤ 100000) :
    Calls Try.prog 30 #[.slice A l.length c] w fun e w' => ∃ v, e = .returned v ∧ OwnL intE w' w.heap.size 3 v l ∧ Below w.heap.size w w' := by
  have HR := Lib.hid (rdL_of h)
  have hn : A = none → l.length = 0 := by
    intro hA
    subst hA
    obtain ⟨A', c', e, _, hx⟩ := h
    injection e with e
    subst e
    rcases Nat.eq_zero_or_pos l.length with h0 | h0
    · exact h0
    · obtain ⟨b, off, e, _⟩ := hx h0
      cases e
  have HN := Lib.hid hn
  clear h hn
  cases A with
  | none =>
    have h1 := HN.out rfl
    have HR0 : l = [] := List.eq_nil_of_length_eq_zero h1
    subst HR0
    have q22 : ∀ W, (binOp .eql 45 (.slice none 0 c) (.slice none 0 0)).run Try.prog W = .ok (.bool true) W := fun W => Lib.run_eql_slice_nil W _ _ none 0 c 0 0 Try.underlying45
    clear HR HN h1 hl
    show Calls _ _ #[.slice none 0 c] _ _
    go_enter Try.func30, Try.ntmps30
    go_wp2
    go_ret
    exact ⟨_, rfl, OwnL.none_ _ _ _, Below.refl _ _⟩
  | some a =>
    have HR2 : Hid (RdL intE (w.alloc (.cells #[] 3)) (fun _ => True) (.slice (some a) l.length c) l) := (HR.out.mono (G' := fun _ => True) fun _ _ _ => trivial).alloc _
    have q22 : ∀ W, (binOp .eql 45 (.slice (some a) l.length c) (.slice none 0 0)).run Try.prog W = .ok (.bool false) W := fun W => Lib.run_eql_slice_nil W _ _ (some a) _ c 0 0 Try.underlying45
    clear HN HR
    go_enter Try.func30, Try.ntmps30
    go_wp2_with (at_builtin; refine wpList_appL rfl _ _ intElemL rfl rfl rfl (OwnL.lit0 (E := intE) w w.heap.size 3 (Nat.le_refl _)) HR2.out (by simp; omega) (by simp) ?_)
    intro v' w1 hown hgrow hat
    have hown' : OwnL intE w1 w.heap.size 3 v' l := hown
    have HO := Lib.hid hown'
    have HB : Hid (Below w.heap.size w w1) := Below.grown (new_below0 w _) hgrow (by simp) (fun k hk => by simp [Value.ownBlock] at hk; omega)
    obtain ⟨A1, c1, rfl⟩ := hown'.form
    clear hown hown' hgrow hat
    go_wp2
    go_ret
    exact ⟨_, rfl, HO.out, HB.out⟩

/-- What is told in new blocks. -/
def New (w w' : World) (u : Value) (l : List Int) : Prop := ∃ A c, u = .slice A l.length c ∧ OwnL intE w' w.heap.size 3 u l ∧ Below w.heap.size w w'
theorem New.fits {w w' : World} {A : Option Addr} {n c : Nat} {l : List Int} (h : New w w' (.slice A n c) l) : n ≤ c := by
  obtain ⟨A', c', e, ho, _⟩ := h
  injection e with e1 e2 e3
  subst e1 e2 e3
  rcases ho.2 with ⟨e, hn⟩ | ⟨g, cap, cur, e, _, _, hnc, _⟩
  · injection e with _ _ e; omega
  · injection e with _ e2 e3; omega
theorem own_base {w : World} {b b0 : Nat} {v : Value} {l : List Int} (h : OwnL intE w b0 3 v l) (hb : ∀ k, v.ownBlock = some k → b ≤ k) : OwnL intE w b 3 v l := by
  refine ⟨h.1, ?_⟩
  rcases h.2 with h0 | ⟨g, cap, cur, rfl, _, rest⟩
  · exact .inl h0
  · exact .inr ⟨g, cap, cur, rfl, hb g rfl, rest⟩

set_option maxRecDepth 100000 in
theorem kids_c {w : World} {G : Nat → Prop} {p : Nat} {L : List Nd} {M : Int} (h : View w G p L M) (hL : L.length ≤ 100000) (n : Int) : Calls Try.prog 18 #[.pointer (some ⟨p, 0, none⟩), .int .i64 n] w fun e w' => ∃ u, e = .returned u ∧ New w w' u (kidsT L n) := by
  have H := Lib.hid h
  rcases ht : there L n with _ | _
  · have HT := Lib.hid ht
    have HO : Hid (kidsT L n = []) := by show _ = _; unfold kidsT; rw [if_neg (by rw [ht]; simp)]
    clear h ht
    go_enter Try.func18, Try.ntmps18
    go_wp2_with fail
    refine (has_c H.out n).mono ?_
    rintro e w1 ⟨rfl, rfl⟩
    rw [HT.out]
    go_wp2
    go_ret
    exact ⟨_, rfl, by rw [HO.out]; exact ⟨_, _, rfl, OwnL.none_ _ _ _, Below.refl _ _⟩⟩
  · obtain ⟨i, rfl, hi⟩ := there_nat ht
    have HT := Lib.hid ht
    have hkl := kidsT_len (L := L) i
    obtain ⟨b, off, c, A, cc, h0, c0, c1, c2, hr⟩ := h.node (nd_at hi)
    have HR := Lib.hid hr
    have i0 : (0 : Int) ≤ (i : Int) := by omega
    have i1 : (i : Int) < (L.length : Int) := by omega
    clear h ht hr c0 c1
    generalize kidsT L i = l at *
    go_enter Try.func18, Try.ntmps18
    go_wp2_with fail
    refine (has_c H.out i).mono ?_
    rintro e w1 ⟨rfl, rfl⟩
    rw [HT.out]
    go_wp2_with fail
    refine (clone_i HR.out (by omega)).mono ?_
    rintro e w1 ⟨v, rfl, ho, hb⟩
    obtain ⟨A1, c1, rfl⟩ := ho.form
    have HO := Lib.hid ho
    have HB := Lib.hid hb
    clear ho hb
    go_wp2
    go_ret
    exact ⟨_, rfl, _, _, rfl, HO.out, HB.out⟩
theorem new_no (n : Int) (w : World) (h : n < 1 ∨ 200 < n) : Calls Try.prog 7 #[.int .i64 n] w fun e w' => e = .returned (.tuple #[.pointer none, .int .i64 1]) ∧ Below w.heap.size w w' := by
  rcases (by omega : n < 1 ∨ (1 ≤ n ∧ 200 < n)) with h1 | ⟨h1, h2⟩
  all_goals
    clear h
    go_enter Try.func7, Try.ntmps7
    go_wp2
    go_ret2
    exact ⟨rfl, Below.refl _ _⟩
theorem new_yes (n : Int) (w : World) (h1 : 1 ≤ n) (h2 : n ≤ 200) : Calls Try.prog 7 #[.int .i64 n] w fun e w' => ∃ v F, e = .returned (.tuple #[v, .int .i64 0]) ∧ TA w' v F [] n ∧ Below w.heap.size w w' ∧ ∀ k, F k → w.heap.size ≤ k := by
  go_enter Try.func7, Try.ntmps7
  go_wp2
  go_ret2
  exact ⟨_, fun k => k = w.heap.size, rfl, ⟨w.heap.size, none, 0, [], rfl, Ok.new h1 h2, rfl, ⟨fun k => k = w.heap.size, fun _ => False, ⟨heap_alloc_new w _, rfl⟩, ⟨fun _ => False, fun _ => False, ⟨OwnL.none_ _ _ _, by funext k; simp [Value.ownBlock]⟩, trivial, fun _ h => h.elim, fun _ h => h.elim, fun _ h => h.elim⟩, fun _ h => h, fun _ h => h.elim, fun _ _ h => h⟩, fun k hk => by simp at hk; subst hk; simp⟩, new_below0 w _, fun k hk => Nat.le_of_eq hk.symm⟩
end Go.Proofs.Ytgmbpknmjeegiaa.TreeC
