/-
  Contracts of the functions of package tree, as it landed, first part: those that read one node. Condition: the tree is as 'View' says.
-/
import Derived.Test.YtidkppjhmgehoaaTreeP
import Derived.Deep.QuietTactic
import Derived.BigQuiet
import Derived.Lib.SliceRun
namespace Go.Proofs.Ytidkppjhmgehoaa.TreeC
open Go.ChangeShapes Go.WideShapes Go.ChangeAt Go.RowKit Mem TreeP Hand

section
variable {w : World} {G : Nat → Prop} {p : Nat} {L : List Nd} {M : Int} (h : View w G p L M)
include h
theorem has_c (n : Int) : Calls Try.prog 67 #[.pointer (some ⟨p, 0, none⟩), .int .i64 n] w fun e w' => e = .returned (.bool (there L n)) ∧ w = w' := by
  obtain ⟨A, c, h0, h1, hm⟩ := h.head
  clear h
  unfold there
  by_cases hr : 0 ≤ n
  all_goals
    go_enter Try.func67, Try.ntmps67
    go_wp2
    all_goals
      go_ret
      exact ⟨ret_bool (by rw [Bool.eq_iff_iff]; simp; try omega), rfl⟩
theorem len_c : Calls Try.prog 38 #[.pointer (some ⟨p, 0, none⟩)] w fun e w' => e = .returned (.int .i64 L.length) ∧ w = w' := by
  obtain ⟨A, c, h0, h1, hm⟩ := h.head
  clear h
  go_enter Try.func38, Try.ntmps38
  go_wp2
  go_ret
  exact ⟨rfl, rfl⟩
theorem over_c (n : Int) : Calls Try.prog 73 #[.pointer (some ⟨p, 0, none⟩), .int .i64 n] w fun e w' => e = .returned (.int .i64 (overT L n)) ∧ w = w' := by
  have H := Lib.hid h
  rcases ht : there L n with _ | _
  · have HT := Lib.hid ht
    have HO : Hid (overT L n = -1) := by show _ = _; unfold overT; rw [if_neg (by rw [ht]; simp)]
    clear h ht
    go_enter Try.func73, Try.ntmps73
    go_wp2_with fail
    refine (has_c H.out n).mono ?_
    rintro e w1 ⟨rfl, rfl⟩
    rw [HT.out]
    go_wp2
    go_ret
    exact ⟨ret_int HO.out.symm, rfl⟩
  · obtain ⟨i, rfl, hi⟩ := there_nat ht
    have HT := Lib.hid ht
    have HO : Hid (overT L i = (nd L i).over) := by show _ = _; unfold overT; rw [if_pos ht]
    obtain ⟨b, off, c, A, cc, h0, c0, c1, c2, _⟩ := h.node (nd_at hi)
    have i0 : (0 : Int) ≤ (i : Int) := by omega
    have i1 : (i : Int) < (L.length : Int) := by omega
    clear h ht
    go_enter Try.func73, Try.ntmps73
    go_wp2_with fail
    refine (has_c H.out i).mono ?_
    rintro e w1 ⟨rfl, rfl⟩
    rw [HT.out]
    go_wp2
    go_ret
    exact ⟨ret_int HO.out.symm, rfl⟩
theorem cut_c (n : Int) : Calls Try.prog 65 #[.pointer (some ⟨p, 0, none⟩), .int .i64 n] w fun e w' => e = .returned (.bool (cutT L n)) ∧ w = w' := by
  have H := Lib.hid h
  rcases ht : there L n with _ | _
  · have HT := Lib.hid ht
    have HO : Hid (cutT L n = false) := by show _ = _; unfold cutT; rw [ht]; rfl
    clear h ht
    go_enter Try.func65, Try.ntmps65
    go_wp2_with fail
    refine (has_c H.out n).mono ?_
    rintro e w1 ⟨rfl, rfl⟩
    rw [HT.out]
    go_wp2
    go_ret
    exact ⟨ret_bool HO.out.symm, rfl⟩
  · obtain ⟨i, rfl, hi⟩ := there_nat ht
    have HT := Lib.hid ht
    have HO : Hid (cutT L i = (nd L i).cut) := by show _ = _; unfold cutT; rw [ht]; rfl
    obtain ⟨b, off, c, A, cc, h0, c0, c1, c2, _⟩ := h.node (nd_at hi)
    have i0 : (0 : Int) ≤ (i : Int) := by omega
    have i1 : (i : Int) < (L.length : Int) := by omega
    clear h ht
    go_enter Try.func65, Try.ntmps65
    go_wp2_with fail
    refine (has_c H.out i).mono ?_
    rintro e w1 ⟨rfl, rfl⟩
    rw [HT.out]
    go_wp2
    go_ret
    exact ⟨ret_bool HO.out.symm, rfl⟩
end

/-- What is told in new blocks. -/
def New (w w' : World) (u : Value) (l : List Int) : Prop := ∃ A c, u = .slice A l.length c ∧ OwnL intE w' w.heap.size 3 u l ∧ Below w.heap.size w w'
theorem New.fits {w w' : World} {A : Option Addr} {n c : Nat} {l : List Int} (h : New w w' (.slice A n c) l) : n ≤ c := by
  obtain ⟨A', c', e, ho, _⟩ := h
  injection e with e1 e2 e3
  subst e1 e2 e3
  rcases ho.2 with ⟨e, hn⟩ | ⟨g, cap, cur, e, _, _, hnc, _⟩
  · injection e with _ _ e; omega
  · injection e with _ e2 e3; omega
theorem own_base {w : World} {b b0 : Nat} {v : Value} {l : List Int} (h : OwnL intE w b0 3 v l) (hb : ∀ k, v.ownBlock = some k → b ≤ k) : OwnL intE w b 3 v l := by
  refine ⟨h.1, ?_⟩
  rcases h.2 with h0 | ⟨g, cap, cur, rfl, _, rest⟩
  · exact .inl h0
  · exact .inr ⟨g, cap, cur, rfl, hb g rfl, rest⟩

theorem new_no (n : Int) (w : World) (h : n < 1 ∨ 200 < n) : Calls Try.prog 31 #[.int .i64 n] w fun e w' => e = .returned (.tuple #[.pointer none, .int .i64 1]) ∧ Below w.heap.size w w' := by
  rcases (by omega : n < 1 ∨ (1 ≤ n ∧ 200 < n)) with h1 | ⟨h1, h2⟩
  all_goals
    clear h
    go_enter Try.func31, Try.ntmps31
    go_wp2
    go_ret2
    exact ⟨rfl, Below.refl _ _⟩
theorem new_yes (n : Int) (w : World) (h1 : 1 ≤ n) (h2 : n ≤ 200) : Calls Try.prog 31 #[.int .i64 n] w fun e w' => ∃ v F, e = .returned (.tuple #[v, .int .i64 0]) ∧ TA w' v F [] n ∧ Below w.heap.size w w' ∧ ∀ k, F k → w.heap.size ≤ k := by
  go_enter Try.func31, Try.ntmps31
  go_wp2
  go_ret2
  exact ⟨_, fun k => k = w.heap.size, rfl, ⟨w.heap.size, none, 0, [], rfl, Ok.new h1 h2, rfl, ⟨fun k => k = w.heap.size, fun _ => False, ⟨heap_alloc_new w _, rfl⟩, ⟨fun _ => False, fun _ => False, ⟨OwnL.none_ _ _ _, by funext k; simp [Value.ownBlock]⟩, trivial, fun _ h => h.elim, fun _ h => h.elim, fun _ h => h.elim⟩, fun _ h => h, fun _ h => h.elim, fun _ _ h => h⟩, fun k hk => by simp at hk; subst hk; simp⟩, new_below0 w _, fun k hk => Nat.le_of_eq hk.symm⟩
end Go.Proofs.Ytidkppjhmgehoaa.TreeC
