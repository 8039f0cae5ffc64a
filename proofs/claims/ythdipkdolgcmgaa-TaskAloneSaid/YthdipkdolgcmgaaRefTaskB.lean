/-
  Contracts of the functions of package countermandref18 (the document's answer for layer 18), second part: what is told, and what is made. Condition: the table is at hand.
-/
import Derived.Test.YthdipkdolgcmgaaRefTask
import Derived.Test.YthdipkdolgcmgaaInts
namespace Go.Proofs.Ythdipkdolgcmgaa.RefTask
open Go.ChangeShapes Go.WideShapes Go.ChangeAt Go.RowKit Mem MutP TaskP Hand

/-- A task's value. -/
def tkV (t : Tk) : Value := .agg #[.int .i64 (get t 0), .int .i64 (get t 1), .int .i64 (get t 2), .int .i64 (get t 3), .int .i64 (get t 4), .int .i64 (get t 5), .int .i64 (get t 6), .int .i64 (get t 7), .int .i64 (get t 8), .int .i64 (get t 9), .int .i64 (get t 10), .int .i64 (get t 11), .int .i64 (get t 12), .int .i64 (get t 13), .int .i64 (get t 14), .int .i64 (get t 15), .int .i64 (get t 16)]

theorem newR_no (n : Int) (w : World) (h : n < 1 ∨ 200 < n) : Calls Try.prog 8 #[.int .i64 n] w fun e w' => e = .returned (.tuple #[.pointer none, .int .i64 1]) ∧ w = w' := by
  rcases (by omega : n < 1 ∨ (1 ≤ n ∧ 200 < n)) with h1 | ⟨h1, h2⟩
  all_goals
    clear h
    go_enter Try.func8, Try.ntmps8
    go_wp2
    go_ret2
    exact ⟨rfl, rfl⟩
theorem newR {B : Nat → Prop} {w wk : World} {Rs : List Res} (h : Sep B w wk Rs) (n : Int) (h1 : 1 ≤ n) (h2 : n ≤ 200) :
    Calls Try.prog 8 #[.int .i64 n] wk fun e wn => ∃ p, e = .returned (.tuple #[.pointer (some ⟨p, 0, none⟩), .int .i64 0]) ∧ Sep B w wn (rt p [] n :: Rs) := by
  obtain ⟨o, ho⟩ : ∃ o : Obj, o = .cells #[.slice none 0 0, .int .i64 n] 47 := ⟨_, rfl⟩
  have hb := h.new o
  have hq : Sep B w (wk.alloc o) (rto wk.heap.size [] n (.slice none 0 0) ++ Rs) := by
    rw [ho] at hb ⊢
    have h5 : Sep B w _ (grow tkE 57 (.slice none 0 0) [] :: _ :: Rs) := hb.add (R := grow tkE 57 (.slice none 0 0) []) (F := fun _ => False) (Below.refl _ _) ⟨OwnL.none_ _ _ _, by funext k; simp [Value.ownBlock]⟩ fun k hk => hk.elim
    exact h5.swap
  have HS : Hid (Sep B w (wk.alloc o) (rt wk.heap.size [] n :: Rs)) := rt_close hq (.new h1 h2)
  subst ho
  clear h hb hq
  go_enter Try.func8, Try.ntmps8
  go_wp2
  go_ret2
  exact ⟨_, rfl, HS.out⟩
end Go.Proofs.Ythdipkdolgcmgaa.RefTask
