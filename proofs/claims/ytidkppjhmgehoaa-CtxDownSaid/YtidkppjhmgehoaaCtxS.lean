/-
  The law's own acts on the reference of layer 6. Condition: the arena is at hand.
-/
import Derived.Test.YtidkppjhmgehoaaCtxI
namespace Go.Proofs.Ytidkppjhmgehoaa.CtxI
open Go.ChangeShapes Go.WideShapes Go.ChangeAt Go.RowKit Mem TreeP RefTree CtxP Hand TreeI RefCtx

section
variable {B : Nat → Prop} {w wk : World} {Rs : List Res} {T : List Nd} {X : List Cn} {M : Int} {p : Nat}
theorem endO_len (hok : TreeP.Ok T M) (n : Int) : (endO T X n).length ≤ 1000000 := by
  have h1 := told_len X (reachT T n)
  have h2 := reach_len hok.wf n
  have h3 := hok.len
  have h4 := hok.m1
  show (toldL X (reachT T n)).length ≤ _
  omega
theorem due_len (hok : TreeP.Ok T M) (now : Int) : ∀ (f : Nat) (X : List Cn), (dueF T now f X).1.length ≤ 200 * f
  | 0, X => by simp [dueF]
  | f + 1, X => by
    rw [dueF]
    split
    · have ih := due_len hok now f (endX T X (firstX X) 11 (cn X (firstX X)).why)
      have h1 := told_len X (reachT T (firstX X))
      have h2 := reach_len hok.wf (firstX X)
      have h3 := hok.len
      have h4 := hok.m1
      have h5 : (endO T X (firstX X)).length ≤ 200 := by show (toldL X (reachT T (firstX X))).length ≤ _; omega
      rw [List.length_append]
      omega
    · simp
theorem dueO_len (hok : TreeP.Ok T M) (hl : T.length = X.length) (now : Int) : (dueO T X now).length ≤ 1000000 := by
  have h1 := due_len hok now (liveN X) X
  have h2 : liveN X ≤ X.length := List.countP_le_length
  have h3 := hok.len
  have h4 := hok.m1
  show (dueF T now (liveN X) X).1.length ≤ _
  omega
end

set_option maxRecDepth 100000 in
/-- own(b, x): the document's act. -/
theorem y_own {B : Nat → Prop} {w wk : World} {Rs : List Res} {T : List Nd} {X : List Cn} {M : Int} {p : Nat} (h : Sep B w wk (rx p T X M :: Rs)) (d n a b now : Int) :
    Calls Try.prog 11 #[.pointer (some ⟨p, 0, none⟩), actVal d n a b now] wk fun e wn => ∃ A c, e = .returned (.tuple #[.int .i64 (actV T M d n), .int .i64 (actE T M d n), .slice A (actO T X d n now).length c]) ∧ Sep B w wn (nums (.slice A (actO T X d n now).length c) (actO T X d n now) :: rx p (actT T M d n) (actX T X M d n a b now) M :: Rs) := by
  have HOK : Hid (TreeP.Ok T M ∧ T.length = X.length) := by obtain ⟨_, _, _, hl, hok⟩ := rx_open h; exact ⟨hok, hl⟩
  have S0 := Lib.hid (h.new (.cells #[.int .i64 d, .int .i64 n, .int .i64 a, .int .i64 b, .int .i64 now] 32)).swap
  have HD := Lib.hid (fun wn A (l : List Int) c T' X' (h1 : Sep B w wn (nums (.slice A l.length c) l :: rx p T' X' M :: blk wk.heap.size (.cells #[.int .i64 d, .int .i64 n, .int .i64 a, .int .i64 b, .int .i64 now] 32) :: Rs)) => h1.sub (.cons_cons _ (.cons_cons _ (.cons _ (List.Sublist.refl _)))))
  clear h
  unfold actVal
  rcases (by omega : d = 0 ∨ d = 1 ∨ d = 2 ∨ d = 3 ∨ d = 4 ∨ d = 5 ∨ (d ≠ 0 ∧ d ≠ 1 ∧ d ≠ 2 ∧ d ≠ 3 ∧ d ≠ 4 ∧ d ≠ 5)) with rfl | rfl | rfl | rfl | rfl | rfl | ⟨d0, d1, d2, d3, d4, d5⟩
  · go_enter Try.func11, Try.ntmps11
    go_wp2_with fail
    refine (with_s S0.out n false zeroCn 0).mono ?_
    rintro e w1 ⟨rfl, h1⟩
    have S1 := Lib.hid h1
    clear h1
    go_wp2
    go_ret3
    exact ⟨_, _, rfl, HD.out _ _ [] _ _ _ (nil_nums S1.out)⟩
  · go_enter Try.func11, Try.ntmps11
    go_wp2_with fail
    refine (with_s S0.out n false (lateX a b) now).mono ?_
    rintro e w1 ⟨rfl, h1⟩
    have S1 := Lib.hid h1
    clear h1
    go_wp2
    go_ret3
    exact ⟨_, _, rfl, HD.out _ _ [] _ _ _ (nil_nums S1.out)⟩
  · go_enter Try.func11, Try.ntmps11
    go_wp2_with fail
    refine (with_s S0.out n false (namedX a b) 0).mono ?_
    rintro e w1 ⟨rfl, h1⟩
    have S1 := Lib.hid h1
    clear h1
    go_wp2
    go_ret3
    exact ⟨_, _, rfl, HD.out _ _ [] _ _ _ (nil_nums S1.out)⟩
  · go_enter Try.func11, Try.ntmps11
    go_wp2_with fail
    refine (with_s S0.out n true zeroCn 0).mono ?_
    rintro e w1 ⟨rfl, h1⟩
    have S1 := Lib.hid h1
    clear h1
    go_wp2
    go_ret3
    exact ⟨_, _, rfl, HD.out _ _ [] _ _ _ (nil_nums S1.out)⟩
  · by_cases hn : n = 0
    · subst hn
      go_enter Try.func11, Try.ntmps11
      go_wp2
      go_ret3
      exact ⟨_, _, rfl, HD.out _ _ [] _ _ _ (nil_nums S0.out)⟩
    · have HO : Hid (actO T X 4 n now = endO T X n ∧ actX T X M 4 n a b now = endX T X n 10 a) := by
        refine ⟨?_, ?_⟩
        · show cancelO T X n = _
          unfold cancelO; rw [if_neg hn]
        · show cancelX T X n a = _
          unfold cancelX; rw [if_neg hn]
      have e1 : (n == 0) = false := by simpa using hn
      have e2 : (n != 0) = true := by simpa using hn
      clear hn
      go_enter Try.func11, Try.ntmps11
      go_wp2_with fail
      refine (end_s S0.out n 10 a).mono ?_
      rintro e w1 ⟨A1, c1, rfl, h1⟩
      have S1 := Lib.hid (grow_nums h1 (endO_len HOK.out.1 n))
      clear h1
      go_wp2
      go_ret3
      rw [HO.out.1, HO.out.2]
      exact ⟨_, _, rfl, HD.out _ _ _ _ _ _ S1.out⟩
  · go_enter Try.func11, Try.ntmps11
    go_wp2_with fail
    refine (due_s S0.out now).mono ?_
    rintro e w1 ⟨A1, c1, rfl, h1⟩
    have S1 := Lib.hid (grow_nums h1 (dueO_len HOK.out.1 HOK.out.2 now))
    clear h1
    go_wp2
    go_ret3
    exact ⟨_, _, rfl, HD.out _ _ _ _ _ _ S1.out⟩
  · have HR : Hid (actV T M d n = 0 ∧ actE T M d n = 0 ∧ actT T M d n = T ∧ actX T X M d n a b now = X ∧ actO T X d n now = []) := by
      show _ ∧ _
      unfold actV actE actT actX actO
      rw [if_neg (by omega), if_neg (by omega), if_neg (by omega), if_neg d3, if_neg d0, if_neg d1, if_neg d2, if_neg d3, if_neg d4, if_neg d5, if_neg d4, if_neg d5]
      exact ⟨rfl, rfl, rfl, rfl, rfl⟩
    have e0 : (d == 0) = false := by simpa using d0
    have e1 : (d == 1) = false := by simpa using d1
    have e2 : (d == 2) = false := by simpa using d2
    have e3 : (d == 3) = false := by simpa using d3
    have e4 : (d == 4) = false := by simpa using d4
    have e5 : (d == 5) = false := by simpa using d5
    clear d0 d1 d2 d3 d4 d5
    go_enter Try.func11, Try.ntmps11
    go_wp2
    go_ret3
    obtain ⟨q0, q1, q2, q3, q4⟩ := HR.out
    rw [q0, q1, q2, q3, q4]
    exact ⟨_, _, rfl, HD.out _ _ [] _ _ _ (nil_nums S0.out)⟩
end Go.Proofs.Ytidkppjhmgehoaa.CtxI
