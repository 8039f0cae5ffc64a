/-
  Contexts as plain mathematics (layer 6): what each has beside its place in the tree, and what the document's functions make of it. No condition.
-/
import Derived.Test.YtidkppjhmgehoaaNode
namespace Go.Proofs.Ytidkppjhmgehoaa.CtxP
open Go.ChangeShapes Go.WideShapes Go.ChangeAt Go.RowKit Mem TreeP

/-- What a context has. -/
structure Cn where
  e : Int
  cause : Int
  has : Bool
  at_ : Int
  why : Int
  named : Bool
  key : Int
  value : Int
  deriving DecidableEq

def cnE : Enc Cn := ⟨8, fun x => [.int .i64 x.e, .int .i64 x.cause, .bool x.has, .int .i64 x.at_, .int .i64 x.why, .bool x.named, .int .i64 x.key, .int .i64 x.value], fun _ => rfl, by intro a u hu; simp at hu; rcases hu with rfl | rfl | rfl | rfl | rfl | rfl | rfl | rfl <;> rfl, by omega⟩
def Cn.val (x : Cn) : Value := .agg #[.int .i64 x.e, .int .i64 x.cause, .bool x.has, .int .i64 x.at_, .int .i64 x.why, .bool x.named, .int .i64 x.key, .int .i64 x.value]
def zeroCn : Cn := ⟨0, 0, false, 0, 0, false, 0, 0⟩
def cn (X : List Cn) (n : Int) : Cn := X.getD n.toNat zeroCn
theorem cn_at {X : List Cn} {i : Nat} (h : i < X.length) : X[i]? = some (cn X i) := by
  unfold cn
  rw [Int.toNat_natCast, List.getD_eq_getElem?_getD, List.getElem?_eq_getElem h]; rfl
theorem cn_of {X : List Cn} {i : Nat} {x : Cn} (h : X[i]? = some x) : cn X i = x := by
  unfold cn
  rw [Int.toNat_natCast, List.getD_eq_getElem?_getD, h]; rfl

/-- To end: who is reached, and isn't done, is done. -/
def mark (e c : Int) (x : Cn) : Cn := { x with e := e, cause := c }
def markL (X : List Cn) (l : List Int) (e c : Int) : List Cn := X.mapIdx fun i x => if (i : Int) ∈ l ∧ x.e = 0 then mark e c x else x
def toldL (X : List Cn) (l : List Int) : List Int := l.filter fun k => decide ((cn X k).e = 0)
def cz (e c : Int) : Int := if c = 0 then e else c
def endX (T : List Nd) (X : List Cn) (n e c : Int) : List Cn := markL X (reachT T n) e (cz e c)
def endO (T : List Nd) (X : List Cn) (n : Int) : List Int := toldL X (reachT T n)

theorem markL_len (X : List Cn) (l : List Int) (e c : Int) : (markL X l e c).length = X.length := by simp [markL]
theorem markL_get (X : List Cn) (l : List Int) (e c : Int) (i : Nat) : (markL X l e c)[i]? = X[i]?.map fun x => if (i : Int) ∈ l ∧ x.e = 0 then mark e c x else x := by
  unfold markL
  rw [List.getElem?_mapIdx]
theorem markL_nil (X : List Cn) (e c : Int) : markL X [] e c = X := by
  apply List.ext_getElem?
  intro i
  rw [markL_get]
  cases X[i]? <;> simp
theorem cn_mark {X : List Cn} {l : List Int} {e c : Int} {i : Nat} (h : i < X.length) : cn (markL X l e c) i = if (i : Int) ∈ l ∧ (cn X i).e = 0 then mark e c (cn X i) else cn X i := by
  have := markL_get X l e c i
  rw [cn_at h] at this
  exact cn_of this
/-- One more of them. -/
theorem mark_yes {X : List Cn} {l : List Int} {e c : Int} {k : Nat} (h : k < X.length) (hk : (k : Int) ∉ l) (h0 : (cn X k).e = 0) : markL X (l ++ [(k : Int)]) e c = (markL X l e c).set k (mark e c (cn X k)) ∧ (markL X l e c)[k]? = some (cn X k) := by
  refine ⟨?_, by rw [markL_get, cn_at h]; simp [hk]⟩
  apply List.ext_getElem?
  intro i
  rw [markL_get, List.getElem?_set]
  by_cases hi : k = i
  · subst hi
    rw [if_pos rfl, cn_at h, if_pos (by rw [markL_len]; exact h)]
    simp [h0]
  · have hne : (i : Int) ≠ k := by omega
    rw [if_neg hi, markL_get]
    cases X[i]? <;> simp [hne]
theorem mark_no {X : List Cn} {l : List Int} {e c : Int} {k : Nat} (h : k < X.length) (h0 : (cn X k).e ≠ 0) : markL X (l ++ [(k : Int)]) e c = markL X l e c := by
  apply List.ext_getElem?
  intro i
  rw [markL_get, markL_get]
  by_cases hi : k = i
  · subst hi
    rw [cn_at h]
    simp [h0]
  · have hne : (i : Int) ≠ k := by omega
    cases X[i]? <;> simp [hne]
theorem mark_at {X : List Cn} {l : List Int} {e c : Int} {k : Nat} (h : k < X.length) (hk : (k : Int) ∉ l) : (markL X l e c)[k]? = some (cn X k) := by rw [markL_get, cn_at h]; simp [hk]
theorem told_yes {X : List Cn} {l : List Int} {k : Int} (h0 : (cn X k).e = 0) : toldL X (l ++ [k]) = toldL X l ++ [k] := by unfold toldL; rw [List.filter_append]; simp [h0]
theorem told_no {X : List Cn} {l : List Int} {k : Int} (h0 : (cn X k).e ≠ 0) : toldL X (l ++ [k]) = toldL X l := by unfold toldL; rw [List.filter_append]; simp [h0]

/-- Of those that have a deadline, and aren't done, the one that comes first. -/
def firstTo (X : List Cn) : Nat → Int
  | 0 => -1
  | m + 1 => if (cn X (m : Nat)).has = true ∧ (cn X (m : Nat)).e = 0 ∧ (firstTo X m < 0 ∨ (cn X (m : Nat)).at_ < (cn X (firstTo X m)).at_) then m else firstTo X m
def firstX (X : List Cn) : Int := firstTo X X.length
theorem firstTo_in (X : List Cn) : ∀ m, -1 ≤ firstTo X m ∧ firstTo X m < m
  | 0 => by simp [firstTo]
  | m + 1 => by
    have := firstTo_in X m
    rw [firstTo]
    split <;> omega
theorem first_in (X : List Cn) : -1 ≤ firstX X ∧ firstX X < X.length := firstTo_in X _
theorem firstTo_live (X : List Cn) : ∀ m, 0 ≤ firstTo X m → (cn X (firstTo X m)).has = true ∧ (cn X (firstTo X m)).e = 0
  | 0, h => by simp [firstTo] at h
  | m + 1, h => by
    rw [firstTo] at h ⊢
    split
    · next hc => exact ⟨hc.1, hc.2.1⟩
    · next hc => rw [if_neg hc] at h; exact firstTo_live X m h
theorem first_live {X : List Cn} (h : 0 ≤ firstX X) : (cn X (firstX X)).has = true ∧ (cn X (firstX X)).e = 0 := firstTo_live X _ h
def nextX (X : List Cn) : Int := if firstX X < 0 then 9223372036854775807 else (cn X (firstX X)).at_

/-- How many aren't done. -/
def liveN (X : List Cn) : Nat := X.countP fun x => decide (x.e = 0)
/-- One by one. -/
def dueF (T : List Nd) (now : Int) : Nat → List Cn → List Int × List Cn
  | 0, X => ([], X)
  | f + 1, X => if 0 ≤ firstX X ∧ (cn X (firstX X)).at_ ≤ now then
      (endO T X (firstX X) ++ (dueF T now f (endX T X (firstX X) 11 (cn X (firstX X)).why)).1, (dueF T now f (endX T X (firstX X) 11 (cn X (firstX X)).why)).2)
    else ([], X)
def dueO (T : List Nd) (X : List Cn) (now : Int) : List Int := (dueF T now (liveN X) X).1
def dueX (T : List Nd) (X : List Cn) (now : Int) : List Cn := (dueF T now (liveN X) X).2

/-- The effective deadline. -/
def dlS (X : List Cn) (s : Int × Bool) (k : Int) : Int × Bool := if (cn X k).has = true ∧ (s.2 = false ∨ (cn X k).at_ < s.1) then ((cn X k).at_, true) else s
def dlX (T : List Nd) (X : List Cn) (n : Int) : Int × Bool := (chainT T n).foldl (dlS X) (0, false)
/-- A value by its key. -/
def named (X : List Cn) (key : Int) (k : Int) : Bool := (cn X k).named && decide ((cn X k).key = key)
def valX (T : List Nd) (X : List Cn) (n key : Int) : Int × Bool := match (pathT T n).find? (named X key) with | some k => ((cn X k).value, true) | none => (0, false)
def getX (T : List Nd) (X : List Cn) (n : Int) : Cn := if there T n = true then cn X n else zeroCn

/-- A new one. -/
def newC (X : List Cn) (over : Int) (cut : Bool) (x : Cn) : Cn := if cut = false ∧ (cn X over).e ≠ 0 then { x with e := (cn X over).e, cause := (cn X over).cause } else x
def lateC (x : Cn) (now : Int) : Bool := decide (x.e = 0) && x.has && decide (x.at_ ≤ now)
def withX (T : List Nd) (X : List Cn) (M over : Int) (cut : Bool) (x : Cn) (now : Int) : List Cn :=
  if addE T M over = 0 then
    if lateC (newC X over cut x) now = true then endX (addL T M over cut) (X ++ [newC X over cut x]) T.length 11 (newC X over cut x).why else X ++ [newC X over cut x]
  else X

theorem count_map (p : Cn → Bool) : ∀ (X : List Cn) (f : Nat → Cn → Cn), (∀ i x, p (f i x) = true → p x = true) → (X.mapIdx f).countP p ≤ X.countP p
  | [], _, _ => by simp
  | x :: X, f, h => by
    have ih := count_map p X (fun i => f (i + 1)) fun i => h (i + 1)
    rw [List.mapIdx_cons, List.countP_cons, List.countP_cons]
    by_cases hx : p (f 0 x) = true
    · rw [if_pos hx, if_pos (h 0 x hx)]; omega
    · rw [if_neg hx]; split <;> omega
theorem count_less (p : Cn → Bool) : ∀ (X : List Cn) (f : Nat → Cn → Cn), (∀ i x, p (f i x) = true → p x = true) → ∀ (k : Nat) (x : Cn), X[k]? = some x → p x = true → p (f k x) = false → (X.mapIdx f).countP p < X.countP p
  | [], _, _, k, x, hk, _, _ => by simp at hk
  | y :: X, f, h, 0, x, hk, hx, hf => by
    obtain rfl : y = x := by simpa using hk
    have ih := count_map p X (fun i => f (i + 1)) fun i => h (i + 1)
    rw [List.mapIdx_cons, List.countP_cons, List.countP_cons, if_neg (by rw [hf]; simp), if_pos hx]
    omega
  | y :: X, f, h, k + 1, x, hk, hx, hf => by
    have ih := count_less p X (fun i => f (i + 1)) (fun i => h (i + 1)) k x (by simpa using hk) hx hf
    rw [List.mapIdx_cons, List.countP_cons, List.countP_cons]
    by_cases hy : p (f 0 y) = true
    · rw [if_pos hy, if_pos (h 0 y hy)]; omega
    · rw [if_neg hy]; split <;> omega
theorem live_mark {X : List Cn} {l : List Int} {e c : Int} (he : e ≠ 0) {k : Nat} (hk : k < X.length) (hl : (k : Int) ∈ l) (h0 : (cn X k).e = 0) : liveN (markL X l e c) < liveN X := by
  refine count_less _ X _ (fun i x hx => ?_) k (cn X k) (cn_at hk) (by simpa using h0) ?_
  · split at hx
    · next h => simpa using h.2
    · exact hx
  · rw [if_pos ⟨hl, h0⟩]
    exact decide_eq_false he
theorem live_some {X : List Cn} {k : Nat} (hk : k < X.length) (h0 : (cn X k).e = 0) : 0 < liveN X := by
  unfold liveN
  rw [List.countP_pos_iff]
  exact ⟨cn X k, List.mem_of_getElem? (cn_at hk), by simpa using h0⟩
theorem due_stop {T : List Nd} {now : Int} {X : List Cn} (h : ¬ (0 ≤ firstX X ∧ (cn X (firstX X)).at_ ≤ now)) (f : Nat) : dueF T now f X = ([], X) := by
  cases f with
  | zero => rfl
  | succ f => rw [dueF, if_neg h]
theorem due_step {T : List Nd} {now : Int} {X : List Cn} (h : 0 ≤ firstX X ∧ (cn X (firstX X)).at_ ≤ now) (f : Nat) : dueF T now (f + 1) X = (endO T X (firstX X) ++ (dueF T now f (endX T X (firstX X) 11 (cn X (firstX X)).why)).1, (dueF T now f (endX T X (firstX X) 11 (cn X (firstX X)).why)).2) := by rw [dueF, if_pos h]
theorem told_len (X : List Cn) (l : List Int) : (toldL X l).length ≤ l.length := List.length_filter_le _ _
/-- What is first is ended by its own end. -/
theorem live_end {T : List Nd} {X : List Cn} (hw : Wf T) (hl : T.length = X.length) {k : Nat} (hk : k < X.length) (h0 : (cn X k).e = 0) (c : Int) : liveN (endX T X k 11 c) < liveN X :=
  live_mark (by decide) hk (reach_self hw (there_iff.2 (by omega))) h0
theorem endX_len (T : List Nd) (X : List Cn) (n e c : Int) : (endX T X n e c).length = X.length := markL_len _ _ _ _
end Go.Proofs.Ytidkppjhmgehoaa.CtxP
