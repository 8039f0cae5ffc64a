/-
  What the laws of layer 6 ask of package ctx, as one structure (contexts as a tree and what each has), and the law's own helpers over it. Conditions: those that each statement names.
-/
import Derived.Test.YtidkppjhmgehoaaRefCtxC
import Derived.Test.YtidkppjhmgehoaaSameI
namespace Go.Proofs.Ytidkppjhmgehoaa.CtxI
open Go.ChangeShapes Go.WideShapes Go.ChangeAt Go.RowKit Mem TreeP RefTree CtxP Hand TreeI RefCtx

def In64 (a : Int) : Prop := -9223372036854775808 ≤ a ∧ a ≤ 9223372036854775807
structure CIn (x : Cn) : Prop where
  e : In64 x.e
  cause : In64 x.cause
  at_ : In64 x.at_
  why : In64 x.why
  key : In64 x.key
  value : In64 x.value
/-- Contexts that may be. -/
structure Ok6 (T : List Nd) (X : List Cn) (M : Int) : Prop where
  tree : TreeP.Ok T M
  len : T.length = X.length
  one : 1 ≤ T.length
  ins : ∀ x ∈ X, CIn x

def After (A : World → Value → (Nat → Prop) → List Nd → List Cn → Int → Prop) (w w' : World) (v : Value) (F : Nat → Prop) (T : List Nd) (X : List Cn) (M : Int) : Prop :=
  ∃ F', A w' v F' T X M ∧ Only F w w' ∧ ∀ k, F' k → F k ∨ w.heap.size ≤ k
/-- .. and a list that was told, in blocks of its own. -/
def AfterTold (A : World → Value → (Nat → Prop) → List Nd → List Cn → Int → Prop) (w w' : World) (v : Value) (F : Nat → Prop) (T : List Nd) (X : List Cn) (M : Int) (u : Value) (l : List Int) : Prop :=
  ∃ F' G', A w' v F' T X M ∧ Rd w' G' u l ∧ Only F w w' ∧ (∀ k, F' k → F k ∨ w.heap.size ≤ k) ∧ (∀ k, G' k → F k ∨ w.heap.size ≤ k) ∧ ∀ k, G' k → ¬ F' k

def lateX (at_ why : Int) : Cn := ⟨0, 0, true, at_, why, false, 0, 0⟩
def namedX (key value : Int) : Cn := ⟨0, 0, false, 0, 0, true, key, value⟩
def cancelO (T : List Nd) (X : List Cn) (n : Int) : List Int := if n = 0 then [] else endO T X n
def cancelX (T : List Nd) (X : List Cn) (n c : Int) : List Cn := if n = 0 then X else endX T X n 10 c

structure Cx where
  A : World → Value → (Nat → Prop) → List Nd → List Cn → Int → Prop
  ptr : ∀ {w v F T X M}, A w v F T X M → ∃ a, v = .pointer (some a)
  keep : ∀ {w w' v F T X M}, A w v F T X M → w.heap.size ≤ w'.heap.size → (∀ k, k < w.heap.size → F k → w'.heap[k]? = w.heap[k]?) → A w' v F T X M
  lt : ∀ {w v F T X M}, A w v F T X M → ∀ k, F k → k < w.heap.size
  ok : ∀ {w v F T X M}, A w v F T X M → Ok6 T X M
  new_no : ∀ (n : Int) (w : World), In64 n → (n < 1 ∨ 200 < n) → Calls Try.prog 8 #[.int .i64 n] w fun e w' => e = .returned (.tuple #[.pointer none, .int .i64 1]) ∧ Below w.heap.size w w'
  new_yes : ∀ (n : Int) (w : World), 1 ≤ n → n ≤ 200 → Calls Try.prog 8 #[.int .i64 n] w fun e w' => ∃ v F, e = .returned (.tuple #[v, .int .i64 0]) ∧ A w' v F root1 [zeroCn] n ∧ Below w.heap.size w w' ∧ ∀ k, F k → w.heap.size ≤ k
  len : ∀ {w v F T X M}, A w v F T X M → Calls Try.prog 13 #[v] w fun e w' => e = .returned (.int .i64 T.length) ∧ Below w.heap.size w w'
  cancel_ : ∀ {w v F T X M}, A w v F T X M → ∀ o, In64 o → Calls Try.prog 26 #[v, .int .i64 o] w fun e w' => e = .returned (.tuple #[.int .i64 (addV T M o), .int .i64 (addE T M o)]) ∧ After A w w' v F (addL T M o false) (withX T X M o false zeroCn 0) M
  deadline_ : ∀ {w v F T X M}, A w v F T X M → ∀ o t c now, In64 o → In64 t → In64 c → In64 now → Calls Try.prog 30 #[v, .int .i64 o, .int .i64 t, .int .i64 c, .int .i64 now] w fun e w' => e = .returned (.tuple #[.int .i64 (addV T M o), .int .i64 (addE T M o)]) ∧ After A w w' v F (addL T M o false) (withX T X M o false (lateX t c) now) M
  value_ : ∀ {w v F T X M}, A w v F T X M → ∀ o k x, In64 o → In64 k → In64 x → Calls Try.prog 27 #[v, .int .i64 o, .int .i64 k, .int .i64 x] w fun e w' => e = .returned (.tuple #[.int .i64 (addV T M o), .int .i64 (addE T M o)]) ∧ After A w w' v F (addL T M o false) (withX T X M o false (namedX k x) 0) M
  without_ : ∀ {w v F T X M}, A w v F T X M → ∀ o, In64 o → Calls Try.prog 28 #[v, .int .i64 o] w fun e w' => e = .returned (.tuple #[.int .i64 (addV T M o), .int .i64 (addE T M o)]) ∧ After A w w' v F (addL T M o true) (withX T X M o true zeroCn 0) M
  cancel : ∀ {w v F T X M}, A w v F T X M → ∀ n c, In64 n → In64 c → Calls Try.prog 29 #[v, .int .i64 n, .int .i64 c] w fun e w' => ∃ u, e = .returned u ∧ AfterTold A w w' v F T (cancelX T X n c) M u (cancelO T X n)
  due : ∀ {w v F T X M}, A w v F T X M → ∀ now, In64 now → Calls Try.prog 25 #[v, .int .i64 now] w fun e w' => ∃ u, e = .returned u ∧ AfterTold A w w' v F T (dueX T X now) M u (dueO T X now)
  done : ∀ {w v F T X M}, A w v F T X M → ∀ n, In64 n → Calls Try.prog 23 #[v, .int .i64 n] w fun e w' => e = .returned (.bool (decide ((getX T X n).e ≠ 0))) ∧ Below w.heap.size w w'
  err : ∀ {w v F T X M}, A w v F T X M → ∀ n, In64 n → Calls Try.prog 21 #[v, .int .i64 n] w fun e w' => e = .returned (.int .i64 (getX T X n).e) ∧ Below w.heap.size w w'
  cause : ∀ {w v F T X M}, A w v F T X M → ∀ n, In64 n → Calls Try.prog 22 #[v, .int .i64 n] w fun e w' => e = .returned (.int .i64 (getX T X n).cause) ∧ Below w.heap.size w w'
  deadline : ∀ {w v F T X M}, A w v F T X M → ∀ n, In64 n → Calls Try.prog 17 #[v, .int .i64 n] w fun e w' => e = .returned (.tuple #[.int .i64 (dlX T X n).1, .bool (dlX T X n).2]) ∧ Below w.heap.size w w'
  value : ∀ {w v F T X M}, A w v F T X M → ∀ n k, In64 n → In64 k → Calls Try.prog 19 #[v, .int .i64 n, .int .i64 k] w fun e w' => e = .returned (.tuple #[.int .i64 (valX T X n k).1, .bool (valX T X n k).2]) ∧ Below w.heap.size w w'
  next : ∀ {w v F T X M}, A w v F T X M → Calls Try.prog 14 #[v] w fun e w' => e = .returned (.int .i64 (nextX X)) ∧ Below w.heap.size w w'
  reach : ∀ {w v F T X M}, A w v F T X M → ∀ n, In64 n → Calls Try.prog 24 #[v, .int .i64 n] w fun e w' => ∃ u, e = .returned u ∧ Rd w' (fun k => ¬ F k) u (reachT T n) ∧ Below w.heap.size w w'

/-- The program's arena. -/
def cx (I : Cx) (v : Value) (T : List Nd) (X : List Cn) (M : Int) : Res where
  holds w F := I.A w v F T X M
  keep := I.keep
  lt := I.lt

/-- What an act answers, and the contexts behind it. -/
def actV (T : List Nd) (M d n : Int) : Int := if d = 0 ∨ d = 1 ∨ d = 2 ∨ d = 3 then addV T M n else 0
def actE (T : List Nd) (M d n : Int) : Int := if d = 0 ∨ d = 1 ∨ d = 2 ∨ d = 3 then addE T M n else 0
def actT (T : List Nd) (M d n : Int) : List Nd := if d = 0 ∨ d = 1 ∨ d = 2 then addL T M n false else if d = 3 then addL T M n true else T
def actX (T : List Nd) (X : List Cn) (M d n a b now : Int) : List Cn :=
  if d = 0 then withX T X M n false zeroCn 0 else if d = 1 then withX T X M n false (lateX a b) now else if d = 2 then withX T X M n false (namedX a b) 0 else if d = 3 then withX T X M n true zeroCn 0
  else if d = 4 then cancelX T X n a else if d = 5 then dueX T X now else X
def actO (T : List Nd) (X : List Cn) (d n now : Int) : List Int := if d = 4 then cancelO T X n else if d = 5 then dueO T X now else []

section
variable {I : Cx} {B : Nat → Prop} {w wk : World} {Rs : List Res} {v : Value} {T : List Nd} {X : List Cn} {M : Int}
theorem x_ok (h : Sep B w wk Rs) (i : Nat) (hi : Rs[i]? = some (cx I v T X M)) : Ok6 T X M := by
  obtain ⟨F, hR⟩ := h.get i hi
  exact I.ok hR
theorem x_new (h : Sep B w wk Rs) (I : Cx) (n : Int) (h1 : 1 ≤ n) (h2 : n ≤ 200) :
    Calls Try.prog 8 #[.int .i64 n] wk fun e wn => ∃ a, e = .returned (.tuple #[.pointer (some a), .int .i64 0]) ∧ Sep B w wn (cx I (.pointer (some a)) root1 [zeroCn] n :: Rs) := by
  refine (I.new_yes n wk h1 h2).mono ?_
  rintro e wn ⟨v, F, rfl, ha, hb, hf⟩
  obtain ⟨a, rfl⟩ := I.ptr ha
  exact ⟨a, rfl, h.add hb (R := cx I _ _ _ _) ha hf⟩
theorem x_after (h : Sep B w wk Rs) (i : Nat) (hi : Rs[i]? = some (cx I v T X M)) {f : FuncId} {args : Array Value} {e0 : Ending} {T' : List Nd} {X' : List Cn}
    (hc : ∀ F, I.A wk v F T X M → Calls Try.prog f args wk fun e wn => e = e0 ∧ After I.A wk wn v F T' X' M) : Calls Try.prog f args wk fun e wn => e = e0 ∧ Sep B w wn (Rs.set i (cx I v T' X' M)) := h.to i hi (R' := cx I v T' X' M) hc
theorem AfterTold.sep {w w' : World} {F : Nat → Prop} {u : Value} {l : List Int} (h : AfterTold I.A w w' v F T X M u l) : Sep F w w' [nums u l, cx I v T X M] := by
  obtain ⟨F', G', ha, hr, ho, hF, hG, hd⟩ := h
  refine ⟨ho, fun k => G' k ∧ k < w'.heap.size, F', ⟨hr.mono fun k hk hg => ⟨hg, hk⟩, fun k hk => hk.2⟩, ⟨F', fun _ => False, ha, trivial, fun _ h => h, fun _ h => h.elim, fun _ _ h => h⟩, fun k hk => hG k hk.1, hF, fun k hk => hd k hk.1⟩
theorem x_told (h : Sep B w wk Rs) (i : Nat) (hi : Rs[i]? = some (cx I v T X M)) {f : FuncId} {args : Array Value} {T' : List Nd} {X' : List Cn} {l : List Int}
    (hc : ∀ F, I.A wk v F T X M → Calls Try.prog f args wk fun e wn => ∃ u, e = .returned u ∧ AfterTold I.A wk wn v F T' X' M u l) :
    Calls Try.prog f args wk fun e wn => ∃ A c, e = .returned (.slice A l.length c) ∧ Sep B w wn (nums (.slice A l.length c) l :: Rs.set i (cx I v T' X' M)) := by
  obtain ⟨F, hR, hn⟩ := h.splice2 i hi
  refine (hc F hR).mono ?_
  rintro e wn ⟨u, rfl, hu⟩
  obtain ⟨A, c, rfl⟩ : ∃ A c, u = .slice A l.length c := by obtain ⟨_, _, _, hr, _⟩ := hu; obtain ⟨A, c, e, _⟩ := hr; exact ⟨A, c, e⟩
  exact ⟨A, c, rfl, hn hu.sep⟩
theorem nil_nums (h : Sep B w wk Rs) : Sep B w wk (nums (.slice none 0 0) [] :: Rs) := by
  obtain ⟨ho, ha⟩ := h
  exact ⟨ho, fun _ => False, _, ⟨Rd.nil _ _ _ _, fun _ h => h.elim⟩, ha, fun _ h => h.elim, fun _ h => h, fun _ h => h.elim⟩
end

/-- An act, as a value. -/
def actVal (d n a b now : Int) : Value := .agg #[.int .i64 d, .int .i64 n, .int .i64 a, .int .i64 b, .int .i64 now]

set_option maxRecDepth 100000 in
/-- do(a, x): the act. -/
theorem x_do {I : Cx} {B : Nat → Prop} {w wk : World} {Rs : List Res} {v : Value} {T : List Nd} {X : List Cn} {M : Int} (h : Sep B w wk Rs) (i : Nat) (hi : Rs[i]? = some (cx I v T X M)) (d n a b now : Int) (hn : In64 n) (ha : In64 a) (hb : In64 b) (hw : In64 now) :
    Calls Try.prog 10 #[v, actVal d n a b now] wk fun e wn => ∃ A c, e = .returned (.tuple #[.int .i64 (actV T M d n), .int .i64 (actE T M d n), .slice A (actO T X d n now).length c]) ∧ Sep B w wn (nums (.slice A (actO T X d n now).length c) (actO T X d n now) :: Rs.set i (cx I v (actT T M d n) (actX T X M d n a b now) M)) := by
  obtain ⟨F, hR, hs⟩ := h.splice2 i hi
  obtain ⟨pa, rfl⟩ := I.ptr hR
  have S0 := Lib.hid ((Sep.of (R := cx I (.pointer (some pa)) T X M) hR).new (.cells #[.int .i64 d, .int .i64 n, .int .i64 a, .int .i64 b, .int .i64 now] 32))
  have HS := Lib.hid (fun wn A (l : List Int) c T' X' (h1 : Sep F wk wn (nums (.slice A l.length c) l :: [blk wk.heap.size (.cells #[.int .i64 d, .int .i64 n, .int .i64 a, .int .i64 b, .int .i64 now] 32), cx I (.pointer (some pa)) T' X' M])) => hs (h1.sub (.cons_cons _ (.cons _ (List.Sublist.refl _)))))
  have HN := Lib.hid hn
  have HA := Lib.hid ha
  have HB := Lib.hid hb
  have HW := Lib.hid hw
  clear h hi hR hs hn ha hb hw
  unfold actVal
  rcases (by omega : d = 0 ∨ d = 1 ∨ d = 2 ∨ d = 3 ∨ d = 4 ∨ d = 5 ∨ (d ≠ 0 ∧ d ≠ 1 ∧ d ≠ 2 ∧ d ≠ 3 ∧ d ≠ 4 ∧ d ≠ 5)) with rfl | rfl | rfl | rfl | rfl | rfl | ⟨d0, d1, d2, d3, d4, d5⟩
  · go_enter Try.func10, Try.ntmps10
    go_wp2_with fail
    refine (x_after S0.out 1 rfl fun _ hA => I.cancel_ hA n HN.out).mono ?_
    rintro e w1 ⟨rfl, h1⟩
    have S1 := Lib.hid h1
    clear h1
    go_wp2
    go_ret3
    exact ⟨_, _, rfl, HS.out _ _ [] _ _ _ (nil_nums S1.out)⟩
  · go_enter Try.func10, Try.ntmps10
    go_wp2_with fail
    refine (x_after S0.out 1 rfl fun _ hA => I.deadline_ hA n a b now HN.out HA.out HB.out HW.out).mono ?_
    rintro e w1 ⟨rfl, h1⟩
    have S1 := Lib.hid h1
    clear h1
    go_wp2
    go_ret3
    exact ⟨_, _, rfl, HS.out _ _ [] _ _ _ (nil_nums S1.out)⟩
  · go_enter Try.func10, Try.ntmps10
    go_wp2_with fail
    refine (x_after S0.out 1 rfl fun _ hA => I.value_ hA n a b HN.out HA.out HB.out).mono ?_
    rintro e w1 ⟨rfl, h1⟩
    have S1 := Lib.hid h1
    clear h1
    go_wp2
    go_ret3
    exact ⟨_, _, rfl, HS.out _ _ [] _ _ _ (nil_nums S1.out)⟩
  · go_enter Try.func10, Try.ntmps10
    go_wp2_with fail
    refine (x_after S0.out 1 rfl fun _ hA => I.without_ hA n HN.out).mono ?_
    rintro e w1 ⟨rfl, h1⟩
    have S1 := Lib.hid h1
    clear h1
    go_wp2
    go_ret3
    exact ⟨_, _, rfl, HS.out _ _ [] _ _ _ (nil_nums S1.out)⟩
  · go_enter Try.func10, Try.ntmps10
    go_wp2_with fail
    refine (x_told S0.out 1 rfl fun _ hA => I.cancel hA n a HN.out HA.out).mono ?_
    rintro e w1 ⟨A1, c1, rfl, h1⟩
    have S1 := Lib.hid h1
    clear h1
    go_wp2
    go_ret3
    exact ⟨_, _, rfl, HS.out _ _ _ _ _ _ S1.out⟩
  · go_enter Try.func10, Try.ntmps10
    go_wp2_with fail
    refine (x_told S0.out 1 rfl fun _ hA => I.due hA now HW.out).mono ?_
    rintro e w1 ⟨A1, c1, rfl, h1⟩
    have S1 := Lib.hid h1
    clear h1
    go_wp2
    go_ret3
    exact ⟨_, _, rfl, HS.out _ _ _ _ _ _ S1.out⟩
  · have HR : Hid (actV T M d n = 0 ∧ actE T M d n = 0 ∧ actT T M d n = T ∧ actX T X M d n a b now = X ∧ actO T X d n now = []) := by
      show _ ∧ _
      unfold actV actE actT actX actO
      rw [if_neg (by omega), if_neg (by omega), if_neg (by omega), if_neg d3, if_neg d0, if_neg d1, if_neg d2, if_neg d3, if_neg d4, if_neg d5, if_neg d4, if_neg d5]
      exact ⟨rfl, rfl, rfl, rfl, rfl⟩
    have e0 : (d == 0) = false := by simpa using d0
    have e1 : (d == 1) = false := by simpa using d1
    have e2 : (d == 2) = false := by simpa using d2
    have e3 : (d == 3) = false := by simpa using d3
    have e4 : (d == 4) = false := by simpa using d4
    have e5 : (d == 5) = false := by simpa using d5
    clear d0 d1 d2 d3 d4 d5
    go_enter Try.func10, Try.ntmps10
    go_wp2
    go_ret3
    obtain ⟨q0, q1, q2, q3, q4⟩ := HR.out
    rw [q0, q1, q2, q3, q4]
    exact ⟨_, _, rfl, HS.out _ _ [] _ _ _ (nil_nums S0.out)⟩
end Go.Proofs.Ytidkppjhmgehoaa.CtxI
