/-
  Package ctx, as it landed, meets what the laws of layer 6 ask of it. No condition.
-/
import Derived.Test.YtidkppjhmgehoaaCxL
namespace Go.Proofs.Ytidkppjhmgehoaa.CxC
open Go.ChangeShapes Go.WideShapes Go.ChangeAt Go.RowKit Mem TreeP CtxP Hand TreeC CtxI RefCtx

/-- An arena behind a pointer, in blocks of F. -/
def CA (w : World) (v : Value) (F : Nat → Prop) (T : List Nd) (X : List Cn) (M : Int) : Prop :=
  ∃ p, v = .pointer (some ⟨p, 0, none⟩) ∧ (ca p T X M).holds w F ∧ Ok6 T X M ∧ Inv T X

theorem in0 : In64 0 := ⟨by omega, by omega⟩
theorem in10 : In64 10 := ⟨by omega, by omega⟩
theorem in11 : In64 11 := ⟨by omega, by omega⟩
theorem cin_zero : CIn zeroCn := ⟨in0, in0, in0, in0, in0, in0⟩
section
variable {T : List Nd} {X : List Cn} {M : Int}
theorem cn_in (h : Ok6 T X M) (k : Int) : CIn (cn X k) := by
  unfold cn
  rw [List.getD_eq_getElem?_getD]
  cases hx : X[k.toNat]? with
  | none => exact cin_zero
  | some x => exact h.ins x (List.mem_of_getElem? hx)
theorem cz_in {e c : Int} (he : In64 e) (hc : In64 c) : In64 (cz e c) := by unfold cz; split <;> assumption
theorem ok6_mark (h : Ok6 T X M) (l : List Int) {e c : Int} (he : In64 e) (hc : In64 c) : Ok6 T (markL X l e c) M := by
  refine ⟨h.tree, by rw [markL_len]; exact h.len, h.one, fun x hx => ?_⟩
  obtain ⟨i, hi, rfl⟩ := List.getElem_of_mem hx
  have h1 := markL_get X l e c i
  rw [List.getElem?_eq_getElem hi, cn_at (by rw [markL_len] at hi; exact hi)] at h1
  have h2 := cn_in h (i : Nat)
  have h3 : (markL X l e c)[i] = if (i : Int) ∈ l ∧ (cn X (i : Nat)).e = 0 then CtxP.mark e c (cn X (i : Nat)) else cn X (i : Nat) := by simpa using h1
  rw [h3]
  split
  · exact ⟨he, hc, h2.at_, h2.why, h2.key, h2.value⟩
  · exact h2
theorem ok6_end (h : Ok6 T X M) (n : Int) {e c : Int} (he : In64 e) (hc : In64 c) : Ok6 T (endX T X n e c) M := ok6_mark h _ he (cz_in he hc)
theorem ok6_due (now : Int) : ∀ (f : Nat) {X : List Cn}, Ok6 T X M → Ok6 T (dueF T now f X).2 M
  | 0, _, h => h
  | f + 1, X, h => by
    rw [dueF]
    split
    · exact ok6_due now f (ok6_end h _ in11 (cn_in h _).why)
    · exact h
theorem ok6_with (h : Ok6 T X M) (over : Int) (cut : Bool) {x : Cn} (hx : CIn x) (now : Int) : Ok6 (addL T M over cut) (withX T X M over cut x now) M := by
  have hn : CIn (newC X over cut x) := by
    have h1 := cn_in h over
    unfold newC
    split
    · exact ⟨h1.e, h1.cause, hx.at_, hx.why, hx.key, hx.value⟩
    · exact hx
  unfold withX
  by_cases hE : addE T M over = 0
  · rw [if_pos hE]
    obtain ⟨_, hTL, _⟩ := add_yes cut hE
    have h2 : Ok6 (addL T M over cut) (X ++ [newC X over cut x]) M := ⟨h.tree.add over cut, by rw [hTL, List.length_append, List.length_append, h.len]; rfl, by rw [hTL, List.length_append]; have := h.one; omega, fun y hy => by
      rcases List.mem_append.1 hy with hy | hy
      · exact h.ins y hy
      · obtain rfl : y = newC X over cut x := by simpa using hy
        exact hn⟩
    split
    · exact ok6_end h2 _ in11 hn.why
    · exact h2
  · rw [if_neg hE, add_no cut hE]
    exact h
end

section
variable {w : World} {v : Value} {F : Nat → Prop} {T : List Nd} {X : List Cn} {M : Int}
theorem CA.sep {p : Nat} (h : (ca p T X M).holds w F) : Sep F w w [ca p T X M] := Sep.of (R := ca p T X M) h
theorem after_of {wn : World} {p : Nat} {T' : List Nd} {X' : List Cn} (h : Sep F w wn [ca p T' X' M]) (ho : Ok6 T' X' M) (hi : Inv T' X') : After CA w wn (.pointer (some ⟨p, 0, none⟩)) F T' X' M := by
  obtain ⟨hon, F1, F2, h1, _, s1, _, _⟩ := h
  exact ⟨F1, ⟨p, rfl, h1, ho, hi⟩, hon, s1⟩
theorem told_of {wn : World} {p : Nat} {T' : List Nd} {X' : List Cn} {u : Value} {l : List Int} (h : Sep F w wn [grow intE 3 u l, ca p T' X' M]) (hl : l.length ≤ 1000000) (ho : Ok6 T' X' M) (hi : Inv T' X') : AfterTold CA w wn (.pointer (some ⟨p, 0, none⟩)) F T' X' M u l := by
  obtain ⟨hon, G, F2, ⟨h0, _⟩, ⟨F1, F3, h1, _, s3, _, _⟩, s1, s2, d⟩ := grow_nums h hl
  exact ⟨F1, G, ⟨p, rfl, h1, ho, hi⟩, h0, hon, fun k hk => s2 k (s3 k hk), s1, fun k hk hf => d k hk (s3 k hf)⟩
theorem end_len (hok : Ok6 T X M) (n : Int) : (endO T X n).length ≤ 200 := by
  have h1 := told_len X (reachT T n)
  have h2 := reach_len hok.tree.wf n
  have h3 := hok.tree.len
  have h4 := hok.tree.m1
  unfold endO
  omega
theorem due_len (now : Int) : ∀ (f : Nat) {X : List Cn}, Ok6 T X M → (dueF T now f X).1.length ≤ 200 * f
  | 0, _, _ => by show (0 : Nat) ≤ _; omega
  | f + 1, X, h => by
    rw [dueF]
    split
    · have h1 := due_len now f (ok6_end h (firstX X) (e := 11) (c := (cn X (firstX X)).why) in11 (cn_in h _).why)
      have h2 := end_len h (firstX X)
      show (_ ++ _ : List Int).length ≤ _
      rw [List.length_append]
      omega
    · show (0 : Nat) ≤ _; omega

def theCx : CtxI.Cx where
  A := CA
  ptr := fun ⟨p, e, _⟩ => ⟨_, e⟩
  keep := fun ⟨p, e, h, ho, hi⟩ hs hk => ⟨p, e, (ca p _ _ _).keep h hs hk, ho, hi⟩
  lt := fun ⟨p, _, h, _, _⟩ => (ca p _ _ _).lt h
  ok := fun ⟨_, _, _, ho, _⟩ => ho
  new_no := fun n w _ h => newA_no n w h
  new_yes := fun n w h1 h2 => by
    refine (newA_yes (Sep.nil (fun _ => False) w) n h1 h2).mono ?_
    rintro e wn ⟨p, rfl, hs⟩
    have hb := hs.old
    obtain ⟨_, F1, _, h3, _, s1, _, _⟩ := hs
    have hok : TreeP.Ok root1 n := by obtain ⟨_, _, _, hok⟩ := h3; exact hok
    exact ⟨_, F1, rfl, ⟨p, rfl, h3, ⟨hok, rfl, by decide, fun x hx => by rw [List.mem_singleton] at hx; rw [hx]; exact cin_zero⟩, inv_new⟩, hb, fun k hk => (s1 k hk).resolve_left id⟩
  len := fun {w v F T X M} h => by
    obtain ⟨p, rfl, h, _, _⟩ := h
    obtain ⟨q, A, c, hs⟩ := ca_sees h
    exact lenA_c hs
  cancel_ := fun {w v F T X M} h o _ => by
    obtain ⟨p, rfl, h, ho, hi⟩ := h
    refine (withCancel_s (CA.sep h) hi o).mono ?_
    rintro e wn ⟨rfl, hs⟩
    exact ⟨rfl, after_of hs (ok6_with ho o false cin_zero 0) (inv_with hi M o false zeroCn 0 ⟨rfl, rfl⟩)⟩
  deadline_ := fun {w v F T X M} h o t c now _ ht hc _ => by
    obtain ⟨p, rfl, h, ho, hi⟩ := h
    refine (withDeadline_s (CA.sep h) hi o t c now).mono ?_
    rintro e wn ⟨rfl, hs⟩
    exact ⟨rfl, after_of hs (ok6_with ho o false (x := lateX t c) ⟨in0, in0, ht, hc, in0, in0⟩ now) (inv_with hi M o false (lateX t c) now ⟨rfl, rfl⟩)⟩
  value_ := fun {w v F T X M} h o k x _ hk hx => by
    obtain ⟨p, rfl, h, ho, hi⟩ := h
    refine (withValue_s (CA.sep h) hi o k x).mono ?_
    rintro e wn ⟨rfl, hs⟩
    exact ⟨rfl, after_of hs (ok6_with ho o false (x := namedX k x) ⟨in0, in0, in0, in0, hk, hx⟩ 0) (inv_with hi M o false (namedX k x) 0 ⟨rfl, rfl⟩)⟩
  without_ := fun {w v F T X M} h o _ => by
    obtain ⟨p, rfl, h, ho, hi⟩ := h
    refine (withoutCancel_s (CA.sep h) hi o).mono ?_
    rintro e wn ⟨rfl, hs⟩
    exact ⟨rfl, after_of hs (ok6_with ho o true cin_zero 0) (inv_with hi M o true zeroCn 0 ⟨rfl, rfl⟩)⟩
  cancel := fun {w v F T X M} h n c _ hc => by
    obtain ⟨p, rfl, h, ho, hi⟩ := h
    refine (cancel_s (CA.sep h) n c).mono ?_
    rintro e wn ⟨A, cc, rfl, hs⟩
    refine ⟨_, rfl, told_of hs ?_ ?_ ?_⟩
    · unfold cancelO
      split
      · simp
      · have := end_len ho n; omega
    · unfold cancelX
      split
      · exact ho
      · exact ok6_end ho n in10 hc
    · unfold cancelX
      split
      · exact hi
      · next hn => exact inv_end hi (by decide) hn
  due := fun {w v F T X M} h now _ => by
    obtain ⟨p, rfl, h, ho, hi⟩ := h
    refine (due_s (CA.sep h) hi now).mono ?_
    rintro e wn ⟨A, cc, rfl, hs⟩
    refine ⟨_, rfl, told_of hs ?_ (ok6_due now _ ho) (inv_due now _ hi)⟩
    have h1 := due_len now (liveN X) ho
    have h2 : liveN X ≤ X.length := List.countP_le_length
    have h3 := ho.tree.len
    have h4 := ho.tree.m1
    have h5 := ho.len
    unfold dueO
    omega
  done := fun {w v F T X M} h n _ => by
    obtain ⟨p, rfl, h, _, _⟩ := h
    obtain ⟨q, A, c, hs⟩ := ca_sees h
    exact doneN_c hs n
  err := fun {w v F T X M} h n _ => by
    obtain ⟨p, rfl, h, _, _⟩ := h
    obtain ⟨q, A, c, hs⟩ := ca_sees h
    exact err_c hs n
  cause := fun {w v F T X M} h n _ => by
    obtain ⟨p, rfl, h, _, _⟩ := h
    obtain ⟨q, A, c, hs⟩ := ca_sees h
    exact cause_c hs n
  deadline := fun {w v F T X M} h n _ => by
    obtain ⟨p, rfl, h, ho, _⟩ := h
    obtain ⟨q, A, c, hs⟩ := ca_sees h
    exact deadline_c hs ho.ins n
  value := fun {w v F T X M} h n k _ _ => by
    obtain ⟨p, rfl, h, _, _⟩ := h
    obtain ⟨q, A, c, hs⟩ := ca_sees h
    exact value_c hs n k
  next := fun {w v F T X M} h => by
    obtain ⟨p, rfl, h, ho, _⟩ := h
    obtain ⟨q, A, c, hs⟩ := ca_sees h
    exact next_c hs ho.ins
  reach := fun {w v F T X M} h n _ => by
    obtain ⟨p, rfl, h, ho, _⟩ := h
    have hlt := (ca p T X M).lt h
    obtain ⟨q, A, c, hs⟩ := ca_sees h
    refine (reachA_c hs n).mono ?_
    rintro e wn ⟨u, rfl, A1, c1, rfl, hown, hb⟩
    have h1 := reach_len ho.tree.wf n
    have h2 := ho.tree.len
    have h3 := ho.tree.m1
    exact ⟨_, rfl, rd_of (hown.rd (by omega) fun k hk hf => by have := (hown.lt k hk).1; have := hlt k hf; omega), hb⟩
end
end Go.Proofs.Ytidkppjhmgehoaa.CxC
