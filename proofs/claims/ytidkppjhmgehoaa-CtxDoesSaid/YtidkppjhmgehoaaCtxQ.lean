/-
  What holds of contexts through all acts (layer 6): plain mathematics. No condition.
-/
import Derived.Test.YtidkppjhmgehoaaCtxI
namespace Go.Proofs.Ytidkppjhmgehoaa.CtxI
open Go.ChangeShapes Go.WideShapes Go.ChangeAt Go.RowKit Mem TreeP CtxP RefCtx

section
variable {T : List Nd} {x : Nd}
theorem nd_snoc {i : Nat} (h : i < T.length) : nd (T ++ [x]) (i : Nat) = nd T (i : Nat) := by
  unfold nd
  rw [Int.toNat_natCast, List.getD_eq_getElem?_getD, List.getD_eq_getElem?_getD, List.getElem?_append_left h]
theorem nd_last : nd (T ++ [x]) (T.length : Nat) = x := by
  unfold nd
  rw [Int.toNat_natCast, List.getD_eq_getElem?_getD, List.getElem?_append_right (Nat.le_refl _)]
  simp
theorem there_snoc {n : Int} (h : there T n = true) : there (T ++ [x]) n = true := by
  rw [there_iff] at h ⊢
  simp
  omega
theorem over_snoc {n : Int} (h : there T n = true) : overT (T ++ [x]) n = overT T n ∧ cutT (T ++ [x]) n = cutT T n := by
  obtain ⟨i, rfl, hi⟩ := there_nat h
  have h' := there_snoc (x := x) h
  unfold overT cutT
  rw [h, h', nd_snoc hi]
  exact ⟨rfl, rfl⟩
/-- Chains of what was there go on as they were. -/
theorem chain_snoc (hw : Wf T) (hw' : Wf (T ++ [x])) (n : Int) (hn : there T n = true) : chainT (T ++ [x]) n = chainT T n := by
  refine by_over hw (P := fun n => chainT (T ++ [x]) n = chainT T n) ?_ n hn
  intro n hn ih
  rw [chain_eq hw' n, chain_eq hw n, if_pos hn, if_pos (there_snoc hn), (over_snoc hn).1, (over_snoc hn).2]
  by_cases hc : cutT T n = true
  · rw [if_pos hc, if_pos hc]
  · rw [if_neg hc, if_neg hc]
    by_cases ho : there T (overT T n) = true
    · rw [ih ho]
    · have h1 := over_end hw hn (by simpa using ho)
      rw [h1, chain_eq hw' (-1), chain_eq hw (-1), if_neg (by rw [there_iff]; omega), if_neg (by rw [there_iff]; omega)]
/-- The chain of a new one. -/
theorem chain_last (hw' : Wf (T ++ [x])) : chainT (T ++ [x]) T.length = (T.length : Int) :: (if x.cut = true then [] else chainT (T ++ [x]) x.over) := by
  have ht : there (T ++ [x]) (T.length : Nat) = true := by rw [there_iff]; simp; omega
  rw [chain_eq hw', if_pos ht]
  have h1 : cutT (T ++ [x]) (T.length : Nat) = x.cut := by unfold cutT; rw [ht, nd_last]; rfl
  have h2 : overT (T ++ [x]) (T.length : Nat) = x.over := by unfold overT; rw [if_pos ht, nd_last]
  rw [h1, h2]
end

/-- Whoever is below one that is done is done. -/
def Down (T : List Nd) (X : List Cn) : Prop := ∀ b a, a ∈ chainT T b → (cn X a).e ≠ 0 → (cn X b).e ≠ 0
/-- What holds behind each act. -/
structure Inv (T : List Nd) (X : List Cn) : Prop where
  wf : Wf T
  len : T.length = X.length
  one : 1 ≤ T.length
  root : overT T 0 = -1
  free : (cn X 0).has = false ∧ (cn X 0).e = 0
  down : Down T X
  cause : ∀ n, (cn X n).e = 0 ↔ (cn X n).cause = 0

theorem inv_new : Inv root1 [zeroCn] := by
  have hw : Wf root1 := fun i y h => by
    match i with
    | 0 => simp [root1] at h; subst h; exact ⟨Int.le_refl _, by show (-1 : Int) < 0; omega⟩
    | i + 1 => simp [root1] at h
  refine ⟨hw, rfl, Nat.le_refl _, rfl, ⟨rfl, rfl⟩, fun b a ha h => ?_, fun n => ?_⟩
  · have : ∀ n, (cn [zeroCn] n).e = 0 := fun n => by
      unfold cn
      rcases n.toNat with _ | k
      · rfl
      · rfl
    exact absurd (this a) h
  · have : cn [zeroCn] n = zeroCn := by
      unfold cn
      rcases n.toNat with _ | k
      · rfl
      · rfl
    rw [this]; exact Iff.rfl

theorem cn_out {X : List Cn} {n : Int} (h : X.length ≤ n.toNat) : cn X n = zeroCn := by
  unfold cn
  rw [List.getD_eq_getElem?_getD, List.getElem?_eq_none h]; rfl
theorem cn_neg {X : List Cn} {n : Int} (h : n < 0) : cn X n = cn X 0 := by
  unfold cn
  rw [show n.toNat = 0 by omega]; rfl
/-- One's own after marks. -/
theorem cn_marks (X : List Cn) (l : List Int) (e c n : Int) (hn : 0 ≤ n) (hx : n < X.length) : cn (markL X l e c) n = if n ∈ l ∧ (cn X n).e = 0 then CtxP.mark e c (cn X n) else cn X n := by
  obtain ⟨i, rfl⟩ := Int.eq_ofNat_of_zero_le hn
  exact cn_mark (X := X) (l := l) (i := i) (by omega)
theorem cz_ne {e c : Int} (he : e ≠ 0) : cz e c ≠ 0 := by unfold cz; split <;> assumption

/-- To end keeps it all. -/
theorem inv_end {T : List Nd} {X : List Cn} (h : Inv T X) {n e c : Int} (he : e ≠ 0) (hn : n ≠ 0) : Inv T (endX T X n e c) := by
  have h0 : (0 : Int) ∉ reachT T n := fun hm => by
    have ht := reach_there h.wf hm
    have hn' : there T n = true := by
      by_cases hh : there T n = true
      · exact hh
      · have : reachT T n = [] := by rw [reach_eq h.wf, if_neg hh]
        rw [this] at hm; cases hm
    have := (reach_iff h.wf hn' ht.1).1 hm
    rw [chain_eq h.wf, if_pos ht.1, h.root] at this
    have e1 : chainT T (-1) = [] := by rw [chain_eq h.wf, if_neg (by rw [there_iff]; omega)]
    rw [e1] at this
    simp at this
    exact hn this
  have hl : (endX T X n e c).length = X.length := endX_len _ _ _ _ _
  have hc0 : cn (endX T X n e c) 0 = cn X 0 := by
    have := cn_marks X (reachT T n) e (cz e c) 0 (Int.le_refl _) (by have := h.one; have := h.len; omega)
    rw [if_neg (by rintro ⟨h, _⟩; exact h0 h)] at this
    exact this
  have hcn : ∀ k, cn (endX T X n e c) k = if there T k = true ∧ k ∈ reachT T n ∧ (cn X k).e = 0 then CtxP.mark e (cz e c) (cn X k) else cn X k := fun k => by
    by_cases hk : there T k = true
    · obtain ⟨h1, h2⟩ := there_iff.1 hk
      have := cn_marks X (reachT T n) e (cz e c) k h1 (by rw [← h.len]; exact h2)
      rw [show endX T X n e c = markL X (reachT T n) e (cz e c) from rfl, this]
      by_cases hr : k ∈ reachT T n ∧ (cn X k).e = 0
      · rw [if_pos hr, if_pos ⟨hk, hr⟩]
      · rw [if_neg hr, if_neg (fun hh => hr hh.2)]
    · rw [if_neg (fun hh => hk hh.1)]
      by_cases hneg : k < 0
      · rw [cn_neg hneg, cn_neg hneg, hc0]
      · have hge : ¬ (k < T.length) := fun hlt => hk (there_iff.2 ⟨by omega, hlt⟩)
        rw [cn_out (by rw [hl]; have := h.len; omega), cn_out (by have := h.len; omega)]
  refine ⟨h.wf, by rw [hl]; exact h.len, h.one, h.root, by rw [hc0]; exact h.free, fun b a ha hae => ?_, fun k => ?_⟩
  · have hb : there T b = true := by
      by_cases hh : there T b = true
      · exact hh
      · have : chainT T b = [] := by rw [chain_eq h.wf, if_neg hh]
        rw [this] at ha; cases ha
    have hat := chain_there h.wf ha
    by_cases hbe : (cn X b).e = 0
    · have haz : (cn X a).e = 0 := by
        by_cases hz : (cn X a).e = 0
        · exact hz
        · exact absurd hbe (h.down b a ha hz)
      rw [hcn a] at hae
      by_cases hr : there T a = true ∧ a ∈ reachT T n ∧ (cn X a).e = 0
      · have hn' : there T n = true := by
          by_cases hh : there T n = true
          · exact hh
          · have : reachT T n = [] := by rw [reach_eq h.wf, if_neg hh]
            rw [this] at hr; cases hr.2.1
        have h1 := (reach_iff h.wf hn' hr.1).1 hr.2.1
        have h2 := chain_trans h.wf h1 ha
        rw [hcn b, if_pos ⟨hb, (reach_iff h.wf hn' hb).2 h2, hbe⟩]
        exact he
      · rw [if_neg hr] at hae
        exact absurd haz hae
    · rw [hcn b, if_neg (fun hh => hbe hh.2.2)]
      exact hbe
  · rw [hcn k]
    split
    · exact ⟨fun hh => absurd hh he, fun hh => absurd hh (cz_ne he)⟩
    · exact h.cause k

/-- How one is behind an end. -/
theorem cn_end {T : List Nd} {X : List Cn} (h : Inv T X) (n e c k : Int) (hk : there T k = true) : cn (endX T X n e c) k = if k ∈ reachT T n ∧ (cn X k).e = 0 then CtxP.mark e (cz e c) (cn X k) else cn X k := by
  obtain ⟨h1, h2⟩ := there_iff.1 hk
  exact cn_marks X (reachT T n) e (cz e c) k h1 (by rw [← h.len]; exact h2)
theorem first_ne {T : List Nd} {X : List Cn} (h : Inv T X) (h0 : 0 ≤ firstX X) : firstX X ≠ 0 := fun hz => by
  have := (first_live h0).1
  rw [hz, h.free.1] at this
  cases this
theorem inv_due {T : List Nd} (now : Int) : ∀ (f : Nat) {X : List Cn}, Inv T X → Inv T (dueF T now f X).2
  | 0, X, h => h
  | f + 1, X, h => by
    rw [dueF]
    split
    · next hc => exact inv_due now f (inv_end h (by decide) (first_ne h hc.1))
    · exact h

/-- One more keeps it. -/
theorem cn_app {X : List Cn} {y : Cn} {n : Int} (h : n < X.length) (h0 : 0 < X.length) : cn (X ++ [y]) n = cn X n := by
  unfold cn
  rw [List.getD_eq_getElem?_getD, List.getD_eq_getElem?_getD, List.getElem?_append_left (by omega)]
theorem cn_new {X : List Cn} {y : Cn} : cn (X ++ [y]) (X.length : Nat) = y := by
  unfold cn
  rw [Int.toNat_natCast, List.getD_eq_getElem?_getD, List.getElem?_append_right (Nat.le_refl _)]
  simp
theorem inv_app {T : List Nd} {X : List Cn} (h : Inv T X) {over : Int} {cut : Bool} {x : Cn} (hx : x.e = 0 ∧ x.cause = 0) (ho : there T over = true) : Inv (T ++ [⟨over, cut⟩]) (X ++ [newC X over cut x]) := by
  have hoi := there_iff.1 ho
  have hw' : Wf (T ++ [⟨over, cut⟩]) := h.wf.snoc (by show -1 ≤ over; omega) (by show over < _; omega)
  have hX0 : 0 < X.length := by have := h.one; have := h.len; omega
  have hold : ∀ n : Int, n < X.length → cn (X ++ [newC X over cut x]) n = cn X n := fun n hn => cn_app hn hX0
  have h0t : there T 0 = true := there_iff.2 ⟨Int.le_refl _, by have := h.one; omega⟩
  refine ⟨hw', by simp [h.len], by have := h.one; simp, by rw [(over_snoc h0t).1]; exact h.root, by rw [hold 0 (by omega)]; exact h.free, fun b a ha hae => ?_, fun n => ?_⟩
  · have hb : there (T ++ [⟨over, cut⟩]) b = true := by
      by_cases hh : there (T ++ [⟨over, cut⟩]) b = true
      · exact hh
      · have : chainT (T ++ [⟨over, cut⟩]) b = [] := by rw [chain_eq hw', if_neg hh]
        rw [this] at ha; cases ha
    have hbi := there_iff.1 hb
    rw [List.length_append, List.length_singleton] at hbi
    by_cases hbl : b < T.length
    · have hbt : there T b = true := there_iff.2 ⟨hbi.1, hbl⟩
      rw [chain_snoc h.wf hw' b hbt] at ha
      have hai := there_iff.1 (chain_there h.wf ha).1
      rw [hold a (by rw [← h.len]; exact hai.2)] at hae
      rw [hold b (by rw [← h.len]; exact hbl)]
      exact h.down b a ha hae
    · obtain rfl : b = (T.length : Int) := by omega
      rw [chain_last hw'] at ha
      rcases List.mem_cons.1 ha with rfl | ha
      · exact hae
      · cases cut with
        | true => simp at ha
        | false =>
          have ha2 : a ∈ chainT (T ++ [⟨over, false⟩]) over := by simpa using ha
          rw [chain_snoc h.wf hw' over ho] at ha2
          have hai := there_iff.1 (chain_there h.wf ha2).1
          rw [hold a (by rw [← h.len]; exact hai.2)] at hae
          have hov := h.down over a ha2 hae
          rw [show (T.length : Int) = (X.length : Nat) by rw [h.len], cn_new]
          unfold newC
          rw [if_pos ⟨rfl, hov⟩]
          exact hov
  · by_cases hn : n < X.length
    · rw [hold n hn]; exact h.cause n
    · by_cases hn2 : n = X.length
      · subst hn2
        rw [cn_new]
        unfold newC
        split
        · exact h.cause over
        · rw [hx.1, hx.2]
      · rw [cn_out (by simp; omega)]; exact Iff.rfl
theorem inv_with {T : List Nd} {X : List Cn} (h : Inv T X) (M over : Int) (cut : Bool) (x : Cn) (now : Int) (hx : x.e = 0 ∧ x.cause = 0) : Inv (addL T M over cut) (withX T X M over cut x now) := by
  unfold withX
  by_cases hE : addE T M over = 0
  · rw [if_pos hE]
    have ht : there T over = true := by
      by_cases hh : there T over = true
      · exact hh
      · unfold addE at hE; rw [if_neg hh] at hE; omega
    have hlt : (T.length : Int) < M := by
      unfold addE putE at hE
      rw [if_pos ht] at hE
      by_cases hl : (T.length : Int) < M
      · exact hl
      · rw [if_neg hl] at hE; omega
    have hT : addL T M over cut = T ++ [⟨over, cut⟩] := by unfold addL putL; rw [if_pos ht, if_pos hlt]
    have hi := inv_app h (cut := cut) hx ht
    rw [hT]
    split
    · exact inv_end hi (by decide) (by have := h.one; omega)
    · exact hi
  · rw [if_neg hE]
    have hT : addL T M over cut = T := by
      unfold addL
      by_cases ht : there T over = true
      · rw [if_pos ht]
        unfold addE at hE
        rw [if_pos ht] at hE
        unfold putL
        unfold putE at hE
        by_cases hl : (T.length : Int) < M
        · rw [if_pos hl] at hE; exact absurd rfl hE
        · rw [if_neg hl]
      · rw [if_neg ht]
    rw [hT]
    exact h
theorem inv_act {T : List Nd} {X : List Cn} (h : Inv T X) (M d n a b now : Int) : Inv (actT T M d n) (actX T X M d n a b now) := by
  rcases (by omega : d = 0 ∨ d = 1 ∨ d = 2 ∨ d = 3 ∨ d = 4 ∨ d = 5 ∨ (d ≠ 0 ∧ d ≠ 1 ∧ d ≠ 2 ∧ d ≠ 3 ∧ d ≠ 4 ∧ d ≠ 5)) with rfl | rfl | rfl | rfl | rfl | rfl | ⟨d0, d1, d2, d3, d4, d5⟩
  · exact inv_with h M n false zeroCn 0 ⟨rfl, rfl⟩
  · exact inv_with h M n false (lateX a b) now ⟨rfl, rfl⟩
  · exact inv_with h M n false (namedX a b) 0 ⟨rfl, rfl⟩
  · exact inv_with h M n true zeroCn 0 ⟨rfl, rfl⟩
  · show Inv T (cancelX T X n a)
    unfold cancelX
    split
    · exact h
    · next hn => exact inv_end h (by decide) hn
  · exact inv_due now (liveN X) h
  · unfold actT actX
    rw [if_neg (by omega), if_neg d3, if_neg d0, if_neg d1, if_neg d2, if_neg d3, if_neg d4, if_neg d5]
    exact h
end Go.Proofs.Ytidkppjhmgehoaa.CtxI
