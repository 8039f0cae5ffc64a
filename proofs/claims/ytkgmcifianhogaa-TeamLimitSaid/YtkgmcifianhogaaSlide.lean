/-
  A slice of int64s of the call's own that may begin anywhere in its block, and that grows one by one: append behind 'l = l[1:]'. Over any program. No condition.
-/
import Derived.Test.YtkgmcifianhogaaObj
import Derived.Test.YtkgmcifianhogaaGrow
import Derived.Test.YtkgmcifianhogaaInts
import Derived.ArgAppend
namespace Go.Proofs.Ytkgmcifianhogaa.Hand
open Go.ChangeShapes Go.WideShapes Go.ChangeAt Go.RowKit Mem

/-- What the block of such a slice holds. -/
def Slid (w : World) (e : TypeId) (v : Value) (xs : List Int) (F : Nat → Prop) : Prop :=
  (v = .slice none 0 0 ∧ xs = [] ∧ F = fun _ => False) ∨
  ∃ g off cap cur, v = .slice (some ⟨g, off, none⟩) xs.length cap ∧ (F = fun k => k = g) ∧ w.heap[g]? = some (.cells cur e (0, 0)) ∧ xs.length ≤ cap ∧ off + cap ≤ cur.size ∧ ∀ j, j < xs.length → cur[off + j]? = some (.int .i64 (xs.getD j 0))
def slide (e : TypeId) (v : Value) (xs : List Int) : Res where
  holds w F := Slid w e v xs F
  keep := by
    rintro w w' F (⟨h1, h2, h3⟩ | ⟨g, off, cap, cur, h1, h2, h3, h4⟩) hs hk
    · exact .inl ⟨h1, h2, h3⟩
    · refine .inr ⟨g, off, cap, cur, h1, h2, ?_, h4⟩
      rw [hk g (lt_of_block h3) (by rw [h2])]
      exact h3
  lt := by
    rintro w F (⟨h1, h2, h3⟩ | ⟨g, off, cap, cur, h1, h2, h3, h4⟩) k hk
    · rw [h3] at hk; exact hk.elim
    · rw [h2] at hk; rw [show k = g from hk]; exact lt_of_block h3

theorem flat_ints (xs : List Int) : xs.flatMap intE.cells = xs.map (Value.int .i64) := by
  induction xs with
  | nil => rfl
  | cons x xs ih => rw [List.flatMap_cons, ih]; rfl
section
variable {B : Nat → Prop} {w wk wn : World} {Rs : List Res} {e : TypeId} {v : Value} {xs : List Int}
theorem slid_own {w : World} {b0 : Nat} (h : OwnL intE w b0 e v xs) : Slid w e v xs fun k => v.ownBlock = some k := by
  obtain ⟨hl, h⟩ := h
  rcases h with ⟨rfl, hn⟩ | ⟨g, cap, cur, rfl, _, hg, hnc, _, hsz, ht⟩
  · have : xs = [] := List.eq_nil_of_length_eq_zero hn
    subst this
    exact .inl ⟨rfl, rfl, by funext k; simp [Value.ownBlock]⟩
  · refine .inr ⟨g, 0, cap, cur, rfl, by funext k; simp [Value.ownBlock, eq_comm], hg, hnc, ?_, fun j hj => ?_⟩
    · have : cur.size = cap * 1 := hsz
      omega
    · have e1 : (cur.toList.take (xs.length * 1))[j]? = (xs.flatMap intE.cells)[j]? := by rw [← ht]; rfl
      rw [List.getElem?_take, if_pos (by omega)] at e1
      rw [Nat.zero_add, ← Array.getElem?_toList, e1]
      have h2 := flat_get (E := intE) xs j (xs.getD j 0) (by rw [List.getD_eq_getElem?_getD, List.getElem?_eq_getElem hj]; rfl) 0 (.int .i64 (xs.getD j 0)) rfl
      have h3 : j * intE.sz + 0 = j := Nat.mul_one j
      rw [h3] at h2
      exact h2
/-- One's own slice may slide. -/
theorem Sep.slide (h : Sep B w wk Rs) (i : Nat) (hi : Rs[i]? = some (grow intE e v xs)) : Sep B w wk (Rs.set i (slide e v xs)) := by
  obtain ⟨F, ⟨h1, h2⟩, _, hn⟩ := h.upd i hi
  subst h2
  exact hn (Hand.slide e v xs) (slid_own h1) (.refl _ _) fun k hk => .inl hk
/-- What it reads as. -/
theorem slid_rd {w : World} {F : Nat → Prop} (h : Slid w e v xs F) (hl : xs.length ≤ 1000000) : Rd w F v xs := by
  rcases h with ⟨rfl, rfl, _⟩ | ⟨g, off, cap, cur, rfl, rfl, hg, hnc, hsz, hx⟩
  · exact Rd.nil _ _ _ _
  · exact ⟨_, _, rfl, hl, fun _ => ⟨g, off, rfl, rfl, lt_of_block hg, fun j hj => (cell_block hg _).trans (hx j hj)⟩⟩
theorem Sep.srd (h : Sep B w wk Rs) (i : Nat) (hi : Rs[i]? = some (Hand.slide e v xs)) (hl : xs.length ≤ 1000000) : Rd wk (fun _ => True) v xs := by
  obtain ⟨F, h1⟩ := h.get i hi
  exact (slid_rd h1 hl).mono fun _ _ _ => trivial
theorem Sep.sform (h : Sep B w wk Rs) (i : Nat) (hi : Rs[i]? = some (Hand.slide e v xs)) : ∃ A c, v = .slice A xs.length c := by
  obtain ⟨F, h1⟩ := h.get i hi
  rcases h1 with ⟨rfl, rfl, _⟩ | ⟨g, off, cap, cur, rfl, _⟩
  · exact ⟨none, 0, rfl⟩
  · exact ⟨_, _, rfl⟩
/-- All but its first. -/
theorem Sep.snext {x : Int} {A : Option Addr} {n c : Nat} (h : Sep B w wk Rs) (i : Nat) (hi : Rs[i]? = some (Hand.slide e (.slice A n c) (x :: xs))) :
    ∃ g off, A = some ⟨g, off, none⟩ ∧ n = xs.length + 1 ∧ n ≤ c ∧ ∀ o', (o' = off + 1 ∨ c = 1 ∧ o' = off) → Sep B w wk (Rs.set i (Hand.slide e (.slice (some ⟨g, o', none⟩) xs.length (c - 1)) xs)) := by
  obtain ⟨F, h1, _, hn⟩ := h.upd i hi
  rcases h1 with ⟨_, h2, _⟩ | ⟨g, off, cap, cur, e1, rfl, hg, hnc, hsz, hx⟩
  · cases h2
  · injection e1 with e1 e2 e3
    subst e1 e2 e3
    simp only [List.length_cons] at hnc
    refine ⟨g, off, rfl, rfl, hnc, fun o' ho => hn (Hand.slide e _ xs) (F' := fun k => k = g) (.inr ⟨g, o', c - 1, cur, rfl, rfl, hg, by omega, by omega, fun j hj => ?_⟩) (.refl _ _) fun k hk => .inl hk⟩
    have h3 := hx (j + 1) (by simp; omega)
    rcases ho with rfl | ⟨rfl, _⟩
    · rw [show off + 1 + j = off + (j + 1) by omega]; exact h3
    · omega

/-- 'append' of one more. -/
theorem wpList_appQ {P : Program} {ops : Array Oper} {rest : List Oper} {o : Oper} {a : Act} {Q : Exit → Act → World → Prop} (hgd : o.guard = none) (s x : Operand) {t : TypeId} (he : Elem intE P t e)
    (ho : o.op = .call { callee := .builtin .append, args := #[s, x], argTypes := #[t, t] }) {ad : Addr} {y : Int}
    (hs : a.eval s = v) (hx : a.eval x = .slice (some ad) 1 1) (h : Sep B w wk Rs) (i : Nat) (hi : Rs[i]? = some (Hand.slide e v xs)) (hy : wk.cell? ad = some (.int .i64 y)) (hlen : xs.length + 1 ≤ 1000000)
    (hK : ∀ A c wn l, Hid (l = xs ++ [y]) → Sep B w wn (Rs.set i (Hand.slide e (.slice A l.length c) l)) → wpList P ops Q rest (a.put o.dst (.slice A l.length c)) wn) : wpList P ops Q (o :: rest) a wk := by
  obtain ⟨ht, ii, z, bytes, hi1, hz, hs1, hby, hzs, hb⟩ := he
  obtain ⟨F, h1, hF, hn⟩ := h.upd i hi
  have hnews : ∀ j u, ([Value.int .i64 y] : List Value)[j]? = some u → wk.cell? (ad.add j) = some u := fun j u hu => by
    cases j with
    | zero => simp at hu; subst hu; simpa [Addr.add] using hy
    | succ j => simp at hu
  have hone : ∀ u ∈ ([Value.int .i64 y] : List Value), u.oneCell' = true := fun u hu => by rw [List.mem_singleton] at hu; subst hu; rfl
  have hlo : (xs.map (Value.int .i64)).length = xs.length * 1 := by simp
  have hbig : (xs.length + 1) * bytes ≤ 140737488355328 := by
    have := Nat.mul_le_mul hlen hb
    omega
  have hml : xs.length + 1 ≤ maxLen := by unfold maxLen; omega
  have hGrow : ∀ v' w', w'.ownsRow wk.heap.size e 1 v' (xs.length + 1) (xs.map (Value.int .i64) ++ [Value.int .i64 y]) → wk.grownBy w' none → wpList P ops Q rest (a.put o.dst v') w' := fun v' w' r1 r2 => by
    have ho : OwnL intE w' wk.heap.size e v' (xs ++ [y]) := by
      have e1 : (xs ++ [y]).flatMap intE.cells = xs.map (Value.int .i64) ++ [Value.int .i64 y] := by
        rw [List.flatMap_append, flat_ints]
        rfl
      show w'.ownsRow _ _ _ _ _ _
      rw [e1, List.length_append]
      exact r1
    obtain ⟨A, c, rfl⟩ := ho.form
    refine hK A c w' (xs ++ [y]) rfl (hn (Hand.slide e _ (xs ++ [y])) (slid_own ho) (Only.of_grown (F := F) r2 fun k hk => by cases hk) fun k hk => .inr (ho.lt k hk).1)
  rcases h1 with ⟨rfl, rfl, rfl⟩ | ⟨g, off, cap, cur, rfl, rfl, hg, hnc, hsz, hxx⟩
  · exact wpList_append_grows wk hgd s x t ho e ii z 1 bytes ht hi1 hz hs1 hby hzs (by omega) none 0 0 [] hs (fun _ => ⟨rfl, rfl⟩) rfl (fun b hb => by cases hb) ad 1 1 [.int .i64 y] hx rfl hnews hone (by omega) hml hbig hGrow
  · refine wpList_append_arg wk hgd s x t ho e ii z 1 bytes ht hi1 hz hs1 hby hzs (by omega) g off xs.length cap (xs.map (Value.int .i64)) hs hlo ?_ ad 1 1 [.int .i64 y] hx rfl hnews hone ?_ hml hbig ?_ fun _ => hGrow
    · intro j u hu
      have hj : j < xs.length := by have := (List.getElem?_eq_some_iff.1 hu).1; simpa using this
      rw [(cell_block hg _).trans (hxx j hj), ← hu, List.getElem?_map, List.getElem?_eq_getElem hj, List.getD_eq_getElem?_getD, List.getElem?_eq_getElem hj]
      rfl
    · intro hr j hj
      have hj0 : j = 0 := by simpa using hj
      subst hj0
      refine ⟨?_, frozen_block hg _⟩
      rw [cell_block hg, Array.getElem?_eq_getElem (by omega)]
      rfl
    · intro hr
      have e1 : xs.length + 1 = (xs ++ [y]).length := by simp
      rw [e1]
      refine hK _ _ _ (xs ++ [y]) rfl (hn (Hand.slide e _ (xs ++ [y])) (F' := fun k => k = g) (.inr ⟨g, off, cap, cur.setIfInBounds (off + xs.length * 1) (.int .i64 y), rfl, rfl, ?_, by simp; omega, by simp; omega, fun j hj => ?_⟩) ((Only.refl (fun b => b = g) _).setCell (a := ⟨g, off + xs.length * 1, none⟩) (.inl rfl) (.int .i64 y)) fun k hk => .inl hk)
      · show ((wk.setCell ⟨g, off + xs.length * 1, none⟩ (.int .i64 y))).heap[g]? = _
        simp [World.setCell, Array.getElem?_modify, hg]
      · rw [Array.getElem?_setIfInBounds]
        by_cases hjx : j < xs.length
        · rw [if_neg (by omega), hxx j hjx, List.getD_eq_getElem?_getD, List.getD_eq_getElem?_getD, List.getElem?_append_left hjx]
        · have hj2 : j = xs.length := by simp at hj; omega
          subst hj2
          rw [if_pos (by omega), if_pos (by omega), List.getD_eq_getElem?_getD, List.getElem?_append_right (Nat.le_refl _)]
          simp
end
end Go.Proofs.Ytkgmcifianhogaa.Hand
