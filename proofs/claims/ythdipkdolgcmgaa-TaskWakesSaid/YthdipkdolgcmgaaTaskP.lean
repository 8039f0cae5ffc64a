/-
  A table of tasks, as plain mathematics (layer 18): a task is its seventeen numbers in their order (state, program, place, team, six registers, what it waits for in six, error). No condition.
-/
import Derived.Test.YthdipkdolgcmgaaCells
import Derived.Test.YthdipkdolgcmgaaMutP
namespace Go.Proofs.Ythdipkdolgcmgaa.TaskP
open Go.ChangeShapes Go.WideShapes Go.ChangeAt Go.RowKit Mem MutP

abbrev Tk := {c : List Int // c.length = 17}
def get (t : Tk) (j : Nat) : Int := t.1[j]?.getD 0
def put (t : Tk) (j : Nat) (x : Int) : Tk := ⟨t.1.set j x, by rw [List.length_set]; exact t.2⟩
theorem get_at (t : Tk) {j : Nat} (hj : j < 17) : t.1[j]? = some (get t j) := by
  have h : j < t.1.length := by rw [t.2]; exact hj
  unfold get
  rw [List.getElem?_eq_getElem h]
  rfl
theorem get_put (t : Tk) (j : Nat) (x : Int) (hj : j < 17) : get (put t j x) j = x := by
  have h : j < t.1.length := by rw [t.2]; exact hj
  show (t.1.set j x)[j]?.getD 0 = x
  rw [List.getElem?_set_self h]
  rfl
theorem get_put_ne (t : Tk) {i j : Nat} (x : Int) (h : i ≠ j) : get (put t i x) j = get t j := by
  show (t.1.set i x)[j]?.getD 0 = _
  rw [List.getElem?_set_ne h]
  rfl
theorem tk_ext {t u : Tk} (h : ∀ j, j < 17 → get t j = get u j) : t = u := by
  refine Subtype.ext (List.ext_getElem? fun j => ?_)
  by_cases hj : j < 17
  · rw [get_at t hj, get_at u hj, h j hj]
  · rw [List.getElem?_eq_none (by rw [t.2]; omega), List.getElem?_eq_none (by rw [u.2]; omega)]
theorem put_same {t : Tk} {j : Nat} {x : Int} (hj : j < 17) (h : get t j = x) : put t j x = t := by
  refine tk_ext fun i _ => ?_
  by_cases e : j = i
  · subst e; rw [get_put t j x hj, h]
  · exact get_put_ne t x e

/-- How a task lies. -/
def tkE : Enc Tk where
  sz := 17
  cells t := t.1.map (.int .i64)
  len t := by rw [List.length_map]; exact t.2
  one t u h := by
    obtain ⟨x, _, rfl⟩ := List.mem_map.1 h
    rfl
  pos := by omega
theorem tk_cell (t : Tk) {j : Nat} (hj : j < 17) : (tkE.cells t)[j]? = some (.int .i64 (get t j)) := by
  show (t.1.map _)[j]? = _
  rw [List.getElem?_map, get_at t hj]
  rfl
theorem tk_set (t : Tk) (j : Nat) (x : Int) : tkE.cells (put t j x) = (tkE.cells t).set j (.int .i64 x) := by
  show (t.1.set j x).map _ = (t.1.map _).set j _
  rw [List.map_set]

/-- What a task waits for. -/
structure Pk where
  k : Int
  o : Int
  c : Int
  r : Int
  l : Int
  n : Int
def noPk : Pk := ⟨0, 0, 0, 0, 0, 0⟩
def zeroT : Tk := ⟨[0, 0, 0, 0, 0, 0, 0, 0, 0, 0, 0, 0, 0, 0, 0, 0, 0], rfl⟩
def newT (g m : Int) : Tk := ⟨[1, g, 0, m, 0, 0, 0, 0, 0, 0, 0, 0, 0, 0, 0, 0, 0], rfl⟩
def wtT (t : Tk) (p : Pk) : Tk := put (put (put (put (put (put t 10 p.k) 11 p.o) 12 p.c) 13 p.r) 14 p.l) 15 p.n
def stT (t : Tk) (s : Int) : Tk := put t 0 s
def regT (t : Tk) (r x : Int) : Tk := if 0 ≤ r ∧ r ≤ 5 then put t (4 + r.toNat) x else t
def goT (t : Tk) (a : Int) : Tk := put t 2 a
def pkT (t : Tk) (p : Pk) : Tk := wtT (stT t 2) p
def wkT (t : Tk) (x : Int) : Tk := wtT (stT (regT t (get t 13) x) 1) noPk
def enT (t : Tk) (e : Int) : Tk := put (wtT (stT t 3) noPk) 16 e

/-- The task of a number. -/
def tkO (L : List Tk) (n : Int) : Option Tk := if 0 ≤ n then L[n.toNat]? else none
def isB (L : List Tk) (n s : Int) : Bool := match tkO L n with
  | none => false
  | some t => decide (get t 0 = s)
def getT (L : List Tk) (n : Int) : Tk := (tkO L n).getD zeroT
def getB (L : List Tk) (n : Int) : Bool := decide (0 ≤ n ∧ n < L.length)
/-- A task is changed, if that may be. -/
def doL (b : Bool) (L : List Tk) (n : Int) (f : Tk → Tk) : List Tk := if b = true then L.set n.toNat (f (getT L n)) else L
def liveB (L : List Tk) (n : Int) : Bool := isB L n 1 || isB L n 2
def beginB (L : List Tk) (N : Int) : Bool := decide ((L.length : Int) < N)
def beginL (L : List Tk) (N g m : Int) : List Tk := if beginB L N = true then L ++ [newT g m] else L
def beginV (L : List Tk) (N : Int) : Int := if beginB L N = true then L.length else -1
def beginE (L : List Tk) (N : Int) : Int := if beginB L N = true then 0 else 2
def goL (L : List Tk) (n a : Int) : List Tk := doL (isB L n 1) L n fun t => goT t a
def setB (L : List Tk) (n r : Int) : Bool := liveB L n && decide (0 ≤ r ∧ r ≤ 5)
def setL (L : List Tk) (n r x : Int) : List Tk := doL (setB L n r) L n fun t => regT t r x
def parkB (L : List Tk) (n : Int) (p : Pk) : Bool := decide (1 ≤ p.k) && isB L n 1
def parkL (L : List Tk) (n : Int) (p : Pk) : List Tk := doL (parkB L n p) L n fun t => pkT t p
def againB (L : List Tk) (n : Int) (p : Pk) : Bool := decide (1 ≤ p.k) && isB L n 2
def againL (L : List Tk) (n : Int) (p : Pk) : List Tk := doL (againB L n p) L n fun t => pkT t p
def wakeL (L : List Tk) (n x : Int) : List Tk := doL (isB L n 2) L n fun t => wkT t x
def endL (L : List Tk) (n e : Int) : List Tk := doL (liveB L n) L n fun t => enT t e
/-- The numbers of those of whom p holds, among the first i. -/
def pick (p : Tk → Bool) (L : List Tk) (i : Nat) : List Int := ((List.range i).filter fun k => (L[k]?.map p).getD false).map fun (k : Nat) => (k : Int)
def inP (s : Int) (t : Tk) : Bool := decide (get t 0 = s)
def underP (c : Int) (t : Tk) : Bool := decide (0 ≤ c ∧ get t 0 = 2 ∧ get t 12 = c)
def inS (L : List Tk) (s : Int) : List Int := pick (inP s) L L.length
def underS (L : List Tk) (c : Int) : List Int := pick (underP c) L L.length

theorem pick_zero (p : Tk → Bool) (L : List Tk) : pick p L 0 = [] := rfl
theorem pick_succ {p : Tk → Bool} {L : List Tk} {i : Nat} {t : Tk} (h : L[i]? = some t) : pick p L (i + 1) = if p t = true then pick p L i ++ [(i : Int)] else pick p L i := by
  unfold pick
  rw [List.range_succ, List.filter_append, List.map_append]
  rcases hp : p t with _ | _
  · simp [h, hp]
  · simp [h, hp]
theorem pick_len (p : Tk → Bool) (L : List Tk) (i : Nat) : (pick p L i).length ≤ i := by
  unfold pick
  rw [List.length_map]
  exact Nat.le_trans (List.length_filter_le _ _) (by rw [List.length_range]; exact Nat.le_refl _)

theorem tkO_some {L : List Tk} {n : Int} {t : Tk} (h : tkO L n = some t) : ∃ k : Nat, n = k ∧ L[k]? = some t := by
  unfold tkO at h
  split at h
  · exact ⟨n.toNat, by omega, h⟩
  · cases h
theorem tkO_nat (L : List Tk) (k : Nat) : tkO L (k : Int) = L[k]? := by
  unfold tkO
  rw [if_pos (by omega), Int.toNat_natCast]
/-- Whether a task is of a state: the two ways. -/
theorem is_cases (L : List Tk) (n s : Int) : (∃ k t, n = ((k : Nat) : Int) ∧ L[k]? = some t ∧ get t 0 = s ∧ isB L n s = true) ∨ ((n < 0 ∨ (L.length : Int) ≤ n) ∧ isB L n s = false) ∨ (∃ k t, n = ((k : Nat) : Int) ∧ L[k]? = some t ∧ get t 0 ≠ s ∧ isB L n s = false) := by
  unfold isB
  rcases h : tkO L n with _ | t
  · refine .inr (.inl ⟨?_, rfl⟩)
    unfold tkO at h
    split at h
    · rw [List.getElem?_eq_none_iff] at h
      omega
    · omega
  · obtain ⟨k, rfl, hk⟩ := tkO_some h
    by_cases hs : get t 0 = s
    · exact .inl ⟨k, t, rfl, hk, hs, by simpa using hs⟩
    · exact .inr (.inr ⟨k, t, rfl, hk, hs, by simpa using hs⟩)
theorem getT_at {L : List Tk} {k : Nat} {t : Tk} (h : L[k]? = some t) : getT L (k : Int) = t := by
  unfold getT
  rw [tkO_nat, h]
  rfl
theorem doL_yes {b : Bool} {L : List Tk} {k : Nat} {t : Tk} {f : Tk → Tk} (hb : b = true) (h : L[k]? = some t) : doL b L (k : Int) f = L.set k (f t) := by
  unfold doL
  rw [if_pos hb, getT_at h, Int.toNat_natCast]
theorem doL_no {b : Bool} {L : List Tk} {n : Int} {f : Tk → Tk} (hb : b = false) : doL b L n f = L := by
  unfold doL
  rw [hb]
  rfl
theorem doL_len (b : Bool) (L : List Tk) (n : Int) (f : Tk → Tk) : (doL b L n f).length = L.length := by
  unfold doL
  split
  · rw [List.length_set]
  · rfl
/-- What is done with one task changes nothing of another one. -/
theorem doL_other {b : Bool} {L : List Tk} {n : Int} {f : Tk → Tk} {k : Nat} (h : (k : Int) ≠ n ∨ b = false) (hb : b = true → 0 ≤ n) : (doL b L n f)[k]? = L[k]? := by
  unfold doL
  split
  · rename_i e
    have := hb e
    rcases h with h | h
    · exact List.getElem?_set_ne (by omega)
    · rw [h] at e; cases e
  · rfl

/-- What may be. -/
structure Ok (L : List Tk) (N : Int) : Prop where
  n0 : 1 ≤ N
  n1 : N ≤ 200
  len : (L.length : Int) ≤ N
theorem Ok.begin_ {L : List Tk} {N : Int} (h : Ok L N) (g m : Int) : Ok (beginL L N g m) N := by
  refine ⟨h.n0, h.n1, ?_⟩
  unfold beginL beginB
  split
  · rename_i e
    rw [decide_eq_true_eq] at e
    rw [List.length_append]
    show ((L.length + 1 : Nat) : Int) ≤ N
    omega
  · exact h.len
theorem Ok.do_ {L : List Tk} {N : Int} (h : Ok L N) (b : Bool) (n : Int) (f : Tk → Tk) : Ok (doL b L n f) N := ⟨h.n0, h.n1, by rw [doL_len]; exact h.len⟩
theorem Ok.new {N : Int} (h0 : 1 ≤ N) (h1 : N ≤ 200) : Ok [] N := ⟨h0, h1, by show (0 : Int) ≤ N; omega⟩
end Go.Proofs.Ythdipkdolgcmgaa.TaskP
