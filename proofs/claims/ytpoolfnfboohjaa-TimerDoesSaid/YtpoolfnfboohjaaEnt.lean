/-
  Entries as lists in order, and what Put, Drop, Move and Take make of them (layer 3): plain mathematics. No condition.
-/
import Derived.Test.YtpoolfnfboohjaaCells
namespace Go.Proofs.Ytpoolfnfboohjaa.RefHeap
open Go.ChangeShapes Go.WideShapes Go.ChangeAt Go.RowKit Mem

/-- An entry. -/
structure Ent where
  id : Int
  at_ : Int
  seq : Int
  deriving DecidableEq

def Ent.val (x : Ent) : Value := .agg #[.int .i64 x.id, .int .i64 x.at_, .int .i64 x.seq]
def zeroEnt : Ent := ⟨0, 0, 0⟩
def entE : Enc Ent := ⟨3, fun x => [.int .i64 x.id, .int .i64 x.at_, .int .i64 x.seq], fun _ => rfl, by intro a u hu; simp at hu; rcases hu with rfl | rfl | rfl <;> rfl, by omega⟩

/-- One is ahead of another one. -/
def ahead (a b : Ent) : Bool := if a.at_ ≠ b.at_ then decide (a.at_ < b.at_) else if a.seq ≠ b.seq then decide (a.seq < b.seq) else decide (a.id < b.id)

theorem ent_cells {w : World} {G : Nat → Prop} {A : Option Addr} {n c : Nat} {L : List Ent} (h : RdL entE w G (.slice A n c) L) {i : Nat} {a : Ent} (hi : L[i]? = some a) :
    ∃ b off, A = some ⟨b, off, none⟩ ∧ G b ∧ b < w.heap.size ∧ w.cell? ⟨b, off + i * 3, none⟩ = some (.int .i64 a.id) ∧ w.cell? ⟨b, off + i * 3 + 1, none⟩ = some (.int .i64 a.at_) ∧ w.cell? ⟨b, off + i * 3 + 2, none⟩ = some (.int .i64 a.seq) := by
  obtain ⟨b, off, hA, hg, hb, hc⟩ := h.at_ hi
  exact ⟨b, off, hA, hg, hb, hc 0 _ rfl, hc 1 _ rfl, hc 2 _ rfl⟩

def getE (L : List Ent) (id : Int) : Ent := (L.find? (fun y => y.id == id)).getD zeroEnt
def getB (L : List Ent) (id : Int) : Bool := (L.find? (fun y => y.id == id)).isSome
theorem get_hit {L : List Ent} {id : Int} {i : Nat} {a : Ent} (hi : L[i]? = some a) (ha : a.id = id) (hno : ∀ j b, j < i → L[j]? = some b → b.id ≠ id) : L.find? (fun y => y.id == id) = some a := by
  rw [List.find?_eq_some_iff_getElem]
  obtain ⟨hl, rfl⟩ := List.getElem?_eq_some_iff.1 hi
  refine ⟨by simpa using ha, i, hl, rfl, fun j hj => ?_⟩
  have := hno j _ hj (List.getElem?_eq_getElem (by omega))
  simpa using this
theorem get_miss {L : List Ent} {id : Int} (hno : ∀ j b, j < L.length → L[j]? = some b → b.id ≠ id) : L.find? (fun y => y.id == id) = none := by
  rw [List.find?_eq_none]
  intro x hx
  obtain ⟨j, hj, rfl⟩ := List.getElem_of_mem hx
  have := hno j _ hj (List.getElem?_eq_getElem hj)
  simpa using this

def firstE (L : List Ent) : Ent := L.headD zeroEnt
theorem take_snocE (l : List Ent) (k : Nat) (a : Ent) (h : l[k]? = some a) : l.take (k + 1) = l.take k ++ [a] := by
  rw [List.take_add_one, h]; rfl

def dropH (L : List Ent) (id : Int) : List Ent := L.filter (fun y => y.id != id)
/-- x in its order. -/
def insH (x : Ent) : List Ent → List Ent
  | [] => [x]
  | y :: l => if ahead x y = true then x :: y :: l else y :: insH x l
theorem ins_none {x : Ent} : ∀ {l : List Ent}, (∀ y ∈ l, ahead x y = false) → insH x l = l ++ [x]
  | [], _ => rfl
  | y :: l, h => by rw [insH, if_neg (by rw [h y (by simp)]; simp), ins_none (fun z hz => h z (by simp [hz]))]; rfl
theorem ins_laid {x y' : Ent} : ∀ {l : List Ent}, (∃ y ∈ l, ahead x y = true) → insH x (l ++ [y']) = insH x l ++ [y']
  | [], h => by obtain ⟨y, hy, _⟩ := h; cases hy
  | y :: l, h => by
    by_cases hy : ahead x y = true
    · rw [List.cons_append, insH, if_pos hy, insH, if_pos hy]; rfl
    · rw [List.cons_append, insH, if_neg hy, insH, if_neg hy]
      obtain ⟨z, hz, ha⟩ := h
      rcases List.mem_cons.1 hz with rfl | hz
      · exact absurd ha hy
      · rw [ins_laid ⟨z, hz, ha⟩]; rfl
theorem ins_hit {x y' : Ent} (ha : ahead x y' = true) : ∀ {l : List Ent}, (∀ y ∈ l, ahead x y = false) → insH x (l ++ [y']) = l ++ [x] ++ [y']
  | [], _ => by rw [List.nil_append, insH, if_pos ha]; rfl
  | y :: l, h => by rw [List.cons_append, insH, if_neg (by rw [h y (by simp)]; simp), ins_hit ha (fun z hz => h z (by simp [hz]))]; rfl
theorem ins_length (x : Ent) : ∀ l : List Ent, (insH x l).length = l.length + 1
  | [] => rfl
  | y :: l => by
    rw [insH]
    split
    · rfl
    · rw [List.length_cons, ins_length x l, List.length_cons]

def putHE (L : List Ent) (N : Int) (x : Ent) : Int := if 0 ≤ x.id ∧ x.id < N then (if getB L x.id = true then 6 else 0) else 3
def putH (L : List Ent) (N : Int) (x : Ent) : List Ent := if putHE L N x = 0 then insH x L else L

theorem set3 {w : World} {g : Nat} {t : TypeId} {a b c : Value} (h : w.heap[g]? = some (.cells #[a, b, c] t (0, 0))) (u0 u1 u2 : Value) :
    (((w.setCell ⟨g, 0, none⟩ u0).setCell ⟨g, 1, none⟩ u1).setCell ⟨g, 2, none⟩ u2).heap[g]? = some (.cells #[u0, u1, u2] t (0, 0)) := by
  simp [World.setCell, Array.getElem?_modify, h]
theorem set3_far {w : World} {g k : Nat} (hk : k ≠ g) (u0 u1 u2 : Value) : (((w.setCell ⟨g, 0, none⟩ u0).setCell ⟨g, 1, none⟩ u1).setCell ⟨g, 2, none⟩ u2).heap[k]? = w.heap[k]? := by
  rw [Below.heap_setCell _ _ _ _ hk, Below.heap_setCell _ _ _ _ hk, Below.heap_setCell _ _ _ _ hk]
theorem set3_size {w : World} {g : Nat} (u0 u1 u2 : Value) : (((w.setCell ⟨g, 0, none⟩ u0).setCell ⟨g, 1, none⟩ u1).setCell ⟨g, 2, none⟩ u2).heap.size = w.heap.size := by simp [World.setCell]
theorem Only.set3 {F : Nat → Prop} {w w1 : World} {g : Nat} (h : Only F w w1) (hg : w.heap.size ≤ g) (u0 u1 u2 : Value) : Only F w (((w1.setCell ⟨g, 0, none⟩ u0).setCell ⟨g, 1, none⟩ u1).setCell ⟨g, 2, none⟩ u2) :=
  Only.setCell (a := ⟨g, 2, none⟩) (Only.setCell (a := ⟨g, 1, none⟩) (Only.setCell (a := ⟨g, 0, none⟩) h (.inr hg) _) (.inr hg) _) (.inr hg) _

def takeB (L : List Ent) (now : Int) : Bool := match L with | [] => false | a :: _ => decide (a.at_ ≤ now)
def takeE (L : List Ent) (now : Int) : Ent := if takeB L now = true then firstE L else zeroEnt
def takeH (L : List Ent) (now : Int) : List Ent := if takeB L now = true then dropH L (firstE L).id else L

def moveB (L : List Ent) (id : Int) : Bool := getB L id
def moveH (L : List Ent) (N : Int) (id at_ : Int) : List Ent := if getB L id = true then putH (dropH L id) N { getE L id with at_ := at_ } else L

end Go.Proofs.Ytpoolfnfboohjaa.RefHeap
namespace Go.Proofs.Ytpoolfnfboohjaa.HeapI
open Go.ChangeShapes Go.WideShapes Go.ChangeAt Go.RowKit Mem RefHeap

def In64 (a : Int) : Prop := -9223372036854775808 ≤ a ∧ a ≤ 9223372036854775807
def EntIn (x : Ent) : Prop := In64 x.id ∧ In64 x.at_ ∧ In64 x.seq

/-- Entries that may be: in order, each once. -/
structure Ok (L : List Ent) (N : Int) : Prop where
  n0 : 1 ≤ N
  n1 : N ≤ 1000
  ids : ∀ x ∈ L, 0 ≤ x.id ∧ x.id < N
  ins : ∀ x ∈ L, EntIn x
  once : (L.map (·.id)).Nodup
  order : L.Pairwise (fun a b => RefHeap.ahead a b = true)
  len : L.length ≤ 1000

/-- Entries as they are held: none ahead of the one over it. -/
def Held4 (R : List Ent) : Prop := ∀ (i : Nat) (a b : Ent), 1 ≤ i → R[i]? = some a → R[(i - 1) / 4]? = some b → RefHeap.ahead a b = false

def After (A : World → Value → (Nat → Prop) → List Ent → Int → Prop) (w w' : World) (v : Value) (F : Nat → Prop) (L : List Ent) (N : Int) : Prop :=
  ∃ F', A w' v F' L N ∧ Only F w w' ∧ ∀ k, F' k → F k ∨ w.heap.size ≤ k

end Go.Proofs.Ytpoolfnfboohjaa.HeapI
