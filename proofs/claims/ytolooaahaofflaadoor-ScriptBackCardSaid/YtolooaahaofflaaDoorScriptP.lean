/-
  Scripts and their bytes, as plain mathematics (layer 17). No condition.
-/
import Derived.Test.YtolooaahaofflaaDoorCodeP
namespace Go.Proofs.YtolooaahaofflaaDoor.ScriptP
open Go.ChangeShapes Go.WideShapes Go.ChangeAt Go.RowKit Mem MutP CodeP

/-- Something that happens. -/
structure It where
  d : Int
  a : Int
  n : Int
def InIt (x : It) : Prop := In64 x.d ∧ In64 x.a ∧ In64 x.n
/-- All that happens. -/
structure Sc where
  r : List Int
  ps : List (List In)
  xs : List It
def InSc (s : Sc) : Prop := s.r.length = 4 ∧ (∀ x ∈ s.r, In64 x) ∧ (∀ p ∈ s.ps, ∀ x ∈ p, InIn x) ∧ ∀ x ∈ s.xs, InIt x

/-- May an item be? -/
def rightI (x : It) : Bool := if x.d = 2 then decide (x.a = 0) else decide ((x.d = 0 ∨ x.d = 1) ∧ x.n = 0 ∧ 0 ≤ x.a ∧ x.a < (if x.d = 1 then 16 else 8))
theorem rightI_small {x : It} (h : rightI x = true) : (0 ≤ x.d ∧ x.d ≤ 2) ∧ 0 ≤ x.a ∧ x.a < 16 := by
  unfold rightI at h
  split at h
  · have := of_decide_eq_true h
    omega
  · have h := of_decide_eq_true h
    split at h <;> omega
def progsL (ps : List (List In)) : List Int := ps.flatMap bytesL
def itL (x : It) : List Int := [x.d, x.a] ++ eightL x.n
def itemsL (xs : List It) : List Int := xs.flatMap itL
def roomsL (r : List Int) : List Int := r.flatMap eightL
/-- How long its bytes are. -/
def longS (s : Sc) : Nat := 33 + (progsL s.ps).length + 10 * s.xs.length
/-- May a script be? -/
def mayS (s : Sc) : Bool := (s.r.all fun x => decide (0 ≤ x)) && (s.ps.all mayB) && (s.xs.all rightI) && decide ((1 ≤ s.ps.length ∧ s.ps.length ≤ 8) ∧ s.xs.length ≤ 200 ∧ longS s ≤ 4000)
theorem mayS_iff {s : Sc} : mayS s = true ↔ (∀ x ∈ s.r, 0 ≤ x) ∧ (∀ p ∈ s.ps, mayB p = true) ∧ (∀ x ∈ s.xs, rightI x = true) ∧ (1 ≤ s.ps.length ∧ s.ps.length ≤ 8) ∧ s.xs.length ≤ 200 ∧ longS s ≤ 4000 := by
  unfold mayS
  simp only [Bool.and_eq_true, List.all_eq_true, decide_eq_true_eq]
  constructor
  · rintro ⟨⟨⟨h1, h2⟩, h3⟩, h4⟩; exact ⟨h1, h2, h3, h4⟩
  · rintro ⟨h1, h2, h3, h4⟩; exact ⟨⟨⟨h1, h2⟩, h3⟩, h4⟩
/-- A script's bytes. -/
def bytesS (s : Sc) : List Int := roomsL s.r ++ ((s.ps.length : Int) :: (progsL s.ps ++ itemsL s.xs))
def bytesSE (s : Sc) : Int := if mayS s = true then 0 else 1
def bytesSR (s : Sc) : List Int := if mayS s = true then bytesS s else []
theorem it_len (x : It) : (itL x).length = 10 := by unfold itL; rw [List.length_append, eight_len]; rfl
theorem items_len : ∀ xs : List It, (itemsL xs).length = 10 * xs.length
  | [] => rfl
  | x :: xs => by
    have := items_len xs
    unfold itemsL at *
    rw [List.flatMap_cons, List.length_append, it_len, this, List.length_cons]; omega
theorem rooms_len : ∀ r : List Int, (roomsL r).length = 8 * r.length
  | [] => rfl
  | x :: r => by
    have := rooms_len r
    unfold roomsL at *
    rw [List.flatMap_cons, List.length_append, eight_len, this, List.length_cons]; omega
theorem bytesS_len {s : Sc} (h : s.r.length = 4) : (bytesS s).length = longS s := by
  unfold bytesS longS
  rw [List.length_append, List.length_cons, List.length_append, rooms_len, items_len, h]; omega

/-! ### the script of bytes -/
def roomsOf (b : List Int) : List Int := [numI b, numI (b.drop 8), numI (b.drop 16), numI (b.drop 24)]
/-- So many programs: why not, the programs, what is left. -/
def readP : Nat → List Int → Int × List (List In) × List Int
  | 0, b => (0, [], b)
  | k + 1, b => if readE b = 0 then ((readP k (b.drop (readN b).toNat)).1, readR b :: (readP k (b.drop (readN b).toNat)).2.1, (readP k (b.drop (readN b).toNat)).2.2) else (readE b, [], [])
def itAt (b : List Int) : It := ⟨b.getD 0 0, b.getD 1 0, numI (b.drop 2)⟩
def readX : Nat → List Int → List It
  | 0, _ => []
  | k + 1, b => itAt b :: readX k (b.drop 10)
def manyOf (b : List Int) : Int := b.getD 32 0
/-- What the first of so many bytes are the programs, and what is left. -/
def tailP (b : List Int) : Int × List (List In) × List Int := readP (manyOf b).toNat (b.drop 33)
def scOf (b : List Int) : Sc := ⟨roomsOf b, (tailP b).2.1, readX ((tailP b).2.2.length / 10) (tailP b).2.2⟩
/-- Why there is none (9: too long). -/
def readSE (b : List Int) : Int :=
  if 4000 < b.length then 9 else if b.length < 33 then 8
  else if (roomsOf b).any (fun x => decide (x < 0)) = true then 7
  else if manyOf b < 1 ∨ 8 < manyOf b then 7
  else if (tailP b).1 ≠ 0 then (tailP b).1
  else if (tailP b).2.2.length % 10 ≠ 0 then 8
  else if 200 < (scOf b).xs.length ∨ (scOf b).xs.all rightI = false then 7 else 0
def zeroS : Sc := ⟨[0, 0, 0, 0], [], []⟩
def readS (b : List Int) : Sc := if readSE b = 0 then scOf b else zeroS

theorem drop_front {α : Type} : ∀ (a b : List α) (m : Nat), (a ++ b).drop (a.length + m) = b.drop m
  | [], b, m => by simp
  | x :: a, b, m => by rw [List.length_cons, show a.length + 1 + m = (a.length + m) + 1 by omega, List.cons_append, List.drop_succ_cons, drop_front a b m]
theorem readX_len : ∀ (k : Nat) (b : List Int), (readX k b).length = k
  | 0, _ => rfl
  | k + 1, b => by unfold readX; rw [List.length_cons, readX_len k]
theorem rooms_back {r : List Int} (hl : r.length = 4) (h : ∀ x ∈ r, In64 x) (rest : List Int) : roomsOf (roomsL r ++ rest) = r := by
  match r, hl with
  | [x, y, z, u], _ =>
    have hx := h x (by simp)
    have hy := h y (by simp)
    have hz := h z (by simp)
    have hu := h u (by simp)
    have e : roomsL [x, y, z, u] ++ rest = eightL x ++ (eightL y ++ (eightL z ++ (eightL u ++ rest))) := by unfold roomsL; simp
    have d : ∀ (n : Int) (l : List Int) (k : Nat), (eightL n ++ l).drop (8 + k) = l.drop k := fun n l k => by
      have := drop_front (eightL n) l k
      rwa [eight_len] at this
    rw [e]
    unfold roomsOf
    rw [num_eight hx, show (8 : Nat) = 8 + 0 by omega, d, List.drop_zero, num_eight hy, show (16 : Nat) = 8 + (8 + 0) by omega, d, d, List.drop_zero, num_eight hz, show (24 : Nat) = 8 + (8 + (8 + 0)) by omega, d, d, d, List.drop_zero, num_eight hu]
theorem progs_back : ∀ (ps : List (List In)) (rest : List Int), (∀ p ∈ ps, mayB p = true) → (∀ p ∈ ps, ∀ x ∈ p, InIn x) → readP ps.length (progsL ps ++ rest) = (0, ps, rest)
  | [], rest, _, _ => rfl
  | p :: ps, rest, h1, h2 => by
    have ih := progs_back ps rest (fun q hq => h1 q (List.mem_cons_of_mem _ hq)) (fun q hq => h2 q (List.mem_cons_of_mem _ hq))
    obtain ⟨e1, e2, e3⟩ := back (h1 p (List.mem_cons_self ..)) (fun x hx => (h2 p (List.mem_cons_self ..) x hx).2.2.2) (progsL ps ++ rest)
    have e4 : progsL (p :: ps) ++ rest = bytesL p ++ (progsL ps ++ rest) := by unfold progsL; rw [List.flatMap_cons, List.append_assoc]
    rw [e4, List.length_cons]
    unfold readP
    rw [if_pos e1, e2, e3, Int.toNat_natCast, List.drop_append_of_le_length (Nat.le_refl _), List.drop_of_length_le (Nat.le_refl _), List.nil_append, ih]
theorem it_back {x : It} (h : In64 x.n) (rest : List Int) : itAt (itL x ++ rest) = x := by
  have e : itL x ++ rest = x.d :: x.a :: (eightL x.n ++ rest) := rfl
  rw [e]
  show It.mk x.d x.a (numI (eightL x.n ++ rest)) = x
  rw [num_eight h]
theorem items_back : ∀ xs : List It, (∀ x ∈ xs, In64 x.n) → readX xs.length (itemsL xs) = xs
  | [], _ => rfl
  | x :: xs, h => by
    have ih := items_back xs fun y hy => h y (List.mem_cons_of_mem _ hy)
    have e : itemsL (x :: xs) = itL x ++ itemsL xs := by unfold itemsL; rw [List.flatMap_cons]
    rw [e, List.length_cons]
    unfold readX
    rw [it_back (h x (List.mem_cons_self ..)), List.drop_append_of_le_length (by rw [it_len]; omega), List.drop_of_length_le (by rw [it_len]; omega), List.nil_append, ih]
/-- Scripts come back from their bytes. -/
theorem backS {s : Sc} (h : mayS s = true) (hi : InSc s) : readSE (bytesS s) = 0 ∧ readS (bytesS s) = s := by
  obtain ⟨h1, h2, h3, h4, h5, h6⟩ := mayS_iff.1 h
  obtain ⟨i1, i2, i3, i4⟩ := hi
  have hl := bytesS_len i1
  have hr : roomsOf (bytesS s) = s.r := rooms_back i1 i2 _
  have h32 : (roomsL s.r).length = 32 := by rw [rooms_len, i1]
  have hm : manyOf (bytesS s) = s.ps.length := by
    unfold manyOf bytesS
    rw [List.getD_eq_getElem?_getD, List.getElem?_append_right (by omega), h32]
    rfl
  have hd : (bytesS s).drop 33 = progsL s.ps ++ itemsL s.xs := by
    unfold bytesS
    have := drop_front (roomsL s.r) ((s.ps.length : Int) :: (progsL s.ps ++ itemsL s.xs)) 1
    rw [h32] at this
    rw [this]
    rfl
  have ht : tailP (bytesS s) = (0, s.ps, itemsL s.xs) := by
    unfold tailP
    rw [hm, Int.toNat_natCast, hd, progs_back _ _ h2 i3]
  have hsc : scOf (bytesS s) = s := by
    unfold scOf
    rw [hr, ht]
    simp only []
    rw [items_len, Nat.mul_div_cancel_left _ (by omega : 0 < 10), items_back _ fun x hx => (i4 x hx).2.2]
  have hE : readSE (bytesS s) = 0 := by
    unfold readSE
    rw [hl, if_neg (by omega), if_neg (by unfold longS; omega), hr, if_neg, hm, if_neg (by omega), ht, if_neg (by simp), if_neg (by rw [items_len]; omega), hsc, if_neg]
    · rintro (hx | hx)
      · omega
      · rw [List.all_eq_true.2 h3] at hx; cases hx
    · intro hx
      obtain ⟨x, hx1, hx2⟩ := List.any_eq_true.1 hx
      have := h1 x hx1
      have := of_decide_eq_true hx2
      omega
  exact ⟨hE, by unfold readS; rw [if_pos hE, hsc]⟩

theorem rooms_forth {b : List Int} (hl : 32 ≤ b.length) (hb : ∀ x ∈ b, Byte x) : roomsL (roomsOf b) = b.take 32 ∧ ∀ x ∈ roomsOf b, In64 x := by
  have hd : ∀ k, ∀ x ∈ b.drop k, Byte x := fun k x hx => hb x (List.mem_of_mem_drop hx)
  obtain ⟨e0, f0⟩ := eight_num (b := b) (by omega) hb
  obtain ⟨e1, f1⟩ := eight_num (b := b.drop 8) (by rw [List.length_drop]; omega) (hd 8)
  obtain ⟨e2, f2⟩ := eight_num (b := b.drop 16) (by rw [List.length_drop]; omega) (hd 16)
  obtain ⟨e3, f3⟩ := eight_num (b := b.drop 24) (by rw [List.length_drop]; omega) (hd 24)
  refine ⟨?_, fun x hx => ?_⟩
  · unfold roomsL roomsOf
    simp only [List.flatMap_cons, List.flatMap_nil, List.append_nil]
    rw [e0, e1, e2, e3, show (32 : Nat) = 8 + (8 + (8 + 8)) by omega, List.take_add, List.take_add, List.take_add, List.drop_drop, List.drop_drop]
  · unfold roomsOf at hx
    simp at hx
    rcases hx with rfl | rfl | rfl | rfl
    · exact f0
    · exact f1
    · exact f2
    · exact f3
theorem progs_forth : ∀ (k : Nat) (b : List Int), (readP k b).1 = 0 → (∀ x ∈ b, Byte x) →
    (∀ p ∈ (readP k b).2.1, mayB p = true ∧ ∀ x ∈ p, InIn x) ∧ (readP k b).2.1.length = k ∧ progsL (readP k b).2.1 ++ (readP k b).2.2 = b ∧ ∀ x ∈ (readP k b).2.2, Byte x
  | 0, b, _, hb => ⟨fun p hp => (by cases hp), rfl, rfl, hb⟩
  | k + 1, b, h, hb => by
    unfold readP at h ⊢
    by_cases hE : readE b = 0
    · rw [if_pos hE] at h ⊢
      obtain ⟨f1, f2, ⟨f3, f4⟩, f5⟩ := forth hE hb
      obtain ⟨i1, i2, i3, i4⟩ := progs_forth k (b.drop (readN b).toNat) h fun x hx => hb x (List.mem_of_mem_drop hx)
      refine ⟨fun p hp => ?_, by rw [List.length_cons, i2], ?_, i4⟩
      · rcases List.mem_cons.1 hp with rfl | hp
        · exact ⟨f1, f2⟩
        · exact i1 p hp
      · have e : ∀ (p : List In) (ps : List (List In)), progsL (p :: ps) = bytesL p ++ progsL ps := fun p ps => by unfold progsL; rw [List.flatMap_cons]
        show progsL (readR b :: _) ++ _ = b
        rw [e, List.append_assoc, i3, f5, List.take_append_drop]
    · rw [if_neg hE] at h
      exact absurd h hE
theorem it_forth {b : List Int} (hl : 10 ≤ b.length) (hb : ∀ x ∈ b, Byte x) : itL (itAt b) = b.take 10 ∧ InIt (itAt b) := by
  match b, hl with
  | x :: y :: c, hl =>
    have hlc : 8 ≤ c.length := by simpa using hl
    obtain ⟨e1, e2⟩ := eight_num hlc fun u hu => hb u (by simp [hu])
    have hx := hb x (by simp)
    have hy := hb y (by simp)
    unfold Byte at hx hy
    refine ⟨?_, ⟨by show _ ≤ x; omega, by show x ≤ _; omega⟩, ⟨by show _ ≤ y; omega, by show y ≤ _; omega⟩, e2⟩
    show [x, y] ++ eightL (numI c) = x :: y :: c.take 8
    rw [e1]; rfl
theorem items_forth : ∀ (k : Nat) (b : List Int), b.length = 10 * k → (∀ x ∈ b, Byte x) → itemsL (readX k b) = b ∧ ∀ x ∈ readX k b, InIt x
  | 0, b, hl, _ => by
    obtain rfl : b = [] := List.eq_nil_of_length_eq_zero (by omega)
    exact ⟨rfl, fun x hx => by cases hx⟩
  | k + 1, b, hl, hb => by
    obtain ⟨e1, e2⟩ := it_forth (b := b) (by omega) hb
    obtain ⟨i1, i2⟩ := items_forth k (b.drop 10) (by rw [List.length_drop]; omega) fun x hx => hb x (List.mem_of_mem_drop hx)
    unfold readX
    refine ⟨?_, fun x hx => ?_⟩
    · have e : itemsL (itAt b :: readX k (b.drop 10)) = itL (itAt b) ++ itemsL (readX k (b.drop 10)) := by unfold itemsL; rw [List.flatMap_cons]
      rw [e, e1, i1, List.take_append_drop]
    · rcases List.mem_cons.1 hx with rfl | hx
      · exact e2
      · exact i2 x hx
theorem readSE_errs (b : List Int) :
    (readSE b = 9 ∧ 4000 < b.length) ∨ (readSE b = 8 ∧ b.length < 33) ∨ (33 ≤ b.length ∧ b.length ≤ 4000 ∧
    ((readSE b = 7 ∧ ∃ x ∈ roomsOf b, x < 0) ∨ ((∀ x ∈ roomsOf b, 0 ≤ x) ∧
    ((readSE b = 7 ∧ (manyOf b < 1 ∨ 8 < manyOf b)) ∨ ((1 ≤ manyOf b ∧ manyOf b ≤ 8) ∧
    ((readSE b = (tailP b).1 ∧ (tailP b).1 ≠ 0) ∨ ((tailP b).1 = 0 ∧
    ((readSE b = 8 ∧ (tailP b).2.2.length % 10 ≠ 0) ∨ ((tailP b).2.2.length % 10 = 0 ∧
    ((readSE b = 7 ∧ (200 < (scOf b).xs.length ∨ (scOf b).xs.all rightI = false)) ∨ (readSE b = 0 ∧ (scOf b).xs.length ≤ 200 ∧ (scOf b).xs.all rightI = true))))))))))) := by
  unfold readSE
  by_cases h1 : 4000 < b.length
  · rw [if_pos h1]; exact .inl ⟨rfl, h1⟩
  rw [if_neg h1]
  by_cases h2 : b.length < 33
  · rw [if_pos h2]; exact .inr (.inl ⟨rfl, h2⟩)
  rw [if_neg h2]
  refine .inr (.inr ⟨by omega, by omega, ?_⟩)
  by_cases h3 : (roomsOf b).any (fun x => decide (x < 0)) = true
  · rw [if_pos h3]
    obtain ⟨x, hx, hx2⟩ := List.any_eq_true.1 h3
    exact .inl ⟨rfl, x, hx, of_decide_eq_true hx2⟩
  rw [if_neg h3]
  refine .inr ⟨fun x hx => ?_, ?_⟩
  · rcases (by omega : x < 0 ∨ 0 ≤ x) with h | h
    · exact absurd (List.any_eq_true.2 ⟨x, hx, decide_eq_true h⟩) h3
    · exact h
  by_cases h4 : manyOf b < 1 ∨ 8 < manyOf b
  · rw [if_pos h4]; exact .inl ⟨rfl, h4⟩
  rw [if_neg h4]
  refine .inr ⟨by omega, ?_⟩
  by_cases h5 : (tailP b).1 = 0
  · rw [if_neg (by simpa using h5)]
    refine .inr ⟨h5, ?_⟩
    by_cases h6 : (tailP b).2.2.length % 10 = 0
    · rw [if_neg (by simpa using h6)]
      refine .inr ⟨h6, ?_⟩
      by_cases h7 : 200 < (scOf b).xs.length ∨ (scOf b).xs.all rightI = false
      · rw [if_pos h7]; exact .inl ⟨rfl, h7⟩
      · rw [if_neg h7]
        refine .inr ⟨rfl, by omega, ?_⟩
        cases h8 : (scOf b).xs.all rightI with
        | true => rfl
        | false => exact absurd (.inr h8) h7
    · rw [if_pos h6]; exact .inl ⟨rfl, h6⟩
  · rw [if_pos h5]; exact .inl ⟨rfl, h5⟩
theorem readE_pos (b : List Int) : 0 ≤ readE b := by
  rcases read_errs b with ⟨e, _⟩ | ⟨e, _⟩ | ⟨e, _⟩ | ⟨e, _⟩ | ⟨e, _⟩ <;> omega
/-- Bytes come back from scripts. -/
theorem forthS {b : List Int} (h : readSE b = 0) (hb : ∀ x ∈ b, Byte x) : mayS (readS b) = true ∧ InSc (readS b) ∧ bytesS (readS b) = b := by
  have hR : readS b = scOf b := by unfold readS; rw [if_pos h]
  rw [hR]
  rcases readSE_errs b with ⟨e, _⟩ | ⟨e, _⟩ | ⟨l1, l2, ⟨e, _⟩ | ⟨a1, ⟨e, _⟩ | ⟨a2, ⟨e, h5⟩ | ⟨a3, ⟨e, _⟩ | ⟨a4, ⟨e, _⟩ | ⟨_, a5, a6⟩⟩⟩⟩⟩⟩
  · omega
  · omega
  · omega
  · omega
  · omega
  · omega
  · omega
  · obtain ⟨r1, r2⟩ := rooms_forth (b := b) (by omega) hb
    obtain ⟨p1, p2, p3, p4⟩ := progs_forth _ _ a3 fun x hx => hb x (List.mem_of_mem_drop hx)
    have hT : (tailP b).2.2.length = 10 * ((tailP b).2.2.length / 10) := by omega
    obtain ⟨x1, x2⟩ := items_forth _ _ hT p4
    have hbs : bytesS (scOf b) = b := by
      unfold bytesS
      show roomsL (roomsOf b) ++ (((tailP b).2.1.length : Int) :: (progsL (tailP b).2.1 ++ itemsL (readX ((tailP b).2.2.length / 10) (tailP b).2.2))) = b
      have p2' : (tailP b).2.1.length = (manyOf b).toNat := p2
      have p3' : progsL (tailP b).2.1 ++ (tailP b).2.2 = b.drop 33 := p3
      rw [x1, p3', p2', r1, Int.toNat_of_nonneg (by omega)]
      have hg : b.drop 32 = manyOf b :: b.drop 33 := by
        unfold manyOf
        rw [List.drop_eq_getElem_cons (by omega : 32 < b.length)]
        simp [List.getD, List.getElem?_eq_getElem (by omega : 32 < b.length)]
      rw [← hg, List.take_append_drop]
    have hi : InSc (scOf b) := ⟨rfl, r2, fun p hp => (p1 p hp).2, x2⟩
    refine ⟨mayS_iff.2 ⟨a1, fun p hp => (p1 p hp).1, List.all_eq_true.1 a6, ?_, a5, ?_⟩, hi, hbs⟩
    · have p2' : (scOf b).ps.length = (manyOf b).toNat := p2
      omega
    · rw [← bytesS_len (s := scOf b) rfl, hbs]; exact l2
/-- Unlike ones have unlike bytes. -/
theorem bytesS_inj {s t : Sc} (hs : mayS s = true) (is : InSc s) (ht : mayS t = true) (it : InSc t) (h : bytesS s = bytesS t) : s = t := by
  rw [← (backS hs is).2, h, (backS ht it).2]
/-- One item more. -/
theorem moreS {s : Sc} {x : It} (h : mayS s = true) (hl : s.xs.length < 200) (hb : longS s ≤ 3990) : mayS ⟨s.r, s.ps, s.xs ++ [x]⟩ = rightI x := by
  obtain ⟨h1, h2, h3, h4, h5, h6⟩ := mayS_iff.1 h
  cases hr : rightI x with
  | true =>
    refine mayS_iff.2 ⟨h1, h2, fun y hy => ?_, h4, ?_, ?_⟩
    · rcases List.mem_append.1 hy with hy | hy
      · exact h3 y hy
      · rw [List.mem_singleton] at hy; rw [hy]; exact hr
    · show (s.xs ++ [x]).length ≤ 200
      rw [List.length_append, List.length_singleton]; omega
    · unfold longS at hb ⊢
      show 33 + (progsL s.ps).length + 10 * (s.xs ++ [x]).length ≤ 4000
      rw [List.length_append, List.length_singleton]; omega
  | false =>
    rw [Bool.eq_false_iff]
    intro hm
    have := (mayS_iff.1 hm).2.2.1 x (List.mem_append_right _ (by simp))
    rw [hr] at this
    cases this
theorem bytesS_more (s : Sc) (x : It) : bytesS ⟨s.r, s.ps, s.xs ++ [x]⟩ = bytesS s ++ itL x := by
  unfold bytesS itemsL
  simp
end Go.Proofs.YtolooaahaofflaaDoor.ScriptP
