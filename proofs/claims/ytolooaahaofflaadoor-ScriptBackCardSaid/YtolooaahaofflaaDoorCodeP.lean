/-
  Instructions, programs and their bytes, as plain mathematics (layer 16). No condition.
-/
import Derived.Test.YtolooaahaofflaaDoorMutP
namespace Go.Proofs.YtolooaahaofflaaDoor.CodeP
open Go.ChangeShapes Go.WideShapes Go.ChangeAt Go.RowKit Mem MutP

/-- An instruction. -/
structure In where
  o : Int
  a : Int
  b : Int
  n : Int
/-- Its numbers may be. -/
def InIn (x : In) : Prop := In64 x.o ∧ In64 x.a ∧ In64 x.b ∧ In64 x.n
/-- A byte. -/
def Byte (x : Int) : Prop := 0 ≤ x ∧ x ≤ 255

/-- What an Op asks for. -/
def formL (op : Int) : List UInt8 :=
  if op = 0 ∨ op = 6 then [48, 48, 48]
  else if op = 1 ∨ op = 14 then [114, 48, 110]
  else if op = 2 ∨ op = 3 ∨ op = 10 ∨ op = 13 ∨ op = 15 ∨ op = 16 then [114, 114, 48]
  else if op = 4 then [114, 48, 106]
  else if op = 5 then [114, 114, 106]
  else if op = 7 then [114, 112, 48]
  else if op = 8 ∨ op = 9 ∨ op = 18 ∨ op = 20 ∨ op = 46 then [114, 48, 48]
  else if op = 11 ∨ op = 12 ∨ op = 17 then [114, 114, 110]
  else if op = 19 then [114, 114, 112]
  else if op = 21 ∨ op = 24 ∨ op = 25 ∨ op = 26 ∨ op = 27 ∨ op = 30 ∨ op = 31 ∨ op = 33 ∨ op = 35 then [48, 48, 111]
  else if op = 22 ∨ op = 23 ∨ op = 32 ∨ op = 34 ∨ op = 38 ∨ op = 41 ∨ op = 42 ∨ op = 44 ∨ op = 45 then [114, 48, 111]
  else if op = 28 then [48, 111, 111]
  else if op = 29 then [114, 111, 111]
  else if op = 36 ∨ op = 37 ∨ op = 43 then [114, 114, 111]
  else if op = 39 ∨ op = 40 then [114, 112, 111]
  else []
def formV (op : Int) : Value := .string ⟨(formL op).toArray⟩
theorem form_letters (op : Int) : (formL op = [] ∧ (op < 0 ∨ 46 < op)) ∨ ((0 ≤ op ∧ op ≤ 46) ∧ ∃ c0 c1 c2, formL op = [c0, c1, c2] ∧ (c0 = 114 ∨ c0 = 48) ∧ (c1 = 48 ∨ c1 = 114 ∨ c1 = 112 ∨ c1 = 111) ∧ (c2 = 48 ∨ c2 = 110 ∨ c2 = 106 ∨ c2 = 112 ∨ c2 = 111)) := by
  by_cases h : 0 ≤ op ∧ op ≤ 46
  · rcases (by omega : op = 0 ∨ op = 1 ∨ op = 2 ∨ op = 3 ∨ op = 4 ∨ op = 5 ∨ op = 6 ∨ op = 7 ∨ op = 8 ∨ op = 9 ∨ op = 10 ∨ op = 11 ∨ op = 12 ∨ op = 13 ∨ op = 14 ∨ op = 15 ∨ op = 16 ∨ op = 17 ∨ op = 18 ∨ op = 19 ∨ op = 20 ∨ op = 21 ∨ op = 22 ∨ op = 23 ∨ op = 24 ∨ op = 25 ∨ op = 26 ∨ op = 27 ∨ op = 28 ∨ op = 29 ∨ op = 30 ∨ op = 31 ∨ op = 32 ∨ op = 33 ∨ op = 34 ∨ op = 35 ∨ op = 36 ∨ op = 37 ∨ op = 38 ∨ op = 39 ∨ op = 40 ∨ op = 41 ∨ op = 42 ∨ op = 43 ∨ op = 44 ∨ op = 45 ∨ op = 46) with rfl | rfl | rfl | rfl | rfl | rfl | rfl | rfl | rfl | rfl | rfl | rfl | rfl | rfl | rfl | rfl | rfl | rfl | rfl | rfl | rfl | rfl | rfl | rfl | rfl | rfl | rfl | rfl | rfl | rfl | rfl | rfl | rfl | rfl | rfl | rfl | rfl | rfl | rfl | rfl | rfl | rfl | rfl | rfl | rfl | rfl | rfl
    all_goals exact .inr ⟨by omega, _, _, _, rfl, by decide, by decide, by decide⟩
  · refine .inl ⟨?_, by omega⟩
    unfold formL
    repeat' rw [if_neg (by omega)]

/-- Is a number what a letter asks for? -/
def fitsB (c n long : Int) : Bool :=
  if c = 114 then decide (0 ≤ n ∧ n < 6)
  else if c = 111 then decide (0 ≤ n ∧ n < 4)
  else if c = 112 then decide (0 ≤ n ∧ n < 8)
  else if c = 106 then decide (0 ≤ n ∧ n ≤ long)
  else if c = 48 then decide (n = 0)
  else true
def right3 (c0 c1 c2 : UInt8) (x : In) (long : Int) : Bool := fitsB c0.toNat x.a long && fitsB c1.toNat x.b long && fitsB c2.toNat x.n long
/-- May an instruction be? -/
def rightB (x : In) (long : Int) : Bool := match formL x.o with
  | [c0, c1, c2] => right3 c0 c1 c2 x long
  | _ => false
theorem right_some {x : In} {long : Int} {c0 c1 c2 : UInt8} (h : formL x.o = [c0, c1, c2]) : rightB x long = right3 c0 c1 c2 x long := by unfold rightB; rw [h]
theorem right_none {x : In} {long : Int} (h : formL x.o = []) : rightB x long = false := by unfold rightB; rw [h]
theorem fits_small {c : UInt8} {n long : Int} (hc : c = 48 ∨ c = 114 ∨ c = 112 ∨ c = 111) (h : fitsB c.toNat n long = true) : 0 ≤ n ∧ n < 8 := by
  rcases hc with rfl | rfl | rfl | rfl
  · have h : decide (n = 0) = true := h
    have := of_decide_eq_true h
    omega
  · have h : decide (0 ≤ n ∧ n < 6) = true := h
    have := of_decide_eq_true h
    omega
  · have h : decide (0 ≤ n ∧ n < 8) = true := h
    have := of_decide_eq_true h
    omega
  · have h : decide (0 ≤ n ∧ n < 4) = true := h
    have := of_decide_eq_true h
    omega
theorem right_small {x : In} {long : Int} (h : rightB x long = true) : (0 ≤ x.o ∧ x.o ≤ 46) ∧ (0 ≤ x.a ∧ x.a < 8) ∧ 0 ≤ x.b ∧ x.b < 8 := by
  rcases form_letters x.o with ⟨e, _⟩ | ⟨ho, c0, c1, c2, e, h0, h1, _⟩
  · rw [right_none e] at h; cases h
  · rw [right_some e] at h
    unfold right3 at h
    simp only [Bool.and_eq_true] at h
    exact ⟨ho, fits_small (by rcases h0 with h0 | h0 <;> simp [h0]) h.1.1, fits_small h1 h.1.2⟩
theorem fits_mono {c n l m : Int} (hl : l ≤ m) (h : fitsB c n l = true) : fitsB c n m = true := by
  unfold fitsB at *
  repeat' split
  · simp_all
  · simp_all
  · simp_all
  · rename_i h1 h2 h3 h4
    rw [if_neg h1, if_neg h2, if_neg h3, if_pos h4] at h
    have := of_decide_eq_true h
    exact decide_eq_true (by omega)
  · simp_all
  · rfl
theorem right_mono {x : In} {l m : Int} (hl : l ≤ m) (h : rightB x l = true) : rightB x m = true := by
  rcases form_letters x.o with ⟨e, _⟩ | ⟨_, c0, c1, c2, e, _⟩
  · rw [right_none e] at h; cases h
  · rw [right_some e] at h ⊢
    unfold right3 at *
    simp only [Bool.and_eq_true] at *
    exact ⟨⟨fits_mono hl h.1.1, fits_mono hl h.1.2⟩, fits_mono hl h.2⟩

/-- May a program be? -/
def mayB (l : List In) : Bool := (l.all fun x => rightB x l.length) && decide (1 ≤ l.length ∧ l.length ≤ 24)
theorem may_iff {l : List In} : mayB l = true ↔ (∀ x ∈ l, rightB x l.length = true) ∧ 1 ≤ l.length ∧ l.length ≤ 24 := by
  unfold mayB
  rw [Bool.and_eq_true, List.all_eq_true, decide_eq_true_eq]
theorem may_longer {l : List In} {x : In} (h : mayB l = true) (hl : l.length < 24) : mayB (l ++ [x]) = rightB x (l ++ [x]).length := by
  obtain ⟨h1, h2, h3⟩ := may_iff.1 h
  cases hr : rightB x (l ++ [x]).length with
  | true =>
    refine may_iff.2 ⟨fun y hy => ?_, by simp, by simp; omega⟩
    rcases List.mem_append.1 hy with hy | hy
    · exact right_mono (by simp only [List.length_append, List.length_singleton]; omega) (h1 y hy)
    · rw [List.mem_singleton] at hy; subst hy; exact hr
  | false =>
    rw [Bool.eq_false_iff]
    intro hm
    rw [(may_iff.1 hm).1 x (by simp)] at hr
    cases hr

/-! ### a number's bytes -/
def top64 (n : Int) : Int := if n < 0 then n + 18446744073709551616 else n
/-- So many bytes of a number, the highest first. -/
def bytesOf : Nat → Int → List Int
  | 0, _ => []
  | k + 1, m => bytesOf k (m / 256) ++ [m % 256]
def eightL (n : Int) : List Int := bytesOf 8 (top64 n)
/-- The number of bytes. -/
def numU (b : List Int) : Int := b.foldl (fun m x => 256 * m + x) 0
def low64 (m : Int) : Int := if m < 9223372036854775808 then m else m - 18446744073709551616
def numI (b : List Int) : Int := low64 (numU (b.take 8))
theorem bytesOf_len : ∀ (k : Nat) (m : Int), (bytesOf k m).length = k
  | 0, _ => rfl
  | k + 1, m => by unfold bytesOf; rw [List.length_append, bytesOf_len k]; rfl
theorem bytesOf_byte : ∀ (k : Nat) (m : Int), ∀ x ∈ bytesOf k m, Byte x
  | 0, _, x, h => by cases h
  | k + 1, m, x, h => by
    unfold bytesOf at h
    rcases List.mem_append.1 h with h | h
    · exact bytesOf_byte k _ x h
    · rw [List.mem_singleton] at h; subst h; unfold Byte; omega
theorem numU_snoc (b : List Int) (x : Int) : numU (b ++ [x]) = 256 * numU b + x := by unfold numU; rw [List.foldl_append]; rfl
theorem numU_bytes : ∀ (k : Nat) (m : Int), 0 ≤ m → m < 256 ^ k → numU (bytesOf k m) = m
  | 0, m, h0, h1 => by
    have : m = 0 := by simp at h1; omega
    subst this; rfl
  | k + 1, m, h0, h1 => by
    unfold bytesOf
    rw [numU_snoc, numU_bytes k (m / 256) (by omega) (by rw [Int.pow_succ] at h1; omega)]
    omega
theorem bytes_numU : ∀ (k : Nat) (b : List Int), b.length = k → (∀ x ∈ b, Byte x) → (0 ≤ numU b ∧ numU b < 256 ^ k) ∧ bytesOf k (numU b) = b
  | 0, b, hl, _ => by
    have := List.eq_nil_of_length_eq_zero hl
    subst this
    exact ⟨⟨by decide, by decide⟩, rfl⟩
  | k + 1, b, hl, hb => by
    rcases List.eq_nil_or_concat b with rfl | ⟨c, x, rfl⟩
    · cases hl
    · rw [List.concat_eq_append] at *
      have hlc : c.length = k := by simpa using hl
      obtain ⟨⟨h1, h2⟩, h3⟩ := bytes_numU k c hlc fun y hy => hb y (List.mem_append_left _ hy)
      have hx := hb x (by simp)
      unfold Byte at hx
      rw [numU_snoc]
      refine ⟨⟨by omega, by rw [Int.pow_succ]; omega⟩, ?_⟩
      unfold bytesOf
      rw [show (256 * numU c + x) / 256 = numU c by omega, show (256 * numU c + x) % 256 = x by omega, h3]
theorem top_in {n : Int} (h : In64 n) : 0 ≤ top64 n ∧ top64 n < 256 ^ 8 ∧ low64 (top64 n) = n := by
  obtain ⟨h1, h2⟩ := h
  have e : (256 : Int) ^ 8 = 18446744073709551616 := by decide
  rw [e]
  unfold top64 low64
  split <;> split <;> omega
theorem low_top {m : Int} (h0 : 0 ≤ m) (h1 : m < 256 ^ 8) : top64 (low64 m) = m ∧ In64 (low64 m) := by
  have e : (256 : Int) ^ 8 = 18446744073709551616 := by decide
  rw [e] at h1
  unfold top64 low64 In64
  refine ⟨?_, ?_, ?_⟩ <;> repeat' split
  all_goals omega
theorem eight_len (n : Int) : (eightL n).length = 8 := bytesOf_len 8 _
/-- There and back. -/
theorem num_eight {n : Int} (h : In64 n) (rest : List Int) : numI (eightL n ++ rest) = n := by
  obtain ⟨h0, h1, h2⟩ := top_in h
  unfold numI
  rw [List.take_append_of_le_length (by rw [eight_len]; omega), List.take_of_length_le (by rw [eight_len]; omega)]
  unfold eightL
  rw [numU_bytes 8 _ h0 h1, h2]
theorem eight_num {b : List Int} (hl : 8 ≤ b.length) (hb : ∀ x ∈ b, Byte x) : eightL (numI b) = b.take 8 ∧ In64 (numI b) := by
  obtain ⟨⟨h0, h1⟩, h2⟩ := bytes_numU 8 (b.take 8) (by rw [List.length_take]; omega) fun x hx => hb x (List.mem_of_mem_take hx)
  obtain ⟨e1, e2⟩ := low_top h0 h1
  unfold numI eightL
  rw [e1]
  exact ⟨h2, e2⟩

/-! ### a program's bytes -/
def insL (x : In) : List Int := [x.o, x.a, x.b] ++ eightL x.n
theorem ins_len (x : In) : (insL x).length = 11 := by unfold insL; rw [List.length_append, eight_len]; rfl
def bodyL (l : List In) : List Int := l.flatMap insL
theorem body_len : ∀ l : List In, (bodyL l).length = 11 * l.length
  | [] => rfl
  | x :: l => by
    have := body_len l
    unfold bodyL at *
    rw [List.flatMap_cons, List.length_append, ins_len, this, List.length_cons]; omega
def bytesL (l : List In) : List Int := (l.length : Int) :: bodyL l
theorem bytes_len (l : List In) : (bytesL l).length = 1 + 11 * l.length := by unfold bytesL; rw [List.length_cons, body_len]; omega
def bytesE (l : List In) : Int := if mayB l = true then 0 else 1
def bytesR (l : List In) : List Int := if mayB l = true then bytesL l else []

/-! ### the program of bytes -/
/-- The instruction that begins here. -/
def oneI (b : List Int) : In := ⟨b.getD 0 0, b.getD 1 0, b.getD 2 0, numI (b.drop 3)⟩
/-- So many of them. -/
def readL : Nat → List Int → List In
  | 0, _ => []
  | k + 1, b => oneI b :: readL k (b.drop 11)
def headN (b : List Int) : Int := b.getD 0 0
def progL (b : List Int) : List In := readL (headN b).toNat (b.drop 1)
def readE (b : List Int) : Int :=
  if b.length = 0 then 8 else if headN b < 1 ∨ 24 < headN b then 7 else if (b.length : Int) < 1 + 11 * headN b then 8 else if mayB (progL b) = true then 0 else 1
def readR (b : List Int) : List In := if readE b = 0 then progL b else []
def readN (b : List Int) : Int := if readE b = 0 then 1 + 11 * headN b else 0
theorem readL_len : ∀ (k : Nat) (b : List Int), (readL k b).length = k
  | 0, _ => rfl
  | k + 1, b => by unfold readL; rw [List.length_cons, readL_len k]
theorem read_errs (b : List Int) :
    (readE b = 8 ∧ b.length = 0) ∨ (readE b = 7 ∧ 0 < b.length ∧ (headN b < 1 ∨ 24 < headN b)) ∨ (readE b = 8 ∧ 0 < b.length ∧ (1 ≤ headN b ∧ headN b ≤ 24) ∧ (b.length : Int) < 1 + 11 * headN b) ∨
    (readE b = 1 ∧ 0 < b.length ∧ (1 ≤ headN b ∧ headN b ≤ 24) ∧ 1 + 11 * headN b ≤ (b.length : Int) ∧ mayB (progL b) = false) ∨ (readE b = 0 ∧ 0 < b.length ∧ (1 ≤ headN b ∧ headN b ≤ 24) ∧ 1 + 11 * headN b ≤ (b.length : Int) ∧ mayB (progL b) = true) := by
  unfold readE
  by_cases h1 : b.length = 0
  · rw [if_pos h1]; exact .inl ⟨rfl, h1⟩
  · rw [if_neg h1]
    by_cases h2 : headN b < 1 ∨ 24 < headN b
    · rw [if_pos h2]; exact .inr (.inl ⟨rfl, by omega, h2⟩)
    · rw [if_neg h2]
      by_cases h3 : (b.length : Int) < 1 + 11 * headN b
      · rw [if_pos h3]; exact .inr (.inr (.inl ⟨rfl, by omega, by omega, h3⟩))
      · rw [if_neg h3]
        cases h4 : mayB (progL b) with
        | true => rw [if_pos rfl]; exact .inr (.inr (.inr (.inr ⟨rfl, by omega, by omega, by omega, rfl⟩)))
        | false => rw [if_neg (by simp)]; exact .inr (.inr (.inr (.inl ⟨rfl, by omega, by omega, by omega, rfl⟩)))
theorem one_ins {x : In} (h : In64 x.n) (rest : List Int) : oneI (insL x ++ rest) = x := by
  unfold oneI insL
  have e : [x.o, x.a, x.b] ++ eightL x.n ++ rest = x.o :: x.a :: x.b :: (eightL x.n ++ rest) := rfl
  rw [e]
  show In.mk x.o x.a x.b (numI (eightL x.n ++ rest)) = x
  rw [num_eight h]
theorem ins_one {b : List Int} (hl : 11 ≤ b.length) (hb : ∀ x ∈ b, Byte x) : insL (oneI b) = b.take 11 ∧ InIn (oneI b) := by
  match b, hl with
  | x :: y :: z :: c, hl =>
    have hlc : 8 ≤ c.length := by simpa using hl
    have hbc : ∀ u ∈ c, Byte u := fun u hu => hb u (by simp [hu])
    obtain ⟨e1, e2⟩ := eight_num hlc hbc
    have hx := hb x (by simp)
    have hy := hb y (by simp)
    have hz := hb z (by simp)
    unfold Byte at hx hy hz
    refine ⟨?_, ⟨by show _ ≤ x; omega, by show x ≤ _; omega⟩, ⟨by show _ ≤ y; omega, by show y ≤ _; omega⟩, ⟨by show _ ≤ z; omega, by show z ≤ _; omega⟩, e2⟩
    show [x, y, z] ++ eightL (numI c) = x :: y :: z :: c.take 8
    rw [e1]; rfl
theorem read_body : ∀ (l : List In) (rest : List Int), (∀ x ∈ l, In64 x.n) → readL l.length (bodyL l ++ rest) = l
  | [], _, _ => rfl
  | x :: l, rest, h => by
    have ih := read_body l rest fun y hy => h y (List.mem_cons_of_mem _ hy)
    have hx := h x (List.mem_cons_self ..)
    unfold bodyL at ih ⊢
    rw [List.flatMap_cons, List.append_assoc, List.length_cons]
    unfold readL
    rw [one_ins hx, List.drop_append_of_le_length (by rw [ins_len]; omega), List.drop_of_length_le (by rw [ins_len]; omega), List.nil_append, ih]
theorem body_read : ∀ (k : Nat) (b : List Int), 11 * k ≤ b.length → (∀ x ∈ b, Byte x) → bodyL (readL k b) = b.take (11 * k) ∧ ∀ x ∈ readL k b, InIn x
  | 0, b, _, _ => ⟨by simp [readL, bodyL], fun x hx => by cases hx⟩
  | k + 1, b, hl, hb => by
    obtain ⟨e1, e2⟩ := ins_one (b := b) (by omega) hb
    obtain ⟨i1, i2⟩ := body_read k (b.drop 11) (by rw [List.length_drop]; omega) fun x hx => hb x (List.mem_of_mem_drop hx)
    unfold readL
    refine ⟨?_, fun x hx => ?_⟩
    · unfold bodyL at i1 ⊢
      rw [List.flatMap_cons, i1, e1, show 11 * (k + 1) = 11 + 11 * k by omega, List.take_add]
    · rcases List.mem_cons.1 hx with rfl | hx
      · exact e2
      · exact i2 x hx
/-- Programs come back from their bytes, whatever stands behind. -/
theorem back {l : List In} (h : mayB l = true) (hn : ∀ x ∈ l, In64 x.n) (rest : List Int) : readE (bytesL l ++ rest) = 0 ∧ readR (bytesL l ++ rest) = l ∧ readN (bytesL l ++ rest) = (bytesL l).length := by
  obtain ⟨_, h2, h3⟩ := may_iff.1 h
  have hh : headN (bytesL l ++ rest) = l.length := rfl
  have hp : progL (bytesL l ++ rest) = l := by
    unfold progL
    rw [hh, Int.toNat_natCast]
    exact read_body l rest hn
  have hlen : (bytesL l ++ rest).length = 1 + 11 * l.length + rest.length := by rw [List.length_append, bytes_len]
  have hE : readE (bytesL l ++ rest) = 0 := by
    unfold readE
    rw [if_neg (by omega), hh, if_neg (by omega), if_neg (by omega), hp, if_pos h]
  refine ⟨hE, ?_, ?_⟩
  · unfold readR; rw [if_pos hE, hp]
  · unfold readN; rw [if_pos hE, hh, bytes_len]; omega
/-- Bytes come back from programs. -/
theorem forth {b : List Int} (h : readE b = 0) (hb : ∀ x ∈ b, Byte x) : mayB (readR b) = true ∧ (∀ x ∈ readR b, InIn x) ∧ (1 ≤ readN b ∧ readN b ≤ b.length) ∧ bytesL (readR b) = b.take (readN b).toNat := by
  have hR : readR b = progL b := by unfold readR; rw [if_pos h]
  have hN : readN b = 1 + 11 * headN b := by unfold readN; rw [if_pos h]
  rcases read_errs b with ⟨e, _⟩ | ⟨e, _⟩ | ⟨e, _⟩ | ⟨e, _⟩ | ⟨_, h1, h2, h3, h4⟩
  · omega
  · omega
  · omega
  · omega
  · match b, h1 with
    | x :: c, _ =>
      have hx : headN (x :: c) = x := rfl
      rw [hx] at h2 h3 hN
      obtain ⟨k, hk⟩ := Int.eq_ofNat_of_zero_le (by omega : 0 ≤ x)
      have hp : progL (x :: c) = readL k c := by unfold progL; rw [hx, hk, Int.toNat_natCast]; rfl
      have hlc : 11 * k ≤ c.length := by simp only [List.length_cons] at h3; omega
      obtain ⟨e1, e2⟩ := body_read k c hlc fun y hy => hb y (List.mem_cons_of_mem _ hy)
      rw [hR, hN]
      refine ⟨h4, ?_, ⟨by omega, by omega⟩, ?_⟩
      · rw [hp]; exact e2
      · rw [hp, show (1 + 11 * x).toNat = 11 * k + 1 by omega, List.take_succ_cons, ← e1]
        unfold bytesL
        rw [readL_len, hk]
/-- Cut off none comes. -/
theorem cut_off {l : List In} (h : mayB l = true) : readE ((bytesL l).take ((bytesL l).length - 1)) = 8 := by
  obtain ⟨_, h2, h3⟩ := may_iff.1 h
  have hlen : ((bytesL l).take ((bytesL l).length - 1)).length = 11 * l.length := by rw [List.length_take, bytes_len]; omega
  have hh : headN ((bytesL l).take ((bytesL l).length - 1)) = l.length := by
    rw [bytes_len, show 1 + 11 * l.length - 1 = (11 * l.length - 1) + 1 by omega]
    rfl
  unfold readE
  rw [hlen, hh, if_neg (by omega), if_neg (by omega), if_pos (by omega)]
end Go.Proofs.YtolooaahaofflaaDoor.CodeP
