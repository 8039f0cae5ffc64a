/-
  Registrations as a list (layer 7): plain mathematics. No condition.
-/
import Derived.Test.YtindcpcfilfnkaaCells
namespace Go.Proofs.Ytindcpcfilfnkaa.AfterP
open Go.ChangeShapes Go.WideShapes Go.ChangeAt Go.RowKit Mem

/-- A registration: what it waits for, the thing, its state. -/
structure Rg where
  on : Int
  th : Int
  st : Int
  deriving DecidableEq
def rgE : Enc Rg := ⟨3, fun x => [.int .i64 x.on, .int .i64 x.th, .int .i64 x.st], fun _ => rfl, by intro a u hu; simp at hu; rcases hu with rfl | rfl | rfl <;> rfl, by omega⟩
theorem rg_cells {w : World} {G : Nat → Prop} {A : Option Addr} {n c : Nat} {L : List Rg} (h : RdL rgE w G (.slice A n c) L) {i : Nat} {x : Rg} (hi : L[i]? = some x) :
    ∃ b off, A = some ⟨b, off, none⟩ ∧ b < w.heap.size ∧ w.cell? ⟨b, off + i * 3, none⟩ = some (.int .i64 x.on) ∧ w.cell? ⟨b, off + i * 3 + 1, none⟩ = some (.int .i64 x.th) ∧ w.cell? ⟨b, off + i * 3 + 2, none⟩ = some (.int .i64 x.st) := by
  obtain ⟨b, off, hA, _, hb, hc⟩ := h.at_ hi
  exact ⟨b, off, hA, hb, hc 0 _ rfl, hc 1 _ rfl, hc 2 _ rfl⟩

def In64 (a : Int) : Prop := -9223372036854775808 ≤ a ∧ a ≤ 9223372036854775807
def rg (L : List Rg) (n : Int) : Rg := L.getD n.toNat ⟨0, 0, 0⟩
def thereR (L : List Rg) (n : Int) : Bool := decide (0 ≤ n ∧ n < L.length)
def addE (L : List Rg) (M : Int) : Int := if (L.length : Int) < M then 0 else 2
def addV (L : List Rg) (M : Int) : Int := if (L.length : Int) < M then L.length else -1
def addL (L : List Rg) (M on th : Int) : List Rg := if (L.length : Int) < M then L ++ [⟨on, th, 1⟩] else L
def stopB (L : List Rg) (n : Int) : Bool := thereR L n && decide ((rg L n).st = 1)
def stopL (L : List Rg) (n : Int) : List Rg := if stopB L n = true then L.set n.toNat { rg L n with st := 3 } else L
/-- Does it wait for d? -/
def wb (d : Int) (x : Rg) : Bool := decide (x.on = d ∧ x.st = 1)
def waitsTo (L : List Rg) (d : Int) (m : Nat) : List Int := ((List.range m).filter (fun i : Nat => wb d (rg L i))).map (fun i : Nat => (i : Int))
def waitsL (L : List Rg) (d : Int) : List Int := waitsTo L d L.length
def fire1 (L : List Rg) (d : Int) : List Rg := L.map fun x => if wb d x = true then { x with st := 2 } else x
def fireL : List Rg → List Int → List Rg
  | L, [] => L
  | L, d :: l => fireL (fire1 L d) l
def fireO : List Rg → List Int → List Int
  | _, [] => []
  | L, d :: l => waitsL L d ++ fireO (fire1 L d) l

theorem thereR_iff {L : List Rg} {n : Int} : thereR L n = true ↔ 0 ≤ n ∧ n < L.length := by unfold thereR; simp
theorem thereR_nat {L : List Rg} {n : Int} (h : thereR L n = true) : ∃ i : Nat, n = i ∧ i < L.length := by
  have := thereR_iff.1 h
  exact ⟨n.toNat, by omega, by omega⟩
theorem rg_at {L : List Rg} {i : Nat} (h : i < L.length) : L[i]? = some (rg L i) := by
  unfold rg
  rw [Int.toNat_natCast, List.getD_eq_getElem?_getD, List.getElem?_eq_getElem h]
  rfl
theorem rg_of {L : List Rg} {i : Nat} {x : Rg} (h : L[i]? = some x) : rg L i = x := by
  unfold rg
  rw [Int.toNat_natCast, List.getD_eq_getElem?_getD, h]
  rfl
theorem waitsTo_snoc (L : List Rg) (d : Int) (m : Nat) : waitsTo L d (m + 1) = waitsTo L d m ++ if wb d (rg L (m : Nat)) = true then [(m : Int)] else [] := by
  unfold waitsTo
  rw [List.range_succ, List.filter_append, List.map_append]
  by_cases h : wb d (rg L (m : Nat)) = true
  · simp [h]
  · simp [h]
theorem waitsTo_len (L : List Rg) (d : Int) (m : Nat) : (waitsTo L d m).length ≤ m := by
  unfold waitsTo
  rw [List.length_map]
  exact Nat.le_trans (List.length_filter_le _ _) (by simp)
theorem mem_waits {L : List Rg} {d k : Int} : k ∈ waitsL L d ↔ thereR L k = true ∧ (rg L k).on = d ∧ (rg L k).st = 1 := by
  unfold waitsL waitsTo
  rw [List.mem_map]
  constructor
  · rintro ⟨i, hi, rfl⟩
    obtain ⟨h1, h2⟩ := List.mem_filter.1 hi
    have := List.mem_range.1 h1
    exact ⟨thereR_iff.2 (by omega), by simpa [wb] using h2⟩
  · rintro ⟨h1, h2⟩
    obtain ⟨i, rfl, hi⟩ := thereR_nat h1
    exact ⟨i, List.mem_filter.2 ⟨List.mem_range.2 hi, by simpa [wb] using h2⟩, rfl⟩
theorem waits_sorted (L : List Rg) (d : Int) : (waitsL L d).Pairwise (· < ·) := by
  unfold waitsL waitsTo
  rw [List.pairwise_map]
  exact (List.Pairwise.filter _ List.pairwise_lt_range).imp fun h => by omega
theorem fire1_len (L : List Rg) (d : Int) : (fire1 L d).length = L.length := by simp [fire1]
theorem fireL_len : ∀ (L : List Rg) (l : List Int), (fireL L l).length = L.length
  | _, [] => rfl
  | L, d :: l => by rw [fireL, fireL_len, fire1_len]
theorem rg_fire1 {L : List Rg} {d : Int} {i : Nat} (h : i < L.length) : rg (fire1 L d) i = if wb d (rg L i) = true then { rg L i with st := 2 } else rg L i := by
  refine rg_of ?_
  unfold fire1
  rw [List.getElem?_map, rg_at h]
  rfl
/-- Those of ks are begun. -/
def markR (L : List Rg) (ks : List Int) : List Rg := L.mapIdx fun i x => if (i : Int) ∈ ks then { x with st := 2 } else x
theorem markR_len (L : List Rg) (ks : List Int) : (markR L ks).length = L.length := by simp [markR]
theorem markR_nil (L : List Rg) : markR L [] = L := by
  refine List.ext_getElem? fun i => ?_
  unfold markR
  rw [List.getElem?_mapIdx]
  cases L[i]? <;> simp
theorem markR_at {L : List Rg} {ks : List Int} {i : Nat} (h : i < L.length) (hn : (i : Int) ∉ ks) : (markR L ks)[i]? = some (rg L i) := by
  unfold markR
  rw [List.getElem?_mapIdx, rg_at h]
  simp [hn]
theorem markR_snoc {L : List Rg} {ks : List Int} {i : Nat} (h : i < L.length) : markR L (ks ++ [(i : Int)]) = (markR L ks).set i { rg L i with st := 2 } := by
  refine List.ext_getElem? fun j => ?_
  rw [List.getElem?_set]
  unfold markR
  rw [List.getElem?_mapIdx, List.getElem?_mapIdx]
  by_cases hij : i = j
  · subst hij
    rw [if_pos rfl, List.length_mapIdx, if_pos h, rg_at h]
    simp
  · rw [if_neg hij]
    cases L[j]? with
    | none => rfl
    | some x =>
      have : ((j : Int) ∈ ks ++ [(i : Int)]) ↔ (j : Int) ∈ ks := by
        rw [List.mem_append, List.mem_singleton]
        constructor
        · rintro (h | h)
          · exact h
          · omega
        · exact .inl
      simp [this]
theorem markR_waits (L : List Rg) (d : Int) : markR L (waitsL L d) = fire1 L d := by
  refine List.ext_getElem? fun j => ?_
  unfold markR fire1
  rw [List.getElem?_mapIdx, List.getElem?_map]
  rcases Nat.lt_or_ge j L.length with hj | hj
  · rw [rg_at hj]
    have : ((j : Int) ∈ waitsL L d) ↔ wb d (rg L j) = true := by
      rw [mem_waits]
      unfold wb
      constructor
      · rintro ⟨_, h⟩
        simpa using h
      · intro h
        exact ⟨thereR_iff.2 (by omega), by simpa using h⟩
    simp [this]
  · rw [List.getElem?_eq_none hj]
    rfl
theorem fire_snoc : ∀ (L : List Rg) (l : List Int) (d : Int), fireL L (l ++ [d]) = fire1 (fireL L l) d ∧ fireO L (l ++ [d]) = fireO L l ++ waitsL (fireL L l) d
  | L, [], d => by simp [fireL, fireO]
  | L, x :: l, d => by
    have h := fire_snoc (fire1 L x) l d
    rw [List.cons_append, fireL, fireO, h.1, h.2, fireL, fireO, List.append_assoc]
    exact ⟨rfl, rfl⟩
def waitsN (L : List Rg) : Nat := L.countP fun x => decide (x.st = 1)
theorem fireO_len : ∀ (L : List Rg) (l : List Int), (fireO L l).length ≤ L.length * l.length
  | _, [] => by simp [fireO]
  | L, d :: l => by
    rw [fireO, List.length_append, List.length_cons, Nat.mul_succ]
    have h1 := fireO_len (fire1 L d) l
    have h2 := waitsTo_len L d L.length
    rw [fire1_len] at h1
    have h3 : (waitsL L d).length ≤ L.length := h2
    omega

/-- The same registrations but for number n, which doesn't wait in the second. -/
structure Off (L L' : List Rg) (n : Int) : Prop where
  len : L'.length = L.length
  same : ∀ i : Nat, i < L.length → (i : Int) ≠ n → rg L' i = rg L i
  off : ∀ i : Nat, i < L.length → (i : Int) = n → (rg L' i).st ≠ 1
theorem Off.waitsTo {L L' : List Rg} {n : Int} (h : Off L L' n) (d : Int) : ∀ m : Nat, m ≤ L.length → waitsTo L' d m = (waitsTo L d m).filter (fun k => decide (k ≠ n))
  | 0, _ => rfl
  | m + 1, hm => by
    rw [waitsTo_snoc, waitsTo_snoc, Off.waitsTo h d m (by omega), List.filter_append]
    congr 1
    by_cases hn : (m : Int) = n
    · have h1 := h.off m (by omega) hn
      rw [if_neg (by unfold wb; simp [h1])]
      split
      · simp [hn]
      · rfl
    · rw [h.same m (by omega) hn]
      split
      · simp [hn]
      · rfl
theorem Off.waits {L L' : List Rg} {n : Int} (h : Off L L' n) (d : Int) : waitsL L' d = (waitsL L d).filter (fun k => decide (k ≠ n)) := by
  unfold waitsL
  rw [h.len]
  exact h.waitsTo d _ (Nat.le_refl _)
theorem Off.fire1 {L L' : List Rg} {n : Int} (h : Off L L' n) (d : Int) : Off (fire1 L d) (fire1 L' d) n := by
  refine ⟨by rw [fire1_len, fire1_len, h.len], fun i hi hn => ?_, fun i hi hn => ?_⟩
  · rw [fire1_len] at hi
    rw [rg_fire1 hi, rg_fire1 (by rw [h.len]; exact hi), h.same i hi hn]
  · rw [fire1_len] at hi
    rw [rg_fire1 (by rw [h.len]; exact hi)]
    split
    · simp
    · exact h.off i hi hn
theorem Off.fire {n : Int} : ∀ {L L' : List Rg} (l : List Int), Off L L' n → fireO L' l = (fireO L l).filter (fun k => decide (k ≠ n))
  | _, _, [], _ => rfl
  | L, L', d :: l, h => by rw [fireO, fireO, List.filter_append, h.waits, Off.fire l (h.fire1 d)]
theorem stop_off (L : List Rg) (n : Int) : Off L (stopL L n) n := by
  unfold stopL
  split
  · rename_i hs
    unfold stopB at hs
    rw [Bool.and_eq_true] at hs
    obtain ⟨i, rfl, hi⟩ := thereR_nat hs.1
    rw [Int.toNat_natCast]
    refine ⟨List.length_set .., fun j hj hn => ?_, fun j hj hn => ?_⟩
    · refine rg_of ?_
      rw [List.getElem?_set, if_neg (by omega)]
      exact rg_at hj
    · obtain rfl : j = i := by omega
      have : rg (L.set j { rg L j with st := 3 }) j = { rg L j with st := 3 } := rg_of (by rw [List.getElem?_set, if_pos rfl, if_pos hj])
      rw [this]
      show (3 : Int) ≠ 1
      omega
  · rename_i hs
    refine ⟨rfl, fun j hj hn => rfl, fun j hj hn h1 => hs ?_⟩
    subst hn
    unfold stopB
    rw [thereR_iff.2 (by omega), h1]
    rfl

/-- Who is begun by a fire: each once, who waited; and nobody waits for these any more. -/
theorem fire_rg : ∀ (l : List Int) (L : List Rg), (∀ i : Nat, i < L.length → rg (fireL L l) i = if (i : Int) ∈ fireO L l then { rg L i with st := 2 } else rg L i) ∧ (fireO L l).Nodup ∧ ∀ k ∈ fireO L l, thereR L k = true ∧ (rg L k).st = 1
  | [], L => ⟨fun i _ => by simp [fireL, fireO], by simp [fireO], fun k hk => by simp [fireO] at hk⟩
  | d :: l, L => by
    obtain ⟨h1, h2, h3⟩ := fire_rg l (fire1 L d)
    have h4 : ∀ k ∈ fireO (fire1 L d) l, k ∉ waitsL L d := by
      intro k hk hw
      obtain ⟨ht, hs⟩ := h3 k hk
      obtain ⟨i, rfl, hi⟩ := thereR_nat ht
      rw [fire1_len] at hi
      have := (mem_waits.1 hw).2
      rw [rg_fire1 hi, if_pos (by unfold wb; simp [this])] at hs
      simp at hs
    refine ⟨fun i hi => ?_, ?_, fun k hk => ?_⟩
    · rw [fireL, fireO, h1 i (by rw [fire1_len]; exact hi), rg_fire1 hi]
      have hw : ((i : Int) ∈ waitsL L d) ↔ wb d (rg L i) = true := by
        rw [mem_waits]
        unfold wb
        constructor
        · rintro ⟨_, h⟩; simpa using h
        · intro h; exact ⟨thereR_iff.2 (by omega), by simpa using h⟩
      simp only [List.mem_append, hw]
      by_cases ha : wb d (rg L i) = true <;> by_cases hb : (i : Int) ∈ fireO (fire1 L d) l <;> simp [ha, hb]
    · rw [fireO, List.nodup_append]
      refine ⟨(waits_sorted L d).imp fun h => by omega, h2, fun a ha b hb hab => ?_⟩
      subst hab
      exact h4 a hb ha
    · rw [fireO, List.mem_append] at hk
      rcases hk with hk | hk
      · exact ⟨(mem_waits.1 hk).1, (mem_waits.1 hk).2.2⟩
      · obtain ⟨ht, hs⟩ := h3 k hk
        obtain ⟨i, rfl, hi⟩ := thereR_nat ht
        rw [fire1_len] at hi
        refine ⟨thereR_iff.2 (by omega), ?_⟩
        rw [rg_fire1 hi] at hs
        split at hs
        · simp at hs
        · exact hs
theorem fire_on (l : List Int) (L : List Rg) {i : Nat} (h : i < L.length) : (rg (fireL L l) i).on = (rg L i).on := by
  rw [(fire_rg l L).1 i h]
  split <;> rfl
theorem fire_none : ∀ (l : List Int) (L : List Rg) (i : Nat), i < L.length → ∀ d ∈ l, (rg (fireL L l) i).on = d → (rg (fireL L l) i).st ≠ 1
  | [], _, _, _, d, hd, _, _ => by cases hd
  | x :: l, L, i, hi, d, hd, ho, h1 => by
    rw [fireL] at ho h1
    have hi' : i < (fire1 L x).length := by rw [fire1_len]; exact hi
    rcases List.mem_cons.1 hd with rfl | hd
    · rw [fire_on l _ hi'] at ho
      rw [(fire_rg l _).1 i hi'] at h1
      split at h1
      · simp at h1
      · rw [rg_fire1 hi] at h1 ho
        split at h1
        · simp at h1
        · rename_i hw
          rw [if_neg hw] at ho
          exact hw (by unfold wb; simp [ho, h1])
    · exact fire_none l _ i hi' d hd ho h1
theorem rg_out {L : List Rg} {i : Nat} (h : L.length ≤ i) : rg L i = ⟨0, 0, 0⟩ := by
  unfold rg
  rw [Int.toNat_natCast, List.getD_eq_getElem?_getD, List.getElem?_eq_none h]
  rfl
/-- How often it was begun, and whether it was stopped. -/
def bgn (L : List Rg) (i : Nat) : Int := if (rg L i).st = 2 then 1 else 0
def stp (L : List Rg) (i : Nat) : Bool := decide ((rg L i).st = 3)
def ons (L : List Rg) (i : Nat) : Int := (rg L i).on
theorem bgn_fire (L : List Rg) (l : List Int) : bgn (fireL L l) = fun i : Nat => if (i : Int) ∈ fireO L l then 1 else bgn L i := by
  funext i
  unfold bgn
  rcases Nat.lt_or_ge i L.length with hi | hi
  · rw [(fire_rg l L).1 i hi]
    split
    · simp
    · rfl
  · have h1 : (i : Int) ∉ fireO L l := fun h => by
      have := thereR_iff.1 ((fire_rg l L).2.2 _ h).1
      omega
    rw [rg_out (L := fireL L l) (by rw [fireL_len]; exact hi), rg_out hi, if_neg h1]
theorem stp_fire (L : List Rg) (l : List Int) : stp (fireL L l) = stp L := by
  funext i
  unfold stp
  rcases Nat.lt_or_ge i L.length with hi | hi
  · rw [(fire_rg l L).1 i hi]
    split
    · rename_i h
      rw [((fire_rg l L).2.2 _ h).2]
      simp
    · rfl
  · rw [rg_out (L := fireL L l) (by rw [fireL_len]; exact hi), rg_out hi]
theorem ons_fire (L : List Rg) (l : List Int) : ons (fireL L l) = ons L := by
  funext i
  unfold ons
  rcases Nat.lt_or_ge i L.length with hi | hi
  · rw [fire_on l L hi]
  · rw [rg_out (L := fireL L l) (by rw [fireL_len]; exact hi), rg_out hi]
theorem rg_snoc (L : List Rg) (x : Rg) (i : Nat) : rg (L ++ [x]) i = if i = L.length then x else rg L i := by
  rcases Nat.lt_or_ge i L.length with hi | hi
  · rw [if_neg (by omega)]
    refine rg_of ?_
    rw [List.getElem?_append_left hi]
    exact rg_at hi
  · rcases Nat.eq_or_lt_of_le hi with rfl | hi'
    · rw [if_pos rfl]
      exact rg_of (by simp)
    · rw [if_neg (by omega), rg_out (by simp; omega), rg_out hi]
theorem rg_set (L : List Rg) {k : Nat} (hk : k < L.length) (x : Rg) (i : Nat) : rg (L.set k x) i = if i = k then x else rg L i := by
  rcases Nat.lt_or_ge i L.length with hi | hi
  · refine rg_of ?_
    rw [List.getElem?_set]
    by_cases h : i = k
    · subst h
      rw [if_pos rfl, if_pos hi, if_pos rfl]
    · rw [if_neg (by omega), if_neg h]
      exact rg_at hi
  · rw [rg_out (by rw [List.length_set]; exact hi), rg_out hi, if_neg (by omega)]

/-- Lists that may be. -/
structure Ok (L : List Rg) (M : Int) : Prop where
  m0 : 1 ≤ M
  m1 : M ≤ 200
  len : (L.length : Int) ≤ M
  ins : ∀ x ∈ L, In64 x.on ∧ In64 x.th
  sts : ∀ x ∈ L, x.st = 1 ∨ x.st = 2 ∨ x.st = 3
theorem Ok.new {M : Int} (h0 : 1 ≤ M) (h1 : M ≤ 200) : Ok [] M := ⟨h0, h1, by simp; omega, (fun x h => by cases h), (fun x h => by cases h)⟩
theorem Ok.add {L : List Rg} {M on th : Int} (h : Ok L M) (h1 : In64 on) (h2 : In64 th) : Ok (addL L M on th) M := by
  unfold addL
  split
  · refine ⟨h.m0, h.m1, by rw [List.length_append, List.length_singleton]; omega, fun x hx => ?_, fun x hx => ?_⟩
    · rcases List.mem_append.1 hx with hx | hx
      · exact h.ins x hx
      · rw [List.mem_singleton] at hx; subst hx; exact ⟨h1, h2⟩
    · rcases List.mem_append.1 hx with hx | hx
      · exact h.sts x hx
      · rw [List.mem_singleton] at hx; subst hx; exact .inl rfl
  · exact h
theorem Ok.set {L : List Rg} {M : Int} (h : Ok L M) {i : Nat} (hi : i < L.length) {s : Int} (hs : s = 1 ∨ s = 2 ∨ s = 3) : Ok (L.set i { rg L i with st := s }) M := by
  have hr := List.mem_of_getElem? (rg_at hi)
  refine ⟨h.m0, h.m1, by rw [List.length_set]; exact h.len, fun x hx => ?_, fun x hx => ?_⟩
  · rcases List.mem_or_eq_of_mem_set hx with hx | rfl
    · exact h.ins x hx
    · exact h.ins (rg L i) hr
  · rcases List.mem_or_eq_of_mem_set hx with hx | rfl
    · exact h.sts x hx
    · exact hs
theorem Ok.stop {L : List Rg} {M : Int} (h : Ok L M) (n : Int) : Ok (stopL L n) M := by
  unfold stopL
  split
  · rename_i hs
    unfold stopB at hs
    rw [Bool.and_eq_true] at hs
    obtain ⟨i, rfl, hi⟩ := thereR_nat hs.1
    exact h.set hi (.inr (.inr rfl))
  · exact h
theorem Ok.fire1 {L : List Rg} {M : Int} (h : Ok L M) (d : Int) : Ok (fire1 L d) M := by
  refine ⟨h.m0, h.m1, by rw [fire1_len]; exact h.len, fun x hx => ?_, fun x hx => ?_⟩
  all_goals
    obtain ⟨y, hy, rfl⟩ := List.mem_map.1 hx
    split
  · exact h.ins y hy
  · exact h.ins y hy
  · exact .inr (.inl rfl)
  · exact h.sts y hy
theorem Ok.fire {M : Int} : ∀ {L : List Rg} (l : List Int), Ok L M → Ok (fireL L l) M
  | _, [], h => h
  | _, d :: l, h => Ok.fire l (h.fire1 d)
end Go.Proofs.Ytindcpcfilfnkaa.AfterP
