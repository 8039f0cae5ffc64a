/-
  Trees as lists of nodes (layer 5): who stands below whom, what is reached, chains and paths: plain mathematics. No condition.
-/
import Derived.Test.YtidkppjhmgehoaaCells
namespace Go.Proofs.Ytidkppjhmgehoaa.TreeP
open Go.ChangeShapes Go.WideShapes Go.ChangeAt Go.RowKit Mem

/-- A node: its over, and whether it is cut. -/
structure Nd where
  over : Int
  cut : Bool
  deriving DecidableEq

def nodeE : Enc Nd := ⟨2, fun x => [.int .i64 x.over, .bool x.cut], fun _ => rfl, by intro a u hu; simp at hu; rcases hu with rfl | rfl <;> rfl, by omega⟩
theorem node_cells {w : World} {G : Nat → Prop} {A : Option Addr} {n c : Nat} {L : List Nd} (h : RdL nodeE w G (.slice A n c) L) {i : Nat} {a : Nd} (hi : L[i]? = some a) :
    ∃ b off, A = some ⟨b, off, none⟩ ∧ G b ∧ b < w.heap.size ∧ w.cell? ⟨b, off + i * 2, none⟩ = some (.int .i64 a.over) ∧ w.cell? ⟨b, off + i * 2 + 1, none⟩ = some (.bool a.cut) := by
  obtain ⟨b, off, hA, hg, hb, hc⟩ := h.at_ hi
  exact ⟨b, off, hA, hg, hb, hc 0 _ rfl, hc 1 _ rfl⟩

def there (L : List Nd) (n : Int) : Bool := decide (0 ≤ n ∧ n < L.length)
def nd (L : List Nd) (n : Int) : Nd := L.getD n.toNat ⟨-1, false⟩
def overT (L : List Nd) (n : Int) : Int := if there L n = true then (nd L n).over else -1
def cutT (L : List Nd) (n : Int) : Bool := there L n && (nd L n).cut
/-- Those of the first m nodes that stand below n. -/
def kidsTo (L : List Nd) (n : Int) (m : Nat) : List Int := ((List.range m).filter (fun i => decide ((nd L (i : Nat)).over = n))).map (fun i : Nat => (i : Int))
def kidsT (L : List Nd) (n : Int) : List Int := if there L n = true then kidsTo L n L.length else []
def reachF (L : List Nd) : Nat → Int → List Int
  | 0, _ => []
  | f + 1, n => if there L n = true then n :: (kidsT L n).flatMap (fun k => if cutT L k = true then [] else reachF L f k) else []
def reachT (L : List Nd) (n : Int) : List Int := reachF L L.length n
def chainF (L : List Nd) : Nat → Int → List Int
  | 0, _ => []
  | f + 1, n => if there L n = true then n :: (if cutT L n = true then [] else chainF L f (overT L n)) else []
def chainT (L : List Nd) (n : Int) : List Int := chainF L L.length n
def pathF (L : List Nd) : Nat → Int → List Int
  | 0, _ => []
  | f + 1, n => if there L n = true then n :: pathF L f (overT L n) else []
def pathT (L : List Nd) (n : Int) : List Int := pathF L L.length n

/-- Each stands below none, or below one that was there ahead of it. -/
def Wf (L : List Nd) : Prop := ∀ (i : Nat) (x : Nd), L[i]? = some x → -1 ≤ x.over ∧ x.over < i

theorem there_iff {L : List Nd} {n : Int} : there L n = true ↔ 0 ≤ n ∧ n < L.length := by unfold there; simp
theorem there_nat {L : List Nd} {n : Int} (h : there L n = true) : ∃ i : Nat, n = i ∧ i < L.length := by
  have := there_iff.1 h
  exact ⟨n.toNat, by omega, by omega⟩
theorem nd_at {L : List Nd} {i : Nat} (h : i < L.length) : L[i]? = some (nd L i) := by
  unfold nd
  rw [Int.toNat_natCast, List.getD_eq_getElem?_getD, List.getElem?_eq_getElem h]
  rfl
theorem Wf.nd {L : List Nd} (h : Wf L) {n : Int} (hn : there L n = true) : -1 ≤ (nd L n).over ∧ (nd L n).over < n := by
  obtain ⟨i, rfl, hi⟩ := there_nat hn
  exact h i _ (nd_at hi)
theorem Wf.over {L : List Nd} (h : Wf L) {n : Int} (hn : there L n = true) : -1 ≤ overT L n ∧ overT L n < n := by
  unfold overT
  rw [if_pos hn]
  exact h.nd hn
theorem Wf.snoc {L : List Nd} (h : Wf L) {x : Nd} (h0 : -1 ≤ x.over) (h1 : x.over < L.length) : Wf (L ++ [x]) := by
  intro i y hy
  rcases Nat.lt_or_ge i L.length with hi | hi
  · rw [List.getElem?_append_left hi] at hy
    exact h i y hy
  · have hl := (List.getElem?_eq_some_iff.1 hy).1
    rw [List.length_append, List.length_singleton] at hl
    obtain rfl : i = L.length := by omega
    simp at hy
    subst hy
    exact ⟨h0, h1⟩

theorem mem_kids {L : List Nd} {n k : Int} (h : k ∈ kidsT L n) : there L n = true ∧ there L k = true ∧ overT L k = n := by
  unfold kidsT at h
  split at h
  · rename_i hn
    unfold kidsTo at h
    obtain ⟨i, hi, rfl⟩ := List.mem_map.1 h
    obtain ⟨h1, h2⟩ := List.mem_filter.1 hi
    have hil : i < L.length := List.mem_range.1 h1
    have ht : there L (i : Int) = true := there_iff.2 (by omega)
    refine ⟨hn, ht, ?_⟩
    unfold overT
    rw [if_pos ht]
    simpa using h2
  · cases h
theorem kids_mem {L : List Nd} {n k : Int} (hn : there L n = true) (hk : there L k = true) (ho : overT L k = n) : k ∈ kidsT L n := by
  unfold kidsT
  rw [if_pos hn]
  obtain ⟨i, rfl, hi⟩ := there_nat hk
  unfold overT at ho
  rw [if_pos hk] at ho
  exact List.mem_map.2 ⟨i, List.mem_filter.2 ⟨List.mem_range.2 hi, by simpa using ho⟩, rfl⟩
theorem kidsTo_sorted (L : List Nd) (n : Int) (m : Nat) : (kidsTo L n m).Pairwise (· < ·) := by
  unfold kidsTo
  rw [List.pairwise_map]
  refine (List.Pairwise.filter _ List.pairwise_lt_range).imp fun h => by omega
theorem kids_sorted (L : List Nd) (n : Int) : (kidsT L n).Pairwise (· < ·) := by
  unfold kidsT
  split
  · exact kidsTo_sorted ..
  · exact .nil
theorem kids_len (L : List Nd) (n : Int) (m : Nat) : (kidsTo L n m).length ≤ m := by
  unfold kidsTo
  rw [List.length_map]
  exact Nat.le_trans (List.length_filter_le _ _) (by simp)
theorem kidsTo_snoc (L : List Nd) (n : Int) (m : Nat) : kidsTo L n (m + 1) = kidsTo L n m ++ if (nd L (m : Nat)).over = n then [(m : Int)] else [] := by
  unfold kidsTo
  rw [List.range_succ, List.filter_append, List.map_append]
  by_cases h : (nd L (m : Nat)).over = n
  · simp [h]
  · simp [h]

section
variable {L : List Nd} (hw : Wf L)
include hw
theorem kid_gt {n k : Int} (h : k ∈ kidsT L n) : n < k := by
  obtain ⟨_, h2, h3⟩ := mem_kids h
  have := (hw.over h2).2
  omega
theorem reachF_more : ∀ (f : Nat) (n : Int), 0 ≤ n → (L.length : Int) - n ≤ f → reachF L f n = reachF L (f + 1) n
  | 0, n, h0, h1 => by
    have : there L n = false := by rw [Bool.eq_false_iff]; intro h; have := there_iff.1 h; omega
    simp [reachF, this]
  | f + 1, n, h0, h1 => by
    rw [reachF, reachF]
    split
    · congr 1
      have hc : ∀ k ∈ kidsT L n, (if cutT L k = true then [] else reachF L f k) = (if cutT L k = true then [] else reachF L (f + 1) k) := by
        intro k hk
        have := kid_gt hw hk
        rw [reachF_more f k (by omega) (by omega)]
      generalize kidsT L n = l at hc
      induction l with
      | nil => rfl
      | cons a l ih => rw [List.flatMap_cons, List.flatMap_cons, hc a (by simp), ih fun k hk => hc k (by simp [hk])]
    · rfl
theorem reach_eq (n : Int) : reachT L n = if there L n = true then n :: (kidsT L n).flatMap (fun k => if cutT L k = true then [] else reachT L k) else [] := by
  unfold reachT
  by_cases h : there L n = true
  · have hn := there_iff.1 h
    rw [if_pos h, reachF_more hw L.length n hn.1 (by omega), reachF, if_pos h]
  · cases hl : L.length with
    | zero => simp [reachF, h]
    | succ m => rw [reachF, if_neg h, if_neg h]
theorem chainF_more : ∀ (f : Nat) (n : Int), n < f → chainF L f n = chainF L (f + 1) n
  | 0, n, h0 => by
    have : there L n = false := by rw [Bool.eq_false_iff]; intro h; have := there_iff.1 h; omega
    simp [chainF, this]
  | f + 1, n, h0 => by
    rw [chainF, chainF]
    split
    · rename_i h
      have := (hw.over h).2
      rw [chainF_more f _ (by omega)]
    · rfl
theorem chain_eq (n : Int) : chainT L n = if there L n = true then n :: (if cutT L n = true then [] else chainT L (overT L n)) else [] := by
  unfold chainT
  by_cases h : there L n = true
  · have hn := there_iff.1 h
    have := (hw.over h).2
    rw [if_pos h, chainF_more hw L.length n hn.2, chainF, if_pos h]
  · cases hl : L.length with
    | zero => simp [chainF, h]
    | succ m => rw [chainF, if_neg h, if_neg h]
theorem pathF_more : ∀ (f : Nat) (n : Int), n < f → pathF L f n = pathF L (f + 1) n
  | 0, n, h0 => by
    have : there L n = false := by rw [Bool.eq_false_iff]; intro h; have := there_iff.1 h; omega
    simp [pathF, this]
  | f + 1, n, h0 => by
    rw [pathF, pathF]
    split
    · rename_i h
      have := (hw.over h).2
      rw [pathF_more f _ (by omega)]
    · rfl
theorem path_eq (n : Int) : pathT L n = if there L n = true then n :: pathT L (overT L n) else [] := by
  unfold pathT
  by_cases h : there L n = true
  · have hn := there_iff.1 h
    rw [if_pos h, pathF_more hw L.length n hn.2, pathF, if_pos h]
  · cases hl : L.length with
    | zero => simp [pathF, h]
    | succ m => rw [pathF, if_neg h, if_neg h]

/-- What is said of all that a node reaches, node by node down. -/
theorem reach_ind {P : Int → Prop} (h : ∀ n, there L n = true → (∀ k ∈ kidsT L n, P k) → P n) : ∀ (f : Nat) (n : Int), there L n = true → (L.length : Int) - n ≤ f → P n
  | 0, n, hn, hf => by have := there_iff.1 hn; omega
  | f + 1, n, hn, hf => h n hn fun k hk => by
    have := kid_gt hw hk
    exact reach_ind h f k (mem_kids hk).2.1 (by omega)
theorem by_kids {P : Int → Prop} (h : ∀ n, there L n = true → (∀ k ∈ kidsT L n, P k) → P n) (n : Int) (hn : there L n = true) : P n := by
  have := there_iff.1 hn
  exact reach_ind hw h L.length n hn (by omega)
theorem by_over {P : Int → Prop} (h : ∀ n, there L n = true → (there L (overT L n) = true → P (overT L n)) → P n) (n : Int) (hn : there L n = true) : P n := by
  obtain ⟨i, rfl, hi⟩ := there_nat hn
  induction i using Nat.strongRecOn with
  | _ i ih =>
    refine h _ hn fun ho => ?_
    have := (hw.over hn).2
    obtain ⟨j, hj, hjl⟩ := there_nat ho
    rw [hj]
    rw [hj] at ho
    exact ih j (by omega) hjl ho

theorem mem_reach {n b : Int} : b ∈ reachT L n ↔ there L n = true ∧ (b = n ∨ ∃ k ∈ kidsT L n, cutT L k = false ∧ b ∈ reachT L k) := by
  rw [reach_eq hw]
  split
  · rename_i h
    simp only [List.mem_cons, List.mem_flatMap, h, true_and]
    constructor
    · rintro (h | ⟨k, hk, hb⟩)
      · exact .inl h
      · split at hb
        · cases hb
        · rename_i hc
          exact .inr ⟨k, hk, by simpa using hc, hb⟩
    · rintro (h | ⟨k, hk, hc, hb⟩)
      · exact .inl h
      · exact .inr ⟨k, hk, by rw [hc]; exact hb⟩
  · rename_i h
    simp [h]
theorem mem_chain {n b : Int} : b ∈ chainT L n ↔ there L n = true ∧ (b = n ∨ cutT L n = false ∧ b ∈ chainT L (overT L n)) := by
  rw [chain_eq hw]
  split
  · rename_i h
    simp only [List.mem_cons, h, true_and]
    constructor
    · rintro (h | hb)
      · exact .inl h
      · split at hb
        · cases hb
        · rename_i hc
          exact .inr ⟨by simpa using hc, hb⟩
    · rintro (h | ⟨hc, hb⟩)
      · exact .inl h
      · exact .inr (by rw [hc]; exact hb)
  · rename_i h
    simp [h]
theorem reach_self {n : Int} (h : there L n = true) : n ∈ reachT L n := (mem_reach hw).2 ⟨h, .inl rfl⟩
theorem chain_self {n : Int} (h : there L n = true) : n ∈ chainT L n := (mem_chain hw).2 ⟨h, .inl rfl⟩
theorem reach_there {n b : Int} (h : b ∈ reachT L n) : there L b = true ∧ n ≤ b := by
  have hn := ((mem_reach hw).1 h).1
  exact by_kids hw (P := fun n => ∀ b, b ∈ reachT L n → there L b = true ∧ n ≤ b) (fun n hn ih b hb => by
    rcases ((mem_reach hw).1 hb).2 with rfl | ⟨k, hk, _, hb⟩
    · exact ⟨hn, Int.le_refl _⟩
    · have h1 := ih k hk b hb
      have h2 := kid_gt hw hk
      exact ⟨h1.1, by omega⟩) n hn b h
theorem chain_there {n b : Int} (h : b ∈ chainT L n) : there L b = true ∧ b ≤ n := by
  have hn := ((mem_chain hw).1 h).1
  exact by_over hw (P := fun n => ∀ b, b ∈ chainT L n → there L b = true ∧ b ≤ n) (fun n hn ih b hb => by
    rcases ((mem_chain hw).1 hb).2 with rfl | ⟨_, hb⟩
    · exact ⟨hn, Int.le_refl _⟩
    · have h1 := ih ((mem_chain hw).1 hb).1 b hb
      have h2 := (hw.over hn).2
      exact ⟨h1.1, by omega⟩) n hn b h
/-- Who is in a chain, and isn't cut, has its over in it. -/
theorem chain_up {n k : Int} (h : k ∈ chainT L n) (hc : cutT L k = false) (ho : there L (overT L k) = true) : overT L k ∈ chainT L n := by
  have hn := ((mem_chain hw).1 h).1
  exact by_over hw (P := fun n => k ∈ chainT L n → overT L k ∈ chainT L n) (fun n hn ih hb => by
    rcases ((mem_chain hw).1 hb).2 with rfl | ⟨hcn, hb⟩
    · exact (mem_chain hw).2 ⟨hn, .inr ⟨hc, chain_self hw ho⟩⟩
    · exact (mem_chain hw).2 ⟨hn, .inr ⟨hcn, ih ((mem_chain hw).1 hb).1 hb⟩⟩) n hn h
/-- Who is below one that is reached, and isn't cut, is reached. -/
theorem reach_down {n b : Int} (hb : there L b = true) (hc : cutT L b = false) (h : overT L b ∈ reachT L n) : b ∈ reachT L n := by
  have hn := ((mem_reach hw).1 h).1
  exact by_kids hw (P := fun n => overT L b ∈ reachT L n → b ∈ reachT L n) (fun n hn ih h => by
    rcases ((mem_reach hw).1 h).2 with ho | ⟨k, hk, hck, h⟩
    · exact (mem_reach hw).2 ⟨hn, .inr ⟨b, kids_mem hn hb ho, hc, reach_self hw hb⟩⟩
    · exact (mem_reach hw).2 ⟨hn, .inr ⟨k, hk, hck, ih k hk h⟩⟩) n hn h
/-- One reaches another just if it is in the chain of that one. -/
theorem reach_iff {a b : Int} (ha : there L a = true) (hb : there L b = true) : b ∈ reachT L a ↔ a ∈ chainT L b := by
  constructor
  · intro h
    exact by_kids hw (P := fun a => b ∈ reachT L a → a ∈ chainT L b) (fun a ha ih h => by
      rcases ((mem_reach hw).1 h).2 with rfl | ⟨k, hk, hck, h⟩
      · exact chain_self hw ha
      · have h3 := (mem_kids hk).2.2
        have := chain_up hw (ih k hk h) hck (by rw [h3]; exact ha)
        rwa [h3] at this) a ha h
  · intro h
    exact by_over hw (P := fun b => a ∈ chainT L b → b ∈ reachT L a) (fun b hb ih h => by
      rcases ((mem_chain hw).1 h).2 with rfl | ⟨hcb, h⟩
      · exact reach_self hw hb
      · exact reach_down hw hb hcb (ih ((mem_chain hw).1 h).1 h)) b hb h
/-- Of one over there is one in a chain at most. -/
theorem chain_one {n a b : Int} (ha : a ∈ chainT L n) (hb : b ∈ chainT L n) (h : overT L a = overT L b) : a = b := by
  have hn := ((mem_chain hw).1 ha).1
  exact by_over hw (P := fun n => a ∈ chainT L n → b ∈ chainT L n → a = b) (fun n hn ih ha hb => by
    rcases ((mem_chain hw).1 ha).2 with rfl | ⟨hcn, ha⟩
    · rcases ((mem_chain hw).1 hb).2 with rfl | ⟨hcn, hb⟩
      · rfl
      · have h1 := (chain_there hw hb).2
        have h2 := (hw.over (chain_there hw hb).1).2
        omega
    · rcases ((mem_chain hw).1 hb).2 with rfl | ⟨_, hb⟩
      · have h1 := (chain_there hw ha).2
        have h2 := (hw.over (chain_there hw ha).1).2
        omega
      · exact ih ((mem_chain hw).1 ha).1 ha hb) n hn ha hb
theorem reach_once (n : Int) : (reachT L n).Nodup := by
  by_cases hn : there L n = true
  · refine by_kids hw (P := fun n => (reachT L n).Nodup) (fun n hn ih => ?_) n hn
    rw [reach_eq hw, if_pos hn, List.nodup_cons]
    refine ⟨fun h => ?_, ?_⟩
    · obtain ⟨k, hk, h⟩ := List.mem_flatMap.1 h
      split at h
      · cases h
      · have h1 := (reach_there hw h).2
        have h2 := kid_gt hw hk
        omega
    · have key : ∀ l : List Int, (∀ k ∈ l, k ∈ kidsT L n) → l.Pairwise (· < ·) → (l.flatMap (fun k => if cutT L k = true then [] else reachT L k)).Nodup := by
        intro l
        induction l with
        | nil => intro _ _; simp
        | cons a l ihl =>
          intro hm hp
          rw [List.pairwise_cons] at hp
          rw [List.flatMap_cons, List.nodup_append]
          refine ⟨?_, ihl (fun k hk => hm k (by simp [hk])) hp.2, fun x hx y hy => ?_⟩
          · split
            · exact .nil
            · exact ih a (hm a (by simp))
          · rintro rfl
            obtain ⟨k, hk, hy⟩ := List.mem_flatMap.1 hy
            split at hx
            · cases hx
            · split at hy
              · cases hy
              · have hxt := (reach_there hw hx).1
                have ha := mem_kids (hm a (by simp))
                have hkk := mem_kids (hm k (by simp [hk]))
                have h1 := (reach_iff hw ha.2.1 hxt).1 hx
                have h2 := (reach_iff hw hkk.2.1 hxt).1 hy
                have := chain_one hw h1 h2 (by rw [ha.2.2, hkk.2.2])
                have := hp.1 k hk
                omega
      exact key _ (fun _ h => h) (kids_sorted L n)
  · rw [reach_eq hw, if_neg hn]
    exact .nil
theorem chain_once (n : Int) : (chainT L n).Nodup := by
  by_cases hn : there L n = true
  · refine by_over hw (P := fun n => (chainT L n).Nodup) (fun n hn ih => ?_) n hn
    rw [chain_eq hw, if_pos hn, List.nodup_cons]
    split
    · simp
    · refine ⟨fun h => ?_, ?_⟩
      · have h1 := (chain_there hw h).2
        have h2 := (hw.over hn).2
        omega
      · by_cases ho : there L (overT L n) = true
        · exact ih ho
        · rw [chain_eq hw, if_neg ho]; exact .nil
  · rw [chain_eq hw, if_neg hn]
    exact .nil

omit hw in
theorem count_one : ∀ {l : List Int} {a : Int}, l.Nodup → a ∈ l → l.count a = 1
  | [], _, _, h => by cases h
  | b :: l, a, hn, h => by
    rw [List.nodup_cons] at hn
    rcases List.mem_cons.1 h with rfl | h
    · rw [List.count_cons_self, List.count_eq_zero_of_not_mem hn.1]
    · have hne : b ≠ a := fun e => hn.1 (e ▸ h)
      rw [List.count_cons_of_ne hne]
      exact count_one hn.2 h
theorem chain_trans {a b n : Int} (h1 : a ∈ chainT L b) (h2 : b ∈ chainT L n) : a ∈ chainT L n := by
  have hn := ((mem_chain hw).1 h2).1
  exact by_over hw (P := fun n => b ∈ chainT L n → a ∈ chainT L n) (fun n hn ih h2 => by
    rcases ((mem_chain hw).1 h2).2 with rfl | ⟨hcn, h2⟩
    · exact h1
    · exact (mem_chain hw).2 ⟨hn, .inr ⟨hcn, ih ((mem_chain hw).1 h2).1 h2⟩⟩) n hn h2
theorem reach_trans {a b n : Int} (h1 : b ∈ reachT L a) (h2 : n ∈ reachT L b) : n ∈ reachT L a := by
  have ha := ((mem_reach hw).1 h1).1
  have hb := ((mem_reach hw).1 h2).1
  have hn := (reach_there hw h2).1
  exact (reach_iff hw ha hn).2 (chain_trans hw ((reach_iff hw ha hb).1 h1) ((reach_iff hw hb hn).1 h2))
/-- How often one is reached, and how often the other one is in its chain. -/
theorem reach_count {a b : Int} (ha : there L a = true) (hb : there L b = true) : ∃ q : Nat, q ≤ 1 ∧ (reachT L a).count b = q ∧ (chainT L b).count a = q ∧ (q = 1 → ∀ n ∈ reachT L b, (reachT L a).count n = 1) := by
  by_cases h : b ∈ reachT L a
  · exact ⟨1, Nat.le_refl _, count_one (reach_once hw a) h, count_one (chain_once hw b) ((reach_iff hw ha hb).1 h), fun _ n hn => count_one (reach_once hw a) (reach_trans hw h hn)⟩
  · exact ⟨0, Nat.zero_le _, List.count_eq_zero_of_not_mem h, List.count_eq_zero_of_not_mem fun hc => h ((reach_iff hw ha hb).2 hc), fun h => by cases h⟩
theorem reach_head {a : Int} (ha : there L a = true) : ∃ l, reachT L a = a :: l := by
  rw [reach_eq hw, if_pos ha]
  exact ⟨_, rfl⟩

omit hw in
theorem len_of_ids : ∀ (n : Nat) (l : List Int), l.Nodup → (∀ x ∈ l, 0 ≤ x ∧ x < n) → l.length ≤ n
  | 0, l, _, h => by
    cases l with
    | nil => simp
    | cons x l => have := h x (by simp); omega
  | n + 1, l, hn, h => by
    have h1 : (l.erase (n : Int)).length ≤ n := len_of_ids n _ (hn.erase _) (fun x hx => by
      have := h x (List.mem_of_mem_erase hx)
      have hne : x ≠ (n : Int) := fun e => by subst e; exact (List.Nodup.not_mem_erase hn) hx
      omega)
    by_cases hm : (n : Int) ∈ l
    · have e1 := List.length_erase_of_mem hm
      omega
    · rw [List.erase_of_not_mem hm] at h1; omega
theorem reach_len (n : Int) : (reachT L n).length ≤ L.length :=
  len_of_ids L.length _ (reach_once hw n) fun _ hx => there_iff.1 (reach_there hw hx).1
theorem chain_len (n : Int) : (chainT L n).length ≤ L.length :=
  len_of_ids L.length _ (chain_once hw n) fun _ hx => there_iff.1 (chain_there hw hx).1
omit hw in
theorem path_len (n : Int) : (pathT L n).length ≤ L.length := by
  have : ∀ (f : Nat) (n : Int), (pathF L f n).length ≤ f := by
    intro f
    induction f with
    | zero => intro n; simp [pathF]
    | succ f ih =>
      intro n
      rw [pathF]
      split
      · rw [List.length_cons]; have := ih (overT L n); omega
      · simp
  exact this _ _
omit hw in
theorem kidsT_len (n : Int) : (kidsT L n).length ≤ L.length := by
  unfold kidsT
  split
  · exact kids_len ..
  · simp
theorem over_end {n : Int} (hn : there L n = true) (ho : there L (overT L n) = false) : overT L n = -1 := by
  have h1 := hw.over hn
  have h2 := there_iff.1 hn
  have h3 : ¬ (0 ≤ overT L n ∧ overT L n < L.length) := fun h => by rw [there_iff.2 h] at ho; cases ho
  omega
/-- A path, step by step. -/
theorem path_step (n : Int) : ∀ (i : Nat) (k : Int), (pathT L n)[i]? = some k → there L k = true ∧ overT L k = (pathT L n).getD (i + 1) (-1) := by
  intro i
  induction i generalizing n with
  | zero =>
    intro k hk
    rw [path_eq hw] at hk ⊢
    split at hk
    · rename_i hn
      rw [if_pos hn]
      simp only [List.getElem?_cons_zero, Option.some.injEq] at hk
      subst hk
      refine ⟨hn, ?_⟩
      simp only [List.getD_cons_succ]
      rw [path_eq hw]
      split
      · rfl
      · rename_i ho
        rw [over_end hw hn (by simpa using ho)]
        rfl
    · simp at hk
  | succ i ih =>
    intro k hk
    rw [path_eq hw] at hk ⊢
    split at hk
    · rename_i hn
      rw [if_pos hn]
      simp only [List.getElem?_cons_succ] at hk
      simp only [List.getD_cons_succ]
      exact ih _ k hk
    · simp at hk
/-- A chain is how a path begins. -/
theorem chain_path (n : Int) (hn : there L n = true) : ∃ r, pathT L n = chainT L n ++ r ∧ 1 ≤ (chainT L n).length ∧ (r = [] ∨ ∃ k, (chainT L n)[(chainT L n).length - 1]? = some k ∧ cutT L k = true) ∧
    ∀ (i : Nat) (k : Int), i + 1 < (chainT L n).length → (chainT L n)[i]? = some k → cutT L k = false := by
  refine by_over hw (P := fun n => ∃ r, pathT L n = chainT L n ++ r ∧ 1 ≤ (chainT L n).length ∧ (r = [] ∨ ∃ k, (chainT L n)[(chainT L n).length - 1]? = some k ∧ cutT L k = true) ∧
    ∀ (i : Nat) (k : Int), i + 1 < (chainT L n).length → (chainT L n)[i]? = some k → cutT L k = false) (fun n hn ih => ?_) n hn
  rw [path_eq hw, chain_eq hw, if_pos hn, if_pos hn]
  by_cases hc : cutT L n = true
  · rw [if_pos hc]
    exact ⟨pathT L (overT L n), rfl, by simp, .inr ⟨n, rfl, hc⟩, fun i k hi _ => by simp at hi⟩
  · rw [if_neg hc]
    by_cases ho : there L (overT L n) = true
    · obtain ⟨r, h1, h2, h3, h4⟩ := ih ho
      refine ⟨r, by rw [h1]; rfl, by simp, h3.imp id fun ⟨k, hk, hck⟩ => ⟨k, ?_, hck⟩, fun i k hi hk => ?_⟩
      · cases i with
        | zero => simp at hk; subst hk; simpa using hc
        | succ i => exact h4 i k (by simpa using hi) (by simpa using hk)
      · rw [List.length_cons, show (chainT L (overT L n)).length + 1 - 1 = ((chainT L (overT L n)).length - 1) + 1 by omega, List.getElem?_cons_succ]
        exact hk
    · have e1 : pathT L (overT L n) = [] := by rw [path_eq hw, if_neg ho]
      have e2 : chainT L (overT L n) = [] := by rw [chain_eq hw, if_neg ho]
      rw [e1, e2]
      exact ⟨[], by simp, by simp, .inl rfl, fun i k hi _ => by simp at hi⟩
end

/-- Root and Add: the number that is told, its error, and all nodes behind it. -/
def putE (L : List Nd) (M : Int) : Int := if (L.length : Int) < M then 0 else 2
def putV (L : List Nd) (M : Int) : Int := if (L.length : Int) < M then L.length else -1
def putL (L : List Nd) (M : Int) (x : Nd) : List Nd := if (L.length : Int) < M then L ++ [x] else L
def addE (L : List Nd) (M o : Int) : Int := if there L o = true then putE L M else 3
def addV (L : List Nd) (M o : Int) : Int := if there L o = true then putV L M else -1
def addL (L : List Nd) (M o : Int) (c : Bool) : List Nd := if there L o = true then putL L M ⟨o, c⟩ else L

/-- Trees that may be. -/
structure Ok (L : List Nd) (M : Int) : Prop where
  m0 : 1 ≤ M
  m1 : M ≤ 200
  len : (L.length : Int) ≤ M
  wf : Wf L
theorem Ok.new {M : Int} (h0 : 1 ≤ M) (h1 : M ≤ 200) : Ok [] M := ⟨h0, h1, by simp; omega, fun i x h => by simp at h⟩
theorem Ok.put {L : List Nd} {M : Int} (h : Ok L M) {x : Nd} (h0 : -1 ≤ x.over) (h1 : x.over < L.length) : Ok (putL L M x) M := by
  unfold putL
  split
  · exact ⟨h.m0, h.m1, by rw [List.length_append, List.length_singleton]; omega, h.wf.snoc h0 h1⟩
  · exact h
theorem Ok.root {L : List Nd} {M : Int} (h : Ok L M) : Ok (putL L M ⟨-1, false⟩) M := h.put (Int.le_refl _) (by show (-1 : Int) < _; omega)
theorem Ok.add {L : List Nd} {M : Int} (h : Ok L M) (o : Int) (c : Bool) : Ok (addL L M o c) M := by
  unfold addL
  split
  · rename_i ht
    have := there_iff.1 ht
    exact h.put (show -1 ≤ o by omega) this.2
  · exact h
theorem Rd.cells {w : World} {G : Nat → Prop} {A : Option Addr} {n c : Nat} {xs : List Int} (h : Rd w G (.slice A n c) xs) (hp : 0 < xs.length) : ∃ b off, A = some ⟨b, off, none⟩ ∧ G b ∧ b < w.heap.size ∧ ∀ j, j < xs.length → w.cell? ⟨b, off + j, none⟩ = some (.int .i64 (xs.getD j 0)) := by
  obtain ⟨A', c', e, _, hx⟩ := h
  injection e with e1
  subst e1
  exact hx hp
/-- What is reached by way of the first of those below a node. -/
def reachBy (L : List Nd) (l : List Int) : List Int := l.flatMap (fun k => if cutT L k = true then [] else reachT L k)
theorem reachBy_snoc (L : List Nd) (l : List Int) (k : Int) : reachBy L (l ++ [k]) = reachBy L l ++ (if cutT L k = true then [] else reachT L k) := by
  unfold reachBy
  rw [List.flatMap_append]
  simp
theorem reachBy_le (L : List Nd) (l : List Int) (i : Nat) : (reachBy L (l.take i)).length ≤ (reachBy L l).length := by
  have : reachBy L l = reachBy L (l.take i) ++ reachBy L (l.drop i) := by
    unfold reachBy
    rw [← List.flatMap_append, List.take_append_drop]
  rw [this, List.length_append]
  omega
theorem take_snocI (l : List Int) (i : Nat) (a : Int) (h : l[i]? = some a) : l.take (i + 1) = l.take i ++ [a] := by
  rw [List.take_add_one, h]; rfl

end Go.Proofs.Ytidkppjhmgehoaa.TreeP
