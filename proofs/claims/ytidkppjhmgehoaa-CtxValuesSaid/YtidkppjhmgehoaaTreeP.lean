/-
  The landed tree in memory (layer 5): its head, the row of its nodes, and a row of kids for each node, each in blocks of its own. Condition: none.
-/
import Derived.Test.YtidkppjhmgehoaaGrow
import Derived.Test.YtidkppjhmgehoaaInts
import Derived.Test.YtidkppjhmgehoaaNode
namespace Go.Proofs.Ytidkppjhmgehoaa.TreeC
open Go.ChangeShapes Go.WideShapes Go.ChangeAt Go.RowKit Mem TreeP Hand

/-- A node as it lies: the node, and the slice of its kids. -/
structure NdK where
  nd : Nd
  ka : Option Addr
  kn : Nat
  kc : Nat
def NdK.kv (x : NdK) : Value := .slice x.ka x.kn x.kc
def kE : Enc NdK := ⟨3, fun x => [.int .i64 x.nd.over, .bool x.nd.cut, .slice x.ka x.kn x.kc], fun _ => rfl, by intro a u hu; simp at hu; rcases hu with rfl | rfl | rfl <;> rfl, by omega⟩
theorem kElem : Elem kE Try.prog 99 104 := elem_of (z := .agg #[.int .i64 0, .bool false, .slice none 0 0]) (bytes := 40) Try.underlying99 (by kernel_rfl) rfl (by omega)

/-- The tree at hand. -/
def kidsR (X : List NdK) (K : List (List Int)) : List Res := List.zipWith (fun x l => grow intE 3 x.kv l) X K
def TR (p : Nat) (M : Int) (v : Value) (X : List NdK) (K : List (List Int)) : List Res :=
  blk p (.cells #[.int .i64 M, v] 101) :: grow kE 104 v X :: kidsR X K
def KL (L : List Nd) : List (List Int) := (List.range L.length).map fun i : Nat => kidsT L i

theorem kidsR_get {X : List NdK} {K : List (List Int)} {i : Nat} {x : NdK} {l : List Int} (hx : X[i]? = some x) (hl : K[i]? = some l) : (kidsR X K)[i]? = some (grow intE 3 x.kv l) := by
  unfold kidsR
  rw [List.getElem?_zipWith, hx, hl]
theorem kidsR_set (X : List NdK) (K : List (List Int)) (i : Nat) (x : NdK) (l : List Int) : kidsR (X.set i x) (K.set i l) = (kidsR X K).set i (grow intE 3 x.kv l) := by
  unfold kidsR
  induction X generalizing K i with
  | nil => simp
  | cons y X ih =>
    cases K with
    | nil => simp
    | cons m K =>
      cases i with
      | zero => simp
      | succ i => simp [ih]
theorem kidsR_snoc {X : List NdK} {K : List (List Int)} (h : X.length = K.length) (x : NdK) (l : List Int) : kidsR (X ++ [x]) (K ++ [l]) = kidsR X K ++ [grow intE 3 x.kv l] := by
  unfold kidsR
  rw [List.zipWith_append h]
  rfl
theorem KL_get {L : List Nd} {i : Nat} (h : i < L.length) : (KL L)[i]? = some (kidsT L i) := by
  unfold KL
  rw [List.getElem?_map, List.getElem?_range h]
  rfl
theorem KL_len (L : List Nd) : (KL L).length = L.length := by simp [KL]

theorem nd_snoc {L : List Nd} {x : Nd} {i : Nat} (h : i < L.length) : nd (L ++ [x]) i = nd L i := by
  unfold nd
  rw [Int.toNat_natCast, List.getD_eq_getElem?_getD, List.getD_eq_getElem?_getD, List.getElem?_append_left h]
theorem nd_last (L : List Nd) (x : Nd) : nd (L ++ [x]) (L.length : Nat) = x := by
  unfold nd
  rw [Int.toNat_natCast, List.getD_eq_getElem?_getD]
  simp
theorem kidsTo_more {L : List Nd} {x : Nd} (n : Int) : ∀ m : Nat, m ≤ L.length → kidsTo (L ++ [x]) n m = kidsTo L n m
  | 0, _ => rfl
  | m + 1, h => by rw [kidsTo_snoc, kidsTo_snoc, kidsTo_more n m (by omega), nd_snoc (by omega)]
theorem kids_snoc {L : List Nd} {x : Nd} {i : Nat} (h : i < L.length) : kidsT (L ++ [x]) i = kidsT L i ++ if x.over = i then [(L.length : Int)] else [] := by
  have h1 : there L (i : Int) = true := there_iff.2 (by omega)
  have h2 : there (L ++ [x]) (i : Int) = true := there_iff.2 (by simp; omega)
  unfold kidsT
  rw [if_pos h1, if_pos h2, List.length_append, List.length_singleton, kidsTo_snoc, kidsTo_more _ _ (Nat.le_refl _), nd_last]
theorem kids_none {L : List Nd} (hw : Wf L) {x : Nd} (hx : x.over < L.length) : kidsT (L ++ [x]) (L.length : Nat) = [] := by
  rw [List.eq_nil_iff_forall_not_mem]
  intro k hk
  obtain ⟨_, h2, h3⟩ := mem_kids hk
  obtain ⟨i, rfl, hi⟩ := there_nat h2
  rw [List.length_append, List.length_singleton] at hi
  unfold overT at h3
  rw [if_pos h2] at h3
  by_cases h : i < L.length
  · rw [nd_snoc h] at h3
    have := (hw i _ (nd_at h)).2
    omega
  · obtain rfl : i = L.length := by omega
    rw [nd_last] at h3
    omega
/-- The kids of all, once there is one node more. -/
theorem KL_none {L : List Nd} (hw : Wf L) {x : Nd} (h : x.over < 0) : KL (L ++ [x]) = KL L ++ [[]] := by
  refine List.ext_getElem? fun i => ?_
  rcases Nat.lt_or_ge i L.length with hi | hi
  · rw [KL_get (by simp; omega), List.getElem?_append_left (by rw [KL_len]; exact hi), KL_get hi, kids_snoc hi, if_neg (by omega), List.append_nil]
  · rcases Nat.eq_or_lt_of_le hi with rfl | hi
    · rw [KL_get (by simp), kids_none hw (by omega), List.getElem?_append_right (by rw [KL_len]; exact Nat.le_refl _), KL_len]
      simp
    · rw [List.getElem?_eq_none (by rw [KL_len]; simp; omega), List.getElem?_eq_none (by simp [KL_len]; omega)]
theorem KL_some {L : List Nd} (hw : Wf L) {o : Nat} {c : Bool} (h : o < L.length) : KL (L ++ [⟨o, c⟩]) = (KL L ++ [[]]).set o (kidsT L o ++ [(L.length : Int)]) := by
  refine List.ext_getElem? fun i => ?_
  rw [List.getElem?_set]
  rcases Nat.lt_or_ge i L.length with hi | hi
  · rw [KL_get (by simp; omega), kids_snoc hi]
    by_cases ho : o = i
    · subst ho
      have hl : o < (KL L ++ [[]]).length := by rw [List.length_append, KL_len]; omega
      rw [if_pos rfl, if_pos rfl, if_pos hl]
    · rw [if_neg ho, if_neg (by show ¬ ((o : Int) = i); omega), List.append_nil, List.getElem?_append_left (by rw [KL_len]; exact hi), KL_get hi]
  · rw [if_neg (by omega)]
    rcases Nat.eq_or_lt_of_le hi with rfl | hi
    · rw [KL_get (by simp), kids_none hw (by show (o : Int) < _; omega), List.getElem?_append_right (by rw [KL_len]; exact Nat.le_refl _), KL_len]
      simp
    · rw [List.getElem?_eq_none (by rw [KL_len]; simp; omega), List.getElem?_eq_none (by simp [KL_len]; omega)]

/-- What is read of the tree behind the pointer to block p. -/
def View (w : World) (G : Nat → Prop) (p : Nat) (L : List Nd) (M : Int) : Prop :=
  ∃ A c X, w.heap[p]? = some (.cells #[.int .i64 M, .slice A L.length c] 101 (0, 0)) ∧ G p ∧ RdL kE w G (.slice A L.length c) X ∧ X.map (·.nd) = L ∧ ∀ (i : Nat) (x : NdK), X[i]? = some x → Rd w G x.kv (kidsT L i)

section
variable {w w' : World} {G G' : Nat → Prop} {p : Nat} {L : List Nd} {M : Int}
theorem View.keep (h : View w G p L M) (hs : w.heap.size ≤ w'.heap.size) (hk : ∀ k, k < w.heap.size → G k → w'.heap[k]? = w.heap[k]?) : View w' G p L M := by
  obtain ⟨A, c, X, hp, gp, hr, hx, hks⟩ := h
  exact ⟨A, c, X, (hk p (lt_of_block hp) gp).trans hp, gp, hr.keep hs hk, hx, fun i x hi => (hks i x hi).keep hs hk⟩
theorem View.below (h : View w G p L M) (hb : Below w.heap.size w w') : View w' G p L M := h.keep hb.size fun k hk _ => hb.block k hk
theorem View.lt (h : View w G p L M) : p < w.heap.size := by obtain ⟨_, _, _, hp, _⟩ := h; exact lt_of_block hp
theorem View.head (h : View w G p L M) : ∃ A c, w.cell? ⟨p, 0, none⟩ = some (.int .i64 M) ∧ w.cell? ⟨p, 1, none⟩ = some (.slice A L.length c) ∧ L.length ≤ 1000000 := by
  obtain ⟨A, c, X, hp, gp, hr, hx, hks⟩ := h
  refine ⟨A, c, (cell_block hp 0).trans rfl, (cell_block hp 1).trans rfl, ?_⟩
  have := hr.le
  rw [← hx, List.length_map]
  exact this
theorem View.node (h : View w G p L M) {i : Nat} {a : Nd} (hi : L[i]? = some a) :
    ∃ b off c A cc, w.cell? ⟨p, 1, none⟩ = some (.slice (some ⟨b, off, none⟩) L.length c) ∧ w.cell? ⟨b, off + i * 3, none⟩ = some (.int .i64 a.over) ∧ w.cell? ⟨b, off + i * 3 + 1, none⟩ = some (.bool a.cut) ∧ w.cell? ⟨b, off + i * 3 + 2, none⟩ = some (.slice A (kidsT L i).length cc) ∧ Rd w G (.slice A (kidsT L i).length cc) (kidsT L i) := by
  obtain ⟨A, c, X, hp, gp, hr, hx, hks⟩ := h
  have hi' := hi
  rw [← hx, List.getElem?_map] at hi'
  cases hX : X[i]? with
  | none => rw [hX] at hi'; cases hi'
  | some x =>
    rw [hX] at hi'
    obtain rfl : x.nd = a := by simpa using hi'
    obtain ⟨b, off, rfl, _, _, hc⟩ := hr.at_ hX
    have hkr := hks i x hX
    obtain ⟨A', c', e, h2⟩ := hkr
    obtain ⟨nd', ka, kn, kc⟩ := x
    injection e with e1 e2 e3
    subst e1 e2 e3
    exact ⟨b, off, c, _, _, (cell_block hp 1).trans rfl, hc 0 _ rfl, hc 1 _ rfl, hc 2 _ rfl, hks i _ hX⟩
end

/-- The tree at hand is what is read of it. -/
theorem view_of {w : World} {F : Nat → Prop} {p : Nat} {M : Int} {A : Option Addr} {c : Nat} {X : List NdK} {L : List Nd} (h : All w F (TR p M (.slice A L.length c) X (KL L))) (hx : X.map (·.nd) = L) (hl : L.length ≤ 100000) : View w F p L M := by
  have hlen : X.length = L.length := by rw [← hx, List.length_map]
  obtain ⟨F0, ⟨h0, rfl⟩, s0, _⟩ := h.at_ (i := 0) rfl
  obtain ⟨F1, ⟨h1, rfl⟩, s1, _⟩ := h.at_ (i := 1) rfl
  refine ⟨A, c, X, h0, s0 p rfl, h1.rd (by omega) s1, hx, fun i x hi => ?_⟩
  have hil : i < L.length := by rw [← hlen]; exact (List.getElem?_eq_some_iff.1 hi).1
  obtain ⟨F2, ⟨h2, rfl⟩, s2, _⟩ := h.at_ (i := 2 + i) (R := grow intE 3 x.kv (kidsT L i)) (by
    unfold TR
    rw [show 2 + i = (i + 1) + 1 from by omega, List.getElem?_cons_succ, List.getElem?_cons_succ]
    exact kidsR_get hi (KL_get hil))
  have := kidsT_len (L := L) i
  exact rd_of (h2.rd (by omega) s2)

/-- A tree behind a pointer, in blocks of F. -/
def TA (w : World) (v : Value) (F : Nat → Prop) (L : List Nd) (M : Int) : Prop :=
  ∃ p A c X, v = .pointer (some ⟨p, 0, none⟩) ∧ Ok L M ∧ X.map (·.nd) = L ∧ All w F (TR p M (.slice A L.length c) X (KL L)) ∧ ∀ k, F k → k < w.heap.size
section
variable {w w' : World} {v : Value} {F : Nat → Prop} {L : List Nd} {M : Int}
theorem TA.ptr (h : TA w v F L M) : ∃ a, v = .pointer (some a) := by obtain ⟨p, _, _, _, rfl, _⟩ := h; exact ⟨_, rfl⟩
theorem TA.keep (h : TA w v F L M) (hs : w.heap.size ≤ w'.heap.size) (hk : ∀ k, k < w.heap.size → F k → w'.heap[k]? = w.heap[k]?) : TA w' v F L M := by
  obtain ⟨p, A, c, X, e, hok, hx, ha, hl⟩ := h
  exact ⟨p, A, c, X, e, hok, hx, ha.keep hs hk, fun k hF => Nat.lt_of_lt_of_le (hl k hF) hs⟩
theorem TA.lt (h : TA w v F L M) : ∀ k, F k → k < w.heap.size := by obtain ⟨_, _, _, _, _, _, _, _, hl⟩ := h; exact hl
theorem TA.ok (h : TA w v F L M) : Ok L M := by obtain ⟨_, _, _, _, _, hok, _⟩ := h; exact hok
theorem TA.view (h : TA w v F L M) : ∃ p, v = .pointer (some ⟨p, 0, none⟩) ∧ View w F p L M := by
  obtain ⟨p, A, c, X, e, hok, hx, ha, hl⟩ := h
  exact ⟨p, e, view_of ha hx (by have := hok.len; have := hok.m1; omega)⟩
end
end Go.Proofs.Ytidkppjhmgehoaa.TreeC
