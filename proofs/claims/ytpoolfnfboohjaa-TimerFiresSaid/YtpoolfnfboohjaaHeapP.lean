/-
  A heap held as rows of four, with the place of each thing: plain mathematics: what going up, going down and standing make of it. No condition.
-/
import Derived.Test.YtpoolfnfboohjaaEnt
namespace Go.Proofs.Ytpoolfnfboohjaa.HeapP
open Mem RefHeap HeapI

theorem ahead_iff (a b : Ent) : RefHeap.ahead a b = true ↔ (a.at_ < b.at_ ∨ (a.at_ = b.at_ ∧ (a.seq < b.seq ∨ (a.seq = b.seq ∧ a.id < b.id)))) := by
  unfold RefHeap.ahead
  split
  · simp; omega
  · split
    · simp; omega
    · simp; omega
theorem ahead_no (a b : Ent) : RefHeap.ahead a b = false ↔ ¬ (a.at_ < b.at_ ∨ (a.at_ = b.at_ ∧ (a.seq < b.seq ∨ (a.seq = b.seq ∧ a.id < b.id)))) := by
  rw [← ahead_iff]; simp
theorem no_trans {a b c : Ent} (h1 : RefHeap.ahead a b = false) (h2 : RefHeap.ahead b c = false) : RefHeap.ahead a c = false := by
  rw [ahead_no] at *; omega
theorem no_of {a b : Ent} (h1 : RefHeap.ahead a b = true) : RefHeap.ahead b a = false := by
  rw [ahead_no]; rw [ahead_iff] at h1; omega
theorem of_no {a b : Ent} (h1 : RefHeap.ahead a b = false) (h : a.id ≠ b.id) : RefHeap.ahead b a = true := by
  rw [ahead_no] at h1; rw [ahead_iff]; omega
theorem no_self (a : Ent) : RefHeap.ahead a a = false := by rw [ahead_no]; omega

/-- Things that may be, in any order. -/
structure Good (M : List Ent) (N : Int) : Prop where
  n0 : 1 ≤ N
  n1 : N ≤ 1000
  ids : ∀ x ∈ M, 0 ≤ x.id ∧ x.id < N
  ins : ∀ x ∈ M, EntIn x
  once : (M.map (·.id)).Nodup

theorem len_of_ids : ∀ (n : Nat) (l : List Int), l.Nodup → (∀ x ∈ l, 0 ≤ x ∧ x < n) → l.length ≤ n
  | 0, l, _, h => by
    cases l with
    | nil => simp
    | cons x l => have := h x (by simp); omega
  | n + 1, l, hn, h => by
    have h1 : (l.erase (n : Int)).length ≤ n := len_of_ids n _ (hn.erase _) (fun x hx => by
      have := h x (List.mem_of_mem_erase hx)
      have hne : x ≠ (n : Int) := fun e => by subst e; exact (List.Nodup.not_mem_erase hn) hx
      omega)
    by_cases hm : (n : Int) ∈ l
    · have e1 := List.length_erase_of_mem hm
      omega
    · rw [List.erase_of_not_mem hm] at h1; omega
theorem Good.len {M : List Ent} {N : Int} (h : Good M N) : M.length ≤ 1000 := by
  have := len_of_ids N.toNat (M.map (·.id)) h.once (fun x hx => by
    obtain ⟨e, he, rfl⟩ := List.mem_map.1 hx
    have := h.ids e he
    have := h.n0
    constructor <;> omega)
  rw [List.length_map] at this
  have := h.n0
  have := h.n1
  omega
theorem Good.perm {M M' : List Ent} {N : Int} (h : Good M N) (hp : M'.Perm M) : Good M' N :=
  ⟨h.n0, h.n1, fun x hx => h.ids x (hp.mem_iff.1 hx), fun x hx => h.ins x (hp.mem_iff.1 hx), (hp.map _).nodup_iff.2 h.once⟩

theorem same_place {Q : List Ent} (h : (Q.map (·.id)).Nodup) {i j : Nat} {a b : Ent} (hi : Q[i]? = some a) (hj : Q[j]? = some b) (he : a.id = b.id) : i = j := by
  have hi' : (Q.map (·.id))[i]? = some a.id := by rw [List.getElem?_map, hi]; rfl
  have hj' : (Q.map (·.id))[j]? = some b.id := by rw [List.getElem?_map, hj]; rfl
  exact (List.getElem?_inj (List.getElem?_eq_some_iff.1 hi').1 h).1 (by rw [hi', hj', he])

theorem mem_get {Q : List Ent} {i : Nat} {a : Ent} (h : Q[i]? = some a) : a ∈ Q := List.mem_of_getElem? h

/-- All things stand, but for x, whose place k is free. -/
structure Hole (R : List Ent) (p : List Int) (x : Ent) (k : Nat) (M : List Ent) (N : Int) : Prop where
  kn : k < R.length
  good : Good M N
  perm : (R.set k x).Perm M
  pn : (p.length : Int) = N
  at_ : ∀ j e, j ≠ k → R[j]? = some e → p[e.id.toNat]? = some (j : Int)
  no : ∀ i : Nat, i < p.length → (∀ e ∈ M, e.id ≠ i) → p[i]? = some (-1)
  ord : ∀ i a b, 1 ≤ i → i ≠ k → (i - 1) / 4 ≠ k → R[i]? = some a → R[(i - 1) / 4]? = some b → RefHeap.ahead a b = false
  grand : 1 ≤ k → ∀ c a b, 1 ≤ c → (c - 1) / 4 = k → R[c]? = some a → R[(k - 1) / 4]? = some b → RefHeap.ahead a b = false

/-- All things stand. -/
structure Full (R : List Ent) (p : List Int) (M : List Ent) (N : Int) : Prop where
  good : Good M N
  perm : R.Perm M
  pn : (p.length : Int) = N
  at_ : ∀ (j : Nat) (e : Ent), R[j]? = some e → p[e.id.toNat]? = some (j : Int)
  no : ∀ i : Nat, i < p.length → (∀ e ∈ M, e.id ≠ i) → p[i]? = some (-1)
  held : Held4 R

section
variable {R : List Ent} {p : List Int} {x y : Ent} {k j : Nat} {M : List Ent} {N : Int}

theorem Hole.q (h : Hole R p x k M N) : (R.set k x)[k]? = some x := by simp [h.kn]
theorem Hole.q' (_ : Hole R p x k M N) (hj : R[j]? = some y) (hn : j ≠ k) : (R.set k x)[j]? = some y := by rw [List.getElem?_set_ne (by omega)]; exact hj
theorem Hole.once (h : Hole R p x k M N) : ((R.set k x).map (·.id)).Nodup := (h.perm.map _).nodup_iff.2 h.good.once
theorem Hole.len (h : Hole R p x k M N) : R.length ≤ 1000 := by
  have := h.perm.length_eq
  have := h.good.len
  rw [List.length_set] at *
  omega
theorem Hole.mx (h : Hole R p x k M N) : x ∈ M := h.perm.mem_iff.1 (mem_get h.q)
theorem Hole.my (h : Hole R p x k M N) (hj : R[j]? = some y) (hn : j ≠ k) : y ∈ M := h.perm.mem_iff.1 (mem_get (h.q' hj hn))
theorem Hole.ne (h : Hole R p x k M N) (hj : R[j]? = some y) (hn : j ≠ k) : x.id ≠ y.id := fun e => hn (same_place h.once (h.q' hj hn) h.q e.symm)
theorem Hole.idx (h : Hole R p x k M N) (hm : y ∈ M) : 0 ≤ y.id ∧ y.id < p.length ∧ y.id.toNat < p.length := by
  have := h.good.ids y hm
  have := h.pn
  omega

/-- The thing of another place comes to the free one, and leaves its own. -/
theorem Hole.swap (h : Hole R p x k M N) (hj : R[j]? = some y) (hn : j ≠ k) : ((R.set k y).set j x).Perm M := by
  have hjl : j < R.length := (List.getElem?_eq_some_iff.1 hj).1
  have hk := h.kn
  have := List.set_set_perm (as := R.set k x) (i := k) (j := j) (by simpa using h.kn) (by simpa using hjl)
  have e1 : (R.set k x)[j]'(by simpa using hjl) = y := by
    have := h.q' hj hn
    rw [List.getElem?_eq_getElem (by simpa using hjl)] at this
    injection this
  have e2 : (R.set k x)[k]'(by simpa using h.kn) = x := by simp
  rw [e1, e2, List.set_set] at this
  exact this.trans h.perm
theorem Hole.swap_at (h : Hole R p x k M N) (hj : R[j]? = some y) (hn : j ≠ k) : ∀ (i : Nat) (e : Ent), i ≠ j → (R.set k y)[i]? = some e → (p.set y.id.toNat k)[e.id.toNat]? = some (i : Int) := by
  intro i e hi he
  have hy := h.idx (h.my hj hn)
  by_cases hk : i = k
  · subst hk
    rw [List.getElem?_set_self h.kn] at he
    injection he with he
    subst he
    rw [List.getElem?_set_self hy.2.2]
  · rw [List.getElem?_set_ne (by omega)] at he
    have hne : y.id ≠ e.id := fun e' => hi (same_place h.once (h.q' hj hn) (h.q' he hk) e').symm
    have he' := h.idx (h.my he hk)
    rw [List.getElem?_set_ne (by omega)]
    exact h.at_ i e hk he
theorem Hole.swap_no (h : Hole R p x k M N) (hy : y ∈ M) : ∀ i : Nat, i < (p.set y.id.toNat k).length → (∀ e ∈ M, e.id ≠ i) → (p.set y.id.toNat k)[i]? = some (-1) := by
  intro i hi hno
  rw [List.length_set] at hi
  have := h.idx hy
  have := hno y hy
  rw [List.getElem?_set_ne (by omega)]
  exact h.no i hi hno

theorem Hole.up (h : Hole R p x k M N) (hk : 1 ≤ k) (hy : R[(k - 1) / 4]? = some y) : Hole (R.set k y) (p.set y.id.toNat k) x ((k - 1) / 4) M N := by
  have hn : (k - 1) / 4 ≠ k := by omega
  have hkn := h.kn
  refine ⟨by rw [List.length_set]; omega, h.good, h.swap hy hn, by rw [List.length_set]; exact h.pn, h.swap_at hy hn, h.swap_no (h.my hy hn), ?_, ?_⟩
  · intro i a b h1 h2 h3 ha hb
    by_cases hik : i = k
    · subst hik; exact absurd rfl h3
    · rw [List.getElem?_set_ne (by omega)] at ha
      by_cases hpk : (i - 1) / 4 = k
      · rw [hpk, List.getElem?_set_self h.kn] at hb
        injection hb with hb
        subst hb
        exact h.grand hk i a y h1 hpk ha hy
      · rw [List.getElem?_set_ne (by omega)] at hb
        exact h.ord i a b h1 hik hpk ha hb
  · intro ho c a b h1 h2 ha hb
    have hne2 : ((k - 1) / 4 - 1) / 4 ≠ k := by omega
    rw [List.getElem?_set_ne (by omega)] at hb
    have hyb : RefHeap.ahead y b = false := h.ord ((k - 1) / 4) y b ho hn hne2 hy hb
    by_cases hck : c = k
    · subst hck
      rw [List.getElem?_set_self h.kn] at ha
      injection ha with ha
      subst ha
      exact hyb
    · rw [List.getElem?_set_ne (by omega)] at ha
      have hay : RefHeap.ahead a y = false := h.ord c a y h1 hck (by omega) ha (by rw [h2]; exact hy)
      exact no_trans hay hyb

theorem Hole.down (h : Hole R p x k M N) (hj1 : 1 ≤ j) (hjk : (j - 1) / 4 = k) (hy : R[j]? = some y) (hmin : ∀ c a, 1 ≤ c → (c - 1) / 4 = k → R[c]? = some a → RefHeap.ahead a y = false) : Hole (R.set k y) (p.set y.id.toNat k) x j M N := by
  have hn : j ≠ k := by omega
  have hjl : j < R.length := (List.getElem?_eq_some_iff.1 hy).1
  refine ⟨by rw [List.length_set]; omega, h.good, h.swap hy hn, by rw [List.length_set]; exact h.pn, h.swap_at hy hn, h.swap_no (h.my hy hn), ?_, ?_⟩
  · intro i a b h1 h2 h3 ha hb
    by_cases hik : i = k
    · subst hik
      rw [List.getElem?_set_self h.kn] at ha
      injection ha with ha
      subst ha
      rw [List.getElem?_set_ne (by omega)] at hb
      exact h.grand h1 j y b hj1 hjk hy hb
    · rw [List.getElem?_set_ne (by omega)] at ha
      by_cases hpk : (i - 1) / 4 = k
      · rw [hpk, List.getElem?_set_self h.kn] at hb
        injection hb with hb
        subst hb
        exact hmin i a h1 hpk ha
      · rw [List.getElem?_set_ne (by omega)] at hb
        exact h.ord i a b h1 hik hpk ha hb
  · intro _ c a b h1 h2 ha hb
    rw [hjk, List.getElem?_set_self h.kn] at hb
    injection hb with hb
    subst hb
    rw [List.getElem?_set_ne (by omega)] at ha
    exact h.ord c a y h1 (by omega) (by omega) ha (by rw [h2]; exact hy)

theorem Hole.fill (h : Hole R p x k M N) (hup : 1 ≤ k → ∀ b, R[(k - 1) / 4]? = some b → RefHeap.ahead x b = false) (hdn : ∀ c a, 1 ≤ c → (c - 1) / 4 = k → R[c]? = some a → RefHeap.ahead a x = false) :
    Full (R.set k x) (p.set x.id.toNat k) M N := by
  have hx := h.idx h.mx
  refine ⟨h.good, h.perm, by rw [List.length_set]; exact h.pn, ?_, h.swap_no h.mx, ?_⟩
  · intro j e he
    by_cases hk : j = k
    · subst hk
      rw [List.getElem?_set_self h.kn] at he
      injection he with he
      subst he
      rw [List.getElem?_set_self hx.2.2]
    · rw [List.getElem?_set_ne (by omega)] at he
      have := h.ne he hk
      have := h.idx (h.my he hk)
      rw [List.getElem?_set_ne (by omega)]
      exact h.at_ j e hk he
  · intro i a b h1 ha hb
    by_cases hik : i = k
    · subst hik
      rw [List.getElem?_set_self h.kn] at ha
      injection ha with ha
      subst ha
      rw [List.getElem?_set_ne (by omega)] at hb
      exact hup h1 b hb
    · rw [List.getElem?_set_ne (by omega)] at ha
      by_cases hpk : (i - 1) / 4 = k
      · rw [hpk, List.getElem?_set_self h.kn] at hb
        injection hb with hb
        subst hb
        exact hdn i a h1 hpk ha
      · rw [List.getElem?_set_ne (by omega)] at hb
        exact h.ord i a b h1 hik hpk ha hb

theorem Full.once (h : Full R p M N) : (R.map (·.id)).Nodup := (h.perm.map _).nodup_iff.2 h.good.once
theorem Full.len (h : Full R p M N) : R.length ≤ 1000 := by
  have := h.perm.length_eq
  have := h.good.len
  omega
theorem Full.idx (h : Full R p M N) (hm : y ∈ M) : 0 ≤ y.id ∧ y.id < p.length ∧ y.id.toNat < p.length := by
  have := h.good.ids y hm
  have := h.pn
  omega
theorem Full.new (N : Int) (h1 : 1 ≤ N) (h2 : N ≤ 1000) : Full [] (List.replicate N.toNat (-1)) [] N := by
  refine ⟨⟨h1, h2, by simp, by simp, by simp⟩, .nil, by simp; omega, by simp, fun i hi _ => ?_, fun i a b _ ha => by simp at ha⟩
  simp at hi
  simp [hi]

/-- One more thing, at the end. -/
theorem Full.put (h : Full R p M N) (h0 : 0 ≤ x.id) (h1 : x.id < N) (hi : EntIn x) (hx : ∀ e ∈ M, e.id ≠ x.id) {M' : List Ent} (hM : M'.Perm (x :: M)) : Hole (R ++ [x]) p x R.length M' N := by
  have hl := h.len
  refine ⟨by simp, ⟨h.good.n0, h.good.n1, ?_, ?_, ?_⟩, ?_, h.pn, ?_, ?_, ?_, ?_⟩
  · intro y hy
    rcases List.mem_cons.1 (hM.mem_iff.1 hy) with rfl | hy
    · exact ⟨h0, h1⟩
    · exact h.good.ids y hy
  · intro y hy
    rcases List.mem_cons.1 (hM.mem_iff.1 hy) with rfl | hy
    · exact hi
    · exact h.good.ins y hy
  · refine (hM.map _).nodup_iff.2 ?_
    rw [List.map_cons, List.nodup_cons]
    refine ⟨fun hm => ?_, h.good.once⟩
    obtain ⟨e, he, he'⟩ := List.mem_map.1 hm
    exact hx e he he'
  · have e : (R ++ [x]).set R.length x = R ++ [x] := by simp
    rw [e]
    exact (List.perm_append_singleton x R).trans ((h.perm.cons x).trans hM.symm)
  · intro j e hj he
    have : j < (R ++ [x]).length := (List.getElem?_eq_some_iff.1 he).1
    rw [List.length_append, List.length_singleton] at this
    rw [List.getElem?_append_left (by omega)] at he
    exact h.at_ j e he
  · intro i hi' hno
    exact h.no i hi' (fun e he => hno e (hM.mem_iff.2 (by simp [he])))
  · intro i a b h1 h2 h3 ha hb
    have : i < (R ++ [x]).length := (List.getElem?_eq_some_iff.1 ha).1
    rw [List.length_append, List.length_singleton] at this
    rw [List.getElem?_append_left (by omega)] at ha hb
    exact h.held i a b h1 ha hb
  · intro hk c a b h1 h2 ha
    have : c < (R ++ [x]).length := (List.getElem?_eq_some_iff.1 ha).1
    rw [List.length_append, List.length_singleton] at this
    omega

theorem split_last {l : Ent} (hl : R[R.length - 1]? = some l) : R = R.take (R.length - 1) ++ [l] := by
  have hlt : R.length - 1 < R.length := (List.getElem?_eq_some_iff.1 hl).1
  have h1 : R.length - 1 + 1 = R.length := by omega
  have := take_snocE R (R.length - 1) l hl
  rw [h1, List.take_length] at this
  exact this

/-- A thing goes, and the last one is to come to its place. -/
theorem Full.drop (h : Full R p M N) {l : Ent} (hy : R[k]? = some y) (hl : R[R.length - 1]? = some l) (hk : k < R.length - 1) {M' : List Ent} (hM : (y :: M').Perm M) :
    Hole (R.take (R.length - 1)) (p.set y.id.toNat (-1)) l k M' N := by
  have hlt : R.length - 1 < R.length := (List.getElem?_eq_some_iff.1 hl).1
  have hget : ∀ i, i < R.length - 1 → (R.take (R.length - 1))[i]? = R[i]? := fun i hi => List.getElem?_take_of_lt hi
  have hlen : (R.take (R.length - 1)).length = R.length - 1 := by rw [List.length_take]; omega
  have hsp := split_last hl
  have hym : y ∈ M := h.perm.mem_iff.1 (mem_get hy)
  have hyx := h.idx hym
  have hgood : Good (y :: M') N := h.good.perm hM
  have hpm : ((R.take (R.length - 1)).set k l).Perm M' := by
    have h1 := List.set_set_perm (as := R) (i := k) (j := R.length - 1) (by omega) hlt
    have e1 : R[R.length - 1]'hlt = l := by rw [List.getElem?_eq_getElem hlt] at hl; injection hl
    have e2 : R[k]'(by omega) = y := by rw [List.getElem?_eq_getElem (by omega)] at hy; injection hy
    rw [e1, e2] at h1
    have e3 : (R.set k l).set (R.length - 1) y = (R.take (R.length - 1)).set k l ++ [y] := by
      conv => lhs; rw [hsp]
      rw [List.set_append_left _ _ (by rw [hlen]; exact hk), List.set_append_right _ _ (by rw [List.length_set, hlen]; simp [hlen])]
      simp [hlen]
    rw [e3] at h1
    have h2 : (y :: (R.take (R.length - 1)).set k l).Perm (y :: M') := (List.perm_append_singleton y _).symm.trans (h1.trans (h.perm.trans hM.symm))
    exact h2.cons_inv
  refine ⟨by rw [hlen]; exact hk, ⟨h.good.n0, h.good.n1, fun x hx => hgood.ids x (by simp [hx]), fun x hx => hgood.ins x (by simp [hx]), (List.nodup_cons.1 (by have := hgood.once; rwa [List.map_cons] at this)).2⟩, hpm, by rw [List.length_set]; exact h.pn, ?_, ?_, ?_, ?_⟩
  · intro j e hj he
    have hjl : j < R.length - 1 := by have := (List.getElem?_eq_some_iff.1 he).1; omega
    rw [hget j hjl] at he
    have hne : y.id ≠ e.id := fun e' => hj (same_place h.once hy he e').symm
    have := h.idx (h.perm.mem_iff.1 (mem_get he))
    rw [List.getElem?_set_ne (by omega)]
    exact h.at_ j e he
  · intro i hi hno
    rw [List.length_set] at hi
    by_cases hiy : y.id.toNat = i
    · rw [hiy, List.getElem?_set_self hi]
    · rw [List.getElem?_set_ne hiy]
      refine h.no i hi (fun e he => ?_)
      rcases List.mem_cons.1 (hM.mem_iff.2 he) with rfl | he
      · omega
      · exact hno e he
  · intro i a b h1 h2 h3 ha hb
    have hil : i < R.length - 1 := by have := (List.getElem?_eq_some_iff.1 ha).1; omega
    rw [hget i hil] at ha
    rw [hget _ (by omega)] at hb
    exact h.held i a b h1 ha hb
  · intro hk1 c a b h1 h2 ha hb
    have hcl : c < R.length - 1 := by have := (List.getElem?_eq_some_iff.1 ha).1; omega
    rw [hget c hcl] at ha
    rw [hget _ (by omega)] at hb
    exact no_trans (h.held c a y h1 ha (by rw [h2]; exact hy)) (h.held k y b hk1 hy hb)

/-- The last thing goes. -/
theorem Full.drop_last (h : Full R p M N) (hy : R[R.length - 1]? = some y) {M' : List Ent} (hM : (y :: M').Perm M) : Full (R.take (R.length - 1)) (p.set y.id.toNat (-1)) M' N := by
  have hlt : R.length - 1 < R.length := (List.getElem?_eq_some_iff.1 hy).1
  have hget : ∀ i, i < R.length - 1 → (R.take (R.length - 1))[i]? = R[i]? := fun i hi => List.getElem?_take_of_lt hi
  have hlen : (R.take (R.length - 1)).length = R.length - 1 := by rw [List.length_take]; omega
  have hsp := split_last hy
  have hyx := h.idx (h.perm.mem_iff.1 (mem_get hy))
  have hgood : Good (y :: M') N := h.good.perm hM
  have hpm : (R.take (R.length - 1)).Perm M' := by
    have h1 : (R.take (R.length - 1) ++ [y]).Perm M := by rw [← hsp]; exact h.perm
    have h2 : (y :: R.take (R.length - 1)).Perm (y :: M') := (List.perm_append_singleton y _).symm.trans (h1.trans hM.symm)
    exact h2.cons_inv
  refine ⟨⟨h.good.n0, h.good.n1, fun x hx => hgood.ids x (by simp [hx]), fun x hx => hgood.ins x (by simp [hx]), (List.nodup_cons.1 (by have := hgood.once; rwa [List.map_cons] at this)).2⟩, hpm, by rw [List.length_set]; exact h.pn, ?_, ?_, ?_⟩
  · intro j e he
    have hjl : j < R.length - 1 := by have := (List.getElem?_eq_some_iff.1 he).1; omega
    rw [hget j hjl] at he
    have hne : y.id ≠ e.id := fun e' => by have := same_place h.once hy he e'; omega
    have := h.idx (h.perm.mem_iff.1 (mem_get he))
    rw [List.getElem?_set_ne (by omega)]
    exact h.at_ j e he
  · intro i hi hno
    rw [List.length_set] at hi
    by_cases hiy : y.id.toNat = i
    · rw [hiy, List.getElem?_set_self hi]
    · rw [List.getElem?_set_ne hiy]
      refine h.no i hi (fun e he => ?_)
      rcases List.mem_cons.1 (hM.mem_iff.2 he) with rfl | he
      · omega
      · exact hno e he
  · intro i a b h1 ha hb
    have hil : i < R.length - 1 := by have := (List.getElem?_eq_some_iff.1 ha).1; omega
    rw [hget i hil] at ha
    rw [hget _ (by omega)] at hb
    exact h.held i a b h1 ha hb
end
end Go.Proofs.Ytpoolfnfboohjaa.HeapP
