/-
  A team, as plain mathematics (layer 14): its limit, how many are at work, its first error, who waits to begin, who waits till nobody is at work, how many tasks there are. No condition.
-/
import Derived.Test.YtkgmcifianhogaaMutP
namespace Go.Proofs.Ytkgmcifianhogaa.TeamP
open Go.ChangeShapes Go.WideShapes Go.ChangeAt Go.RowKit Mem MutP

structure St where
  L : Int
  A : Int
  E : Int
  C : List Int
  W : List Int
  N : Int
/-- What comes of an end. -/
structure En where
  c : Int
  l : List Int
  f : Bool
def noEn : En := ⟨0, [], false⟩
def newS (n : Int) : St := ⟨-1, 0, 0, [], [], n⟩
def limE (s : St) : Int := if s.A = 0 ∧ s.C = [] then 0 else 5
def limS (s : St) (n : Int) : St := if s.A = 0 ∧ s.C = [] then { s with L := if n < 0 then -1 else n } else s
def tryB (s : St) : Bool := decide (s.L < 0 ∨ s.A < s.L)
def tryS (s : St) : St := if s.L < 0 ∨ s.A < s.L then { s with A := s.A + 1 } else s
def waitsB (s : St) (t : Int) : Bool := inL s.C t || inL s.W t
def askE (s : St) (t : Int) : Int := if nameM s.N t = false then 3 else if waitsB s t = true then 6 else 0
def goB (s : St) (t : Int) : Bool := decide (askE s t = 0 ∧ (s.L < 0 ∨ s.A < s.L))
def goS (s : St) (t : Int) : St := if askE s t = 0 then (if s.L < 0 ∨ s.A < s.L then { s with A := s.A + 1 } else { s with C := s.C ++ [t] }) else s
def wtB (s : St) (t : Int) : Bool := decide (askE s t = 0 ∧ s.A = 0)
def wtS (s : St) (t : Int) : St := if askE s t = 0 ∧ s.A ≠ 0 then { s with W := s.W ++ [t] } else s
def endE (s : St) : Int := if s.A = 0 then 4 else 0
def errOf (s : St) (k : Int) : Int := if k ≠ 0 ∧ s.E = 0 then k else s.E
def endR (s : St) (k : Int) : En := if s.A = 0 then noEn else match s.C with
  | [] => ⟨-1, if s.A = 1 then s.W else [], decide (k ≠ 0 ∧ s.E = 0)⟩
  | x :: _ => ⟨x, [], decide (k ≠ 0 ∧ s.E = 0)⟩
def endS (s : St) (k : Int) : St := if s.A = 0 then s else match s.C with
  | [] => { s with A := s.A - 1, E := errOf s k, W := if s.A = 1 then [] else s.W }
  | _ :: l => { s with E := errOf s k, C := l }
def lvS (s : St) (t : Int) : St := { s with C := withoutL s.C t, W := withoutL s.W t }

/-- What may be. -/
structure Ok (s : St) : Prop where
  n0 : 1 ≤ s.N
  n1 : s.N ≤ 1000
  l0 : -1 ≤ s.L
  l1 : s.L ≤ 9223372036854775807
  a0 : 0 ≤ s.A
  la : 0 ≤ s.L → s.A ≤ s.L
  e0 : -9223372036854775808 ≤ s.E
  e1 : s.E ≤ 9223372036854775807
  cs : ∀ x ∈ s.C, 0 ≤ x ∧ x < s.N
  ws : ∀ x ∈ s.W, 0 ≤ x ∧ x < s.N
  once : (s.C ++ s.W).Nodup
  full : s.C ≠ [] → 0 ≤ s.L ∧ s.A = s.L
  idle : s.A = 0 → s.W = []
theorem Ok.len {s : St} (h : Ok s) : s.C.length + s.W.length ≤ 1000 := by
  have h0 := h.n0
  have h1 := h.n1
  have := len_of_ids s.N.toNat (s.C ++ s.W) h.once fun x hx => by
    rcases List.mem_append.1 hx with hx | hx
    · have := h.cs x hx; omega
    · have := h.ws x hx; omega
  rw [List.length_append] at this
  omega
theorem Ok.new {n : Int} (h0 : 1 ≤ n) (h1 : n ≤ 1000) : Ok (newS n) :=
  ⟨h0, h1, by show (-1 : Int) ≤ -1; omega, by show (-1 : Int) ≤ _; omega, by show (0 : Int) ≤ 0; omega, fun h => by have h : (0 : Int) ≤ -1 := h; omega, by show _ ≤ (0 : Int); omega, by show (0 : Int) ≤ _; omega, (fun x h => by cases h), (fun x h => by cases h), .nil, fun h => absurd rfl h, fun _ => rfl⟩
theorem waits_iff {s : St} {t : Int} : waitsB s t = true ↔ t ∈ s.C ∨ t ∈ s.W := by unfold waitsB inL; simp
theorem without_id {W : List Int} {t : Int} (h : t ∉ W) : withoutL W t = W := by
  unfold withoutL
  refine List.filter_eq_self.2 fun x hx => ?_
  simp only [ne_eq, decide_eq_true_eq]
  rintro rfl
  exact h hx

/-- The four kinds of asking, as far as its errors go. -/
theorem ask_errs (s : St) (t : Int) :
    (askE s t = 3 ∧ nameM s.N t = false) ∨ (askE s t = 6 ∧ nameM s.N t = true ∧ waitsB s t = true) ∨ (askE s t = 0 ∧ nameM s.N t = true ∧ waitsB s t = false) := by
  unfold askE
  by_cases h1 : nameM s.N t = false
  · rw [if_pos h1]; exact .inl ⟨rfl, h1⟩
  · rw [if_neg h1]
    have h1' : nameM s.N t = true := by simpa using h1
    by_cases h2 : waitsB s t = true
    · rw [if_pos h2]; exact .inr (.inl ⟨rfl, h1', h2⟩)
    · rw [if_neg h2]; exact .inr (.inr ⟨rfl, h1', by simpa using h2⟩)
theorem ask_zero {s : St} {t : Int} (h : askE s t = 0) : (0 ≤ t ∧ t < s.N) ∧ t ∉ s.C ∧ t ∉ s.W := by
  rcases ask_errs s t with ⟨e, _⟩ | ⟨e, _⟩ | ⟨_, h1, h2⟩
  · omega
  · omega
  · refine ⟨name_iff.1 h1, fun hm => ?_, fun hm => ?_⟩
    · rw [waits_iff.2 (.inl hm)] at h2; cases h2
    · rw [waits_iff.2 (.inr hm)] at h2; cases h2
/-- What a try makes. -/
theorem try_cases (s : St) : ((s.L < 0 ∨ s.A < s.L) ∧ tryB s = true ∧ tryS s = { s with A := s.A + 1 }) ∨ ((0 ≤ s.L ∧ s.L ≤ s.A) ∧ tryB s = false ∧ tryS s = s) := by
  unfold tryB tryS
  by_cases h : s.L < 0 ∨ s.A < s.L
  · rw [if_pos h]; exact .inl ⟨h, decide_eq_true h, rfl⟩
  · rw [if_neg h]; exact .inr ⟨by omega, decide_eq_false h, rfl⟩
/-- What a Go makes. -/
theorem go_cases (s : St) (t : Int) :
    (askE s t ≠ 0 ∧ goB s t = false ∧ goS s t = s) ∨
    (askE s t = 0 ∧ (s.L < 0 ∨ s.A < s.L) ∧ goB s t = true ∧ goS s t = { s with A := s.A + 1 }) ∨
    (askE s t = 0 ∧ (0 ≤ s.L ∧ s.L ≤ s.A) ∧ goB s t = false ∧ goS s t = { s with C := s.C ++ [t] }) := by
  unfold goB goS
  by_cases he : askE s t = 0
  · by_cases h : s.L < 0 ∨ s.A < s.L
    · rw [if_pos he, if_pos h]; exact .inr (.inl ⟨he, h, decide_eq_true ⟨he, h⟩, rfl⟩)
    · rw [if_pos he, if_neg h]; exact .inr (.inr ⟨he, by omega, decide_eq_false fun x => h x.2, rfl⟩)
  · rw [if_neg he]; exact .inl ⟨he, decide_eq_false fun x => he x.1, rfl⟩
/-- What a Wait makes. -/
theorem wt_cases (s : St) (t : Int) :
    (askE s t ≠ 0 ∧ wtB s t = false ∧ wtS s t = s) ∨
    (askE s t = 0 ∧ s.A = 0 ∧ wtB s t = true ∧ wtS s t = s) ∨
    (askE s t = 0 ∧ s.A ≠ 0 ∧ wtB s t = false ∧ wtS s t = { s with W := s.W ++ [t] }) := by
  unfold wtB wtS
  by_cases he : askE s t = 0
  · by_cases h : s.A = 0
    · rw [if_neg fun x => x.2 h]; exact .inr (.inl ⟨he, h, decide_eq_true ⟨he, h⟩, rfl⟩)
    · rw [if_pos ⟨he, h⟩]; exact .inr (.inr ⟨he, h, decide_eq_false fun x => h x.2, rfl⟩)
  · rw [if_neg fun x => he x.1]; exact .inl ⟨he, decide_eq_false fun x => he x.1, rfl⟩
/-- What a SetLimit makes. -/
theorem lim_cases (s : St) (n : Int) : ((s.A ≠ 0 ∨ s.C ≠ []) ∧ limE s = 5 ∧ limS s n = s) ∨ (s.A = 0 ∧ s.C = [] ∧ limE s = 0 ∧ limS s n = { s with L := if n < 0 then -1 else n }) := by
  unfold limE limS
  by_cases h : s.A = 0 ∧ s.C = []
  · rw [if_pos h, if_pos h]; exact .inr ⟨h.1, h.2, rfl, rfl⟩
  · rw [if_neg h, if_neg h]
    refine .inl ⟨?_, rfl, rfl⟩
    by_cases h1 : s.A = 0
    · exact .inr fun e => h ⟨h1, e⟩
    · exact .inl h1
/-- What an End makes. -/
theorem end_cases (s : St) (k : Int) :
    (s.A = 0 ∧ endE s = 4 ∧ endR s k = noEn ∧ endS s k = s) ∨
    (s.A ≠ 0 ∧ endE s = 0 ∧ ∃ x l, s.C = x :: l ∧ endR s k = ⟨x, [], decide (k ≠ 0 ∧ s.E = 0)⟩ ∧ endS s k = { s with E := errOf s k, C := l }) ∨
    (s.A = 1 ∧ endE s = 0 ∧ s.C = [] ∧ endR s k = ⟨-1, s.W, decide (k ≠ 0 ∧ s.E = 0)⟩ ∧ endS s k = { s with A := 0, E := errOf s k, W := [] }) ∨
    (s.A ≠ 0 ∧ s.A ≠ 1 ∧ endE s = 0 ∧ s.C = [] ∧ endR s k = ⟨-1, [], decide (k ≠ 0 ∧ s.E = 0)⟩ ∧ endS s k = { s with A := s.A - 1, E := errOf s k }) := by
  unfold endE endR endS
  by_cases h : s.A = 0
  · rw [if_pos h, if_pos h, if_pos h]; exact .inl ⟨h, rfl, rfl, rfl⟩
  · rw [if_neg h, if_neg h, if_neg h]
    cases hC : s.C with
    | cons x l => exact .inr (.inl ⟨h, rfl, x, l, rfl, rfl, rfl⟩)
    | nil =>
      by_cases h1 : s.A = 1
      · refine .inr (.inr (.inl ⟨h1, rfl, rfl, ?_, ?_⟩))
        · simp only [if_pos h1]
        · simp only [if_pos h1]; rw [h1]; rfl
      · refine .inr (.inr (.inr ⟨h, h1, rfl, rfl, ?_, ?_⟩))
        · simp only [if_neg h1]
        · simp only [if_neg h1]
theorem err_in {s : St} (h : Ok s) {k : Int} (hk : In64 k) : -9223372036854775808 ≤ errOf s k ∧ errOf s k ≤ 9223372036854775807 := by
  unfold errOf
  split
  · exact hk
  · exact ⟨h.e0, h.e1⟩
theorem Ok.more {s : St} (h : Ok s) (hp : s.L < 0 ∨ s.A < s.L) : Ok { s with A := s.A + 1 } := by
  have ha := h.a0
  refine ⟨h.n0, h.n1, h.l0, h.l1, by show 0 ≤ s.A + 1; omega, fun hl => ?_, h.e0, h.e1, h.cs, h.ws, h.once, fun hc => ?_, fun h0 => ?_⟩
  · have hl : 0 ≤ s.L := hl
    show s.A + 1 ≤ s.L
    omega
  · have := h.full hc
    omega
  · have h0 : s.A + 1 = 0 := h0
    omega
theorem Ok.tries {s : St} (h : Ok s) : Ok (tryS s) := by
  rcases try_cases s with ⟨h1, _, e⟩ | ⟨_, _, e⟩
  · rw [e]; exact h.more h1
  · rw [e]; exact h
theorem Ok.goes {s : St} (h : Ok s) (t : Int) : Ok (goS s t) := by
  rcases go_cases s t with ⟨_, _, e⟩ | ⟨_, h1, _, e⟩ | ⟨he, h1, _, e⟩
  · rw [e]; exact h
  · rw [e]; exact h.more h1
  · rw [e]
    obtain ⟨ht, hc, hw⟩ := ask_zero he
    refine ⟨h.n0, h.n1, h.l0, h.l1, h.a0, h.la, h.e0, h.e1, fun x hx => ?_, h.ws, ?_, fun _ => ?_, h.idle⟩
    · rcases List.mem_append.1 hx with hx | hx
      · exact h.cs x hx
      · rw [List.mem_singleton] at hx; subst hx; exact ht
    · show ((s.C ++ [t]) ++ s.W).Nodup
      have hp : (t :: (s.C ++ s.W)).Perm ((s.C ++ [t]) ++ s.W) := by
        rw [List.append_assoc]
        exact List.perm_middle.symm
      refine hp.nodup_iff.1 (List.nodup_cons.2 ⟨?_, h.once⟩)
      rw [List.mem_append]
      rintro (h | h)
      · exact hc h
      · exact hw h
    · have := h.la h1.1
      exact ⟨h1.1, by show s.A = s.L; omega⟩
theorem Ok.wait {s : St} (h : Ok s) (t : Int) : Ok (wtS s t) := by
  rcases wt_cases s t with ⟨_, _, e⟩ | ⟨_, _, _, e⟩ | ⟨he, h1, _, e⟩
  · rw [e]; exact h
  · rw [e]; exact h
  · rw [e]
    obtain ⟨ht, hc, hw⟩ := ask_zero he
    refine ⟨h.n0, h.n1, h.l0, h.l1, h.a0, h.la, h.e0, h.e1, h.cs, fun x hx => ?_, ?_, h.full, fun h0 => absurd h0 h1⟩
    · rcases List.mem_append.1 hx with hx | hx
      · exact h.ws x hx
      · rw [List.mem_singleton] at hx; subst hx; exact ht
    · show (s.C ++ (s.W ++ [t])).Nodup
      rw [← List.append_assoc, List.nodup_append]
      exact ⟨h.once, by simp, fun a ha b hb => by
        rw [List.mem_singleton] at hb
        subst hb
        rintro rfl
        rcases List.mem_append.1 ha with ha | ha
        · exact hc ha
        · exact hw ha⟩
theorem Ok.ends {s : St} (h : Ok s) {k : Int} (hk : In64 k) : Ok (endS s k) := by
  have ha := h.a0
  obtain ⟨k0, k1⟩ := err_in h hk
  rcases end_cases s k with ⟨_, _, _, e⟩ | ⟨h0, _, x, l, hC, _, e⟩ | ⟨h1, _, hC, _, e⟩ | ⟨h0, h1, _, hC, _, e⟩
  · rw [e]; exact h
  · rw [e]
    have hn := h.once
    have hf := h.full (by rw [hC]; simp)
    have hs : ∀ y ∈ s.C, 0 ≤ y ∧ y < s.N := h.cs
    rw [hC] at hn hs
    exact ⟨h.n0, h.n1, h.l0, h.l1, ha, h.la, k0, k1, fun y hy => hs y (List.mem_cons_of_mem _ hy), h.ws, (List.nodup_cons.1 hn).2, fun _ => hf, h.idle⟩
  · rw [e]
    refine ⟨h.n0, h.n1, h.l0, h.l1, by show (0 : Int) ≤ 0; omega, fun hl => hl, k0, k1, h.cs, (fun x hx => by cases hx), ?_, fun hc => absurd hC hc, fun _ => rfl⟩
    show (s.C ++ []).Nodup
    rw [hC]
    exact .nil
  · rw [e]
    refine ⟨h.n0, h.n1, h.l0, h.l1, by show 0 ≤ s.A - 1; omega, fun hl => ?_, k0, k1, h.cs, h.ws, h.once, fun hc => absurd hC hc, fun h0 => ?_⟩
    · have := h.la hl
      show s.A - 1 ≤ s.L
      omega
    · have h0 : s.A - 1 = 0 := h0
      omega
theorem Ok.limit {s : St} (h : Ok s) {n : Int} (hn : In64 n) : Ok (limS s n) := by
  rcases lim_cases s n with ⟨_, _, e⟩ | ⟨h0, hC, _, e⟩
  · rw [e]; exact h
  · rw [e]
    obtain ⟨n0, n1⟩ := hn
    have hl : -1 ≤ (if n < 0 then -1 else n) ∧ (if n < 0 then -1 else n) ≤ 9223372036854775807 := by split <;> omega
    exact ⟨h.n0, h.n1, hl.1, hl.2, h.a0, fun h1 => by rw [h0]; exact h1, h.e0, h.e1, h.cs, h.ws, h.once, fun hc => absurd hC hc, h.idle⟩
theorem Ok.leave {s : St} (h : Ok s) (t : Int) : Ok (lvS s t) := by
  have hs : List.Sublist (withoutL s.C t) s.C := List.filter_sublist
  have hw : List.Sublist (withoutL s.W t) s.W := List.filter_sublist
  exact ⟨h.n0, h.n1, h.l0, h.l1, h.a0, h.la, h.e0, h.e1, fun x hx => h.cs x (hs.subset hx), fun x hx => h.ws x (hw.subset hx), h.once.sublist (hs.append hw), fun hc => h.full fun e => hc (by show withoutL s.C t = []; rw [e]; rfl), fun h0 => by show withoutL s.W t = []; rw [h.idle h0]; rfl⟩
end Go.Proofs.Ytkgmcifianhogaa.TeamP
