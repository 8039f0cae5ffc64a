/-
  A lock for one who writes or several who read, as plain mathematics (layer 9): who writes, who reads, who waits to read and to write, how many tasks there are. No condition.
-/
import Derived.Test.YtmlicljoadcoeaaMutP
namespace Go.Proofs.Ytmlicljoadcoeaa.RwP
open Go.ChangeShapes Go.WideShapes Go.ChangeAt Go.RowKit Mem MutP

/-- A lock: its writer (below 0: none), its readers, who waits to read, who waits to write, how many tasks there may be. -/
structure St where
  w : Int
  r : List Int
  p : List Int
  q : List Int
  n : Int
deriving DecidableEq
def newS (n : Int) : St := ⟨-1, [], [], [], n⟩
/-- What can be given is given. -/
def giveS (s : St) : St :=
  if s.w < 0 ∧ s.r = [] ∧ s.q ≠ [] then ⟨s.q.headD (-1), s.r, s.p, s.q.tail, s.n⟩
  else if s.w < 0 ∧ s.q = [] then ⟨s.w, s.r ++ s.p, [], s.q, s.n⟩ else s
def giveV (s : St) : List Int :=
  if s.w < 0 ∧ s.r = [] ∧ s.q ≠ [] then [s.q.headD (-1)]
  else if s.w < 0 ∧ s.q = [] then s.p else []
def waitsR (s : St) (t : Int) : Bool := inL s.p t || inL s.q t
def holdsB (s : St) (t : Int) : Bool := decide (s.w = t) || inL s.r t
def askE (s : St) (t : Int) : Int := if nameM s.n t = false then 3 else if waitsR s t = true then 6 else if holdsB s t = true then 4 else 0
def putS (s : St) (t : Int) (wr : Bool) : St := if wr = true then ⟨s.w, s.r, s.p, s.q ++ [t], s.n⟩ else ⟨s.w, s.r, s.p ++ [t], s.q, s.n⟩
def askS (s : St) (t : Int) (wr : Bool) : St := if askE s t = 0 then giveS (putS s t wr) else s
def askB (s : St) (t : Int) (wr : Bool) : Bool := if askE s t = 0 then holdsB (giveS (putS s t wr)) t else false
def relE (s : St) (t : Int) : Int := if nameM s.n t = false then 3 else if holdsB s t = true then 0 else 4
def outS (s : St) (t : Int) : St := ⟨if s.w = t then -1 else s.w, withoutL s.r t, s.p, s.q, s.n⟩
def unlS (s : St) (t : Int) : St := if relE s t = 0 then giveS (outS s t) else s
def relV (s : St) (t : Int) : List Int := if relE s t = 0 then giveV (outS s t) else []
def goS (s : St) (t : Int) : St := ⟨s.w, s.r, withoutL s.p t, withoutL s.q t, s.n⟩
def leaveS (s : St) (t : Int) : St := if waitsR s t = true then giveS (goS s t) else s
def leaveV (s : St) (t : Int) : List Int := if waitsR s t = true then giveV (goS s t) else []
/-- What an act answers, and the lock behind it. -/
def actV (s : St) (d t : Int) : List Int := if d = 2 then relV s t else if d = 3 then leaveV s t else []
def actB (s : St) (d t : Int) : Bool := if d = 0 then askB s t false else if d = 1 then askB s t true else if d = 3 then waitsR s t else false
def actE (s : St) (d t : Int) : Int := if d = 0 ∨ d = 1 then askE s t else if d = 2 then relE s t else 0
def actS (s : St) (d t : Int) : St := if d = 0 then askS s t false else if d = 1 then askS s t true else if d = 2 then unlS s t else if d = 3 then leaveS s t else s

/-- Locks that may be, where something may still be given. -/
structure Ok0 (s : St) : Prop where
  n0 : 1 ≤ s.n
  n1 : s.n ≤ 1000
  h0 : -1 ≤ s.w
  h1 : s.w < s.n
  br : ∀ x ∈ s.r, 0 ≤ x ∧ x < s.n
  bp : ∀ x ∈ s.p, 0 ≤ x ∧ x < s.n
  bq : ∀ x ∈ s.q, 0 ≤ x ∧ x < s.n
  nr : s.r.Nodup
  np : s.p.Nodup
  nq : s.q.Nodup
  pq : ∀ x ∈ s.p, x ∉ s.q
  pr : ∀ x ∈ s.p, x ∉ s.r
  qr : ∀ x ∈ s.q, x ∉ s.r
  wp : s.w ∉ s.p
  wq : s.w ∉ s.q
  alone : 0 ≤ s.w → s.r = []
/-- Locks that may be. -/
structure Ok (s : St) : Prop extends Ok0 s where
  idle : s.w < 0 → s.q = [] → s.p = []
  free : s.w < 0 → s.r = [] → s.q = []
theorem Ok0.lens {s : St} (h : Ok0 s) : s.r.length ≤ 1000 ∧ s.p.length ≤ 1000 ∧ s.q.length ≤ 1000 := by
  have h0 := h.n0
  have h1 := h.n1
  have a := len_of_ids s.n.toNat s.r h.nr fun x hx => by have := h.br x hx; omega
  have b := len_of_ids s.n.toNat s.p h.np fun x hx => by have := h.bp x hx; omega
  have c := len_of_ids s.n.toNat s.q h.nq fun x hx => by have := h.bq x hx; omega
  omega
theorem Ok.new {n : Int} (h0 : 1 ≤ n) (h1 : n ≤ 1000) : Ok (newS n) :=
  { n0 := h0, n1 := h1, h0 := by show (-1 : Int) ≤ -1; omega, h1 := by show (-1 : Int) < n; omega, br := (fun x h => by cases h), bp := (fun x h => by cases h), bq := (fun x h => by cases h), nr := .nil, np := .nil, nq := .nil, pq := (fun x h => by cases h), pr := (fun x h => by cases h), qr := (fun x h => by cases h), wp := (fun h => by cases h), wq := (fun h => by cases h), alone := fun _ => rfl, idle := fun _ _ => rfl, free := fun _ _ => rfl }
theorem Ok0.give {s : St} (h : Ok0 s) : Ok (giveS s) := by
  obtain ⟨w, r, p, q, n⟩ := s
  unfold giveS
  by_cases c1 : w < 0 ∧ r = [] ∧ q ≠ []
  · rw [if_pos c1]
    obtain ⟨c0, rfl, c2⟩ := c1
    cases q with
    | nil => exact (c2 rfl).elim
    | cons x q =>
      have hx := h.bq x (List.mem_cons_self ..)
      have hn := List.nodup_cons.1 h.nq
      have hpq := h.pq
      have hwq := h.wq
      simp only at hx hn hpq hwq
      have hxp : x ∉ p := fun hp => hpq x hp (List.mem_cons_self ..)
      exact { n0 := h.n0, n1 := h.n1, h0 := by show -1 ≤ x; omega, h1 := hx.2, br := h.br, bp := h.bp, bq := fun y hy => h.bq y (List.mem_cons_of_mem _ hy), nr := .nil, np := h.np, nq := hn.2, pq := fun y hy hq => hpq y hy (List.mem_cons_of_mem _ hq), pr := h.pr, qr := (fun y _ hr => by cases hr), wp := hxp, wq := hn.1, alone := fun _ => rfl, idle := fun hl => by have hl' : x < 0 := hl; omega, free := fun hl => by have hl' : x < 0 := hl; omega }
  · rw [if_neg c1]
    by_cases c2 : w < 0 ∧ q = []
    · rw [if_pos c2]
      obtain ⟨c0, rfl⟩ := c2
      have hw := h.h0
      have hbr := h.br
      have hbp := h.bp
      simp only at hw hbr hbp
      refine { n0 := h.n0, n1 := h.n1, h0 := h.h0, h1 := h.h1, br := ?_, bp := (fun x h => by cases h), bq := (fun x h => by cases h), nr := ?_, np := .nil, nq := .nil, pq := (fun x h => by cases h), pr := (fun x h => by cases h), qr := (fun x h => by cases h), wp := (fun h => by cases h), wq := (fun h => by cases h), alone := fun hl => by have hl' : 0 ≤ w := hl; omega, idle := fun _ _ => rfl, free := fun _ _ => rfl }
      · intro x hx
        rcases List.mem_append.1 hx with hx | hx
        · exact hbr x hx
        · exact hbp x hx
      · show (r ++ p).Nodup
        rw [List.nodup_append]
        exact ⟨h.nr, h.np, fun a ha b hb => by rintro rfl; exact h.pr a hb ha⟩
    · rw [if_neg c2]
      refine { toOk0 := h, idle := fun hl hq => (c2 ⟨hl, hq⟩).elim, free := fun hl hr => ?_ }
      by_cases hq : q = []
      · exact hq
      · exact (c1 ⟨hl, hr, hq⟩).elim
theorem ask0 {s : St} {t : Int} (h : askE s t = 0) : (0 ≤ t ∧ t < s.n) ∧ t ∉ s.p ∧ t ∉ s.q ∧ s.w ≠ t ∧ t ∉ s.r := by
  unfold askE waitsR holdsB inL at h
  cases hn : nameM s.n t
  · rw [if_pos hn] at h; omega
  · rw [if_neg (by rw [hn]; simp)] at h
    by_cases h1 : t ∈ s.p
    · simp [h1] at h
    · by_cases h2 : t ∈ s.q
      · simp [h2] at h
      · by_cases h3 : s.w = t
        · simp [h1, h2, h3] at h
        · by_cases h4 : t ∈ s.r
          · simp [h1, h2, h3, h4] at h
          · exact ⟨name_iff.1 hn, h1, h2, h3, h4⟩
theorem Ok0.put {s : St} (h : Ok0 s) {t : Int} (ht : askE s t = 0) (wr : Bool) : Ok0 (putS s t wr) := by
  obtain ⟨hn, hp, hq, hw, hr⟩ := ask0 ht
  unfold putS
  cases wr with
  | true =>
    rw [if_pos rfl]
    refine { h with bq := ?_, nq := ?_, pq := ?_, qr := ?_, wq := ?_ }
    · intro x hx
      rcases List.mem_append.1 hx with hx | hx
      · exact h.bq x hx
      · rw [List.mem_singleton] at hx; subst hx; exact hn
    · show (s.q ++ [t]).Nodup
      rw [List.nodup_append]
      exact ⟨h.nq, by simp, fun a ha b hb => by rw [List.mem_singleton] at hb; subst hb; rintro rfl; exact hq ha⟩
    · intro x hx hx'
      rcases List.mem_append.1 hx' with hx' | hx'
      · exact h.pq x hx hx'
      · rw [List.mem_singleton] at hx'; subst hx'; exact hp hx
    · intro x hx
      rcases List.mem_append.1 hx with hx | hx
      · exact h.qr x hx
      · rw [List.mem_singleton] at hx; subst hx; exact hr
    · intro hx
      rcases List.mem_append.1 hx with hx | hx
      · exact h.wq hx
      · rw [List.mem_singleton] at hx; exact hw hx
  | false =>
    rw [if_neg (by simp)]
    refine { h with bp := ?_, np := ?_, pq := ?_, pr := ?_, wp := ?_ }
    · intro x hx
      rcases List.mem_append.1 hx with hx | hx
      · exact h.bp x hx
      · rw [List.mem_singleton] at hx; subst hx; exact hn
    · show (s.p ++ [t]).Nodup
      rw [List.nodup_append]
      exact ⟨h.np, by simp, fun a ha b hb => by rw [List.mem_singleton] at hb; subst hb; rintro rfl; exact hp ha⟩
    · intro x hx
      rcases List.mem_append.1 hx with hx | hx
      · exact h.pq x hx
      · rw [List.mem_singleton] at hx; subst hx; exact hq
    · intro x hx
      rcases List.mem_append.1 hx with hx | hx
      · exact h.pr x hx
      · rw [List.mem_singleton] at hx; subst hx; exact hr
    · intro hx
      rcases List.mem_append.1 hx with hx | hx
      · exact h.wp hx
      · rw [List.mem_singleton] at hx; exact hw hx
theorem mem_without {l : List Int} {t x : Int} : x ∈ withoutL l t ↔ x ∈ l ∧ x ≠ t := by unfold withoutL; simp [List.mem_filter]
theorem Ok0.out {s : St} (h : Ok0 s) (t : Int) : Ok0 (outS s t) := by
  have h0 := h.h0
  have h1 := h.h1
  have hn := h.n0
  refine { n0 := h.n0, n1 := h.n1, h0 := ?_, h1 := ?_, br := fun x hx => h.br x (mem_without.1 hx).1, bp := h.bp, bq := h.bq, nr := h.nr.filter _, np := h.np, nq := h.nq, pq := h.pq, pr := fun x hx hr => h.pr x hx (mem_without.1 hr).1, qr := fun x hx hr => h.qr x hx (mem_without.1 hr).1, wp := ?_, wq := ?_, alone := ?_ }
  · show -1 ≤ if s.w = t then -1 else s.w
    split <;> omega
  · show (if s.w = t then -1 else s.w) < s.n
    split <;> omega
  · show (if s.w = t then -1 else s.w) ∉ s.p
    split
    · intro hx; have := h.bp _ hx; omega
    · exact h.wp
  · show (if s.w = t then -1 else s.w) ∉ s.q
    split
    · intro hx; have := h.bq _ hx; omega
    · exact h.wq
  · intro hl
    have hl' : 0 ≤ if s.w = t then -1 else s.w := hl
    split at hl'
    · omega
    · show withoutL s.r t = []
      rw [h.alone hl']; rfl
theorem Ok0.go {s : St} (h : Ok0 s) (t : Int) : Ok0 (goS s t) :=
  { h with bp := fun x hx => h.bp x (mem_without.1 hx).1, bq := fun x hx => h.bq x (mem_without.1 hx).1, np := h.np.filter _, nq := h.nq.filter _, pq := fun x hx hq => h.pq x (mem_without.1 hx).1 (mem_without.1 hq).1, pr := fun x hx => h.pr x (mem_without.1 hx).1, qr := fun x hx => h.qr x (mem_without.1 hx).1, wp := fun hx => h.wp (mem_without.1 hx).1, wq := fun hx => h.wq (mem_without.1 hx).1 }
theorem Ok.ask {s : St} (h : Ok s) (t : Int) (wr : Bool) : Ok (askS s t wr) := by
  unfold askS
  split
  · next ht => exact (h.toOk0.put ht wr).give
  · exact h
theorem Ok.unlock {s : St} (h : Ok s) (t : Int) : Ok (unlS s t) := by
  unfold unlS
  split
  · exact (h.toOk0.out t).give
  · exact h
theorem Ok.leave {s : St} (h : Ok s) (t : Int) : Ok (leaveS s t) := by
  unfold leaveS
  split
  · exact (h.toOk0.go t).give
  · exact h
theorem Ok.act {s : St} (h : Ok s) (d t : Int) : Ok (actS s d t) := by
  unfold actS
  repeat' split
  · exact h.ask t false
  · exact h.ask t true
  · exact h.unlock t
  · exact h.leave t
  · exact h
theorem give_n (s : St) : (giveS s).n = s.n := by unfold giveS; (repeat' split) <;> rfl
theorem put_n (s : St) (t : Int) (wr : Bool) : (putS s t wr).n = s.n := by unfold putS; split <;> rfl
theorem act_n (s : St) (d t : Int) : (actS s d t).n = s.n := by
  unfold actS askS unlS leaveS
  repeat' split
  all_goals first | rfl | (rw [give_n]; first | rfl | rw [put_n])
end Go.Proofs.Ytmlicljoadcoeaa.RwP
