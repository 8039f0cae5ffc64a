/-
  What a heap's order is for alarms that are numbered as they are set (layer 4): plain mathematics. No condition.
-/
import Derived.Test.YtpoolfnfboohjaaTimerI
namespace Go.Proofs.Ytpoolfnfboohjaa.TimerC
open Go.ChangeShapes Go.WideShapes Go.ChangeAt Go.RowKit Mem RefHeap RefTimer

theorem ahead_new {x y : Ent} (h : y.seq < x.seq) : RefHeap.ahead x y = decide (x.at_ < y.at_) := by
  unfold RefHeap.ahead
  by_cases h1 : x.at_ = y.at_
  · rw [if_neg (by simpa using h1), if_pos (by omega)]
    simp; omega
  · rw [if_pos h1]
theorem filter_all {α : Type} {p : α → Bool} : ∀ {l : List α}, (∀ y ∈ l, p y = true) → l.filter p = l
  | [], _ => rfl
  | y :: l, h => by rw [List.filter_cons, if_pos (h y (by simp)), filter_all fun z hz => h z (by simp [hz])]
theorem filter_none {α : Type} {p : α → Bool} : ∀ {l : List α}, (∀ y ∈ l, p y = false) → l.filter p = []
  | [], _ => rfl
  | y :: l, h => by rw [List.filter_cons, if_neg (by rw [h y (by simp)]; simp), filter_none fun z hz => h z (by simp [hz])]

/-- In the order of a heap a new alarm stands behind all whose time is no more. -/
theorem ins_is {x : Ent} : ∀ {L : List Ent}, L.Pairwise (fun a b => a.at_ < b.at_ ∨ (a.at_ = b.at_ ∧ a.seq < b.seq)) → (∀ y ∈ L, y.seq < x.seq) → insH x L = L.filter (fun y => decide (y.at_ ≤ x.at_)) ++ [x] ++ L.filter (fun y => decide (x.at_ < y.at_))
  | [], _, _ => rfl
  | y :: l, ho, hs => by
    have ho' := List.pairwise_cons.1 ho
    have ha := ahead_new (hs y (by simp))
    by_cases hlt : x.at_ < y.at_
    · rw [insH, if_pos (by rw [ha]; simpa using hlt)]
      have h1 : (y :: l).filter (fun z => decide (z.at_ ≤ x.at_)) = [] := filter_none fun z hz => by
        rcases List.mem_cons.1 hz with rfl | hz
        · simpa using hlt
        · have := ho'.1 z hz
          simp; omega
      have h2 : (y :: l).filter (fun z => decide (x.at_ < z.at_)) = y :: l := filter_all fun z hz => by
        rcases List.mem_cons.1 hz with rfl | hz
        · simpa using hlt
        · have := ho'.1 z hz
          simp; omega
      rw [h1, h2]
      rfl
    · rw [insH, if_neg (by rw [ha]; simpa using hlt), ins_is ho'.2 fun z hz => hs z (by simp [hz])]
      rw [List.filter_cons, if_pos (by simp; omega), List.filter_cons (x := y), if_neg (by simpa using hlt)]
      rfl
theorem insT_is {T C : Int} {L : List Ent} {M : Int} (h : TimerI.Ok T C L M) (key t : Int) : insT L key t (C + 1) = insH ⟨key, t, C + 1⟩ L := (ins_is (x := ⟨key, t, C + 1⟩) h.order fun y hy => by have := h.seqs y hy; show y.seq < C + 1; omega).symm

/-- Another time. -/
theorem ok_time {T C : Int} {L : List Ent} {M : Int} (h : TimerI.Ok T C L M) {T' : Int} (ht : In64 T') : TimerI.Ok T' C L M := ⟨h.m0, h.m1, ht, h.c0, h.ids, h.ats, h.seqs, h.once, h.order, h.len⟩
/-- Some of them. -/
theorem ok_sub {T C : Int} {L L' : List Ent} {M : Int} (h : TimerI.Ok T C L M) (hs : List.Sublist L' L) : TimerI.Ok T C L' M :=
  ⟨h.m0, h.m1, h.t64, h.c0, fun x hx => h.ids x (hs.subset hx), fun x hx => h.ats x (hs.subset hx), fun x hx => h.seqs x (hs.subset hx), (hs.map _).nodup h.once, h.order.sublist hs, Nat.le_trans hs.length_le h.len⟩
theorem mem_insT {L : List Ent} {key t n : Int} {x : Ent} (h : x ∈ insT L key t n) : x ∈ L ∨ x = ⟨key, t, n⟩ := by
  unfold insT at h
  simp only [List.mem_append, List.mem_filter, List.mem_singleton] at h
  rcases h with (⟨h, _⟩ | h) | ⟨h, _⟩
  · exact .inl h
  · exact .inr h
  · exact .inl h
theorem insT_order {L : List Ent} {key t n : Int} (ho : L.Pairwise (fun a b => a.at_ < b.at_ ∨ (a.at_ = b.at_ ∧ a.seq < b.seq))) (hs : ∀ y ∈ L, y.seq < n) : (insT L key t n).Pairwise (fun a b => a.at_ < b.at_ ∨ (a.at_ = b.at_ ∧ a.seq < b.seq)) := by
  unfold insT
  rw [List.pairwise_append, List.pairwise_append]
  refine ⟨⟨ho.sublist List.filter_sublist, by simp, fun a ha b hb => ?_⟩, ho.sublist List.filter_sublist, fun a ha b hb => ?_⟩
  · obtain rfl : b = ⟨key, t, n⟩ := by simpa using hb
    obtain ⟨h1, h2⟩ := List.mem_filter.1 ha
    have := hs a h1
    show a.at_ < t ∨ (a.at_ = t ∧ a.seq < n)
    simp at h2
    omega
  · obtain ⟨_, h2⟩ := List.mem_filter.1 hb
    simp at h2
    rcases List.mem_append.1 ha with ha | ha
    · obtain ⟨_, h3⟩ := List.mem_filter.1 ha
      simp at h3
      exact .inl (by omega)
    · obtain rfl : a = ⟨key, t, n⟩ := by simpa using ha
      exact .inl h2
/-- One more, with a number of its own; the heap's own word says the rest. -/
theorem ok_ins {T C : Int} {L : List Ent} {M key t : Int} (h : TimerI.Ok T C L M) (hr : 0 ≤ key ∧ key < M) (ht : In64 t) (ho : HeapI.Ok (insT L key t (C + 1)) M) : TimerI.Ok T (C + 1) (insT L key t (C + 1)) M := by
  refine ⟨h.m0, h.m1, h.t64, by have := h.c0; omega, fun x hx => ?_, fun x hx => ?_, fun x hx => ?_, ho.once, insT_order h.order fun y hy => by have := h.seqs y hy; omega, ho.len⟩
  · rcases mem_insT hx with hx | rfl
    · exact h.ids x hx
    · exact hr
  · rcases mem_insT hx with hx | rfl
    · exact h.ats x hx
    · exact ht
  · rcases mem_insT hx with hx | rfl
    · have := h.seqs x hx; omega
    · have := h.c0; exact ⟨by show 1 ≤ C + 1; omega, Int.le_refl _⟩

/-- Who goes off: from the front on. -/
theorem off_end {L : List Ent} {t : Int} (ho : L.Pairwise (fun a b => a.at_ < b.at_ ∨ (a.at_ = b.at_ ∧ a.seq < b.seq))) (hn : takeB L t = false) : L.filter (fun y => decide (y.at_ ≤ t)) = [] ∧ L.filter (fun y => decide (t < y.at_)) = L := by
  cases L with
  | nil => exact ⟨rfl, rfl⟩
  | cons a l =>
    have ha : t < a.at_ := by unfold takeB at hn; simp at hn; omega
    have hall : ∀ y ∈ a :: l, t < y.at_ := fun y hy => by
      rcases List.mem_cons.1 hy with rfl | hy
      · exact ha
      · have := (List.pairwise_cons.1 ho).1 y hy
        omega
    exact ⟨filter_none fun y hy => by have := hall y hy; simp; omega, filter_all fun y hy => by have := hall y hy; simp; omega⟩
theorem off_one {a : Ent} {l : List Ent} {t : Int} (ha : a.at_ ≤ t) : (a :: l).filter (fun y => decide (y.at_ ≤ t)) = a :: l.filter (fun y => decide (y.at_ ≤ t)) ∧ (a :: l).filter (fun y => decide (t < y.at_)) = l.filter (fun y => decide (t < y.at_)) :=
  ⟨by rw [List.filter_cons, if_pos (by simpa using ha)], by rw [List.filter_cons, if_neg (by simp; omega)]⟩
theorem dropH_head {a : Ent} {l : List Ent} (h : ((a :: l).map (·.id)).Nodup) : dropH (a :: l) a.id = l := by
  unfold dropH
  rw [List.filter_cons, if_neg (by simp)]
  refine filter_all fun y hy => ?_
  have := (List.nodup_cons.1 h).1
  have hne : y.id ≠ a.id := fun e => this (by show a.id ∈ _; rw [← e]; exact List.mem_map_of_mem (f := fun x : Ent => x.id) hy)
  simpa using hne
end Go.Proofs.Ytpoolfnfboohjaa.TimerC
