/-
  What is done of one key changes nothing of another one's call (layer 15), as plain mathematics. No condition.
-/
import Derived.Test.YtbkeodjebfkkdaaFlightP
namespace Go.Proofs.Ytbkeodjebfkkdaa.FlightP
open Go.ChangeShapes Go.WideShapes Go.ChangeAt Go.RowKit Mem MutP

section
variable {L : List Call} {k t x : Int}
theorem leader_map {f : Call → Call} : ∀ {L : List Call}, (∀ c ∈ L, isK k (f c) = isK k c ∧ (f c).t = c.t) → leaderK (L.map f) k = leaderK L k
  | [], _ => rfl
  | c :: L, h => by
    have h1 := h c (List.mem_cons_self ..)
    have ih := leader_map (f := f) (L := L) fun a ha => h a (List.mem_cons_of_mem _ ha)
    unfold leaderK at ih ⊢
    rw [List.map_cons, List.find?_cons, List.find?_cons, h1.1]
    cases hc : isK k c with
    | true => show (f c).t = c.t; exact h1.2
    | false => exact ih
theorem joined_map {f : Call → Call} : ∀ {L : List Call}, (∀ c ∈ L, (f c).t = c.t ∧ (c.t = x → (f c).j = c.j)) → joinedL (L.map f) x = joinedL L x
  | [], _ => rfl
  | c :: L, h => by
    have h1 := h c (List.mem_cons_self ..)
    have ih := joined_map (f := f) (L := L) fun a ha => h a (List.mem_cons_of_mem _ ha)
    have e : isT x (f c) = isT x c := by unfold isT; rw [h1.1]
    unfold joinedL at ih ⊢
    rw [List.map_cons, List.find?_cons, List.find?_cons, e]
    cases hc : isT x c with
    | true => show (f c).j = c.j; exact h1.2 (by simpa [isT] using hc)
    | false => exact ih
theorem leader_filter : ∀ {L : List Call}, (∀ c ∈ L, c.t = t → isK k c = false) → leaderK (L.filter fun c => !isT t c) k = leaderK L k
  | [], _ => rfl
  | c :: L, h => by
    have h1 := h c (List.mem_cons_self ..)
    have ih := leader_filter (L := L) fun a ha => h a (List.mem_cons_of_mem _ ha)
    cases hc : isT t c with
    | true =>
      rw [List.filter_cons, if_neg (by rw [hc]; simp), ih]
      have h2 := h1 (by simpa [isT] using hc)
      unfold leaderK
      rw [List.find?_cons, h2]
    | false =>
      rw [List.filter_cons, if_pos (by rw [hc]; rfl)]
      unfold leaderK at ih ⊢
      rw [List.find?_cons, List.find?_cons]
      cases isK k c with
      | true => rfl
      | false => exact ih
theorem joined_filter (hx : x ≠ t) : ∀ {L : List Call}, joinedL (L.filter fun c => !isT t c) x = joinedL L x
  | [] => rfl
  | c :: L => by
    have ih := joined_filter hx (L := L)
    cases hc : isT t c with
    | true =>
      rw [List.filter_cons, if_neg (by rw [hc]; simp), ih]
      have h2 : isT x c = false := by
        have h3 : c.t = t := by simpa [isT] using hc
        unfold isT
        rw [h3]
        simpa using fun e => hx e.symm
      unfold joinedL
      rw [List.find?_cons, h2]
    | false =>
      rw [List.filter_cons, if_pos (by rw [hc]; rfl)]
      unfold joinedL at ih ⊢
      rw [List.find?_cons, List.find?_cons]
      cases isT x c with
      | true => rfl
      | false => exact ih
theorem leader_more {c : Call} (h : isK k c = false) : leaderK (L ++ [c]) k = leaderK L k := by
  unfold leaderK
  rw [List.find?_append]
  cases L.find? (isK k) with
  | none => simp [h]
  | some d => rfl
theorem joined_more {c : Call} (h : c.t ≠ x) : joinedL (L ++ [c]) x = joinedL L x := by
  unfold joinedL
  rw [List.find?_append]
  cases L.find? (isT x) with
  | none => simp [isT, h]
  | some d => rfl
end

section
variable {s : St} {k t x key : Int}
/-- One leads one call at most. -/
theorem Ok.lead_one (h : Ok s) {a b : Call} (ha : a ∈ s.L) (hb : b ∈ s.L) (e : a.t = b.t) : a = b := by
  obtain ⟨A, c, B, eL, hc, hA, hB⟩ := h.split_lead (t := a.t) (leads_iff.2 (List.mem_map.2 ⟨a, ha, rfl⟩))
  have one : ∀ d ∈ s.L, d.t = a.t → d = c := by
    intro d hd hdt
    have hT : isT a.t d = true := by unfold isT; simpa using hdt
    rw [eL] at hd
    rcases List.mem_append.1 hd with hd | hd
    · rw [hA d hd] at hT; cases hT
    · rcases List.mem_cons.1 hd with hd | hd
      · exact hd
      · rw [hB d hd] at hT; cases hT
  rw [one a ha rfl, one b hb e.symm]
theorem Ok.t_of (h : Ok s) {c : Call} (hc : c ∈ s.L) : 0 ≤ c.t ∧ c.t < s.N := h.ts c.t (List.mem_append.2 (.inl (List.mem_map.2 ⟨c, hc, rfl⟩)))
/-- Who leads the call of a key. -/
theorem Ok.leader_is (h : Ok s) (key : Int) : (leaderK s.L key = -1 ∧ ∀ c ∈ s.L, isK key c = false) ∨ ∃ c ∈ s.L, c.k = key ∧ c.g = false ∧ leaderK s.L key = c.t := by
  cases hany : anyK s.L key with
  | false =>
    refine .inl ⟨leader_no hany, fun c hc => ?_⟩
    unfold anyK at hany
    rw [List.any_eq_false] at hany
    simpa using hany c hc
  | true =>
    obtain ⟨A, c, B, e, hc, hA, hB⟩ := h.split_key hany
    exact .inr ⟨c, by rw [e]; simp, hc.1, hc.2, by rw [e]; exact leader_at hc hA⟩
theorem Ok.leader_in (h : Ok s) (key : Int) : -1 ≤ leaderK s.L key ∧ leaderK s.L key < s.N := by
  have := h.n0
  rcases h.leader_is key with ⟨e, _⟩ | ⟨c, hc, _, _, e⟩
  · omega
  · have := h.t_of hc; omega
/-- Whoever leads a key's call leads no other. -/
theorem Ok.leader_key (h : Ok s) {c : Call} (hc : c ∈ s.L) (e : c.t = leaderK s.L key) : c.k = key ∧ c.g = false := by
  rcases h.leader_is key with ⟨e1, _⟩ | ⟨d, hd, h1, h2, e1⟩
  · have := h.t_of hc; omega
  · have := h.lead_one hc hd (by omega)
    subst this
    exact ⟨h1, h2⟩
theorem isK_ne {c : Call} (hk : k ≠ key) (h : isK k c = true) : isK key c = false := by
  unfold isK at h ⊢
  simp only [Bool.and_eq_true, beq_iff_eq] at h
  have : (c.k == key) = false := by rw [h.1]; simpa using hk
  rw [this]; rfl
theorem apart_do (h : Ok s) (hk : k ≠ key) (t : Int) : leaderK (doS s t k).L key = leaderK s.L key ∧ joinedL (doS s t k).L (leaderK s.L key) = joinedL s.L (leaderK s.L key) := by
  unfold doS
  by_cases he : doE s t = 0
  · rw [if_pos he]
    have hf : leadsB s.L t = false ∧ 0 ≤ t := by
      rcases do_errs s t with ⟨e, _⟩ | ⟨e, _⟩ | ⟨e, _⟩ | ⟨_, h1, _, h3⟩
      · omega
      · omega
      · omega
      · exact ⟨h3, (name_iff.1 h1).1⟩
    cases hany : anyK s.L k with
    | true =>
      rw [if_pos rfl]
      show leaderK (s.L.map (joinC k t)) key = _ ∧ joinedL (s.L.map (joinC k t)) _ = _
      refine ⟨leader_map fun c hc => ?_, joined_map fun c hc => ?_⟩
      · unfold joinC
        split
        · exact ⟨rfl, rfl⟩
        · exact ⟨rfl, rfl⟩
      · unfold joinC
        split
        · rename_i hi
          refine ⟨rfl, fun e => ?_⟩
          have h1 := h.leader_key hc e
          have h2 := isK_ne hk hi
          unfold isK at h2
          rw [h1.1, h1.2] at h2
          simp at h2
        · exact ⟨rfl, fun _ => rfl⟩
    | false =>
      rw [if_neg (by simp)]
      refine ⟨leader_more ?_, joined_more ?_⟩
      · have : (k == key) = false := by simpa using hk
        unfold isK
        rw [this]; rfl
      · show t ≠ _
        intro e
        rcases h.leader_is key with ⟨e1, _⟩ | ⟨d, hd, _, _, e1⟩
        · omega
        · have := leads_iff.2 (List.mem_map.2 ⟨d, hd, rfl⟩)
          rw [← e1, ← e, hf.1] at this
          cases this
  · rw [if_neg he]
    exact ⟨rfl, rfl⟩
theorem apart_forget (hk : k ≠ key) (s : St) : leaderK (fgS s k).L key = leaderK s.L key ∧ joinedL (fgS s k).L (leaderK s.L key) = joinedL s.L (leaderK s.L key) := by
  show leaderK (s.L.map (goneC k)) key = _ ∧ joinedL (s.L.map (goneC k)) _ = _
  refine ⟨leader_map fun c hc => ?_, joined_map fun c hc => ?_⟩
  · unfold goneC
    split
    · rename_i hi
      refine ⟨?_, rfl⟩
      rw [isK_ne hk hi]
      unfold isK
      simp
    · exact ⟨rfl, rfl⟩
  · unfold goneC
    split
    · exact ⟨rfl, fun _ => rfl⟩
    · exact ⟨rfl, fun _ => rfl⟩
theorem apart_fin (h : Ok s) (hk : leadsB s.L t = false ∨ leadsK s.L t ≠ key) : leaderK (finS s t).L key = leaderK s.L key ∧ joinedL (finS s t).L (leaderK s.L key) = joinedL s.L (leaderK s.L key) := by
  unfold finS
  by_cases he : finE s t = 0
  · rw [if_pos he]
    have hl : leadsB s.L t = true := by
      rcases fin_errs s t with ⟨e, _⟩ | ⟨e, _⟩ | ⟨_, _, h1⟩
      · omega
      · omega
      · exact h1
    have hne : leadsK s.L t ≠ key := by
      rcases hk with hk | hk
      · rw [hl] at hk; cases hk
      · exact hk
    obtain ⟨A, c, B, e, hc, hA, hB⟩ := h.split_lead hl
    have hck : leadsK s.L t = c.k := by rw [e]; exact (lead_at hc hA).2
    have hcm : c ∈ s.L := by rw [e]; simp
    have hno : ∀ d ∈ s.L, d.t = t → isK key d = false := by
      intro d hd hdt
      have := h.lead_one hd hcm (by omega)
      subst this
      have : (d.k == key) = false := by rw [← hck]; simpa using hne
      unfold isK
      rw [this]; rfl
    refine ⟨leader_filter hno, joined_filter ?_⟩
    intro e1
    have h1 := h.leader_key (key := key) hcm (by omega)
    exact hne (by omega)
  · rw [if_neg he]
    exact ⟨rfl, rfl⟩
theorem apart_leave (h : Ok s) (hj : leaderK s.L key < 0 ∨ joinsT s.L t ≠ leaderK s.L key) : leaderK (lvS s t).L key = leaderK s.L key ∧ joinedL (lvS s t).L (leaderK s.L key) = joinedL s.L (leaderK s.L key) := by
  show leaderK (s.L.map (lvC t)) key = _ ∧ joinedL (s.L.map (lvC t)) _ = _
  refine ⟨leader_map fun c hc => ⟨rfl, rfl⟩, joined_map fun c hc => ⟨rfl, fun e => ?_⟩⟩
  refine without_id fun hm => ?_
  have hw : waitsJ s.L t = true := waits_iff.2 (List.mem_flatMap.2 ⟨c, hc, hm⟩)
  obtain ⟨A, d, B, eL, hd, hA, hB⟩ := h.split_join hw
  have hT : hasJ t c = true := by unfold hasJ inL; exact decide_eq_true hm
  have hdc : c = d := by
    have hc' := hc
    rw [eL] at hc'
    rcases List.mem_append.1 hc' with h1 | h1
    · rw [hA c h1] at hT; cases hT
    · rcases List.mem_cons.1 h1 with h1 | h1
      · exact h1
      · rw [hB c h1] at hT; cases hT
  subst hdc
  have h2 := joins_at (A := A) (B := B) hd hA
  rw [← eL] at h2
  have := h.t_of hc
  omega
end
end Go.Proofs.Ytbkeodjebfkkdaa.FlightP
