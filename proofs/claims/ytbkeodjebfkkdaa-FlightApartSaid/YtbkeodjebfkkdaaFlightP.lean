/-
  Calls that several ask for, as plain mathematics (layer 15): who leads each, its key, was it forgotten, who joins it; how many tasks there are. No condition.
-/
import Derived.Test.YtbkeodjebfkkdaaMutP
namespace Go.Proofs.Ytbkeodjebfkkdaa.FlightP
open Go.ChangeShapes Go.WideShapes Go.ChangeAt Go.RowKit Mem MutP

structure Call where
  t : Int
  k : Int
  g : Bool
  j : List Int
structure St where
  L : List Call
  N : Int
def newS (n : Int) : St := ⟨[], n⟩
/-- Is it the call of that key? -/
def isK (k : Int) (c : Call) : Bool := (c.k == k) && !c.g
def isT (t : Int) (c : Call) : Bool := c.t == t
def hasJ (t : Int) (c : Call) : Bool := inL c.j t
/-- The place of the first such one; the length of all, if there is none. -/
def atK (L : List Call) (k : Int) : Nat := L.findIdx (isK k)
def atT (L : List Call) (t : Int) : Nat := L.findIdx (isT t)
def atJ (L : List Call) (t : Int) : Nat := L.findIdx (hasJ t)
def placeI (L : List Call) (i : Nat) : Int := if i < L.length then i else -1
def leaderK (L : List Call) (k : Int) : Int := ((L.find? (isK k)).map Call.t).getD (-1)
def joinsT (L : List Call) (t : Int) : Int := ((L.find? (hasJ t)).map Call.t).getD (-1)
def leadsB (L : List Call) (t : Int) : Bool := L.any (isT t)
def leadsK (L : List Call) (t : Int) : Int := ((L.find? (isT t)).map Call.k).getD 0
def joinedL (L : List Call) (t : Int) : List Int := ((L.find? (isT t)).map Call.j).getD []
def waitsJ (L : List Call) (t : Int) : Bool := L.any (hasJ t)
def anyK (L : List Call) (k : Int) : Bool := L.any (isK k)

def doE (s : St) (t : Int) : Int := if nameM s.N t = false then 3 else if waitsJ s.L t = true then 6 else if leadsB s.L t = true then 4 else 0
def joinC (k t : Int) (c : Call) : Call := if isK k c = true then { c with j := c.j ++ [t] } else c
def doV (s : St) (t k : Int) : Int := if doE s t = 0 then (if anyK s.L k = true then leaderK s.L k else t) else -1
def doS (s : St) (t k : Int) : St := if doE s t = 0 then (if anyK s.L k = true then { s with L := s.L.map (joinC k t) } else { s with L := s.L ++ [⟨t, k, false, []⟩] }) else s
def finE (s : St) (t : Int) : Int := if nameM s.N t = false then 3 else if leadsB s.L t = true then 0 else 4
def finL (s : St) (t : Int) : List Int := if finE s t = 0 then joinedL s.L t else []
def finS (s : St) (t : Int) : St := if finE s t = 0 then { s with L := s.L.filter fun c => !isT t c } else s
def goneC (k : Int) (c : Call) : Call := if isK k c = true then { c with g := true } else c
def fgS (s : St) (k : Int) : St := { s with L := s.L.map (goneC k) }
def lvC (t : Int) (c : Call) : Call := { c with j := withoutL c.j t }
def lvS (s : St) (t : Int) : St := { s with L := s.L.map (lvC t) }

/-- All who do something. -/
def allT (L : List Call) : List Int := L.map Call.t ++ L.flatMap Call.j
/-- What may be. -/
structure Ok (s : St) : Prop where
  n0 : 1 ≤ s.N
  n1 : s.N ≤ 1000
  ts : ∀ x ∈ allT s.L, 0 ≤ x ∧ x < s.N
  ks : ∀ c ∈ s.L, -9223372036854775808 ≤ c.k ∧ c.k ≤ 9223372036854775807
  once : (allT s.L).Nodup
  keys : ((s.L.filter fun c => !c.g).map Call.k).Nodup
theorem Ok.len {s : St} (h : Ok s) : (allT s.L).length ≤ 1000 := by
  have h0 := h.n0
  have h1 := h.n1
  have := len_of_ids s.N.toNat (allT s.L) h.once fun x hx => by have := h.ts x hx; omega
  omega
theorem Ok.new {n : Int} (h0 : 1 ≤ n) (h1 : n ≤ 1000) : Ok (newS n) := ⟨h0, h1, (fun x h => by cases h), (fun x h => by cases h), .nil, .nil⟩
theorem leads_iff {L : List Call} {t : Int} : leadsB L t = true ↔ t ∈ L.map Call.t := by
  unfold leadsB isT
  rw [List.any_eq_true, List.mem_map]
  exact ⟨fun ⟨c, h, e⟩ => ⟨c, h, by simpa using e⟩, fun ⟨c, h, e⟩ => ⟨c, h, by simpa using e⟩⟩
theorem waits_iff {L : List Call} {t : Int} : waitsJ L t = true ↔ t ∈ L.flatMap Call.j := by
  unfold waitsJ hasJ inL
  rw [List.any_eq_true, List.mem_flatMap]
  exact ⟨fun ⟨c, h, e⟩ => ⟨c, h, by simpa using e⟩, fun ⟨c, h, e⟩ => ⟨c, h, by simpa using e⟩⟩
theorem any_iff {L : List Call} {k : Int} : anyK L k = true ↔ k ∈ (L.filter fun c => !c.g).map Call.k := by
  unfold anyK isK
  rw [List.any_eq_true, List.mem_map]
  constructor
  · rintro ⟨c, h, e⟩
    rw [Bool.and_eq_true] at e
    exact ⟨c, List.mem_filter.2 ⟨h, e.2⟩, by simpa using e.1⟩
  · rintro ⟨c, h, e⟩
    obtain ⟨h1, h2⟩ := List.mem_filter.1 h
    exact ⟨c, h1, by rw [Bool.and_eq_true]; exact ⟨by simpa using e, h2⟩⟩
theorem do_errs (s : St) (t : Int) :
    (doE s t = 3 ∧ nameM s.N t = false) ∨ (doE s t = 6 ∧ nameM s.N t = true ∧ waitsJ s.L t = true) ∨ (doE s t = 4 ∧ nameM s.N t = true ∧ waitsJ s.L t = false ∧ leadsB s.L t = true) ∨ (doE s t = 0 ∧ nameM s.N t = true ∧ waitsJ s.L t = false ∧ leadsB s.L t = false) := by
  unfold doE
  by_cases h1 : nameM s.N t = false
  · rw [if_pos h1]; exact .inl ⟨rfl, h1⟩
  · have h1' : nameM s.N t = true := by simpa using h1
    rw [if_neg h1]
    by_cases h2 : waitsJ s.L t = true
    · rw [if_pos h2]; exact .inr (.inl ⟨rfl, h1', h2⟩)
    · have h2' : waitsJ s.L t = false := by simpa using h2
      rw [if_neg h2]
      by_cases h3 : leadsB s.L t = true
      · rw [if_pos h3]; exact .inr (.inr (.inl ⟨rfl, h1', h2', h3⟩))
      · rw [if_neg h3]; exact .inr (.inr (.inr ⟨rfl, h1', h2', by simpa using h3⟩))
theorem fin_errs (s : St) (t : Int) :
    (finE s t = 3 ∧ nameM s.N t = false) ∨ (finE s t = 4 ∧ nameM s.N t = true ∧ leadsB s.L t = false) ∨ (finE s t = 0 ∧ nameM s.N t = true ∧ leadsB s.L t = true) := by
  unfold finE
  by_cases h1 : nameM s.N t = false
  · rw [if_pos h1]; exact .inl ⟨rfl, h1⟩
  · have h1' : nameM s.N t = true := by simpa using h1
    rw [if_neg h1]
    by_cases h3 : leadsB s.L t = true
    · rw [if_pos h3]; exact .inr (.inr ⟨rfl, h1', h3⟩)
    · rw [if_neg h3]; exact .inr (.inl ⟨rfl, h1', by simpa using h3⟩)

theorem filter_all (L : List Call) : (L.filter fun _ => true) = L := List.filter_eq_self.2 fun _ _ => rfl
/-- A list, taken apart at the only one of a kind. -/
theorem split_one {L : List Call} {p : Call → Bool} {f : Call → Bool} (hn : (L.filter f).Pairwise fun a b => ¬ (p a = true ∧ p b = true)) (hp : ∀ c, p c = true → f c = true) (h : L.any p = true) :
    ∃ A c B, L = A ++ c :: B ∧ p c = true ∧ (∀ a ∈ A, p a = false) ∧ ∀ b ∈ B, p b = false := by
  induction L with
  | nil => cases h
  | cons c L ih =>
    by_cases hc : p c = true
    · refine ⟨[], c, L, rfl, hc, (fun a h => by cases h), fun b hb => ?_⟩
      rw [List.filter_cons, if_pos (hp c hc), List.pairwise_cons] at hn
      by_cases hpb : p b = true
      · exact absurd ⟨hc, hpb⟩ (hn.1 b (List.mem_filter.2 ⟨hb, hp b hpb⟩))
      · simpa using hpb
    · have hc' : p c = false := by simpa using hc
      rw [List.any_cons, hc', Bool.false_or] at h
      have hn' : (L.filter f).Pairwise fun a b => ¬ (p a = true ∧ p b = true) := by
        rw [List.filter_cons] at hn
        split at hn
        · exact (List.pairwise_cons.1 hn).2
        · exact hn
      obtain ⟨A, x, B, rfl, hx, hA, hB⟩ := ih hn' h
      exact ⟨c :: A, x, B, rfl, hx, fun a ha => by
        rcases List.mem_cons.1 ha with rfl | ha
        · exact hc'
        · exact hA a ha, hB⟩
theorem Ok.split_key {s : St} (h : Ok s) {k : Int} (hk : anyK s.L k = true) : ∃ A c B, s.L = A ++ c :: B ∧ (c.k = k ∧ c.g = false) ∧ (∀ a ∈ A, isK k a = false) ∧ ∀ b ∈ B, isK k b = false := by
  have hp : (s.L.filter fun c => !c.g).Pairwise fun a b => ¬ (isK k a = true ∧ isK k b = true) := by
    have h1 := h.keys
    rw [List.nodup_iff_pairwise_ne, List.pairwise_map] at h1
    refine h1.imp fun {a b} hne => ?_
    rintro ⟨ha, hb⟩
    unfold isK at ha hb
    simp only [Bool.and_eq_true, beq_iff_eq] at ha hb
    exact hne (ha.1.trans hb.1.symm)
  obtain ⟨A, c, B, e, hc, hA, hB⟩ := split_one (p := isK k) (f := fun c => !c.g) hp (fun c hc => by unfold isK at hc; rw [Bool.and_eq_true] at hc; exact hc.2) hk
  unfold isK at hc
  simp only [Bool.and_eq_true, beq_iff_eq, Bool.not_eq_true'] at hc
  exact ⟨A, c, B, e, hc, hA, hB⟩
theorem Ok.split_lead {s : St} (h : Ok s) {t : Int} (ht : leadsB s.L t = true) : ∃ A c B, s.L = A ++ c :: B ∧ c.t = t ∧ (∀ a ∈ A, isT t a = false) ∧ ∀ b ∈ B, isT t b = false := by
  have hn : (s.L.map Call.t).Nodup := (List.nodup_append.1 h.once).1
  have hp : (s.L.filter fun _ => true).Pairwise fun a b => ¬ (isT t a = true ∧ isT t b = true) := by
    rw [filter_all]
    rw [List.nodup_iff_pairwise_ne, List.pairwise_map] at hn
    refine hn.imp fun {a b} hne => ?_
    rintro ⟨ha, hb⟩
    unfold isT at ha hb
    simp only [beq_iff_eq] at ha hb
    exact hne (ha.trans hb.symm)
  obtain ⟨A, c, B, e, hc, hA, hB⟩ := split_one (p := isT t) (f := fun _ => true) hp (fun _ _ => rfl) ht
  exact ⟨A, c, B, e, by simpa [isT] using hc, hA, hB⟩
theorem nodup_flat {L : List Call} {p : Call → Bool} {t : Int} (hp : ∀ c, p c = hasJ t c) : (L.flatMap Call.j).Nodup → L.Pairwise fun a b => ¬ (p a = true ∧ p b = true) := by
  induction L with
  | nil => intro _; exact .nil
  | cons c L ih =>
    intro h
    rw [List.flatMap_cons, List.nodup_append] at h
    refine List.pairwise_cons.2 ⟨fun b hb => ?_, ih h.2.1⟩
    rintro ⟨h1, h2⟩
    rw [hp] at h1 h2
    unfold hasJ inL at h1 h2
    simp only [decide_eq_true_eq] at h1 h2
    exact h.2.2 t h1 t (List.mem_flatMap.2 ⟨b, hb, h2⟩) rfl
theorem Ok.split_join {s : St} (h : Ok s) {t : Int} (ht : waitsJ s.L t = true) : ∃ A c B, s.L = A ++ c :: B ∧ t ∈ c.j ∧ (∀ a ∈ A, hasJ t a = false) ∧ ∀ b ∈ B, hasJ t b = false := by
  have hn : (s.L.flatMap Call.j).Nodup := (List.nodup_append.1 h.once).2.1
  have hp : (s.L.filter fun _ => true).Pairwise fun a b => ¬ (hasJ t a = true ∧ hasJ t b = true) := by
    rw [filter_all]
    exact nodup_flat (fun _ => rfl) hn
  obtain ⟨A, c, B, e, hc, hA, hB⟩ := split_one (p := hasJ t) (f := fun _ => true) hp (fun _ _ => rfl) ht
  exact ⟨A, c, B, e, by unfold hasJ inL at hc; simpa using hc, hA, hB⟩

section
variable {A B : List Call} {c : Call} {k t : Int}
theorem map_id_of {f : Call → Call} : ∀ {L : List Call}, (∀ a ∈ L, f a = a) → L.map f = L
  | [], _ => rfl
  | a :: L, h => by rw [List.map_cons, h a (List.mem_cons_self ..), map_id_of fun b hb => h b (List.mem_cons_of_mem _ hb)]
theorem join_at (hc : c.k = k ∧ c.g = false) (hA : ∀ a ∈ A, isK k a = false) (hB : ∀ b ∈ B, isK k b = false) : (A ++ c :: B).map (joinC k t) = A ++ { c with j := c.j ++ [t] } :: B := by
  have h1 : ∀ {M : List Call}, (∀ a ∈ M, isK k a = false) → M.map (joinC k t) = M := fun h => map_id_of fun a ha => by unfold joinC; rw [if_neg (by rw [h a ha]; simp)]
  rw [List.map_append, List.map_cons, h1 hA, h1 hB]
  congr 2
  unfold joinC
  rw [if_pos (by unfold isK; rw [hc.1, hc.2]; simp)]
theorem gone_at (hc : c.k = k ∧ c.g = false) (hA : ∀ a ∈ A, isK k a = false) (hB : ∀ b ∈ B, isK k b = false) : (A ++ c :: B).map (goneC k) = A ++ { c with g := true } :: B := by
  have h1 : ∀ {M : List Call}, (∀ a ∈ M, isK k a = false) → M.map (goneC k) = M := fun h => map_id_of fun a ha => by unfold goneC; rw [if_neg (by rw [h a ha]; simp)]
  rw [List.map_append, List.map_cons, h1 hA, h1 hB]
  congr 2
  unfold goneC
  rw [if_pos (by unfold isK; rw [hc.1, hc.2]; simp)]
theorem without_id {W : List Int} {t : Int} (h : t ∉ W) : withoutL W t = W := by
  unfold withoutL
  refine List.filter_eq_self.2 fun x hx => ?_
  simp only [ne_eq, decide_eq_true_eq]
  rintro rfl
  exact h hx
theorem lv_id {L : List Call} (h : ∀ a ∈ L, hasJ t a = false) : L.map (lvC t) = L := map_id_of fun a ha => by
  have h1 := h a ha
  unfold hasJ inL at h1
  unfold lvC
  rw [without_id (by simpa using h1)]
theorem lv_at (hA : ∀ a ∈ A, hasJ t a = false) (hB : ∀ b ∈ B, hasJ t b = false) : (A ++ c :: B).map (lvC t) = A ++ { c with j := withoutL c.j t } :: B := by
  rw [List.map_append, List.map_cons, lv_id hA, lv_id hB]
  rfl
theorem fin_at (hc : c.t = t) (hA : ∀ a ∈ A, isT t a = false) (hB : ∀ b ∈ B, isT t b = false) : ((A ++ c :: B).filter fun c => !isT t c) = A ++ B := by
  have h1 : ∀ {M : List Call}, (∀ a ∈ M, isT t a = false) → (M.filter fun c => !isT t c) = M := fun h => List.filter_eq_self.2 fun a ha => by rw [h a ha]; rfl
  rw [List.filter_append, List.filter_cons, if_neg (by unfold isT; rw [hc]; simp), h1 hA, h1 hB]
theorem find_at {p : Call → Bool} (hc : p c = true) (hA : ∀ a ∈ A, p a = false) : (A ++ c :: B).find? p = some c := by
  rw [List.find?_append, List.find?_eq_none.2 fun a ha => by rw [hA a ha]; simp]
  simp [hc]
theorem find_no {p : Call → Bool} {L : List Call} (h : L.any p = false) : L.find? p = none := by
  rw [List.find?_eq_none]
  intro a ha hp
  rw [List.any_eq_false] at h
  exact h a ha hp
theorem leader_at (hc : c.k = k ∧ c.g = false) (hA : ∀ a ∈ A, isK k a = false) : leaderK (A ++ c :: B) k = c.t := by
  unfold leaderK
  rw [find_at (by unfold isK; rw [hc.1, hc.2]; simp) hA]
  rfl
theorem lead_at (hc : c.t = t) (hA : ∀ a ∈ A, isT t a = false) : joinedL (A ++ c :: B) t = c.j ∧ leadsK (A ++ c :: B) t = c.k := by
  unfold joinedL leadsK
  rw [find_at (by unfold isT; rw [hc]; simp) hA]
  exact ⟨rfl, rfl⟩
theorem joins_at (hc : t ∈ c.j) (hA : ∀ a ∈ A, hasJ t a = false) : joinsT (A ++ c :: B) t = c.t := by
  unfold joinsT
  rw [find_at (by unfold hasJ inL; simpa using hc) hA]
  rfl
theorem leader_no {L : List Call} (h : anyK L k = false) : leaderK L k = -1 := by unfold leaderK; rw [find_no h]; rfl
theorem lead_no {L : List Call} (h : leadsB L t = false) : joinedL L t = [] ∧ leadsK L t = 0 := by unfold joinedL leadsK; rw [find_no h]; exact ⟨rfl, rfl⟩
theorem joins_no {L : List Call} (h : waitsJ L t = false) : joinsT L t = -1 := by unfold joinsT; rw [find_no h]; rfl
theorem lv_no {s : St} (h : waitsJ s.L t = false) : lvS s t = s := by
  unfold lvS
  rw [lv_id fun a ha => by
    unfold waitsJ at h
    rw [List.any_eq_false] at h
    simpa using h a ha]
theorem gone_no {s : St} (h : anyK s.L k = false) : fgS s k = s := by
  unfold fgS
  rw [map_id_of fun a ha => by
    unfold anyK at h
    rw [List.any_eq_false] at h
    unfold goneC
    rw [if_neg (h a ha)]]
/-- Who does something, taken apart at one call. -/
theorem all_at : (allT (A ++ c :: B)).Perm (c.j ++ (c.t :: allT (A ++ B))) := by
  unfold allT
  rw [List.map_append, List.map_cons, List.flatMap_append, List.flatMap_cons, List.map_append, List.flatMap_append]
  have h0 : (List.flatMap Call.j A ++ (c.j ++ List.flatMap Call.j B)).Perm (c.j ++ (List.flatMap Call.j A ++ List.flatMap Call.j B)) := List.perm_append_comm_assoc ..
  have h1 : (List.map Call.t A ++ c.t :: List.map Call.t B ++ (List.flatMap Call.j A ++ (c.j ++ List.flatMap Call.j B))).Perm (c.t :: (List.map Call.t A ++ List.map Call.t B) ++ (c.j ++ (List.flatMap Call.j A ++ List.flatMap Call.j B))) := List.Perm.append List.perm_middle h0
  exact h1.trans (List.perm_append_comm_assoc ..)
end
theorem Ok.of_at {s : St} {A B : List Call} {c c' : Call} (h : Ok s) (e : s.L = A ++ c :: B) (ht : c'.t = c.t) (hk : c'.k = c.k) (hg : c.g = true → c'.g = true) (hj : (c'.j ++ (c.t :: allT (A ++ B))).Nodup) (hm : ∀ x ∈ c'.j, 0 ≤ x ∧ x < s.N) : Ok { s with L := A ++ c' :: B } := by
  have h1 := h.ts
  have h2 := h.ks
  have h3 := h.once
  have h4 := h.keys
  rw [e] at h1 h2 h3 h4
  refine ⟨h.n0, h.n1, fun x hx => ?_, fun d hd => ?_, ?_, ?_⟩
  · have hx := all_at.mem_iff.1 hx
    rw [ht] at hx
    rcases List.mem_append.1 hx with hx | hx
    · exact hm x hx
    · exact h1 x (all_at.mem_iff.2 (List.mem_append.2 (.inr hx)))
  · rcases List.mem_append.1 hd with hd | hd
    · exact h2 d (List.mem_append.2 (.inl hd))
    · rcases List.mem_cons.1 hd with rfl | hd
      · rw [hk]; exact h2 c (by simp)
      · exact h2 d (by simp [hd])
  · refine all_at.nodup_iff.2 ?_
    rw [ht]
    exact hj
  · rw [List.filter_append, List.filter_cons, List.map_append] at h4 ⊢
    cases hcg : c.g with
    | true =>
      have := hg hcg
      rw [hcg] at h4
      rw [this]
      exact h4
    | false =>
      rw [hcg] at h4
      have h4 : ((A.filter fun c => !c.g).map Call.k ++ c.k :: (B.filter fun c => !c.g).map Call.k).Nodup := h4
      cases hcg' : c'.g with
      | true => exact h4.sublist ((List.sublist_cons_self ..).append_left _)
      | false =>
        show ((A.filter fun c => !c.g).map Call.k ++ c'.k :: (B.filter fun c => !c.g).map Call.k).Nodup
        rw [hk]
        exact h4
theorem Ok.doit {s : St} (h : Ok s) (t : Int) {k : Int} (hk : In64 k) : Ok (doS s t k) := by
  unfold doS
  by_cases he : doE s t = 0
  · rw [if_pos he]
    have hz : (0 ≤ t ∧ t < s.N) ∧ t ∉ allT s.L := by
      rcases do_errs s t with ⟨e, _⟩ | ⟨e, _⟩ | ⟨e, _⟩ | ⟨_, h1, h2, h3⟩
      · omega
      · omega
      · omega
      · refine ⟨name_iff.1 h1, fun hm => ?_⟩
        rcases List.mem_append.1 hm with hm | hm
        · rw [leads_iff.2 hm] at h3; cases h3
        · rw [waits_iff.2 hm] at h2; cases h2
    cases hany : anyK s.L k with
    | true =>
      rw [if_pos rfl]
      obtain ⟨A, c, B, e, hc, hA, hB⟩ := h.split_key hany
      rw [e, join_at hc hA hB]
      have h3 := h.once
      have h1 := h.ts
      rw [e] at h3 h1 hz
      refine h.of_at e rfl rfl (fun h => h) ?_ fun x hx => ?_
      · have h5 := all_at.nodup_iff.1 h3
        have h6 : t ∉ c.j ++ (c.t :: allT (A ++ B)) := fun hm => hz.2 (all_at.mem_iff.2 hm)
        have hp : (t :: (c.j ++ (c.t :: allT (A ++ B)))).Perm ((c.j ++ [t]) ++ (c.t :: allT (A ++ B))) := by
          rw [List.append_assoc]
          exact List.perm_middle.symm
        exact hp.nodup_iff.1 (List.nodup_cons.2 ⟨h6, h5⟩)
      · rcases List.mem_append.1 hx with hx | hx
        · exact h1 x (all_at.mem_iff.2 (List.mem_append.2 (.inl hx)))
        · rw [List.mem_singleton] at hx; subst hx; exact hz.1
    | false =>
      rw [if_neg (by simp)]
      have hp : (allT (s.L ++ [⟨t, k, false, []⟩])).Perm (t :: allT s.L) := by
        have h1 := all_at (A := s.L) (c := ⟨t, k, false, []⟩) (B := [])
        rw [List.append_nil] at h1
        exact h1
      refine ⟨h.n0, h.n1, fun x hx => ?_, fun d hd => ?_, hp.nodup_iff.2 (List.nodup_cons.2 ⟨hz.2, h.once⟩), ?_⟩
      · rcases List.mem_cons.1 (hp.mem_iff.1 hx) with rfl | hx
        · exact hz.1
        · exact h.ts x hx
      · rcases List.mem_append.1 hd with hd | hd
        · exact h.ks d hd
        · rw [List.mem_singleton] at hd; subst hd; exact hk
      · show (((s.L ++ [(⟨t, k, false, []⟩ : Call)]).filter fun c => !c.g).map Call.k).Nodup
        rw [List.filter_append, List.map_append, List.nodup_append]
        refine ⟨h.keys, by simp, fun a ha b hb => ?_⟩
        have hb : b = k := by simpa using hb
        subst hb
        rintro rfl
        rw [any_iff.2 ha] at hany
        cases hany
  · rw [if_neg he]
    exact h
theorem Ok.fin {s : St} (h : Ok s) (t : Int) : Ok (finS s t) := by
  unfold finS
  by_cases he : finE s t = 0
  · rw [if_pos he]
    have hl : leadsB s.L t = true := by
      rcases fin_errs s t with ⟨e, _⟩ | ⟨e, _⟩ | ⟨_, _, h1⟩
      · omega
      · omega
      · exact h1
    obtain ⟨A, c, B, e, hc, hA, hB⟩ := h.split_lead hl
    rw [e, fin_at hc hA hB]
    have h1 := h.ts
    have h2 := h.ks
    have h3 := h.once
    have h4 := h.keys
    rw [e] at h1 h2 h3 h4
    have h5 := all_at.nodup_iff.1 h3
    have h6 := (List.nodup_cons.1 (List.nodup_append.1 h5).2.1).2
    refine ⟨h.n0, h.n1, fun x hx => h1 x (all_at.mem_iff.2 (List.mem_append.2 (.inr (List.mem_cons_of_mem _ hx)))), fun d hd => h2 d ?_, h6, ?_⟩
    · rcases List.mem_append.1 hd with hd | hd
      · exact List.mem_append.2 (.inl hd)
      · exact List.mem_append.2 (.inr (List.mem_cons_of_mem _ hd))
    · refine h4.sublist ?_
      exact (((List.sublist_cons_self c B).append_left A).filter _).map _
  · rw [if_neg he]
    exact h
theorem Ok.forget {s : St} (h : Ok s) (k : Int) : Ok (fgS s k) := by
  cases hany : anyK s.L k with
  | false => rw [gone_no hany]; exact h
  | true =>
    obtain ⟨A, c, B, e, hc, hA, hB⟩ := h.split_key hany
    unfold fgS
    rw [e, gone_at hc hA hB]
    have h1 := h.ts
    have h3 := h.once
    rw [e] at h1 h3
    exact h.of_at e rfl rfl (fun _ => rfl) ((all_at (c := c)).nodup_iff.1 h3) fun x hx => h1 x ((all_at (c := c)).mem_iff.2 (List.mem_append.2 (.inl hx)))
theorem Ok.leave {s : St} (h : Ok s) (t : Int) : Ok (lvS s t) := by
  cases hw : waitsJ s.L t with
  | false => rw [lv_no hw]; exact h
  | true =>
    obtain ⟨A, c, B, e, hc, hA, hB⟩ := h.split_join hw
    unfold lvS
    rw [e, lv_at hA hB]
    have h1 := h.ts
    have h3 := h.once
    rw [e] at h1 h3
    have hs : List.Sublist (withoutL c.j t) c.j := List.filter_sublist
    exact h.of_at e rfl rfl (fun h => h) (((all_at (c := c)).nodup_iff.1 h3).sublist (hs.append_right _)) fun x hx => h1 x ((all_at (c := c)).mem_iff.2 (List.mem_append.2 (.inl (hs.subset hx))))
end Go.Proofs.Ytbkeodjebfkkdaa.FlightP
