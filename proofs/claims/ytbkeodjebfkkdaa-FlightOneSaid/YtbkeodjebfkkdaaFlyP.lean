/-
  What stands in the maps and the rows that package flight keeps (layer 15), as plain mathematics. No condition.
-/
import Derived.Test.YtbkeodjebfkkdaaFlightQ
import Derived.Test.YtbkeodjebfkkdaaFour
import Derived.Test.YtbkeodjebfkkdaaMapF
namespace Go.Proofs.Ytbkeodjebfkkdaa.FlightP
open Go.ChangeShapes Go.WideShapes Go.ChangeAt Go.RowKit Mem MutP Hand

/-- Of each key that has a call: who leads it. -/
def leadF (s : St) : Int → Option Int := fun k => if anyK s.L k = true then some (leaderK s.L k) else none
/-- Of each task that leads a call: its key. -/
def keyF (s : St) : Int → Option Int := fun t => if leadsB s.L t = true then some (leadsK s.L t) else none
/-- Of each task: who joins its call. -/
def rowsF (s : St) : List (List Int) := (List.range s.N.toNat).map fun r => joinedL s.L (r : Nat)
def nL (s : St) : Nat := (s.L.filter fun c => !c.g).length

section
variable {s : St} {k t x : Int}
theorem leadF_get (s : St) (k : Int) : (leadF s k).getD (-1) = leaderK s.L k ∧ (leadF s k).isSome = anyK s.L k := by
  unfold leadF
  cases h : anyK s.L k with
  | true => exact ⟨rfl, rfl⟩
  | false => rw [if_neg (by simp)]; exact ⟨(leader_no h).symm, rfl⟩
theorem keyF_get (s : St) (t : Int) : (keyF s t).getD 0 = leadsK s.L t ∧ (keyF s t).isSome = leadsB s.L t := by
  unfold keyF
  cases h : leadsB s.L t with
  | true => exact ⟨rfl, rfl⟩
  | false => rw [if_neg (by simp)]; exact ⟨(lead_no h).2.symm, rfl⟩
theorem any_map {f : Call → Call} : ∀ {L : List Call}, (∀ c ∈ L, isK k (f c) = isK k c) → anyK (L.map f) k = anyK L k
  | [], _ => rfl
  | c :: L, h => by
    have ih := any_map (f := f) (L := L) fun a ha => h a (List.mem_cons_of_mem _ ha)
    unfold anyK at ih ⊢
    rw [List.map_cons, List.any_cons, List.any_cons, h c (List.mem_cons_self ..), ih]
theorem leads_map {f : Call → Call} : ∀ {L : List Call}, (∀ c ∈ L, (f c).t = c.t ∧ (f c).k = c.k) → leadsB (L.map f) t = leadsB L t ∧ leadsK (L.map f) t = leadsK L t
  | [], _ => ⟨rfl, rfl⟩
  | c :: L, h => by
    obtain ⟨i1, i2⟩ := leads_map (f := f) (L := L) fun a ha => h a (List.mem_cons_of_mem _ ha)
    have h1 := h c (List.mem_cons_self ..)
    have e : isT t (f c) = isT t c := by unfold isT; rw [h1.1]
    unfold leadsB leadsK at *
    rw [List.map_cons, List.any_cons, List.any_cons, List.find?_cons, List.find?_cons, e, i1]
    refine ⟨rfl, ?_⟩
    cases isT t c with
    | true => show (f c).k = c.k; exact h1.2
    | false => exact i2
theorem leads_filter : ∀ {L : List Call}, (x ≠ t → leadsB (L.filter fun c => !isT t c) x = leadsB L x ∧ leadsK (L.filter fun c => !isT t c) x = leadsK L x) ∧ leadsB (L.filter fun c => !isT t c) t = false
  | [] => ⟨fun _ => ⟨rfl, rfl⟩, rfl⟩
  | c :: L => by
    obtain ⟨i1, i2⟩ := leads_filter (L := L)
    cases hc : isT t c with
    | true =>
      rw [List.filter_cons, if_neg (by rw [hc]; simp)]
      refine ⟨fun hx => ?_, i2⟩
      have h2 : isT x c = false := by
        have h3 : c.t = t := by simpa [isT] using hc
        unfold isT
        rw [h3]
        simpa using fun e => hx e.symm
      obtain ⟨j1, j2⟩ := i1 hx
      rw [j1, j2]
      unfold leadsB leadsK
      rw [List.any_cons, List.find?_cons, h2]
      exact ⟨rfl, rfl⟩
    | false =>
      rw [List.filter_cons, if_pos (by rw [hc]; rfl)]
      refine ⟨fun hx => ?_, ?_⟩
      · obtain ⟨j1, j2⟩ := i1 hx
        unfold leadsB leadsK at *
        rw [List.any_cons, List.any_cons, List.find?_cons, List.find?_cons, j1]
        refine ⟨rfl, ?_⟩
        cases isT x c with
        | true => rfl
        | false => exact j2
      · unfold leadsB at *
        rw [List.any_cons, hc, i2]; rfl
theorem any_filter : ∀ {L : List Call}, (∀ c ∈ L, c.t = t → isK k c = false) → anyK (L.filter fun c => !isT t c) k = anyK L k
  | [], _ => rfl
  | c :: L, h => by
    have h1 := h c (List.mem_cons_self ..)
    have ih := any_filter (L := L) fun a ha => h a (List.mem_cons_of_mem _ ha)
    cases hc : isT t c with
    | true =>
      rw [List.filter_cons, if_neg (by rw [hc]; simp), ih]
      unfold anyK
      rw [List.any_cons, h1 (by simpa [isT] using hc)]
      rfl
    | false =>
      rw [List.filter_cons, if_pos (by rw [hc]; rfl)]
      unfold anyK at ih ⊢
      rw [List.any_cons, List.any_cons, ih]

/-! ### a new call -/
theorem new_eq (h0 : doE s t = 0) (hk : anyK s.L k = false) : doS s t k = { s with L := s.L ++ [⟨t, k, false, []⟩] } ∧ doV s t k = t := by
  unfold doS doV
  rw [if_pos h0, if_pos h0, if_neg (by rw [hk]; simp), if_neg (by rw [hk]; simp)]
  exact ⟨rfl, rfl⟩
theorem join_eq (h0 : doE s t = 0) (hk : anyK s.L k = true) : doS s t k = { s with L := s.L.map (joinC k t) } ∧ doV s t k = leaderK s.L k := by
  unfold doS doV
  rw [if_pos h0, if_pos h0, if_pos hk, if_pos hk]
  exact ⟨rfl, rfl⟩
theorem new_lead (hk : anyK s.L k = false) : leadF { s with L := s.L ++ [⟨t, k, false, []⟩] } = updM (leadF s) k (some t) := by
  funext x
  unfold updM leadF
  have e : anyK (s.L ++ [(⟨t, k, false, []⟩ : Call)]) x = (anyK s.L x || (k == x)) := by
    unfold anyK
    rw [List.any_append]
    simp [isK]
  by_cases hx : x = k
  · subst hx
    rw [if_pos rfl]
    show (if anyK (s.L ++ [(⟨t, x, false, []⟩ : Call)]) x = true then _ else _) = _
    rw [e, hk, if_pos (by simp)]
    show some (leaderK (s.L ++ _) x) = _
    have hn : s.L.find? (isK x) = none := by
      unfold anyK at hk
      exact find_no hk
    unfold leaderK
    rw [List.find?_append, hn]
    simp [isK]
  · rw [if_neg hx]
    have hx2 : (k == x) = false := by simpa using fun e => hx e.symm
    show (if anyK (s.L ++ [(⟨t, k, false, []⟩ : Call)]) x = true then some (leaderK (s.L ++ _) x) else none) = _
    rw [e, hx2, Bool.or_false, leader_more (by unfold isK; rw [hx2]; rfl)]
theorem new_key (hl : leadsB s.L t = false) : keyF { s with L := s.L ++ [⟨t, k, false, []⟩] } = updM (keyF s) t (some k) := by
  funext x
  unfold updM keyF
  have e : leadsB (s.L ++ [(⟨t, k, false, []⟩ : Call)]) x = (leadsB s.L x || (t == x)) := by
    unfold leadsB
    rw [List.any_append]
    simp [isT]
  by_cases hx : x = t
  · subst hx
    rw [if_pos rfl]
    show (if leadsB (s.L ++ [(⟨x, k, false, []⟩ : Call)]) x = true then _ else _) = _
    rw [e, hl, if_pos (by simp)]
    show some (leadsK (s.L ++ _) x) = _
    have hn : s.L.find? (isT x) = none := by
      unfold leadsB at hl
      exact find_no hl
    unfold leadsK
    rw [List.find?_append, hn]
    simp [isT]
  · rw [if_neg hx]
    have hx2 : (t == x) = false := by simpa using fun e => hx e.symm
    have hk2 : leadsK (s.L ++ [(⟨t, k, false, []⟩ : Call)]) x = leadsK s.L x := by
      unfold leadsK
      rw [List.find?_append]
      cases s.L.find? (isT x) with
      | none => simp [isT, hx2]
      | some d => rfl
    show (if leadsB (s.L ++ [(⟨t, k, false, []⟩ : Call)]) x = true then some (leadsK (s.L ++ _) x) else none) = _
    rw [e, hx2, Bool.or_false, hk2]
theorem new_joined (hl : leadsB s.L t = false) (r : Int) : joinedL (s.L ++ [(⟨t, k, false, []⟩ : Call)]) r = joinedL s.L r := by
  by_cases hr : t = r
  · subst hr
    have hn : s.L.find? (isT t) = none := by
      unfold leadsB at hl
      exact find_no hl
    unfold joinedL
    rw [List.find?_append, hn]
    simp [isT]
  · exact joined_more hr

/-! ### one joins -/
theorem join_t (c : Call) : (joinC k t c).t = c.t ∧ (joinC k t c).k = c.k ∧ (joinC k t c).g = c.g ∧ ∀ x, isK x (joinC k t c) = isK x c := by
  unfold joinC
  split
  · exact ⟨rfl, rfl, rfl, fun _ => rfl⟩
  · exact ⟨rfl, rfl, rfl, fun _ => rfl⟩
theorem join_lead : leadF { s with L := s.L.map (joinC k t) } = leadF s := by
  funext x
  unfold leadF
  show (if anyK (s.L.map (joinC k t)) x = true then some (leaderK (s.L.map (joinC k t)) x) else none) = _
  rw [any_map fun c _ => (join_t c).2.2.2 x, leader_map fun c _ => ⟨(join_t c).2.2.2 x, (join_t c).1⟩]
theorem join_key : keyF { s with L := s.L.map (joinC k t) } = keyF s := by
  funext x
  unfold keyF
  obtain ⟨e1, e2⟩ := leads_map (t := x) (L := s.L) (f := joinC k t) fun c _ => ⟨(join_t c).1, (join_t c).2.1⟩
  show (if leadsB (s.L.map (joinC k t)) x = true then some (leadsK (s.L.map (joinC k t)) x) else none) = _
  rw [e1, e2]
theorem Ok.join_joined (h : Ok s) (hk : anyK s.L k = true) (r : Int) : joinedL (s.L.map (joinC k t)) r = if r = leaderK s.L k then joinedL s.L r ++ [t] else joinedL s.L r := by
  obtain ⟨A, c, B, e, hc, hA, hB⟩ := h.split_key hk
  have hlk : leaderK s.L k = c.t := by rw [e]; exact leader_at hc hA
  have hcm : c ∈ s.L := by rw [e]; simp
  have hck : isK k c = true := by unfold isK; rw [hc.1, hc.2]; simp
  by_cases hr : r = leaderK s.L k
  · rw [if_pos hr]
    obtain ⟨A', d, B', e', hd, hA', _⟩ := h.split_lead (t := r) (leads_iff.2 (List.mem_map.2 ⟨c, hcm, by omega⟩))
    have hdm : d ∈ s.L := by rw [e']; simp
    have hdc := h.lead_one hdm hcm (by omega)
    subst hdc
    rw [e', (lead_at hd hA').1, List.map_append, List.map_cons, joinC, if_pos hck]
    refine (lead_at (c := { d with j := d.j ++ [t] }) hd fun a ha => ?_).1
    obtain ⟨b, hb, rfl⟩ := List.mem_map.1 ha
    unfold isT
    rw [(join_t b).1]
    exact hA' b hb
  · rw [if_neg hr]
    refine joined_map fun a ha => ⟨(join_t a).1, fun ea => ?_⟩
    unfold joinC
    split
    · rename_i hi
      exfalso
      have h1 : leaderK s.L k = a.t := by
        obtain ⟨A2, d, B2, e2, hd, hA2, hB2⟩ := h.split_key hk
        have hdl : leaderK s.L k = d.t := by rw [e2]; exact leader_at hd hA2
        have : a = d := by
          have ha' := ha
          rw [e2] at ha'
          rcases List.mem_append.1 ha' with h1 | h1
          · rw [hA2 a h1] at hi; cases hi
          · rcases List.mem_cons.1 h1 with h1 | h1
            · exact h1
            · rw [hB2 a h1] at hi; cases hi
        rw [hdl, this]
      omega
    · rfl

/-! ### a call is forgotten -/
theorem fg_lead (s : St) (k : Int) : leadF (fgS s k) = updM (leadF s) k none := by
  funext x
  unfold updM leadF
  by_cases hx : x = k
  · subst hx
    rw [if_pos rfl, if_neg]
    show ¬ anyK (s.L.map (goneC x)) x = true
    rw [Bool.not_eq_true]
    unfold anyK
    rw [List.any_eq_false]
    intro c hc
    obtain ⟨b, _, rfl⟩ := List.mem_map.1 hc
    unfold goneC
    split
    · unfold isK; simp
    · assumption
  · rw [if_neg hx]
    have hg : ∀ c : Call, isK x (goneC k c) = isK x c ∧ (goneC k c).t = c.t := fun c => by
      unfold goneC
      split
      · rename_i hi
        refine ⟨?_, rfl⟩
        rw [isK_ne (fun e => hx e.symm) hi]
        unfold isK
        simp
      · exact ⟨rfl, rfl⟩
    show (if anyK (s.L.map (goneC k)) x = true then some (leaderK (s.L.map (goneC k)) x) else none) = _
    rw [any_map fun c _ => (hg c).1, leader_map fun c _ => hg c]
theorem gone_t (c : Call) : (goneC k c).t = c.t ∧ (goneC k c).k = c.k ∧ (goneC k c).j = c.j := by
  unfold goneC
  split
  · exact ⟨rfl, rfl, rfl⟩
  · exact ⟨rfl, rfl, rfl⟩
theorem fg_key (s : St) (k : Int) : keyF (fgS s k) = keyF s := by
  funext x
  unfold keyF
  obtain ⟨e1, e2⟩ := leads_map (t := x) (L := s.L) (f := goneC k) fun c _ => ⟨(gone_t c).1, (gone_t c).2.1⟩
  show (if leadsB (s.L.map (goneC k)) x = true then some (leadsK (s.L.map (goneC k)) x) else none) = _
  rw [e1, e2]
theorem fg_joined (s : St) (k r : Int) : joinedL (fgS s k).L r = joinedL s.L r := joined_map fun c _ => ⟨(gone_t c).1, fun _ => (gone_t c).2.2⟩

/-! ### one leaves -/
theorem lv_lead (s : St) (t : Int) : leadF (lvS s t) = leadF s := by
  funext x
  unfold leadF
  show (if anyK (s.L.map (lvC t)) x = true then some (leaderK (s.L.map (lvC t)) x) else none) = _
  rw [any_map (f := lvC t) fun c _ => rfl, leader_map (f := lvC t) fun c _ => ⟨rfl, rfl⟩]
theorem lv_key (s : St) (t : Int) : keyF (lvS s t) = keyF s := by
  funext x
  unfold keyF
  obtain ⟨e1, e2⟩ := leads_map (t := x) (L := s.L) (f := lvC t) fun c _ => ⟨rfl, rfl⟩
  show (if leadsB (s.L.map (lvC t)) x = true then some (leadsK (s.L.map (lvC t)) x) else none) = _
  rw [e1, e2]
theorem lv_joined (t r : Int) : ∀ (L : List Call), joinedL (L.map (lvC t)) r = withoutL (joinedL L r) t
  | [] => rfl
  | c :: L => by
    have ih := lv_joined t r L
    have e : isT r (lvC t c) = isT r c := rfl
    unfold joinedL at ih ⊢
    rw [List.map_cons, List.find?_cons, List.find?_cons, e]
    cases isT r c with
    | true => rfl
    | false => exact ih

/-! ### a call is over -/
theorem fin_eq (h0 : finE s t = 0) : finS s t = { s with L := s.L.filter fun c => !isT t c } ∧ finL s t = joinedL s.L t := by
  unfold finS finL
  rw [if_pos h0, if_pos h0]
  exact ⟨rfl, rfl⟩
theorem fin_key (s : St) (t : Int) : keyF { s with L := s.L.filter fun c => !isT t c } = updM (keyF s) t none := by
  funext x
  unfold updM keyF
  obtain ⟨e1, e2⟩ := leads_filter (x := x) (t := t) (L := s.L)
  by_cases hx : x = t
  · subst hx
    rw [if_pos rfl, if_neg]
    show ¬ leadsB (s.L.filter fun c => !isT x c) x = true
    rw [e2]; simp
  · rw [if_neg hx]
    obtain ⟨h1, h2⟩ := e1 hx
    show (if leadsB (s.L.filter fun c => !isT t c) x = true then some (leadsK (s.L.filter fun c => !isT t c) x) else none) = _
    rw [h1, h2]
theorem Ok.fin_lead (h : Ok s) (hl : leadsB s.L t = true) : leadF { s with L := s.L.filter fun c => !isT t c } = if leaderK s.L (leadsK s.L t) = t then updM (leadF s) (leadsK s.L t) none else leadF s := by
  obtain ⟨A, c, B, e, hc, hA, hB⟩ := h.split_lead hl
  have hcm : c ∈ s.L := by rw [e]; simp
  have hck : leadsK s.L t = c.k := by rw [e]; exact (lead_at hc hA).2
  have hone : ∀ d ∈ s.L, d.t = t → d = c := fun d hd hdt => h.lead_one hd hcm (by omega)
  have hoth : ∀ x, (∀ d ∈ s.L, d.t = t → isK x d = false) → leadF { s with L := s.L.filter fun c => !isT t c } x = leadF s x := fun x hx => by
    unfold leadF
    show (if anyK (s.L.filter fun c => !isT t c) x = true then some (leaderK (s.L.filter fun c => !isT t c) x) else none) = _
    rw [any_filter hx, leader_filter hx]
  by_cases hq : leaderK s.L (leadsK s.L t) = t
  · rw [if_pos hq]
    funext x
    unfold updM
    by_cases hx : x = leadsK s.L t
    · subst hx
      rw [if_pos rfl]
      unfold leadF
      rw [if_neg]
      show ¬ anyK (s.L.filter fun c => !isT t c) (leadsK s.L t) = true
      rw [Bool.not_eq_true]
      unfold anyK
      rw [List.any_eq_false]
      intro d hd hdk
      obtain ⟨hd1, hd2⟩ := List.mem_filter.1 hd
      have hany : anyK s.L (leadsK s.L t) = true := by unfold anyK; exact List.any_eq_true.2 ⟨d, hd1, hdk⟩
      obtain ⟨A2, f, B2, e2, hf, hA2, hB2⟩ := h.split_key hany
      have hfl : leaderK s.L (leadsK s.L t) = f.t := by
        have h5 := leader_at (B := B2) hf hA2
        rw [← e2] at h5
        exact h5
      have hdf : d = f := by
        rw [e2] at hd1
        rcases List.mem_append.1 hd1 with h1 | h1
        · rw [hA2 d h1] at hdk; cases hdk
        · rcases List.mem_cons.1 h1 with h1 | h1
          · exact h1
          · rw [hB2 d h1] at hdk; cases hdk
      have hdt : isT t d = true := by unfold isT; rw [hdf, ← hfl, hq]; simp
      rw [hdt] at hd2
      cases hd2
    · rw [if_neg hx]
      refine hoth x fun d hd hdt => ?_
      rw [hone d hd hdt]
      have : (c.k == x) = false := by rw [← hck]; simpa using fun e => hx e.symm
      unfold isK
      rw [this]; rfl
  · rw [if_neg hq]
    funext x
    refine hoth x fun d hd hdt => ?_
    rw [hone d hd hdt]
    cases hi : isK x c with
    | false => rfl
    | true =>
      exfalso
      have hi2 := hi
      unfold isK at hi2
      simp only [Bool.and_eq_true, beq_iff_eq, Bool.not_eq_true'] at hi2
      rcases h.leader_is c.k with ⟨_, hno⟩ | ⟨f, hf, h1, h2, h3⟩
      · have := hno c hcm
        unfold isK at this
        rw [hi2.2] at this
        simp at this
      · have hfc : f = c := by
          obtain ⟨A2, g, B2, e2, hg, hA2, hB2⟩ := h.split_key (k := c.k) (by unfold anyK; exact List.any_eq_true.2 ⟨c, hcm, by unfold isK; rw [hi2.2]; simp⟩)
          have one : ∀ d ∈ s.L, isK c.k d = true → d = g := by
            intro d hd hdk
            rw [e2] at hd
            rcases List.mem_append.1 hd with h1 | h1
            · rw [hA2 d h1] at hdk; cases hdk
            · rcases List.mem_cons.1 h1 with h1 | h1
              · exact h1
              · rw [hB2 d h1] at hdk; cases hdk
          rw [one f hf (by unfold isK; rw [h1, h2]; simp), one c hcm (by unfold isK; rw [hi2.2]; simp)]
        rw [hck, h3, hfc] at hq
        exact hq hc
theorem fin_joined (s : St) (t r : Int) : joinedL (s.L.filter fun c => !isT t c) r = if r = t then [] else joinedL s.L r := by
  by_cases hr : r = t
  · subst hr
    rw [if_pos rfl]
    exact (lead_no (leads_filter (x := r) (t := r) (L := s.L)).2).1
  · rw [if_neg hr]; exact joined_filter hr

/-! ### the rows -/
theorem rows_len (s : St) : (rowsF s).length = s.N.toNat := by unfold rowsF; simp
theorem rows_get {r : Nat} (hr : r < s.N.toNat) : (rowsF s).getD r [] = joinedL s.L (r : Int) := by
  unfold rowsF
  rw [List.getD_eq_getElem?_getD, List.getElem?_map, List.getElem?_range hr]
  rfl
theorem rows_ext {L1 : List (List Int)} (hl : L1.length = s.N.toNat) (h : ∀ r : Nat, r < s.N.toNat → L1.getD r [] = joinedL s.L (r : Int)) : L1 = rowsF s := by
  refine List.ext_getElem (by rw [hl, rows_len]) fun i h1 h2 => ?_
  have h3 := h i (by omega)
  have h4 := rows_get (s := s) (r := i) (by omega)
  rw [List.getD_eq_getElem?_getD, List.getElem?_eq_getElem h1] at h3
  rw [List.getD_eq_getElem?_getD, List.getElem?_eq_getElem h2] at h4
  exact h3.trans h4.symm
theorem Ok.out_row (h : Ok s) {r : Int} (hr : r < 0 ∨ s.N ≤ r) : joinedL s.L r = [] := by
  refine (lead_no ?_).1
  cases hl : leadsB s.L r with
  | false => rfl
  | true =>
    obtain ⟨c, hc, e⟩ := List.mem_map.1 (leads_iff.1 hl)
    have := h.t_of hc
    omega
theorem Ok.rows_list (h : Ok s) (r : Int) : RefRing.listL (rowsF s) r = joinedL s.L r := by
  unfold RefRing.listL
  have h0 := h.n0
  by_cases hr : 0 ≤ r ∧ r < ((rowsF s).length : Int)
  · rw [if_pos hr]
    rw [rows_len] at hr
    rw [rows_get (by omega), Int.toNat_of_nonneg hr.1]
  · rw [if_neg hr]
    rw [rows_len] at hr
    exact (h.out_row (by omega)).symm
theorem Ok.in_row (h : Ok s) {r t : Int} (ht : t ∈ joinedL s.L r) : joinsT s.L t = r ∧ 0 ≤ r ∧ r < s.N := by
  cases hl : leadsB s.L r with
  | false => rw [(lead_no hl).1] at ht; cases ht
  | true =>
    obtain ⟨A, c, B, e, hc, hA, hB⟩ := h.split_lead hl
    have hcm : c ∈ s.L := by rw [e]; simp
    rw [e, (lead_at hc hA).1] at ht
    have hw : waitsJ s.L t = true := waits_iff.2 (List.mem_flatMap.2 ⟨c, hcm, ht⟩)
    obtain ⟨A2, d, B2, e2, hd, hA2, hB2⟩ := h.split_join hw
    have hdc : c = d := by
      have hT : hasJ t c = true := by unfold hasJ inL; exact decide_eq_true ht
      rw [e2] at hcm
      rcases List.mem_append.1 hcm with h1 | h1
      · rw [hA2 c h1] at hT; cases hT
      · rcases List.mem_cons.1 h1 with h1 | h1
        · exact h1
        · rw [hB2 c h1] at hT; cases hT
    have h3 : joinsT s.L t = d.t := by rw [e2]; exact joins_at hd hA2
    have := h.t_of (c := c) (by rw [e]; simp)
    exact ⟨by rw [h3, ← hdc, hc], by omega, by omega⟩
theorem Ok.row_of (h : Ok s) {t : Int} (hw : waitsJ s.L t = true) : t ∈ joinedL s.L (joinsT s.L t) ∧ 0 ≤ joinsT s.L t ∧ joinsT s.L t < s.N := by
  obtain ⟨A, d, B, e, hd, hA, hB⟩ := h.split_join hw
  have h3 : joinsT s.L t = d.t := by rw [e]; exact joins_at hd hA
  have hdm : d ∈ s.L := by rw [e]; simp
  obtain ⟨A2, c, B2, e2, hc, hA2, _⟩ := h.split_lead (t := d.t) (leads_iff.2 (List.mem_map.2 ⟨d, hdm, rfl⟩))
  have hcm : c ∈ s.L := by rw [e2]; simp
  have hcd := h.lead_one hcm hdm hc
  subst hcd
  have := h.t_of hcm
  have hj : joinedL s.L c.t = c.j := by
    have h5 := (lead_at (B := B2) hc hA2).1
    rw [← e2] at h5
    exact h5
  rw [h3, hj]
  exact ⟨hd, this.1, this.2⟩
theorem Ok.rows_in (h : Ok s) (t : Int) : RefRing.inL (rowsF s) t = joinsT s.L t := by
  cases hw : waitsJ s.L t with
  | false =>
    rw [joins_no hw]
    refine RefRing.inL_none fun i hi hm => ?_
    rw [rows_len] at hi
    rw [rows_get hi] at hm
    have h1 := (h.in_row hm).1
    rw [joins_no hw] at h1
    omega
  | true =>
    obtain ⟨h1, h2, h3⟩ := h.row_of hw
    rcases RefRing.inL_range (rowsF s) t with e | ⟨i, e, hi⟩
    · exfalso
      obtain ⟨r, hr⟩ := Int.eq_ofNat_of_zero_le h2
      unfold RefRing.inL at e
      split at e
      · omega
      · rename_i hn
        rw [List.findIdx?_eq_none_iff] at hn
        have hm : joinedL s.L (joinsT s.L t) ∈ rowsF s := by
          unfold rowsF
          exact List.mem_map.2 ⟨r, List.mem_range.2 (by omega), by rw [hr]⟩
        have := hn _ hm
        simp at this
        exact this h1
    · rw [e]
      have hm : t ∈ (rowsF s).getD i [] := by
        unfold RefRing.inL at e
        split at e
        · rename_i j hj
          rw [List.findIdx?_eq_some_iff_getElem] at hj
          obtain ⟨hj1, hj2, _⟩ := hj
          have hij : j = i := by omega
          subst hij
          rw [List.getD_eq_getElem?_getD, List.getElem?_eq_getElem hj1]
          simpa using hj2
        · omega
      rw [rows_len] at hi
      rw [rows_get hi] at hm
      exact ((h.in_row hm).1).symm
theorem Ok.rows_drop (h : Ok s) (t : Int) : RefRing.dropL (rowsF s) t = rowsF (lvS s t) := by
  unfold RefRing.dropL
  rw [h.rows_in]
  have hf : (fun y : Int => y != t) = fun y => decide (y ≠ t) := by funext y; by_cases e : y = t <;> simp [e]
  cases hw : waitsJ s.L t with
  | false => rw [joins_no hw, if_pos (by omega), lv_no hw]
  | true =>
    obtain ⟨h1, h2, h3⟩ := h.row_of hw
    obtain ⟨r, hr⟩ := Int.eq_ofNat_of_zero_le h2
    rw [if_neg (by omega), hr, Int.toNat_natCast]
    refine rows_ext (s := lvS s t) (by rw [List.length_set, rows_len]; rfl) fun i hi => ?_
    have hi : i < s.N.toNat := hi
    show _ = joinedL (s.L.map (lvC t)) i
    rw [lv_joined, List.getD_eq_getElem?_getD, List.getElem?_set]
    by_cases hir : r = i
    · subst hir
      rw [if_pos rfl, if_pos (by rw [rows_len]; exact hi), rows_get hi, hf]
      rfl
    · rw [if_neg hir, ← List.getD_eq_getElem?_getD, rows_get hi]
      refine (without_id fun hm => ?_).symm
      have := (h.in_row hm).1
      omega
theorem Ok.rows_put (h : Ok s) (hk : anyK s.L k = true) (h0 : doE s t = 0) : RefRing.putE (rowsF s) s.N (leaderK s.L k) t = 0 ∧ RefRing.putL (rowsF s) s.N (leaderK s.L k) t false = rowsF { s with L := s.L.map (joinC k t) } := by
  have hlk := h.leader_in k
  have hl0 : 0 ≤ leaderK s.L k := by
    obtain ⟨A, c, B, e, hc, hA, hB⟩ := h.split_key hk
    have h1 : leaderK s.L k = c.t := by rw [e]; exact leader_at hc hA
    have := h.t_of (c := c) (by rw [e]; simp)
    omega
  have hq : (0 ≤ t ∧ t < s.N) ∧ waitsJ s.L t = false := by
    rcases do_errs s t with ⟨e, _⟩ | ⟨e, _⟩ | ⟨e, _⟩ | ⟨_, h1, h2, _⟩
    · omega
    · omega
    · omega
    · exact ⟨name_iff.1 h1, h2⟩
  obtain ⟨r, hr⟩ := Int.eq_ofNat_of_zero_le hl0
  have hrl : r < (rowsF s).length := by rw [rows_len]; omega
  have hno : ∀ l ∈ rowsF s, t ∉ l := by
    intro l hl hm
    unfold rowsF at hl
    obtain ⟨i, _, rfl⟩ := List.mem_map.1 hl
    have h1 := (h.in_row hm)
    rw [joins_no hq.2] at h1
    omega
  obtain ⟨p1, p2⟩ := Rows4.put_all (L := rowsF s) (N := s.N) r hrl hq.1 hno
  rw [hr]
  refine ⟨p1, p2.trans ?_⟩
  refine rows_ext (s := { s with L := s.L.map (joinC k t) }) (by rw [List.length_set, rows_len]) fun i hi => ?_
  have hi : i < s.N.toNat := hi
  show _ = joinedL (s.L.map (joinC k t)) i
  rw [h.join_joined hk, List.getD_eq_getElem?_getD, List.getElem?_set]
  by_cases hir : r = i
  · subst hir
    rw [if_pos rfl, if_pos hrl, if_pos hr.symm, rows_get hi]
    rfl
  · rw [if_neg hir, ← List.getD_eq_getElem?_getD, rows_get hi, if_neg (by omega)]
theorem rows_same {s' : St} (hN : s'.N = s.N) (h : ∀ r, joinedL s'.L r = joinedL s.L r) : rowsF s' = rowsF s := by
  unfold rowsF
  rw [hN]
  exact List.map_congr_left fun r _ => h r

/-! ### all who join leave -/
theorem lvs_ok : ∀ (l : List Int) {s : St}, Ok s → Ok (l.foldl lvS s)
  | [], _, h => h
  | x :: l, _, h => lvs_ok l (h.leave x)
theorem lvs_N : ∀ (l : List Int) (s : St), (l.foldl lvS s).N = s.N
  | [], _ => rfl
  | x :: l, s => lvs_N l (lvS s x)
theorem lvs_joined (r : Int) : ∀ (l : List Int) (s : St), joinedL (l.foldl lvS s).L r = (joinedL s.L r).filter fun y => decide (y ∉ l)
  | [], s => (List.filter_eq_self.2 fun _ _ => by simp).symm
  | x :: l, s => by
    rw [List.foldl_cons, lvs_joined r l (lvS s x)]
    show (joinedL (s.L.map (lvC x)) r).filter _ = _
    rw [lv_joined]
    unfold withoutL
    rw [List.filter_filter]
    congr 1
    funext y
    by_cases h1 : y = x
    · simp [h1]
    · simp [h1]
theorem Ok.rows_fin (h : Ok s) (t : Int) : rowsF ((joinedL s.L t).foldl lvS s) = rowsF { s with L := s.L.filter fun c => !isT t c } := by
  have hN : ((joinedL s.L t).foldl lvS s).N = s.N := lvs_N _ _
  refine rows_ext (s := { s with L := s.L.filter fun c => !isT t c }) (by rw [rows_len, hN]) fun r hr => ?_
  have hr : r < s.N.toNat := hr
  rw [rows_get (by rw [hN]; exact hr), lvs_joined]
  show _ = joinedL (s.L.filter fun c => !isT t c) r
  rw [fin_joined]
  by_cases hrt : (r : Int) = t
  · rw [if_pos hrt, hrt]
    exact List.filter_eq_nil_iff.2 fun y hy => by simp [hy]
  · rw [if_neg hrt]
    refine List.filter_eq_self.2 fun y hy => ?_
    rw [decide_eq_true_eq]
    intro hyt
    have h1 := (h.in_row hy).1
    have h2 := (h.in_row hyt).1
    exact hrt (h1.symm.trans h2)

/-! ### how many -/
theorem Ok.new_nL (s : St) (t k : Int) : nL { s with L := s.L ++ [⟨t, k, false, []⟩] } = nL s + 1 := by
  unfold nL
  show (List.filter _ (s.L ++ [_])).length = _
  rw [List.filter_append, List.length_append]
  rfl
theorem join_nL (s : St) (t k : Int) : nL { s with L := s.L.map (joinC k t) } = nL s := by
  unfold nL
  show (List.filter _ (s.L.map (joinC k t))).length = _
  rw [List.filter_map, List.length_map]
  congr 1
  refine List.filter_congr fun c _ => ?_
  show (!(joinC k t c).g) = !c.g
  rw [(join_t c).2.2.1]
theorem lv_nL (s : St) (t : Int) : nL (lvS s t) = nL s := by
  unfold nL
  show (List.filter _ (s.L.map (lvC t))).length = _
  rw [List.filter_map, List.length_map]
  rfl
theorem Ok.fg_nL (h : Ok s) (hk : anyK s.L k = true) : nL s = nL (fgS s k) + 1 := by
  obtain ⟨A, c, B, e, hc, hA, hB⟩ := h.split_key hk
  unfold nL fgS
  rw [e, gone_at hc hA hB]
  simp only [List.filter_append, List.filter_cons, hc.2, List.length_append, Bool.not_false, Bool.not_true, if_true, Bool.false_eq_true, if_false, List.length_cons]
  omega
theorem Ok.fin_nL (h : Ok s) (hl : leadsB s.L t = true) : s.L.length = (s.L.filter fun c => !isT t c).length + 1 ∧ (nL s = nL { s with L := s.L.filter fun c => !isT t c } + if leaderK s.L (leadsK s.L t) = t then 1 else 0) := by
  obtain ⟨A, c, B, e, hc, hA, hB⟩ := h.split_lead hl
  have hcm : c ∈ s.L := by rw [e]; simp
  have hck : leadsK s.L t = c.k := by rw [e]; exact (lead_at hc hA).2
  have hg : (leaderK s.L (leadsK s.L t) = t) ↔ c.g = false := by
    refine ⟨fun hq => (h.leader_key (key := leadsK s.L t) hcm (by omega)).2, fun hq => ?_⟩
    obtain ⟨A2, g, B2, e2, hg, hA2, hB2⟩ := h.split_key (k := c.k) (by unfold anyK; exact List.any_eq_true.2 ⟨c, hcm, by unfold isK; rw [hq]; simp⟩)
    have hcg : c = g := by
      have hi : isK c.k c = true := by unfold isK; rw [hq]; simp
      rw [e2] at hcm
      rcases List.mem_append.1 hcm with h1 | h1
      · rw [hA2 c h1] at hi; cases hi
      · rcases List.mem_cons.1 h1 with h1 | h1
        · exact h1
        · rw [hB2 c h1] at hi; cases hi
    have h3 : leaderK s.L c.k = g.t := by
      have h5 := leader_at (B := B2) hg hA2
      rw [← e2] at h5
      exact h5
    rw [hck, h3, ← hcg, hc]
  have hf : (s.L.filter fun c => !isT t c) = A ++ B := by rw [e]; exact fin_at hc hA hB
  refine ⟨by rw [hf, e]; simp only [List.length_append, List.length_cons]; omega, ?_⟩
  show (s.L.filter fun c => !c.g).length = ((s.L.filter fun c => !isT t c).filter fun c => !c.g).length + _
  rw [hf]
  by_cases hq : leaderK s.L (leadsK s.L t) = t
  · rw [if_pos hq, e, List.filter_append, List.filter_append, List.filter_cons, hg.1 hq]
    simp only [List.length_append, Bool.not_false, if_true, List.length_cons]
    omega
  · rw [if_neg hq, e, List.filter_append, List.filter_append, List.filter_cons]
    have hcg : c.g = true := by
      cases hcg : c.g with
      | true => rfl
      | false => exact absurd (hg.2 hcg) hq
    rw [hcg]
    simp
end
end Go.Proofs.Ytbkeodjebfkkdaa.FlightP
