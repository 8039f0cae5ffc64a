/-
  A semaphore, as plain mathematics (layer 13): how much is held, how much room there is, who wants, who is doomed, and for how much each waits. No condition.
-/
import Derived.Test.YtaplikopapnlpaaMutP
import Derived.Test.YtaplikopapnlpaaFits
namespace Go.Proofs.Ytaplikopapnlpaa.SemaP
open Go.ChangeShapes Go.WideShapes Go.ChangeAt Go.RowKit Mem MutP FitsC

/-- A semaphore: held, its room, who wants, who is doomed, how much who waits asked for, how many tasks there are. -/
structure St where
  H : Int
  C : Int
  W : List Int
  D : List Int
  g : Int → Int
  N : Int
def updF (g : Int → Int) (t n : Int) : Int → Int := fun x => if x = t then n else g x
def newS (C N : Int) : St := ⟨0, C, [], [], fun _ => 0, N⟩
def waitsB (s : St) (t : Int) : Bool := inL s.W t || inL s.D t
def wantN (s : St) (t : Int) : Int := if waitsB s t = true then s.g t else 0

/-- What can be given is given. -/
def givL (C : Int) (g : Int → Int) : Int → List Int → List Int
  | _, [] => []
  | H, x :: l => if H + g x ≤ C then x :: givL C g (H + g x) l else []
def givH (C : Int) (g : Int → Int) : Int → List Int → Int
  | H, [] => H
  | H, x :: l => if H + g x ≤ C then givH C g (H + g x) l else H
def givW (C : Int) (g : Int → Int) : Int → List Int → List Int
  | _, [] => []
  | H, x :: l => if H + g x ≤ C then givW C g (H + g x) l else x :: l
def givS (s : St) : St := { s with H := givH s.C s.g s.H s.W, W := givW s.C s.g s.H s.W }
def outS (s : St) : List Int := givL s.C s.g s.H s.W

def askE (s : St) (t n : Int) : Int := if nameM s.N t = false then 3 else if n < 0 then 1 else if waitsB s t = true then 6 else 0
def askB (s : St) (t n : Int) : Bool := decide (askE s t n = 0 ∧ s.W = [] ∧ s.H + n ≤ s.C)
def askS (s : St) (t n : Int) (wait : Bool) : St :=
  if askB s t n = true then { s with H := s.H + n }
  else if askE s t n = 0 ∧ wait = true then
    if s.C < n then { s with D := s.D ++ [t], g := updF s.g t n } else { s with W := s.W ++ [t], g := updF s.g t n }
  else s
def relE (s : St) (n : Int) : Int := if n < 0 then 1 else if s.H < n then 4 else 0
def backS (s : St) (n : Int) : St := { s with H := s.H - n }
def relS (s : St) (n : Int) : St := if relE s n = 0 then givS (backS s n) else s
def relL (s : St) (n : Int) : List Int := if relE s n = 0 then outS (backS s n) else []
def dropS (s : St) (t : Int) : St := { s with W := withoutL s.W t, D := withoutL s.D t }
def lvS (s : St) (t : Int) : St := if waitsB s t = true then givS (dropS s t) else s
def lvL (s : St) (t : Int) : List Int := if waitsB s t = true then outS (dropS s t) else []

/-- What may be. -/
structure Ok (s : St) : Prop where
  n0 : 1 ≤ s.N
  n1 : s.N ≤ 1000
  h0 : 0 ≤ s.H
  h1 : s.H ≤ s.C
  c1 : s.C ≤ 9223372036854775807
  ws : ∀ x ∈ s.W, 0 ≤ x ∧ x < s.N
  ds : ∀ x ∈ s.D, 0 ≤ x ∧ x < s.N
  once : (s.W ++ s.D).Nodup
  gw : ∀ x ∈ s.W, 0 ≤ s.g x ∧ s.g x ≤ s.C
  gd : ∀ x ∈ s.D, s.C < s.g x ∧ s.g x ≤ 9223372036854775807
/-- Nobody waits first where it fits. -/
def Full (s : St) : Prop := ∀ x l, s.W = x :: l → s.C < s.H + s.g x
def Fine (s : St) : Prop := Ok s ∧ Full s

theorem Ok.len {s : St} (h : Ok s) : s.W.length + s.D.length ≤ 1000 := by
  have h0 := h.n0
  have h1 := h.n1
  have := len_of_ids s.N.toNat (s.W ++ s.D) h.once fun x hx => by
    rcases List.mem_append.1 hx with hx | hx
    · have := h.ws x hx; omega
    · have := h.ds x hx; omega
  rw [List.length_append] at this
  omega
theorem Ok.wo {s : St} (h : Ok s) : s.W.Nodup := (List.nodup_append.1 h.once).1
theorem Ok.dO {s : St} (h : Ok s) : s.D.Nodup := (List.nodup_append.1 h.once).2.1
theorem Ok.apart {s : St} (h : Ok s) {x : Int} (hw : x ∈ s.W) : x ∉ s.D := fun hd => (List.nodup_append.1 h.once).2.2 x hw x hd rfl
theorem Ok.new {C N : Int} (h0 : 1 ≤ N) (h1 : N ≤ 1000) (h2 : 0 ≤ C) (h3 : C ≤ 9223372036854775807) : Ok (newS C N) := ⟨h0, h1, Int.le_refl _, h2, h3, (fun _ h => by cases h), (fun _ h => by cases h), .nil, (fun _ h => by cases h), fun _ h => by cases h⟩
theorem Fine.new {C N : Int} (h0 : 1 ≤ N) (h1 : N ≤ 1000) (h2 : 0 ≤ C) (h3 : C ≤ 9223372036854775807) : Fine (newS C N) := ⟨.new h0 h1 h2 h3, fun _ _ h => by cases h⟩

theorem giv_app (C : Int) (g : Int → Int) : ∀ (l : List Int) (H : Int), givL C g H l ++ givW C g H l = l
  | [], _ => rfl
  | x :: l, H => by
    unfold givL givW
    split
    · rw [List.cons_append, giv_app C g l]
    · rfl
theorem giv_range (C : Int) (g : Int → Int) : ∀ (l : List Int) (H : Int), 0 ≤ H → H ≤ C → (∀ x ∈ l, 0 ≤ g x) → 0 ≤ givH C g H l ∧ givH C g H l ≤ C
  | [], _, h0, h1, _ => ⟨h0, h1⟩
  | x :: l, H, h0, h1, hg => by
    unfold givH
    split
    · exact giv_range C g l _ (by have := hg x (List.mem_cons_self ..); omega) (by omega) fun y hy => hg y (List.mem_cons_of_mem _ hy)
    · exact ⟨h0, h1⟩
theorem giv_full (C : Int) (g : Int → Int) : ∀ (l : List Int) (H x : Int) (l' : List Int), givW C g H l = x :: l' → C < givH C g H l + g x
  | [], _, _, _, h => by cases h
  | y :: l, H, x, l', h => by
    unfold givW at h
    unfold givH
    split
    · rename_i hy; rw [if_pos hy] at h; exact giv_full C g l _ x l' h
    · rename_i hy
      rw [if_neg hy] at h
      injection h with h _
      subst h
      omega
theorem giv_sub (s : St) : List.Sublist (givW s.C s.g s.H s.W) s.W := by
  have h := giv_app s.C s.g s.W s.H
  have h2 := List.sublist_append_right (givL s.C s.g s.H s.W) (givW s.C s.g s.H s.W)
  rw [h] at h2
  exact h2
theorem out_len (s : St) : (outS s).length ≤ s.W.length := by
  have h := congrArg List.length (giv_app s.C s.g s.W s.H)
  rw [List.length_append] at h
  unfold outS
  omega
theorem Ok.give {s : St} (h : Ok s) : Fine (givS s) := by
  have hs := giv_sub s
  have hr := giv_range s.C s.g s.W s.H h.h0 h.h1 fun x hx => (h.gw x hx).1
  exact ⟨⟨h.n0, h.n1, hr.1, hr.2, h.c1, fun x hx => h.ws x (hs.subset hx), h.ds, h.once.sublist (hs.append (List.Sublist.refl _)), fun x hx => h.gw x (hs.subset hx), h.gd⟩, fun x l e => giv_full s.C s.g s.W s.H x l e⟩
theorem giv_cons {C H x : Int} {g : Int → Int} {l : List Int} (h : H + g x ≤ C) : givL C g H (x :: l) = x :: givL C g (H + g x) l ∧ givH C g H (x :: l) = givH C g (H + g x) l ∧ givW C g H (x :: l) = givW C g (H + g x) l := by
  refine ⟨?_, ?_, ?_⟩
  · rw [givL, if_pos h]
  · rw [givH, if_pos h]
  · rw [givW, if_pos h]
theorem giv_stop {C H : Int} {g : Int → Int} {l : List Int} (h : ∀ x l', l = x :: l' → C < H + g x) : givL C g H l = [] ∧ givH C g H l = H ∧ givW C g H l = l := by
  cases l with
  | nil => exact ⟨rfl, rfl, rfl⟩
  | cons x l' =>
    have hx := h x l' rfl
    refine ⟨?_, ?_, ?_⟩
    · rw [givL, if_neg (by omega)]
    · rw [givH, if_neg (by omega)]
    · rw [givW, if_neg (by omega)]

theorem in_iff {W : List Int} {t : Int} : inL W t = true ↔ t ∈ W := by unfold inL; simp
theorem waits_iff {s : St} {t : Int} : waitsB s t = true ↔ t ∈ s.W ∨ t ∈ s.D := by unfold waitsB; rw [Bool.or_eq_true, in_iff, in_iff]
theorem ask_zero {s : St} {t n : Int} (h : askE s t n = 0) : (0 ≤ t ∧ t < s.N) ∧ 0 ≤ n ∧ t ∉ s.W ∧ t ∉ s.D := by
  unfold askE at h
  by_cases h1 : nameM s.N t = false
  · rw [if_pos h1] at h; omega
  · rw [if_neg h1] at h
    by_cases h2 : n < 0
    · rw [if_pos h2] at h; omega
    · rw [if_neg h2] at h
      by_cases h3 : waitsB s t = true
      · rw [if_pos h3] at h; omega
      · rw [waits_iff, not_or] at h3
        exact ⟨name_iff.1 (by simpa using h1), by omega, h3.1, h3.2⟩
theorem ask_errs (s : St) (t n : Int) :
    (askE s t n = 3 ∧ nameM s.N t = false) ∨ (askE s t n = 1 ∧ nameM s.N t = true ∧ n < 0) ∨ (askE s t n = 6 ∧ nameM s.N t = true ∧ 0 ≤ n ∧ waitsB s t = true) ∨ (askE s t n = 0 ∧ nameM s.N t = true ∧ 0 ≤ n ∧ waitsB s t = false) := by
  unfold askE
  by_cases h1 : nameM s.N t = false
  · rw [if_pos h1]; exact .inl ⟨rfl, h1⟩
  · rw [if_neg h1]
    have h1' : nameM s.N t = true := by simpa using h1
    by_cases h2 : n < 0
    · rw [if_pos h2]; exact .inr (.inl ⟨rfl, h1', h2⟩)
    · rw [if_neg h2]
      by_cases h3 : waitsB s t = true
      · rw [if_pos h3]; exact .inr (.inr (.inl ⟨rfl, h1', by omega, h3⟩))
      · rw [if_neg h3]; exact .inr (.inr (.inr ⟨rfl, h1', by omega, by simpa using h3⟩))
/-- What an Acquire, or a TryAcquire, makes. -/
theorem ask_cases (s : St) (t n : Int) (wait : Bool) :
    (askE s t n ≠ 0 ∧ askB s t n = false ∧ askS s t n wait = s) ∨
    (askE s t n = 0 ∧ askB s t n = true ∧ s.W = [] ∧ 0 ≤ n ∧ s.H + n ≤ s.C ∧ askS s t n wait = { s with H := s.H + n }) ∨
    (askE s t n = 0 ∧ askB s t n = false ∧ (s.W ≠ [] ∨ s.C < s.H + n) ∧ 0 ≤ n ∧ wait = false ∧ askS s t n wait = s) ∨
    (askE s t n = 0 ∧ askB s t n = false ∧ (s.W ≠ [] ∨ s.C < s.H + n) ∧ wait = true ∧ s.C < n ∧ askS s t n wait = { s with D := s.D ++ [t], g := updF s.g t n }) ∨
    (askE s t n = 0 ∧ askB s t n = false ∧ (s.W ≠ [] ∨ s.C < s.H + n) ∧ wait = true ∧ 0 ≤ n ∧ n ≤ s.C ∧ askS s t n wait = { s with W := s.W ++ [t], g := updF s.g t n }) := by
  have hb : askB s t n = decide (askE s t n = 0 ∧ s.W = [] ∧ s.H + n ≤ s.C) := rfl
  by_cases he : askE s t n = 0
  · by_cases hw : s.W = [] ∧ s.H + n ≤ s.C
    · have hb1 : askB s t n = true := by rw [hb]; exact decide_eq_true ⟨he, hw⟩
      refine .inr (.inl ⟨he, hb1, hw.1, (ask_zero he).2.1, hw.2, ?_⟩)
      unfold askS
      rw [if_pos hb1]
    · have hb1 : askB s t n = false := by rw [hb]; exact decide_eq_false fun h => hw h.2
      have hb2 : ¬ askB s t n = true := by rw [hb1]; simp
      have hw' : s.W ≠ [] ∨ s.C < s.H + n := by
        by_cases h1 : s.W = []
        · exact .inr (Int.not_le.1 fun h2 => hw ⟨h1, h2⟩)
        · exact .inl h1
      cases wait with
      | false => exact .inr (.inr (.inl ⟨he, hb1, hw', (ask_zero he).2.1, rfl, by unfold askS; rw [if_neg hb2, if_neg (by simp)]⟩))
      | true =>
        by_cases hC : s.C < n
        · exact .inr (.inr (.inr (.inl ⟨he, hb1, hw', rfl, hC, by unfold askS; rw [if_neg hb2, if_pos ⟨he, rfl⟩, if_pos hC]⟩)))
        · exact .inr (.inr (.inr (.inr ⟨he, hb1, hw', rfl, (ask_zero he).2.1, by omega, by unfold askS; rw [if_neg hb2, if_pos ⟨he, rfl⟩, if_neg hC]⟩)))
  · have hb1 : askB s t n = false := by rw [hb]; exact decide_eq_false fun h => he h.1
    exact .inl ⟨he, hb1, by unfold askS; rw [if_neg (by rw [hb1]; simp), if_neg fun h => he h.1]⟩
theorem upd_in {g : Int → Int} {t n : Int} {L : List Int} (h : t ∉ L) : ∀ x ∈ L, updF g t n x = g x := fun x hx => by
  unfold updF
  rw [if_neg]
  rintro rfl
  exact h hx
theorem upd_at (g : Int → Int) (t n : Int) : updF g t n t = n := if_pos rfl
theorem nodup_mid {t : Int} {W D : List Int} (h : (W ++ D).Nodup) (hw : t ∉ W) (hd : t ∉ D) : (W ++ [t] ++ D).Nodup := by
  have hp : (W ++ [t] ++ D).Perm (t :: (W ++ D)) := by rw [List.append_assoc]; exact List.perm_middle
  rw [hp.nodup_iff, List.nodup_cons]
  exact ⟨fun hm => (List.mem_append.1 hm).elim hw hd, h⟩
theorem nodup_end {t : Int} {W D : List Int} (h : (W ++ D).Nodup) (hw : t ∉ W) (hd : t ∉ D) : (W ++ (D ++ [t])).Nodup := by
  have hp : (W ++ (D ++ [t])).Perm (t :: (W ++ D)) := by rw [← List.append_assoc]; exact List.perm_append_comm
  rw [hp.nodup_iff, List.nodup_cons]
  exact ⟨fun hm => (List.mem_append.1 hm).elim hw hd, h⟩
theorem Fine.ask {s : St} (h : Fine s) (t n : Int) (hn : In64 n) (wait : Bool) : Fine (askS s t n wait) := by
  obtain ⟨ho, hf⟩ := h
  rcases ask_cases s t n wait with ⟨_, _, e⟩ | ⟨_, _, hW, h0, h1, e⟩ | ⟨_, _, _, _, _, e⟩ | ⟨he, _, _, _, h1, e⟩ | ⟨he, _, hw, _, h0, h1, e⟩
  · rw [e]; exact ⟨ho, hf⟩
  · rw [e]
    exact ⟨⟨ho.n0, ho.n1, by have := ho.h0; show 0 ≤ s.H + n; omega, h1, ho.c1, ho.ws, ho.ds, ho.once, ho.gw, ho.gd⟩, fun x l e => by rw [show s.W = x :: l from e] at hW; cases hW⟩
  · rw [e]; exact ⟨ho, hf⟩
  · rw [e]
    obtain ⟨ht, _, hw', hd'⟩ := ask_zero he
    refine ⟨⟨ho.n0, ho.n1, ho.h0, ho.h1, ho.c1, ho.ws, fun x hx => ?_, nodup_end ho.once hw' hd', fun x hx => ?_, fun x hx => ?_⟩, fun x l e => ?_⟩
    · rcases List.mem_append.1 hx with hx | hx
      · exact ho.ds x hx
      · rw [List.mem_singleton] at hx; subst hx; exact ht
    · show 0 ≤ updF s.g t n x ∧ updF s.g t n x ≤ s.C
      rw [upd_in hw' x hx]; exact ho.gw x hx
    · show s.C < updF s.g t n x ∧ updF s.g t n x ≤ _
      rcases List.mem_append.1 hx with hx | hx
      · rw [upd_in hd' x hx]; exact ho.gd x hx
      · rw [List.mem_singleton] at hx; subst hx; rw [upd_at]; exact ⟨h1, hn.2⟩
    · have e' : s.W = x :: l := e
      show s.C < s.H + updF s.g t n x
      rw [upd_in hw' x (by rw [e']; exact List.mem_cons_self ..)]
      exact hf x l e'
  · rw [e]
    obtain ⟨ht, _, hw', hd'⟩ := ask_zero he
    refine ⟨⟨ho.n0, ho.n1, ho.h0, ho.h1, ho.c1, fun x hx => ?_, ho.ds, nodup_mid ho.once hw' hd', fun x hx => ?_, fun x hx => ?_⟩, fun x l e => ?_⟩
    · rcases List.mem_append.1 hx with hx | hx
      · exact ho.ws x hx
      · rw [List.mem_singleton] at hx; subst hx; exact ht
    · show 0 ≤ updF s.g t n x ∧ updF s.g t n x ≤ s.C
      rcases List.mem_append.1 hx with hx | hx
      · rw [upd_in hw' x hx]; exact ho.gw x hx
      · rw [List.mem_singleton] at hx; subst hx; rw [upd_at]; exact ⟨h0, h1⟩
    · show s.C < updF s.g t n x ∧ updF s.g t n x ≤ _
      rw [upd_in hd' x hx]; exact ho.gd x hx
    · have e' : s.W ++ [t] = x :: l := e
      show s.C < s.H + updF s.g t n x
      cases hW : s.W with
      | nil =>
        rw [hW, List.nil_append] at e'
        injection e' with e' _
        subst e'
        rw [upd_at]
        rcases hw with h | h
        · exact absurd hW h
        · exact h
      | cons y l' =>
        rw [hW, List.cons_append] at e'
        injection e' with e' _
        subst e'
        rw [upd_in hw' y (by rw [hW]; exact List.mem_cons_self ..)]
        exact hf y l' hW
theorem Ok.back {s : St} (h : Ok s) {n : Int} (hr : relE s n = 0) : Ok (backS s n) ∧ 0 ≤ n ∧ n ≤ s.H := by
  unfold relE at hr
  by_cases h1 : n < 0
  · rw [if_pos h1] at hr; omega
  · rw [if_neg h1] at hr
    by_cases h2 : s.H < n
    · rw [if_pos h2] at hr; omega
    · have h3 := h.h1
      exact ⟨⟨h.n0, h.n1, by show 0 ≤ s.H - n; omega, by show s.H - n ≤ s.C; omega, h.c1, h.ws, h.ds, h.once, h.gw, h.gd⟩, by omega, by omega⟩
theorem rel_errs (s : St) (n : Int) : (relE s n = 1 ∧ n < 0) ∨ (relE s n = 4 ∧ 0 ≤ n ∧ s.H < n) ∨ (relE s n = 0 ∧ 0 ≤ n ∧ n ≤ s.H) := by
  unfold relE
  by_cases h1 : n < 0
  · rw [if_pos h1]; exact .inl ⟨rfl, h1⟩
  · rw [if_neg h1]
    by_cases h2 : s.H < n
    · rw [if_pos h2]; exact .inr (.inl ⟨rfl, by omega, h2⟩)
    · rw [if_neg h2]; exact .inr (.inr ⟨rfl, by omega, by omega⟩)
theorem Fine.rel {s : St} (h : Fine s) (n : Int) : Fine (relS s n) := by
  unfold relS
  by_cases hr : relE s n = 0
  · rw [if_pos hr]; exact (h.1.back hr).1.give
  · rw [if_neg hr]; exact h
theorem Ok.drop {s : St} (h : Ok s) (t : Int) : Ok (dropS s t) := by
  have hw : List.Sublist (withoutL s.W t) s.W := List.filter_sublist
  have hd : List.Sublist (withoutL s.D t) s.D := List.filter_sublist
  exact ⟨h.n0, h.n1, h.h0, h.h1, h.c1, fun x hx => h.ws x (hw.subset hx), fun x hx => h.ds x (hd.subset hx), h.once.sublist (hw.append hd), fun x hx => h.gw x (hw.subset hx), fun x hx => h.gd x (hd.subset hx)⟩
theorem Fine.leave {s : St} (h : Fine s) (t : Int) : Fine (lvS s t) := by
  unfold lvS
  by_cases hr : waitsB s t = true
  · rw [if_pos hr]; exact (h.1.drop t).give
  · rw [if_neg hr]; exact h
theorem without_id {W : List Int} {t : Int} (h : t ∉ W) : withoutL W t = W := by
  unfold withoutL
  refine List.filter_eq_self.2 fun x hx => ?_
  simp only [decide_eq_true_eq]
  rintro rfl
  exact h hx
theorem map_upd {g : Int → Int} {t n : Int} {L : List Int} (h : t ∉ L) : L.map (updF g t n) = L.map g := List.map_congr_left fun x hx => upd_in h x hx
theorem map_put {g : Int → Int} {t n : Int} {L : List Int} (h : t ∉ L) : (L ++ [t]).map (updF g t n) = L.map g ++ [n] := by rw [List.map_append, map_upd h, List.map_singleton, upd_at]
/-- Of whom something is told, who waits. -/
def wantF (s : St) : Int → Option Int := fun t => if waitsB s t = true then some (s.g t) else none
theorem wantF_get (s : St) (t : Int) : (wantF s t).getD 0 = wantN s t ∧ (wantF s t).isSome = waitsB s t := by
  unfold wantF wantN
  by_cases h : waitsB s t = true
  · rw [if_pos h, if_pos h, h]; exact ⟨rfl, rfl⟩
  · rw [if_neg h, if_neg h]
    exact ⟨rfl, by simp only [Bool.not_eq_true] at h; rw [h]; rfl⟩
theorem rel_len {s : St} (n : Int) : (relL s n).length ≤ s.W.length := by
  unfold relL
  split
  · exact out_len (backS s n)
  · simp
theorem lv_len {s : St} (t : Int) : (lvL s t).length ≤ s.W.length := by
  unfold lvL
  split
  · exact Nat.le_trans (out_len (dropS s t)) (List.length_filter_le _ _)
  · simp
end Go.Proofs.Ytaplikopapnlpaa.SemaP
