/-
  Package sema, as it landed, over its arena of two rows and its map of weights, first part: the small functions. No condition.
-/
import Derived.Test.YtaplikopapnlpaaArena
import Derived.Test.YtaplikopapnlpaaFour
import Derived.Test.YtaplikopapnlpaaObjL
import Derived.Test.YtaplikopapnlpaaMapF
import Derived.Test.YtaplikopapnlpaaSemaI
namespace Go.Proofs.Ytaplikopapnlpaa.SemaA
open Go.ChangeShapes Go.WideShapes Go.ChangeAt Go.RowKit Mem MutP SemaP Hand RefMut Arena FitsC

/-! ### two rows, and a map, as plain mathematics -/
section
variable {W D : List Int} {N t n : Int} {s : St}
theorem flat2 : [W, D].flatten = W ++ D := by simp
theorem two_first : RefRing.firstL [W, D] 0 = W.headD (-1) := by unfold RefRing.firstL; simp
theorem two_list : RefRing.listL [W, D] 0 = W ∧ RefRing.listL [W, D] 1 = D := by unfold RefRing.listL; exact ⟨by simp, by simp⟩
theorem two_drop (h : (W ++ D).Nodup) (t : Int) : RefRing.dropL [W, D] t = [withoutL W t, withoutL D t] := by
  rw [Rows4.drop_map (by rw [flat2]; exact h)]
  rfl
theorem two_put (h0 : 0 ≤ t) (h1 : t < N) (hw : t ∉ W) (hd : t ∉ D) : RefRing.putL [W, D] N 0 t false = [W ++ [t], D] ∧ RefRing.putL [W, D] N 1 t false = [W, D ++ [t]] := by
  have hno : ∀ l ∈ [W, D], t ∉ l := by
    intro l hl
    simp only [List.mem_cons, List.not_mem_nil, or_false] at hl
    rcases hl with rfl | rfl
    · exact hw
    · exact hd
  exact ⟨(Rows4.put_all (L := [W, D]) (N := N) 0 (by simp) ⟨h0, h1⟩ hno).2, (Rows4.put_all (L := [W, D]) (N := N) 1 (by simp) ⟨h0, h1⟩ hno).2⟩
theorem wo_mem {x : Int} : x ∈ withoutL W t ↔ x ∈ W ∧ x ≠ t := by unfold withoutL; rw [List.mem_filter]; simp
theorem wantF_drop (s : St) (t : Int) : updM (wantF s) t none = wantF (dropS s t) := by
  funext x
  unfold updM
  by_cases e : x = t
  · subst e
    rw [if_pos rfl]
    unfold wantF
    rw [if_neg]
    rw [waits_iff]
    show ¬ (x ∈ withoutL s.W x ∨ x ∈ withoutL s.D x)
    rw [wo_mem, wo_mem]
    simp
  · rw [if_neg e]
    have hb : SemaP.waitsB (dropS s t) x = SemaP.waitsB s x := by
      rw [Bool.eq_iff_iff, waits_iff, waits_iff]
      show (x ∈ withoutL s.W t ∨ x ∈ withoutL s.D t) ↔ _
      rw [wo_mem, wo_mem]
      simp [e]
    unfold wantF
    rw [hb]
    rfl
theorem wantF_w (hw : t ∉ s.W) (hd : t ∉ s.D) : updM (wantF s) t (some n) = wantF { s with W := s.W ++ [t], g := updF s.g t n } := by
  funext x
  unfold updM
  by_cases e : x = t
  · subst e
    rw [if_pos rfl]
    unfold wantF
    rw [if_pos (waits_iff.2 (.inl (by simp)))]
    show _ = some (updF s.g x n x)
    rw [upd_at]
  · rw [if_neg e]
    have hb : SemaP.waitsB { s with W := s.W ++ [t], g := updF s.g t n } x = SemaP.waitsB s x := by
      rw [Bool.eq_iff_iff, waits_iff, waits_iff]
      show (x ∈ s.W ++ [t] ∨ x ∈ s.D) ↔ _
      rw [List.mem_append]
      simp [e]
    unfold wantF
    rw [hb]
    show _ = if SemaP.waitsB s x = true then some (updF s.g t n x) else none
    unfold updF
    rw [if_neg e]
theorem wantF_d (hw : t ∉ s.W) (hd : t ∉ s.D) : updM (wantF s) t (some n) = wantF { s with D := s.D ++ [t], g := updF s.g t n } := by
  funext x
  unfold updM
  by_cases e : x = t
  · subst e
    rw [if_pos rfl]
    unfold wantF
    rw [if_pos (waits_iff.2 (.inr (by simp)))]
    show _ = some (updF s.g x n x)
    rw [upd_at]
  · rw [if_neg e]
    have hb : SemaP.waitsB { s with D := s.D ++ [t], g := updF s.g t n } x = SemaP.waitsB s x := by
      rw [Bool.eq_iff_iff, waits_iff, waits_iff]
      show (x ∈ s.W ∨ x ∈ s.D ++ [t]) ↔ _
      rw [List.mem_append]
      simp [e]
    unfold wantF
    rw [hb]
    show _ = if SemaP.waitsB s x = true then some (updF s.g t n x) else none
    unfold updF
    rw [if_neg e]
theorem wo_len {L : List Int} (hn : L.Nodup) (h : t ∈ L) : (withoutL L t).length + 1 = L.length := by
  have e : withoutL L t = L.erase t := by
    rw [hn.erase_eq_filter]
    unfold withoutL
    congr 1
    funext x
    by_cases hx : x = t <;> simp [hx]
  rw [e, List.length_erase_of_mem h]
  have := List.length_pos_of_mem h
  omega
theorem drop_len (h : (W ++ D).Nodup) (ht : t ∈ W ∨ t ∈ D) : W.length + D.length = (withoutL W t).length + (withoutL D t).length + 1 := by
  have h1 := List.nodup_append.1 h
  rcases ht with ht | ht
  · have hd : t ∉ D := fun hd => h1.2.2 t ht t hd rfl
    have := wo_len h1.1 ht
    rw [without_id hd]
    omega
  · have hw : t ∉ W := fun hw => h1.2.2 t hw t ht rfl
    have := wo_len h1.2.1 ht
    rw [without_id hw]
    omega
end

/-- A semaphore: its own block, its arena of two rows, its map. -/
def oa (p : Nat) (va : Value) (mb : Nat) (s : St) : List Res := [blk p (.cells #[.int .i64 s.C, .int .i64 s.H, va, .map (some mb)] 63 (0, 0)), ob aren va ([s.W, s.D], s.N), mapf mb (s.W.length + s.D.length) (wantF s)]

section
variable {B : Nat → Prop} {w wk : World} {Rs : List Res} {p mb : Nat} {va : Value} {s : St}
theorem oa_ptr (h : Sep B w wk (oa p va mb s ++ Rs)) : ∃ a, va = .pointer (some a) := ob_ptr (O := aren) h 1 rfl
theorem oa_c (h : Sep B w wk (oa p va mb s ++ Rs)) : wk.cell? ⟨p, 0, none⟩ = some (.int .i64 s.C) ∧ wk.cell? ⟨p, 1, none⟩ = some (.int .i64 s.H) ∧ wk.cell? ⟨p, 2, none⟩ = some va ∧ wk.cell? ⟨p, 3, none⟩ = some (.map (some mb)) :=
  ⟨(cell_block (h.blk_at 0 rfl) 0).trans rfl, (cell_block (h.blk_at 0 rfl) 1).trans rfl, (cell_block (h.blk_at 0 rfl) 2).trans rfl, (cell_block (h.blk_at 0 rfl) 3).trans rfl⟩

set_option maxRecDepth 100000 in
theorem held_s (h : Sep B w wk (oa p va mb s ++ Rs)) :
    Calls Try.prog 16 #[.pointer (some ⟨p, 0, none⟩)] wk fun e wn => e = .returned (.int .i64 s.H) ∧ wk = wn := by
  obtain ⟨_, c1, _, _⟩ := oa_c h
  clear h
  generalize s.H = H at *
  go_enter Try.func16, Try.ntmps16
  go_wp2
  go_ret
  exact ⟨rfl, rfl⟩
set_option maxRecDepth 100000 in
theorem cap_s (h : Sep B w wk (oa p va mb s ++ Rs)) :
    Calls Try.prog 17 #[.pointer (some ⟨p, 0, none⟩)] wk fun e wn => e = .returned (.int .i64 s.C) ∧ wk = wn := by
  obtain ⟨c0, _, _, _⟩ := oa_c h
  clear h
  generalize s.C = C at *
  go_enter Try.func17, Try.ntmps17
  go_wp2
  go_ret
  exact ⟨rfl, rfl⟩
set_option maxRecDepth 100000 in
theorem wants_s (h : Sep B w wk (oa p va mb s ++ Rs)) (t : Int) (ht : In64 t) :
    Calls Try.prog 18 #[.pointer (some ⟨p, 0, none⟩), .int .i64 t] wk fun e wn => e = .returned (.tuple #[.int .i64 (wantN s t), .bool (SemaP.waitsB s t)]) ∧ wk = wn := by
  obtain ⟨_, _, _, c3⟩ := oa_c h
  have hlk := mapf_ok h 2 rfl ht
  rw [(wantF_get s t).1, (wantF_get s t).2] at hlk
  clear h
  generalize wantN s t = v at *
  generalize SemaP.waitsB s t = bo at *
  go_enter Try.func18, Try.ntmps18
  go_wp2
  go_ret2
  exact ⟨rfl, rfl⟩
set_option maxRecDepth 100000 in
theorem waits_s (h : Sep B w wk (oa p va mb s ++ Rs)) (t : Int) (ht : In64 t) :
    Calls Try.prog 37 #[.pointer (some ⟨p, 0, none⟩), .int .i64 t] wk fun e wn => e = .returned (.bool (SemaP.waitsB s t)) ∧ wk = wn := by
  obtain ⟨_, _, _, c3⟩ := oa_c h
  have hlk := mapf_ok h 2 rfl ht
  rw [(wantF_get s t).1, (wantF_get s t).2] at hlk
  clear h
  generalize wantN s t = v at *
  generalize SemaP.waitsB s t = bo at *
  go_enter Try.func37, Try.ntmps37
  go_wp2
  go_ret
  exact ⟨rfl, rfl⟩
set_option maxRecDepth 100000 in
theorem has_s (h : Sep B w wk (oa p va mb s ++ Rs)) (t : Int) :
    Calls Try.prog 45 #[.pointer (some ⟨p, 0, none⟩), .int .i64 t] wk fun e wn => e = .returned (.bool (nameM s.N t)) ∧ wk = wn := by
  obtain ⟨_, _, c2, _⟩ := oa_c h
  have HA := Lib.hid (a_nodes h 1 rfl)
  obtain ⟨a, rfl⟩ := oa_ptr h
  clear h
  generalize s.N = N at *
  rcases (by omega : t < 0 ∨ (0 ≤ t ∧ t < N) ∨ (0 ≤ t ∧ N ≤ t)) with h1 | ⟨h1, h2⟩ | ⟨h1, h2⟩
  · have HE : Hid (nameM N t = false) := by show _ = _; unfold nameM; exact decide_eq_false (by omega)
    have d0 : decide (t ≥ 0) = false := by simp; omega
    go_enter Try.func45, Try.ntmps45
    go_wp2
    go_ret
    exact ⟨ret_bool HE.out.symm, rfl⟩
  · have HE : Hid (nameM N t = true) := name_iff.2 ⟨h1, h2⟩
    go_enter Try.func45, Try.ntmps45
    go_wp2_with fail
    refine HA.out.mono ?_
    rintro e w1 ⟨rfl, rfl⟩
    go_wp2
    go_ret
    exact ⟨ret_bool HE.out.symm, rfl⟩
  · have HE : Hid (nameM N t = false) := by show _ = _; unfold nameM; exact decide_eq_false (by omega)
    have d1 : decide (t < N) = false := by simp; omega
    go_enter Try.func45, Try.ntmps45
    go_wp2_with fail
    refine HA.out.mono ?_
    rintro e w1 ⟨rfl, rfl⟩
    go_wp2
    go_ret
    exact ⟨ret_bool HE.out.symm, rfl⟩
set_option maxRecDepth 100000 in
theorem fits_s (h : Sep B w wk (oa p va mb s ++ Rs)) (hok : SemaP.Ok s) (n : Int) (hn : In64 n) :
    Calls Try.prog 35 #[.pointer (some ⟨p, 0, none⟩), .int .i64 n] wk fun e wn => e = .returned (.bool (fitsv s.H n s.C)) ∧ ∃ k, wn = wk.drewN k := by
  obtain ⟨c0, c1, _, _⟩ := oa_c h
  have h0 := hok.h0
  have h1 := hok.h1
  have h2 := hok.c1
  have HFI : Hid (∀ v, Calls Try.prog 20 #[.int .i64 s.H, .int .i64 n, .int .i64 s.C] v fun e w' => e = .returned (.bool (fitsv s.H n s.C)) ∧ v = w') := fun v => fits_any _ _ _ v ⟨by omega, by omega⟩ hn ⟨by omega, by omega⟩
  clear h h0 h1 h2 hok hn
  generalize fitsv s.H n s.C = bo at *
  generalize s.H = H at *
  generalize s.C = C at *
  go_enter Try.func35, Try.ntmps35
  go_upto_region 1 with (fail)
  go_quiet ((go_at_call 20; exact RingI.quiet_left (HFI.out _)))
  go_wp2
  go_ret
  exact ⟨rfl, _, rfl⟩
set_option maxRecDepth 100000 in
theorem may_s (h : Sep B w wk (oa p va mb s ++ Rs)) (t n : Int) (ht : In64 t) :
    Calls Try.prog 33 #[.pointer (some ⟨p, 0, none⟩), .int .i64 t, .int .i64 n] wk fun e wn => e = .returned (.int .i64 (askE s t n)) ∧ wk = wn := by
  have HN := Lib.hid (has_s h t)
  have HW := Lib.hid (waits_s h t ht)
  have HE := Lib.hid (ask_errs s t n)
  clear h ht
  generalize askE s t n = E at *
  rcases HE.out with ⟨rfl, e1⟩ | ⟨rfl, e1, e2⟩ | ⟨rfl, e1, e2, e3⟩ | ⟨rfl, e1, e2, e3⟩
  · rw [e1] at HN
    clear HE HW e1
    go_enter Try.func33, Try.ntmps33
    go_wp2_with fail
    refine HN.out.mono ?_
    rintro e w1 ⟨rfl, rfl⟩
    go_wp2
    go_ret
    exact ⟨rfl, rfl⟩
  · rw [e1] at HN
    clear HE HW e1
    go_enter Try.func33, Try.ntmps33
    go_wp2_with fail
    refine HN.out.mono ?_
    rintro e w1 ⟨rfl, rfl⟩
    go_wp2
    go_ret
    exact ⟨rfl, rfl⟩
  all_goals
    rw [e1] at HN
    rw [e3] at HW
    clear HE e1 e3
    go_enter Try.func33, Try.ntmps33
    go_wp2_with fail
    refine HN.out.mono ?_
    rintro e w1 ⟨rfl, rfl⟩
    go_wp2_with fail
    refine HW.out.mono ?_
    rintro e w1 ⟨rfl, rfl⟩
    go_wp2
    go_ret
    exact ⟨rfl, rfl⟩
end
end Go.Proofs.Ytaplikopapnlpaa.SemaA
