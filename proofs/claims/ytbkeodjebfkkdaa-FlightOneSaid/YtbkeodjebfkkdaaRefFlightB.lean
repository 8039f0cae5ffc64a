/-
  Contracts of the functions of package countermandref15 (the document's answer for layer 15), second part: Do. Condition: the flight is at hand.
-/
import Derived.Test.YtbkeodjebfkkdaaRefFlight
import Derived.Test.YtbkeodjebfkkdaaHeld
namespace Go.Proofs.Ytbkeodjebfkkdaa.Hand
open Go.ChangeShapes Go.WideShapes Go.ChangeAt Go.RowKit Mem
/-- 'append', of a slice of one's own, in a region that draws its order. -/
theorem wp_appS {α : Type} {E : Enc α} {B : Nat → Prop} {w wk : World} {Rs : List Res} {P : Program} {o : Oper} {a : Act} {K : Act → World → Prop} {Q : Exit → Act → World → Prop} {xs ys : List α} {v sv : Value} {G : Nat → Prop} (s x : Operand) {t e : TypeId} (he : Elem E P t e)
    (ho : o.op = .call { callee := .builtin .append, args := #[s, x], argTypes := #[t, t] }) (hs : a.eval s = v) (hx : a.eval x = sv) (h : Sep B w wk Rs) (i : Nat) (hi : Rs[i]? = some (grow E e v xs)) (hr : RdL E wk G sv ys) (hlen : xs.length + ys.length ≤ 1000000)
    (hK : ∀ A c wn l, Hid (l = xs ++ ys) → Sep B w wn (Rs.set i (grow E e (.slice A l.length c) l)) → K (a.put o.dst (.slice A l.length c)) wn) : o.wp P a wk K Q :=
  wp_appL s x he ho hs hx (h.own i hi) hr hlen (Nat.zero_le _) fun v' w' h2 h3 h4 => by
    obtain ⟨A, c, rfl⟩ := h2.form
    exact hK A c w' _ rfl (h.grown i hi h2 h3 h4)
end Go.Proofs.Ytbkeodjebfkkdaa.Hand
namespace Go.Proofs.Ytbkeodjebfkkdaa.RefFlight
open Go.ChangeShapes Go.WideShapes Go.ChangeAt Go.RowKit Mem MutP FlightP Hand RefMut

section
variable {B : Nat → Prop} {w wk : World} {Rs : List Res} {p : Nat} {s : St}
/-- What the walk asks of the flight, whatever lies beside. -/
theorem held_at (X : List Res) {N : Int} {b z : Nat} {ps : List Pc} (h : Sep B w wk (X ++ (rto p N (some ⟨b, 0, none⟩) z ps ++ Rs))) {i : Nat} {q : Pc} (hq : ps[i]? = some q) :
    wk.cell? ⟨p, 0, none⟩ = some (.slice (some ⟨b, 0, none⟩) ps.length z) ∧ wk.cell? ⟨b, i * 4 + 3, none⟩ = some (.slice q.A q.c.j.length q.z) := by
  have h1 := h.sub (List.sublist_append_right X _)
  obtain ⟨b', e, _, _, ⟨_, _, _, q3⟩, _⟩ := rto_at h1 hq
  injection e with e
  injection e with e
  subst e
  exact ⟨(rto_cs h1).1, q3⟩
/-- A list more that can be read. -/
theorem reads_in {R1 R2 : Res} {v : Value} {l : List Int} {L L' : List (Value × List Int)} (h : Sep B w wk (nums v l :: R1 :: R2 :: reads L :: Rs)) (hs : ∀ x ∈ L', x ∈ (v, l) :: L) : Sep B w wk (R1 :: R2 :: reads L' :: Rs) := by
  have h1 : Sep B w wk (nums v l :: reads L :: R1 :: R2 :: Rs) := h.perm (by exact ((List.perm_append_comm (l₁ := [_, _]) (l₂ := [_])).append_right Rs).cons _)
  have h2 := h1.reads_add.reads_sub hs
  exact h2.perm (by exact (List.perm_append_comm (l₁ := [_]) (l₂ := [_, _])).append_right Rs)
theorem do_facts (hok : FlightP.Ok s) (t : Int) : (waitsJ s.L t = true → 0 ≤ joinsT s.L t) ∧ (waitsJ s.L t = false → joinsT s.L t = -1) ∧ (leadsB s.L t = true → 0 ≤ placeI s.L (atT s.L t)) ∧ (leadsB s.L t = false → placeI s.L (atT s.L t) = -1) := by
  refine ⟨fun h => ?_, joins_no, fun h => ?_, fun h => place_no (any_no h)⟩
  · obtain ⟨A, c, B, e, hc, hA, _⟩ := hok.split_join h
    have h1 := hok.ts
    rw [e] at h1 ⊢
    rw [joins_at hc hA]
    exact (h1 c.t (by unfold allT; simp)).1
  · obtain ⟨A, c, B, e, hc, hA, _⟩ := hok.split_lead h
    unfold atT
    rw [e, place_cut (by unfold isT; simpa using hc) hA]
    omega

/-- The list of those who join a call is a new one. -/
theorem join_end {N : Int} {b z : Nat} {ps : List Pc} {u : Value} {A5 : Option Addr} {c5 : Nat} {l5 : List Int} {t : Int} (h : Sep B w wk ([told intE u [t], grow intE 3 (.slice A5 l5.length c5) l5] ++ (rto p N (some ⟨b, 0, none⟩) z ps ++ Rs))) {i : Nat} {q : Pc} (hq : ps[i]? = some q) (he : l5 = q.c.j ++ [t]) (hl : q.c.j.length ≤ 1000) :
    b < wk.heap.size ∧ wk.frozen? ⟨b, i * 4 + 3, none⟩ = false ∧ Sep B w (wk.setCell ⟨b, i * 4 + 3, none⟩ (.slice A5 l5.length c5)) (rto p N (some ⟨b, 0, none⟩) z (ps.set i ⟨{ q.c with j := q.c.j ++ [t] }, A5, c5⟩) ++ Rs) := by
  obtain ⟨b', e, hb, _, _, hf⟩ := rto_at (h.sub (List.sublist_append_right _ _)) hq
  injection e with e
  injection e with e
  subst e
  refine ⟨hb, hf _, ?_⟩
  subst he
  have h1 := (h.setc 3 rfl (x' := (⟨{ q.c with j := q.c.j ++ [t] }, A5, c5⟩ : Pc)) (j := 3) (u := .slice A5 (q.c.j ++ [t]).length c5) hq (by show 3 < 4; omega) rfl).tail
  have h2 := reads_in (grow_nums h1 (by rw [List.length_append, List.length_singleton]; omega)) (L' := (ps.set i ⟨{ q.c with j := q.c.j ++ [t] }, A5, c5⟩).map fun q => (q.v, q.c.j)) (by
    intro x hx
    obtain ⟨y, hy, rfl⟩ := List.mem_map.1 hx
    rcases List.mem_or_eq_of_mem_set hy with hy | rfl
    · exact List.mem_cons_of_mem _ (List.mem_map.2 ⟨y, hy, rfl⟩)
    · exact List.mem_cons_self ..)
  unfold rto
  rw [List.length_set]
  exact h2
theorem join_cells {N : Int} {b z : Nat} {ps : List Pc} (h : Sep B w wk (rto p N (some ⟨b, 0, none⟩) z ps ++ Rs)) {i : Nat} {q : Pc} (hq : ps[i]? = some q) : wk.cell? ⟨p, 0, none⟩ = some (.slice (some ⟨b, 0, none⟩) ps.length z) ∧ wk.cell? ⟨b, i * 4, none⟩ = some (.int .i64 q.c.t) := by
  obtain ⟨b', e, _, _, ⟨q0, _, _, _⟩, _⟩ := rto_at h hq
  injection e with e
  injection e with e
  subst e
  exact ⟨(rto_cs h).1, q0⟩

set_option maxRecDepth 100000 in
set_option maxHeartbeats 2000000 in
/-- One joins a call. -/
theorem do_join {N : Int} {z : Nat} {b : Nat} {ps : List Pc} {i : Nat} {q : Pc} (h : Sep B w wk (rto p N (some ⟨b, 0, none⟩) z ps ++ Rs)) (hq : ps[i]? = some q) (hl : ps.length ≤ 1000) (hj : q.c.j.length ≤ 1000) (t k : Int) (ht0 : 0 ≤ t) (ht1 : t < N)
    (HJ : Hid (joinsT (ps.map Pc.c) t = -1)) (HL : Hid (placeI (ps.map Pc.c) (atT (ps.map Pc.c) t) = -1)) (HO : Hid (placeI (ps.map Pc.c) (atK (ps.map Pc.c) k) = i)) :
    Calls Try.prog 10 #[.pointer (some ⟨p, 0, none⟩), .int .i64 t, .int .i64 k] wk fun e wn => ∃ A5 c5, e = .returned (.tuple #[.int .i64 q.c.t, .int .i64 0]) ∧ Sep B w wn (rto p N (some ⟨b, 0, none⟩) z (ps.set i ⟨{ q.c with j := q.c.j ++ [t] }, A5, c5⟩) ++ Rs) := by
  have HJC := Lib.hid (joins_o h hl t)
  have HLC := Lib.hid (led_o h hl t)
  have HOC := Lib.hid (of_o h hl k)
  rw [HJ.out] at HJC
  rw [HL.out] at HLC
  rw [HO.out] at HOC
  obtain ⟨x0, x1, xf, hpl⟩ := rto_cs h
  have hil := (List.getElem?_eq_some_iff.1 hq).1
  have S0 : Hid (Sep B w wk.drew ([] ++ (rto p N (some ⟨b, 0, none⟩) z ps ++ Rs))) := Lib.hid h.drew
  have HQ := Lib.hid hq
  have hr0 := rto_rd h hq
  have HR : Hid (∀ V : World, Below wk.drew.heap.size wk.drew V → RdL intE V (fun _ => True) (.slice q.A q.c.j.length q.z) q.c.j) := fun V hb => rdL_of (Rd.below hr0.drew hb)
  have HBL : Hid (Below wk.drew.heap.size wk.drew wk.drew) := Below.refl _ _
  obtain ⟨k0, k1⟩ := held_at [] S0.out HQ.out
  have i0 : (0 : Int) ≤ (i : Int) := by omega
  have i1 : (i : Int) < (ps.length : Int) := by omega
  have d0 : decide (t < 0) = false := decide_eq_false (by omega)
  have d1 : decide (N ≤ t) = false := decide_eq_false (by omega)
  have hjl : q.c.j.length ≤ 1000 := hj
  clear h hq hr0 HJ HL HO hj
  go_enter Try.func10, Try.ntmps10
  go_wp2_with fail
  refine HJC.out.mono ?_
  rintro e w1 ⟨rfl, rfl⟩
  go_wp2_with fail
  refine HLC.out.mono ?_
  rintro e w1 ⟨rfl, rfl⟩
  go_wp2_with fail
  refine HOC.out.mono ?_
  rintro e w1 ⟨rfl, rfl⟩
  go_wp2
  clear HJC HLC HOC x0 xf
  refine Held.begin_ (fun V : World => V.cell? ⟨p, 0, none⟩ = some (.slice (some ⟨b, 0, none⟩) ps.length z) ∧ V.cell? ⟨b, i * 4 + 3, none⟩ = some (.slice q.A q.c.j.length q.z)) 20 (by kernel_rfl) ?_
  have hC : (fun V : World => V.cell? ⟨p, 0, none⟩ = some (.slice (some ⟨b, 0, none⟩) ps.length z) ∧ V.cell? ⟨b, i * 4 + 3, none⟩ = some (.slice q.A q.c.j.length q.z)) wk.drew := ⟨k0, k1⟩
  refine Held.take 0 (v := ?_) hC rfl (by kernel_rfl) (by kernel_rfl) (by kernel_rfl) (by kernel_rfl) (fun _ _ _ h => h) ?_ ?_; rotate_left; · (intro W hW; obtain ⟨k0, k1⟩ := hW; go_simp <;> with_reducible rfl)
  try simp only [Act.put, List.setIfInBounds_toArray, List.set_cons_zero, List.set_cons_succ]
  refine Held.take 1 (v := ?_) hC rfl (by kernel_rfl) (by kernel_rfl) (by kernel_rfl) (by kernel_rfl) (fun _ _ _ h => h) ?_ ?_; rotate_left; · (intro W hW; obtain ⟨k0, k1⟩ := hW; go_simp <;> with_reducible rfl)
  try simp only [Act.put, List.setIfInBounds_toArray, List.set_cons_zero, List.set_cons_succ]
  refine Held.take 2 (v := ?_) hC rfl (by kernel_rfl) (by kernel_rfl) (by kernel_rfl) (by kernel_rfl) (fun _ _ _ h => h) ?_ ?_; rotate_left; · (intro W hW; obtain ⟨k0, k1⟩ := hW; go_simp <;> with_reducible rfl)
  try simp only [Act.put, List.setIfInBounds_toArray, List.set_cons_zero, List.set_cons_succ]
  refine Held.take 3 (v := ?_) hC rfl (by kernel_rfl) (by kernel_rfl) (by kernel_rfl) (by kernel_rfl) (fun _ _ _ h => h) ?_ ?_; rotate_left; · (intro W hW; obtain ⟨k0, k1⟩ := hW; go_simp <;> with_reducible rfl)
  try simp only [Act.put, List.setIfInBounds_toArray, List.set_cons_zero, List.set_cons_succ]
  refine Held.take 4 (v := ?_) hC rfl (by kernel_rfl) (by kernel_rfl) (by kernel_rfl) (by kernel_rfl) (fun _ _ _ h => h) ?_ ?_; rotate_left; · (intro W hW; obtain ⟨k0, k1⟩ := hW; go_simp <;> with_reducible rfl)
  try simp only [Act.put, List.setIfInBounds_toArray, List.set_cons_zero, List.set_cons_succ]
  refine Held.take 6 (v := ?_) hC rfl (by kernel_rfl) (by kernel_rfl) (by kernel_rfl) (by kernel_rfl) (fun _ _ _ h => h) ?_ ?_; rotate_left; · (intro W hW; obtain ⟨k0, k1⟩ := hW; go_simp <;> with_reducible rfl)
  try simp only [Act.put, List.setIfInBounds_toArray, List.set_cons_zero, List.set_cons_succ]
  refine Held.take 7 (v := ?_) hC rfl (by kernel_rfl) (by kernel_rfl) (by kernel_rfl) (by kernel_rfl) (fun _ _ _ h => h) ?_ ?_; rotate_left; · (intro W hW; obtain ⟨k0, k1⟩ := hW; go_simp <;> with_reducible rfl)
  try simp only [Act.put, List.setIfInBounds_toArray, List.set_cons_zero, List.set_cons_succ]
  refine Held.take 8 (v := ?_) hC rfl (by kernel_rfl) (by kernel_rfl) (by kernel_rfl) (by kernel_rfl) (fun _ _ _ h => h) ?_ ?_; rotate_left; · (intro W hW; obtain ⟨k0, k1⟩ := hW; go_simp <;> with_reducible rfl)
  try simp only [Act.put, List.setIfInBounds_toArray, List.set_cons_zero, List.set_cons_succ]
  refine Held.take 9 (v := ?_) hC rfl (by kernel_rfl) (by kernel_rfl) (by kernel_rfl) (by kernel_rfl) (fun _ _ _ h => h) ?_ ?_; rotate_left; · (intro W hW; obtain ⟨k0, k1⟩ := hW; go_simp <;> with_reducible rfl)
  try simp only [Act.put, List.setIfInBounds_toArray, List.set_cons_zero, List.set_cons_succ]
  refine Held.take 10 (v := ?_) hC rfl (by kernel_rfl) (by kernel_rfl) (by kernel_rfl) (by kernel_rfl) (fun _ _ _ h => h) ?_ ?_; rotate_left; · (intro W hW; obtain ⟨k0, k1⟩ := hW; go_simp <;> with_reducible rfl)
  try simp only [Act.put, List.setIfInBounds_toArray, List.set_cons_zero, List.set_cons_succ]
  refine Held.take 11 (v := ?_) hC rfl (by kernel_rfl) (by kernel_rfl) (by kernel_rfl) (by kernel_rfl) (fun _ _ _ h => h) ?_ ?_; rotate_left; · (intro W hW; obtain ⟨k0, k1⟩ := hW; go_simp <;> with_reducible rfl)
  try simp only [Act.put, List.setIfInBounds_toArray, List.set_cons_zero, List.set_cons_succ]
  refine Held.take 12 (v := ?_) hC rfl (by kernel_rfl) (by kernel_rfl) (by kernel_rfl) (by kernel_rfl) (fun _ _ _ h => h) ?_ ?_; rotate_left; · (intro W hW; obtain ⟨k0, k1⟩ := hW; go_simp <;> with_reducible rfl)
  try simp only [Act.put, List.setIfInBounds_toArray, List.set_cons_zero, List.set_cons_succ]
  refine Held.take 13 (v := ?_) hC rfl (by kernel_rfl) (by kernel_rfl) (by kernel_rfl) (by kernel_rfl) (fun _ _ _ h => h) ?_ ?_; rotate_left; · (intro W hW; obtain ⟨k0, k1⟩ := hW; go_simp <;> with_reducible rfl)
  try simp only [Act.put, List.setIfInBounds_toArray, List.set_cons_zero, List.set_cons_succ]
  refine Held.take 15 (v := ?_) hC rfl (by kernel_rfl) (by kernel_rfl) (by kernel_rfl) (by kernel_rfl) (fun _ _ _ h => h) ?_ ?_; rotate_left; · (intro W hW; obtain ⟨k0, k1⟩ := hW; go_simp <;> with_reducible rfl)
  try simp only [Act.put, List.setIfInBounds_toArray, List.set_cons_zero, List.set_cons_succ]
  clear hC k0 k1 x1 d0 d1
  generalize wk.drew = w0 at *
  refine Held.either 5 16 (by kernel_rfl) rfl rfl ?_ ?_
  · intro K hK
    go_simp
    have S1 : Hid (Sep B w (w0.alloc (.cells #[] 3)) ([grow intE 3 (.slice (some ⟨w0.heap.size, 0, none⟩) 0 0) []] ++ (rto p N (some ⟨b, 0, none⟩) z ps ++ Rs))) := S0.out.grow0 intE 3
    have HB1 : Hid (Below w0.heap.size w0 (w0.alloc (.cells #[] 3))) := new_below0 w0 _
    refine hK.out _ _ (fun _ => held_at _ S1.out HQ.out) ?_
    clear hK K
    try simp only [Act.put, List.setIfInBounds_toArray, List.set_cons_zero, List.set_cons_succ]
    refine Held.either 14 16 (by kernel_rfl) rfl rfl ?_ ?_
    · intro K hK
      refine wp_appS (.tmp 37) (.tmp 45) intElemL rfl rfl rfl S1.out 0 rfl (HR.out _ HB1.out) (by show 0 + q.c.j.length ≤ _; omega) ?_
      intro A2 c2 w2 l HL2 h2
      have S2 : Hid (Sep B w w2 ([grow intE 3 (.slice A2 l.length c2) l] ++ (rto p N (some ⟨b, 0, none⟩) z ps ++ Rs))) := h2
      clear h2
      refine hK.out _ _ (fun _ => held_at _ S2.out HQ.out) ?_
      clear hK K
      try simp only [Act.put, List.setIfInBounds_toArray, List.set_cons_zero, List.set_cons_succ]
      refine Held.only 16 (by kernel_rfl) rfl ?_
      intro K hK
      go_simp
      have S3 : Hid (Sep B w (w2.alloc (.cells #[.int .i64 t] 3)) ([told intE (.slice (some ⟨w2.heap.size, 0, none⟩) 1 1) [t], grow intE 3 (.slice A2 l.length c2) l] ++ (rto p N (some ⟨b, 0, none⟩) z ps ++ Rs))) := S2.out.lit_told 3 [t] (cs := #[.int .i64 t]) rfl (by simp) rfl
      refine hK.out _ _ (fun _ => held_at _ S3.out HQ.out) ?_
      clear S2 S1 HB1
      clear hK K
      try simp only [Act.put, List.setIfInBounds_toArray, List.set_cons_zero, List.set_cons_succ]
      refine Held.only 17 (by kernel_rfl) rfl ?_
      intro K hK
      refine wp_appS (.tmp 46) (.tmp 48) intElemL rfl rfl rfl S3.out 1 rfl (S3.out.rdL 0 rfl) (by rw [HL2.out]; simp; omega) ?_
      intro A5 c5 w5 l5 HL5 h5
      have S5 : Hid (Sep B w w5 ([told intE _ [t], grow intE 3 (.slice A5 l5.length c5) l5] ++ (rto p N (some ⟨b, 0, none⟩) z ps ++ Rs))) := h5
      clear h5 S3
      obtain ⟨k0, k1⟩ := held_at _ S5.out HQ.out
      refine hK.out _ _ (fun _ => ⟨k0, k1⟩) ?_
      clear hK K
      try simp only [Act.put, List.setIfInBounds_toArray, List.set_cons_zero, List.set_cons_succ]
      refine Held.only 18 (by kernel_rfl) rfl ?_
      intro K hK
      go_simp
      refine hK.out _ _ (fun _ => ⟨k0, k1⟩) ?_
      clear hK K
      try simp only [Act.put, List.setIfInBounds_toArray, List.set_cons_zero, List.set_cons_succ]
      refine Held.only 19 (by kernel_rfl) rfl ?_
      intro K hK
      go_simp
      refine hK.out _ _ (fun _ => ⟨k0, k1⟩) ?_
      clear hK K
      try simp only [Act.put, List.setIfInBounds_toArray, List.set_cons_zero, List.set_cons_succ]
      obtain ⟨_, fz, S6⟩ := join_end S5.out HQ.out (l5 := l5) (t := t) (by rw [HL5.out, HL2.out]; rfl) (by omega)
      refine Held.only 20 (by kernel_rfl) rfl ?_
      intro K hK
      go_simp
      refine hK.out _ _ (fun h => absurd rfl h) ?_
      clear hK K
      try simp only [Act.put, List.setIfInBounds_toArray, List.set_cons_zero, List.set_cons_succ]
      refine Held.done (by kernel_rfl) ?_ _
      obtain ⟨y0, y1⟩ := join_cells S6 (by rw [List.getElem?_set, if_pos rfl, if_pos hil])
      rw [List.length_set] at y0
      have S7 := Lib.hid S6
      clear S6 S5 k0 k1
      go_wp2
      go_ret2
      exact ⟨rfl, _, _, S7.out⟩
    · intro K hK
      go_simp
      have S2 : Hid (Sep B w ((w0.alloc (.cells #[] 3)).alloc (.cells #[.int .i64 t] 3)) ([told intE (.slice (some ⟨(w0.alloc (.cells #[] 3)).heap.size, 0, none⟩) 1 1) [t], grow intE 3 (.slice (some ⟨w0.heap.size, 0, none⟩) 0 0) []] ++ (rto p N (some ⟨b, 0, none⟩) z ps ++ Rs))) := S1.out.lit_told 3 [t] (cs := #[.int .i64 t]) rfl (by simp) rfl
      have HB2 : Hid (Below w0.heap.size w0 ((w0.alloc (.cells #[] 3)).alloc (.cells #[.int .i64 t] 3))) := HB1.out.alloc (by simp) _
      refine hK.out _ _ (fun _ => held_at _ S2.out HQ.out) ?_
      simp only [World.size_alloc] at S2
      clear hK K
      try simp only [Act.put, List.setIfInBounds_toArray, List.set_cons_zero, List.set_cons_succ]
      refine Held.only 14 (by kernel_rfl) rfl ?_
      intro K hK
      refine wp_appS (.tmp 37) (.tmp 45) intElemL rfl rfl rfl S2.out 1 rfl (HR.out _ HB2.out) (by show 0 + q.c.j.length ≤ _; omega) ?_
      intro A2 c2 w2 l HL2 h2
      have S3 : Hid (Sep B w w2 ([told intE (.slice (some ⟨w0.heap.size + 1, 0, none⟩) 1 1) [t], grow intE 3 (.slice A2 l.length c2) l] ++ (rto p N (some ⟨b, 0, none⟩) z ps ++ Rs))) := h2
      clear h2
      refine hK.out _ _ (fun _ => held_at _ S3.out HQ.out) ?_
      clear S1 S2 HB1 HB2
      clear hK K
      try simp only [Act.put, List.setIfInBounds_toArray, List.set_cons_zero, List.set_cons_succ]
      refine Held.only 17 (by kernel_rfl) rfl ?_
      intro K hK
      refine wp_appS (.tmp 46) (.tmp 48) intElemL rfl rfl rfl S3.out 1 rfl (S3.out.rdL 0 rfl) (by rw [HL2.out]; simp; omega) ?_
      intro A5 c5 w5 l5 HL5 h5
      have S5 : Hid (Sep B w w5 ([told intE _ [t], grow intE 3 (.slice A5 l5.length c5) l5] ++ (rto p N (some ⟨b, 0, none⟩) z ps ++ Rs))) := h5
      clear h5 S3
      obtain ⟨k0, k1⟩ := held_at _ S5.out HQ.out
      refine hK.out _ _ (fun _ => ⟨k0, k1⟩) ?_
      clear hK K
      try simp only [Act.put, List.setIfInBounds_toArray, List.set_cons_zero, List.set_cons_succ]
      refine Held.only 18 (by kernel_rfl) rfl ?_
      intro K hK
      go_simp
      refine hK.out _ _ (fun _ => ⟨k0, k1⟩) ?_
      clear hK K
      try simp only [Act.put, List.setIfInBounds_toArray, List.set_cons_zero, List.set_cons_succ]
      refine Held.only 19 (by kernel_rfl) rfl ?_
      intro K hK
      go_simp
      refine hK.out _ _ (fun _ => ⟨k0, k1⟩) ?_
      clear hK K
      try simp only [Act.put, List.setIfInBounds_toArray, List.set_cons_zero, List.set_cons_succ]
      obtain ⟨_, fz, S6⟩ := join_end S5.out HQ.out (l5 := l5) (t := t) (by rw [HL5.out, HL2.out]; rfl) (by omega)
      refine Held.only 20 (by kernel_rfl) rfl ?_
      intro K hK
      go_simp
      refine hK.out _ _ (fun h => absurd rfl h) ?_
      clear hK K
      try simp only [Act.put, List.setIfInBounds_toArray, List.set_cons_zero, List.set_cons_succ]
      refine Held.done (by kernel_rfl) ?_ _
      obtain ⟨y0, y1⟩ := join_cells S6 (by rw [List.getElem?_set, if_pos rfl, if_pos hil])
      rw [List.length_set] at y0
      have S7 := Lib.hid S6
      clear S6 S5 k0 k1
      go_wp2
      go_ret2
      exact ⟨rfl, _, _, S7.out⟩
  · intro K hK
    go_simp
    have S1 : Hid (Sep B w (w0.alloc (.cells #[.int .i64 t] 3)) ([told intE (.slice (some ⟨w0.heap.size, 0, none⟩) 1 1) [t]] ++ (rto p N (some ⟨b, 0, none⟩) z ps ++ Rs))) := S0.out.lit_told 3 [t] (cs := #[.int .i64 t]) rfl (by simp) rfl
    have HB1 : Hid (Below w0.heap.size w0 (w0.alloc (.cells #[.int .i64 t] 3))) := new_below0 w0 _
    refine hK.out _ _ (fun _ => held_at _ S1.out HQ.out) ?_
    clear hK K
    try simp only [Act.put, List.setIfInBounds_toArray, List.set_cons_zero, List.set_cons_succ]
    refine Held.only 5 (by kernel_rfl) rfl ?_
    intro K hK
    go_simp
    have S2 : Hid (Sep B w ((w0.alloc (.cells #[.int .i64 t] 3)).alloc (.cells #[] 3)) ([grow intE 3 (.slice (some ⟨(w0.alloc (.cells #[.int .i64 t] 3)).heap.size, 0, none⟩) 0 0) [], told intE (.slice (some ⟨w0.heap.size, 0, none⟩) 1 1) [t]] ++ (rto p N (some ⟨b, 0, none⟩) z ps ++ Rs))) := S1.out.grow0 intE 3
    have HB2 : Hid (Below w0.heap.size w0 ((w0.alloc (.cells #[.int .i64 t] 3)).alloc (.cells #[] 3))) := HB1.out.alloc (by simp) _
    refine hK.out _ _ (fun _ => held_at _ S2.out HQ.out) ?_
    simp only [World.size_alloc] at S2
    clear hK K
    try simp only [Act.put, List.setIfInBounds_toArray, List.set_cons_zero, List.set_cons_succ]
    refine Held.only 14 (by kernel_rfl) rfl ?_
    intro K hK
    refine wp_appS (.tmp 37) (.tmp 45) intElemL rfl rfl rfl S2.out 0 rfl (HR.out _ HB2.out) (by show 0 + q.c.j.length ≤ _; omega) ?_
    intro A2 c2 w2 l HL2 h2
    have S3 : Hid (Sep B w w2 ([told intE (.slice (some ⟨w0.heap.size, 0, none⟩) 1 1) [t], grow intE 3 (.slice A2 l.length c2) l] ++ (rto p N (some ⟨b, 0, none⟩) z ps ++ Rs))) := Sep.swap h2
    clear h2
    refine hK.out _ _ (fun _ => held_at _ S3.out HQ.out) ?_
    clear S1 S2 HB1 HB2
    clear hK K
    try simp only [Act.put, List.setIfInBounds_toArray, List.set_cons_zero, List.set_cons_succ]
    refine Held.only 17 (by kernel_rfl) rfl ?_
    intro K hK
    refine wp_appS (.tmp 46) (.tmp 48) intElemL rfl rfl rfl S3.out 1 rfl (S3.out.rdL 0 rfl) (by rw [HL2.out]; simp; omega) ?_
    intro A5 c5 w5 l5 HL5 h5
    have S5 : Hid (Sep B w w5 ([told intE _ [t], grow intE 3 (.slice A5 l5.length c5) l5] ++ (rto p N (some ⟨b, 0, none⟩) z ps ++ Rs))) := h5
    clear h5 S3
    obtain ⟨k0, k1⟩ := held_at _ S5.out HQ.out
    refine hK.out _ _ (fun _ => ⟨k0, k1⟩) ?_
    clear hK K
    try simp only [Act.put, List.setIfInBounds_toArray, List.set_cons_zero, List.set_cons_succ]
    refine Held.only 18 (by kernel_rfl) rfl ?_
    intro K hK
    go_simp
    refine hK.out _ _ (fun _ => ⟨k0, k1⟩) ?_
    clear hK K
    try simp only [Act.put, List.setIfInBounds_toArray, List.set_cons_zero, List.set_cons_succ]
    refine Held.only 19 (by kernel_rfl) rfl ?_
    intro K hK
    go_simp
    refine hK.out _ _ (fun _ => ⟨k0, k1⟩) ?_
    clear hK K
    try simp only [Act.put, List.setIfInBounds_toArray, List.set_cons_zero, List.set_cons_succ]
    obtain ⟨_, fz, S6⟩ := join_end S5.out HQ.out (l5 := l5) (t := t) (by rw [HL5.out, HL2.out]; rfl) (by omega)
    refine Held.only 20 (by kernel_rfl) rfl ?_
    intro K hK
    go_simp
    refine hK.out _ _ (fun h => absurd rfl h) ?_
    clear hK K
    try simp only [Act.put, List.setIfInBounds_toArray, List.set_cons_zero, List.set_cons_succ]
    refine Held.done (by kernel_rfl) ?_ _
    obtain ⟨y0, y1⟩ := join_cells S6 (by rw [List.getElem?_set, if_pos rfl, if_pos hil])
    rw [List.length_set] at y0
    have S7 := Lib.hid S6
    clear S6 S5 k0 k1
    go_wp2
    go_ret2
    exact ⟨rfl, _, _, S7.out⟩

set_option maxRecDepth 100000 in
set_option maxHeartbeats 2000000 in
theorem do_s (h : Sep B w wk (rt p s :: Rs)) (t k : Int) (hk : In64 k) :
    Calls Try.prog 10 #[.pointer (some ⟨p, 0, none⟩), .int .i64 t, .int .i64 k] wk fun e wn => e = .returned (.tuple #[.int .i64 (doV s t k), .int .i64 (doE s t)]) ∧ Sep B w wn (rt p (doS s t k) :: Rs) := by
  have HOK := Lib.hid ((rt_ok h).doit t hk)
  have HF := do_facts (rt_ok h) t
  have HJ := Lib.hid (joins_s h t)
  have HL := Lib.hid (led_s h t)
  have HO := Lib.hid (of_s h k)
  have HE := Lib.hid (do_errs s t)
  have HVS : Hid (doE s t ≠ 0 → doV s t k = -1 ∧ doS s t k = s) := fun h0 => ⟨by unfold doV; rw [if_neg h0], by unfold doS; rw [if_neg h0]⟩
  obtain ⟨A, z, ps, hs, hok, he⟩ := rt_open h
  have S0 := Lib.hid hs
  have H0 := Lib.hid h
  obtain ⟨x0, x1, xf, hpl⟩ := rto_cs hs
  have HPS := Lib.hid he
  rcases HE.out with ⟨e0, e1⟩ | ⟨e0, e1, e2⟩ | ⟨e0, e1, e2, e3⟩ | ⟨e0, e1, e2, e3⟩
  · have hn : t < 0 ∨ (0 ≤ t ∧ s.N ≤ t) := by
      have h1 : ¬ nameM s.N t = true := by rw [e1]; simp
      rw [name_iff] at h1
      omega
    obtain ⟨g1, g2⟩ := HVS.out (by omega)
    rw [e0, g1, g2]
    clear h hs hok he HOK HF HJ HL HO HE HVS e0 e1 g1 g2 S0 HPS
    generalize s.N = N at *
    rcases hn with h1 | ⟨h1, h2⟩
    all_goals
      go_enter Try.func10, Try.ntmps10
      go_wp2
      go_ret2
      exact ⟨rfl, H0.out⟩
  · obtain ⟨t0, t1⟩ := name_iff.1 e1
    obtain ⟨g1, g2⟩ := HVS.out (by omega)
    have hj := HF.1 e2
    rw [e0, g1, g2]
    clear h hs hok he HOK HF HL HO HE HVS e0 e1 e2 g1 g2 S0 HPS
    generalize joinsT s.L t = jv at *
    generalize s.N = N at *
    have d0 : decide (t < 0) = false := decide_eq_false (by omega)
    have d1 : decide (N ≤ t) = false := decide_eq_false (by omega)
    go_enter Try.func10, Try.ntmps10
    go_wp2_with fail
    refine HJ.out.mono ?_
    rintro e w1 ⟨rfl, rfl⟩
    go_wp2
    go_ret2
    exact ⟨rfl, H0.out⟩
  · obtain ⟨t0, t1⟩ := name_iff.1 e1
    obtain ⟨g1, g2⟩ := HVS.out (by omega)
    have hj := HF.2.1 e2
    have hl := HF.2.2.1 e3
    rw [hj] at HJ
    rw [e0, g1, g2]
    clear h hs hok he HOK HF HO HE HVS e0 e1 e2 e3 g1 g2 S0 HPS hj
    generalize placeI s.L (atT s.L t) = lv at *
    generalize s.N = N at *
    have d0 : decide (t < 0) = false := decide_eq_false (by omega)
    have d1 : decide (N ≤ t) = false := decide_eq_false (by omega)
    go_enter Try.func10, Try.ntmps10
    go_wp2_with fail
    refine HJ.out.mono ?_
    rintro e w1 ⟨rfl, rfl⟩
    go_wp2_with fail
    refine HL.out.mono ?_
    rintro e w1 ⟨rfl, rfl⟩
    go_wp2
    go_ret2
    exact ⟨rfl, H0.out⟩
  · obtain ⟨t0, t1⟩ := name_iff.1 e1
    have hj := HF.2.1 e2
    have hl := HF.2.2.2 e3
    have hlen := len_L hok
    cases hany : anyK s.L k with
    | true =>
      obtain ⟨LA, c, LB, e4, hc, hA, hB⟩ := hok.split_key hany
      have hE : placeI s.L (atK s.L k) = LA.length := by unfold atK; rw [e4]; exact place_cut (by unfold isK; rw [hc.1, hc.2]; simp) hA
      have hG : (doS s t k).L = LA ++ { c with j := c.j ++ [t] } :: LB := by unfold doS; rw [if_pos e0, if_pos hany]; show s.L.map _ = _; rw [e4]; exact join_at hc hA hB
      have hN : (doS s t k).N = s.N := by unfold doS; rw [if_pos e0, if_pos hany]
      have hV : doV s t k = c.t := by unfold doV; rw [if_pos e0, if_pos hany, e4]; exact leader_at hc hA
      have hcj : c.j.length ≤ 1000 := by
        have h1 := hok.len
        rw [e4, (all_at (c := c)).length_eq, List.length_append] at h1
        omega
      have he2 := he
      rw [e4] at he2
      obtain ⟨PA, q, PB, hps, rfl, rfl, rfl⟩ := cut_at he2
      have hq : ps[PA.length]? = some q := by rw [hps]; simp
      have hpl' : ps.length ≤ 1000 := by rw [← he, List.length_map] at hlen; exact hlen
      obtain ⟨b, hAb, _⟩ := rto_at hs hq
      subst hAb
      rw [List.length_map] at hE
      rw [← he] at hj hl hE
      have hd := do_join hs hq hpl' hcj t k t0 t1 hj hl hE
      rw [e0, hV]
      refine hd.mono ?_
      rintro e wn ⟨A5, c5, rfl, h5⟩
      refine ⟨rfl, rt_close (s := doS s t k) (ps := ps.set PA.length ⟨{ q.c with j := q.c.j ++ [t] }, A5, c5⟩) (A := some ⟨b, 0, none⟩) (z := z) ?_ HOK.out ?_⟩
      · rw [hN]; exact h5
      · rw [hG, hps]; simp
    | false =>
      have hE : placeI s.L (atK s.L k) = -1 := place_no (any_no hany)
      have hG : doS s t k = { s with L := s.L ++ [⟨t, k, false, []⟩] } := by unfold doS; rw [if_pos e0, if_neg (by rw [hany]; simp)]
      have hV : doV s t k = t := by unfold doV; rw [if_pos e0, if_neg (by rw [hany]; simp)]
      have hpl' : ps.length ≤ 1000 := by rw [← he, List.length_map] at hlen; exact hlen
      rw [hj] at HJ
      rw [hl] at HL
      rw [hE] at HO
      rw [hG] at HOK
      rw [e0, hV, hG]
      have S1 := Lib.hid (hs.grow0 pcE 44)
      have HRW : Hid (RdL pcE (wk.alloc (.cells #[] 44)) (fun _ => True) (.slice A ps.length z) ps) := (S1.out.own 2 rfl).rd (by omega) fun _ _ => trivial
      obtain ⟨N, hN⟩ : ∃ N, N = s.N := ⟨_, rfl⟩
      rw [← hN] at x1 t1
      have HN := Lib.hid hN
      have d0 : decide (t < 0) = false := decide_eq_false (by omega)
      have d1 : decide (N ≤ t) = false := decide_eq_false (by omega)
      clear h hs hok he HF HE HVS e0 e1 e2 e3 hE hG hV hany hj hl hN
      go_enter Try.func10, Try.ntmps10
      go_wp2_with fail
      refine HJ.out.mono ?_
      rintro e w1 ⟨rfl, rfl⟩
      go_wp2_with fail
      refine HL.out.mono ?_
      rintro e w1 ⟨rfl, rfl⟩
      go_wp2_with fail
      refine HO.out.mono ?_
      rintro e w1 ⟨rfl, rfl⟩
      go_wp2_with (first
        | (at_builtin; refine wpList_appS rfl _ _ pcElem rfl rfl rfl S1.out 0 rfl HRW.out (by show 0 + ps.length ≤ _; omega) ?_; intro A3 c3' w3 l3 HL3 h3; have HX1 : Hid (RdL pcE (w3.alloc (.cells #[.int .i64 t, .int .i64 k, .bool false, .slice none 0 0] 44)) (fun _ => True) (.slice (some ⟨w3.heap.size, 0, none⟩) 1 1) [⟨⟨t, k, false, []⟩, none, 0⟩]) := RdL.lit1 (E := pcE) w3 44 ⟨⟨t, k, false, []⟩, none, 0⟩ (cs := #[.int .i64 t, .int .i64 k, .bool false, .slice none 0 0]) rfl (fun _ => True) trivial; have S3 := Lib.hid (Sep.next h3 (new_below0 w3 (.cells #[.int .i64 t, .int .i64 k, .bool false, .slice none 0 0] 44))); have hl3 : Hid (l3.length = ps.length) := congrArg List.length HL3.out; clear h3)
        | (at_builtin; refine wpList_appS rfl _ _ pcElem rfl rfl rfl S3.out 0 rfl HX1.out (by rw [hl3.out]; show ps.length + 1 ≤ _; omega) ?_; intro A5 c5 w5 l5 HL5 h5; have k5 := (cell_block (Sep.blk_at h5 1 rfl) 0).trans rfl; have f5 := frozen_block (Sep.blk_at h5 1 rfl) 0; have hp5 := lt_of_block (Sep.blk_at h5 1 rfl); have S5 := Lib.hid h5; clear h5))
      go_wp2
      go_ret2
      have hl5 : l5 = ps ++ [⟨⟨t, k, false, []⟩, none, 0⟩] := by rw [HL5.out, HL3.out]; rfl
      subst hl5
      refine ⟨rfl, rt_close (ps := ps ++ [⟨⟨t, k, false, []⟩, none, 0⟩]) (A := A5) (z := c5) ?_ HOK.out (by rw [List.map_append, HPS.out]; rfl)⟩
      have h6 := S5.out.set 1 rfl 0 (.slice A5 (ps ++ [(⟨⟨t, k, false, []⟩, none, 0⟩ : Pc)]).length c5)
      have h7 := (h6.swap.sub (.cons_cons _ (.cons_cons _ (.cons _ (List.Sublist.refl _))))).nil_nums
      have h8 := reads_in h7 (L' := (ps ++ [(⟨⟨t, k, false, []⟩, none, 0⟩ : Pc)]).map fun q => (q.v, q.c.j)) (by
        intro x hx
        rw [List.map_append] at hx
        rcases List.mem_append.1 hx with hx | hx
        · exact List.mem_cons_of_mem _ hx
        · rw [List.map_singleton, List.mem_singleton] at hx
          subst hx
          exact List.mem_cons_self ..)
      show Sep B w _ (rto p s.N A5 c5 _ ++ Rs)
      exact h8
end
end Go.Proofs.Ytbkeodjebfkkdaa.RefFlight
