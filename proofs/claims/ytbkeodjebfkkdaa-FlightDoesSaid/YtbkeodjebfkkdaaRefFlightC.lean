/-
  Contracts of the functions of package countermandref15 (the document's answer for layer 15), third part: Finish, Leave. Condition: the flight is at hand.
-/
import Derived.Test.YtbkeodjebfkkdaaRefFlightB
namespace Go.Proofs.Ytbkeodjebfkkdaa.Hand
open Go.ChangeShapes Go.WideShapes Go.ChangeAt Go.RowKit Mem
section
variable {α : Type} {E : Enc α} {w : World} {G : Nat → Prop} {W : List α}
theorem rdl_take {A : Option Addr} {n c k n' c' : Nat} (h : RdL E w G (.slice A n c) W) (hk : n' = (W.take k).length) : RdL E w G (.slice A n' c') (W.take k) := by
  subst hk
  obtain ⟨A1, c1, e, hm, hx⟩ := h
  injection e with e1 e2 e3
  subst e1
  refine ⟨A, c', rfl, Nat.le_trans (by rw [List.length_take]; omega) hm, fun h0 => ?_⟩
  rw [List.length_take] at h0
  obtain ⟨b, off, e, hG, hb, hc⟩ := hx (by omega)
  refine ⟨b, off, e, hG, hb, fun i a hi j u hj => hc i a ?_ j u hj⟩
  rw [List.getElem?_take] at hi
  split at hi
  · exact hi
  · cases hi
theorem rdl_drop {A' : Option Addr} {b off n c k n' c' : Nat} (h : RdL E w G (.slice (some ⟨b, off, none⟩) n c) W) (hn : n' = (W.drop k).length) (hA : k < W.length → A' = some ⟨b, off + k * E.sz, none⟩) : RdL E w G (.slice A' n' c') (W.drop k) := by
  subst hn
  obtain ⟨A1, c1, e, hm, hx⟩ := h
  injection e with e1 e2 e3
  subst e1
  refine ⟨A', c', rfl, by rw [List.length_drop]; omega, fun h0 => ?_⟩
  rw [List.length_drop] at h0
  obtain ⟨b1, off1, e, hF, hb, hc⟩ := hx (by omega)
  injection e with e
  injection e with e e'
  subst e e'
  refine ⟨b, off + k * E.sz, hA (by omega), hF, hb, fun i a hi j u hj => ?_⟩
  rw [List.getElem?_drop] at hi
  have h1 := hc (k + i) a hi j u hj
  rw [show off + k * E.sz + (i * E.sz + j) = off + ((k + i) * E.sz + j) by rw [Nat.add_mul]; omega]
  exact h1
end
end Go.Proofs.Ytbkeodjebfkkdaa.Hand
namespace Go.Proofs.Ytbkeodjebfkkdaa.RefFlight
open Go.ChangeShapes Go.WideShapes Go.ChangeAt Go.RowKit Mem MutP FlightP Hand RefMut

theorem size4 (w : World) : (sizeOf (Try.prog.elem 45)).run Try.prog w = .ok 4 w := by kernel_rfl
theorem und4 : Try.prog.underlying 45 = some (.slice (Try.prog.elem 45)) := by kernel_rfl
/-- l[:i]. -/
theorem run_front (b n z i : Nat) (hz : 0 < z) (hi : i ≤ z) (w : World) : (Instr.slice 45 (.slice (some ⟨b, 0, none⟩) n z) none (some (.int .i64 i)) none).run Try.prog w = .ok (.slice (some ⟨b, 0, none⟩) i z) w := by
  rw [run_slice_h (ht := und4) (h0 := by omega) (h2 := by omega), size4]
  show Result.ok (sliced _ 0 (Int.toNat i) z 4) w = _
  unfold sliced
  rw [if_neg (by omega)]
  rfl
/-- l[m:]. -/
theorem run_back (b n z m : Nat) (y : Int) (hy : y = m) (hm : m ≤ n) : ∃ A', (m < n → n ≤ z → A' = some ⟨b, m * 4, none⟩) ∧ ∀ w, (Instr.slice 45 (.slice (some ⟨b, 0, none⟩) n z) (some (.int .i64 y)) none none).run Try.prog w = .ok (.slice A' (n - m) (z - m)) w := by
  subst hy
  refine ⟨if z = m then some ⟨b, 0, none⟩ else some ⟨b, m * 4, none⟩, fun h1 h2 => by rw [if_neg (by omega)], fun w => ?_⟩
  rw [run_slice_l (ht := und4) (h0 := by omega) (h1 := by omega), size4]
  show Result.ok (sliced _ (Int.toNat m) n z 4) w = _
  unfold sliced
  rw [Int.toNat_natCast]
  split
  · rfl
  · simp [Addr.add]
    intro h
    omega

section
variable {B : Nat → Prop} {w wk : World} {Rs : List Res} {p : Nat} {s : St}
theorem reads_less {R1 R2 : Res} {L L' : List (Value × List Int)} (h : Sep B w wk (R1 :: R2 :: reads L :: Rs)) (hs : ∀ x ∈ L', x ∈ L) : Sep B w wk (R1 :: R2 :: reads L' :: Rs) := by
  have h1 : Sep B w wk (reads L :: R1 :: R2 :: Rs) := h.perm (by exact (List.perm_append_comm (l₁ := [_, _]) (l₂ := [_])).append_right Rs)
  exact (h1.reads_sub hs).perm (by exact (List.perm_append_comm (l₁ := [_]) (l₂ := [_, _])).append_right Rs)
theorem row_rd (X : List Res) {N : Int} {A : Option Addr} {z : Nat} {ps : List Pc} (h : Sep B w wk (X ++ (rto p N A z ps ++ Rs))) (hl : ps.length ≤ 1000) : RdL pcE wk (fun _ => True) (.slice A ps.length z) ps := by
  have h1 := h.sub (List.sublist_append_right X _)
  exact (h1.own 1 rfl).rd (by omega) fun _ _ => trivial
theorem p_cell (X : List Res) {N : Int} {A : Option Addr} {z : Nat} {ps : List Pc} (h : Sep B w wk (X ++ (rto p N A z ps ++ Rs))) : wk.cell? ⟨p, 0, none⟩ = some (.slice A ps.length z) ∧ wk.frozen? ⟨p, 0, none⟩ = false := by
  have h1 := rto_cs (h.sub (List.sublist_append_right X _))
  exact ⟨h1.1, h1.2.2.1⟩

set_option maxRecDepth 100000 in
set_option maxHeartbeats 2000000 in
/-- A call is over. -/
theorem fin_main {N : Int} {z : Nat} {b : Nat} {ps : List Pc} {i : Nat} {q : Pc} (h : Sep B w wk (rto p N (some ⟨b, 0, none⟩) z ps ++ Rs)) (hq : ps[i]? = some q) (hl : ps.length ≤ 1000) (t : Int) (ht0 : 0 ≤ t) (ht1 : t < N) (HL : Hid (placeI (ps.map Pc.c) (atT (ps.map Pc.c) t) = i)) :
    Calls Try.prog 11 #[.pointer (some ⟨p, 0, none⟩), .int .i64 t] wk fun e wn => ∃ A5 c5, e = .returned (.tuple #[.slice q.A q.c.j.length q.z, .int .i64 0]) ∧ Rd wn (fun _ => True) (.slice q.A q.c.j.length q.z) q.c.j ∧ Sep B w wn (rto p N A5 c5 (ps.take i ++ ps.drop (i + 1)) ++ Rs) := by
  have HLC := Lib.hid (led_o h hl t)
  rw [HL.out] at HLC
  obtain ⟨x0, x1, xf, hpl⟩ := rto_cs h
  have hil := (List.getElem?_eq_some_iff.1 hq).1
  have hcz := fits_ownL (h.own 1 rfl) _ _ _ rfl
  have S0 : Hid (Sep B w wk.drew ([] ++ (rto p N (some ⟨b, 0, none⟩) z ps ++ Rs))) := Lib.hid h.drew
  have HQ := Lib.hid hq
  obtain ⟨k0, k1⟩ := held_at [] S0.out HQ.out
  have x3 : wk.cell? ⟨b, i * 4 + 3, none⟩ = some (.slice q.A q.c.j.length q.z) := k1
  have i0 : (0 : Int) ≤ (i : Int) := by omega
  have i1 : (i : Int) < (ps.length : Int) := by omega
  have d0 : decide (t < 0) = false := decide_eq_false (by omega)
  have d1 : decide (N ≤ t) = false := decide_eq_false (by omega)
  obtain ⟨y, hy⟩ : ∃ y : Int, y = ((i + 1 : Nat) : Int) := ⟨_, rfl⟩
  have hw : IntKind.i64.wrap ((i : Int) + 1) = y := by rw [hy]; rw [IntWalk.i64_in _ (by omega)]; simp
  have hfr := run_front b ps.length z i (by omega) (by omega)
  obtain ⟨A', hA', hbk⟩ := run_back b ps.length z (i + 1) y hy hil
  have HA' : Hid (i + 1 < ps.length → A' = some ⟨b, 0 + (i + 1) * 4, none⟩) := fun h1 => by rw [Nat.zero_add]; exact hA' h1 hcz
  clear h hq HL k1 hy hA'
  go_enter Try.func11, Try.ntmps11
  go_wp2_with fail
  refine HLC.out.mono ?_
  rintro e w1 ⟨rfl, rfl⟩
  go_wp2
  clear HLC x0 xf
  refine Held.begin_ (fun V : World => V.cell? ⟨p, 0, none⟩ = some (.slice (some ⟨b, 0, none⟩) ps.length z)) 19 (by kernel_rfl) ?_
  have hC : (fun V : World => V.cell? ⟨p, 0, none⟩ = some (.slice (some ⟨b, 0, none⟩) ps.length z)) wk.drew := k0
  refine Held.take 0 (v := ?_) hC rfl (by kernel_rfl) (by kernel_rfl) (by kernel_rfl) (by kernel_rfl) (fun _ _ _ h => h) ?_ ?_; rotate_left; · (intro W hW; have k0 := hW; go_simp <;> with_reducible rfl)
  try simp only [Act.put, List.setIfInBounds_toArray, List.set_cons_zero, List.set_cons_succ]
  refine Held.take 2 (v := ?_) hC rfl (by kernel_rfl) (by kernel_rfl) (by kernel_rfl) (by kernel_rfl) (fun _ _ _ h => h) ?_ ?_; rotate_left; · (intro W hW; have k0 := hW; go_simp <;> with_reducible rfl)
  try simp only [Act.put, List.setIfInBounds_toArray, List.set_cons_zero, List.set_cons_succ]
  refine Held.take 3 (v := ?_) hC rfl (by kernel_rfl) (by kernel_rfl) (by kernel_rfl) (by kernel_rfl) (fun _ _ _ h => h) ?_ ?_; rotate_left; · (intro W hW; have k0 := hW; go_simp <;> with_reducible rfl)
  try simp only [Act.put, List.setIfInBounds_toArray, List.set_cons_zero, List.set_cons_succ]
  refine Held.take 4 (v := ?_) hC rfl (by kernel_rfl) (by kernel_rfl) (by kernel_rfl) (by kernel_rfl) (fun _ _ _ h => h) ?_ ?_; rotate_left; · (intro W hW; have k0 := hW; go_simp <;> with_reducible rfl)
  try simp only [Act.put, List.setIfInBounds_toArray, List.set_cons_zero, List.set_cons_succ]
  refine Held.take 5 (v := ?_) hC rfl (by kernel_rfl) (by kernel_rfl) (by kernel_rfl) (by kernel_rfl) (fun _ _ _ h => h) ?_ ?_; rotate_left; · (intro W hW; have k0 := hW; go_simp <;> with_reducible rfl)
  try simp only [Act.put, List.setIfInBounds_toArray, List.set_cons_zero, List.set_cons_succ]
  refine Held.take 6 (v := ?_) hC rfl (by kernel_rfl) (by kernel_rfl) (by kernel_rfl) (by kernel_rfl) (fun _ _ _ h => h) ?_ ?_; rotate_left; · (intro W hW; have k0 := hW; go_simp <;> with_reducible rfl)
  try simp only [Act.put, List.setIfInBounds_toArray, List.set_cons_zero, List.set_cons_succ]
  refine Held.take 7 (v := ?_) hC rfl (by kernel_rfl) (by kernel_rfl) (by kernel_rfl) (by kernel_rfl) (fun _ _ _ h => h) ?_ ?_; rotate_left; · (intro W hW; have k0 := hW; go_simp <;> with_reducible rfl)
  try simp only [Act.put, List.setIfInBounds_toArray, List.set_cons_zero, List.set_cons_succ]
  refine Held.take 9 (v := ?_) hC rfl (by kernel_rfl) (by kernel_rfl) (by kernel_rfl) (by kernel_rfl) (fun _ _ _ h => h) ?_ ?_; rotate_left; · (intro W hW; have k0 := hW; go_simp <;> with_reducible rfl)
  try simp only [Act.put, List.setIfInBounds_toArray, List.set_cons_zero, List.set_cons_succ]
  refine Held.take 10 (v := ?_) hC rfl (by kernel_rfl) (by kernel_rfl) (by kernel_rfl) (by kernel_rfl) (fun _ _ _ h => h) ?_ ?_; rotate_left; · (intro W hW; have k0 := hW; go_simp <;> with_reducible rfl)
  try simp only [Act.put, List.setIfInBounds_toArray, List.set_cons_zero, List.set_cons_succ]
  refine Held.take 11 (v := ?_) hC rfl (by kernel_rfl) (by kernel_rfl) (by kernel_rfl) (by kernel_rfl) (fun _ _ _ h => h) ?_ ?_; rotate_left; · (intro W hW; have k0 := hW; go_simp <;> with_reducible rfl)
  try simp only [Act.put, List.setIfInBounds_toArray, List.set_cons_zero, List.set_cons_succ]
  refine Held.take 12 (v := ?_) hC rfl (by kernel_rfl) (by kernel_rfl) (by kernel_rfl) (by kernel_rfl) (fun _ _ _ h => h) ?_ ?_; rotate_left; · (intro W hW; have k0 := hW; go_simp <;> with_reducible rfl)
  try simp only [Act.put, List.setIfInBounds_toArray, List.set_cons_zero, List.set_cons_succ]
  refine Held.take 13 (v := ?_) hC rfl (by kernel_rfl) (by kernel_rfl) (by kernel_rfl) (by kernel_rfl) (fun _ _ _ h => h) ?_ ?_; rotate_left; · (intro W hW; have k0 := hW; go_simp <;> with_reducible rfl)
  try simp only [Act.put, List.setIfInBounds_toArray, List.set_cons_zero, List.set_cons_succ]
  refine Held.take 14 (v := ?_) hC rfl (by kernel_rfl) (by kernel_rfl) (by kernel_rfl) (by kernel_rfl) (fun _ _ _ h => h) ?_ ?_; rotate_left; · (intro W hW; have k0 := hW; go_simp <;> with_reducible rfl)
  try simp only [Act.put, List.setIfInBounds_toArray, List.set_cons_zero, List.set_cons_succ]
  refine Held.take 15 (v := ?_) hC rfl (by kernel_rfl) (by kernel_rfl) (by kernel_rfl) (by kernel_rfl) (fun _ _ _ h => h) ?_ ?_; rotate_left; · (intro W hW; have k0 := hW; go_simp <;> with_reducible rfl)
  try simp only [Act.put, List.setIfInBounds_toArray, List.set_cons_zero, List.set_cons_succ]
  clear hC k0 x1 x3 d0 d1 hfr hbk
  generalize wk.drew = w0 at *
  refine Held.only 1 (by kernel_rfl) rfl ?_
  intro K hK
  go_simp
  have S1 : Hid (Sep B w (w0.alloc (.cells #[] 44)) ([grow pcE 44 (.slice (some ⟨w0.heap.size, 0, none⟩) 0 0) []] ++ (rto p N (some ⟨b, 0, none⟩) z ps ++ Rs))) := S0.out.grow0 pcE 44
  refine hK.out _ _ (fun _ => (p_cell _ S1.out).1) ?_
  clear hK K
  try simp only [Act.put, List.setIfInBounds_toArray, List.set_cons_zero, List.set_cons_succ]
  refine Held.only 8 (by kernel_rfl) rfl ?_
  intro K hK
  have hlt : (ps.take i).length = i := by rw [List.length_take]; omega
  refine wp_appS (.tmp 32) (.tmp 38) pcElem rfl rfl rfl S1.out 0 rfl (rdl_take (k := i) (row_rd _ S1.out hl) hlt.symm) (by rw [hlt]; show 0 + i ≤ _; omega) ?_
  intro A2 c2 w2 l HL2 h2
  have S2 : Hid (Sep B w w2 ([grow pcE 44 (.slice A2 l.length c2) l] ++ (rto p N (some ⟨b, 0, none⟩) z ps ++ Rs))) := h2
  clear h2 hlt
  refine hK.out _ _ (fun _ => (p_cell _ S2.out).1) ?_
  clear S1
  clear hK K
  try simp only [Act.put, List.setIfInBounds_toArray, List.set_cons_zero, List.set_cons_succ]
  refine Held.only 16 (by kernel_rfl) rfl ?_
  intro K hK
  have hld : (ps.drop (i + 1)).length = ps.length - (i + 1) := List.length_drop
  have hl2 : l.length = i := by rw [HL2.out]; simp; omega
  refine wp_appS (.tmp 39) (.tmp 46) pcElem rfl rfl rfl S2.out 0 rfl (rdl_drop (k := i + 1) (row_rd _ S2.out hl) hld.symm HA'.out) (by rw [hld, hl2]; omega) ?_
  intro A5 c5 w5 l5 HL5 h5
  have S5 : Hid (Sep B w w5 ([grow pcE 44 (.slice A5 l5.length c5) l5] ++ (rto p N (some ⟨b, 0, none⟩) z ps ++ Rs))) := h5
  clear h5 hld hl2 S2
  obtain ⟨k0, kf⟩ := p_cell _ S5.out
  refine hK.out _ _ (fun _ => k0) ?_
  clear hK K
  try simp only [Act.put, List.setIfInBounds_toArray, List.set_cons_zero, List.set_cons_succ]
  refine Held.only 17 (by kernel_rfl) rfl ?_
  intro K hK
  go_simp
  refine hK.out _ _ (fun _ => k0) ?_
  clear hK K
  try simp only [Act.put, List.setIfInBounds_toArray, List.set_cons_zero, List.set_cons_succ]
  refine Held.only 18 (by kernel_rfl) rfl ?_
  intro K hK
  go_simp
  refine hK.out _ _ (fun _ => k0) ?_
  clear hK K
  try simp only [Act.put, List.setIfInBounds_toArray, List.set_cons_zero, List.set_cons_succ]
  refine Held.only 19 (by kernel_rfl) rfl ?_
  intro K hK
  go_simp
  refine hK.out _ _ (fun h => absurd rfl h) ?_
  clear hK K
  try simp only [Act.put, List.setIfInBounds_toArray, List.set_cons_zero, List.set_cons_succ]
  refine Held.done (by kernel_rfl) ?_ _
  have hl5 : l5 = ps.take i ++ ps.drop (i + 1) := by rw [HL5.out, HL2.out]; rfl
  have HL6 := Lib.hid hl5
  have h6 := S5.out.set 1 rfl 0 (.slice A5 l5.length c5)
  have HR : Hid (Rd (w5.setCell ⟨p, 0, none⟩ (.slice A5 l5.length c5)) (fun _ => True) (.slice q.A q.c.j.length q.z) q.c.j) := h6.reads_at 3 rfl (x := (q.v, q.c.j)) (List.mem_map.2 ⟨q, List.mem_of_getElem? HQ.out, rfl⟩)
  have h7 := h6.swap.sub (.cons_cons _ (.cons_cons _ (.cons _ (List.Sublist.refl _))))
  have S7 : Hid (Sep B w (w5.setCell ⟨p, 0, none⟩ (.slice A5 l5.length c5)) (rto p N A5 c5 l5 ++ Rs)) := reads_less h7 (by
    intro x hx
    obtain ⟨y, hy, rfl⟩ := List.mem_map.1 hx
    rw [HL6.out] at hy
    refine List.mem_map.2 ⟨y, ?_, rfl⟩
    rcases List.mem_append.1 hy with hy | hy
    · exact List.mem_of_mem_take hy
    · exact List.mem_of_mem_drop hy)
  clear h6 h7 S5 hl5 k0 kf
  go_wp2
  go_ret2
  have hl6 := HL6.out
  subst hl6
  exact ⟨_, _, rfl, HR.out, S7.out⟩

theorem finish_s (h : Sep B w wk (rt p s :: Rs)) (t : Int) :
    Calls Try.prog 11 #[.pointer (some ⟨p, 0, none⟩), .int .i64 t] wk fun e wn => ∃ A c, e = .returned (.tuple #[.slice A (finL s t).length c, .int .i64 (finE s t)]) ∧ Rd wn (fun _ => True) (.slice A (finL s t).length c) (finL s t) ∧ Sep B w wn (rt p (finS s t) :: Rs) := by
  have HOK := Lib.hid ((rt_ok h).fin t)
  have HF := do_facts (rt_ok h) t
  have HL := Lib.hid (led_s h t)
  have HVS : Hid (finE s t ≠ 0 → finL s t = [] ∧ finS s t = s) := fun h0 => ⟨by unfold finL; rw [if_neg h0], by unfold finS; rw [if_neg h0]⟩
  obtain ⟨A, z, ps, hs, hok, he⟩ := rt_open h
  have H0 := Lib.hid h
  obtain ⟨x0, x1, xf, hpl⟩ := rto_cs hs
  have HN0 : Hid (Rd wk (fun _ => True) (.slice none 0 0) []) := Rd.nil _ _ _ _
  rcases fin_errs s t with ⟨e0, e1⟩ | ⟨e0, e1, e2⟩ | ⟨e0, e1, e2⟩
  · have hn : t < 0 ∨ (0 ≤ t ∧ s.N ≤ t) := by
      have h1 : ¬ nameM s.N t = true := by rw [e1]; simp
      rw [name_iff] at h1
      omega
    obtain ⟨g1, g2⟩ := HVS.out (by omega)
    rw [e0, g1, g2]
    clear h hs hok he HOK HF HL HVS e0 e1 g1 g2
    generalize s.N = N at *
    rcases hn with h1 | ⟨h1, h2⟩
    all_goals
      go_enter Try.func11, Try.ntmps11
      go_wp2
      go_ret2
      exact ⟨_, _, rfl, HN0.out, H0.out⟩
  · obtain ⟨t0, t1⟩ := name_iff.1 e1
    obtain ⟨g1, g2⟩ := HVS.out (by omega)
    have hl := HF.2.2.2 e2
    rw [hl] at HL
    rw [e0, g1, g2]
    clear h hs hok he HOK HF HVS e0 e1 e2 g1 g2 hl
    generalize s.N = N at *
    have d0 : decide (t < 0) = false := decide_eq_false (by omega)
    have d1 : decide (N ≤ t) = false := decide_eq_false (by omega)
    go_enter Try.func11, Try.ntmps11
    go_wp2_with fail
    refine HL.out.mono ?_
    rintro e w1 ⟨rfl, rfl⟩
    go_wp2
    go_ret2
    exact ⟨_, _, rfl, HN0.out, H0.out⟩
  · obtain ⟨t0, t1⟩ := name_iff.1 e1
    have hlen := len_L hok
    obtain ⟨LA, c, LB, e4, hc, hA, hB⟩ := hok.split_lead e2
    have hE : placeI s.L (atT s.L t) = LA.length := by unfold atT; rw [e4]; exact place_cut (by unfold isT; simpa using hc) hA
    have hG : (finS s t).L = LA ++ LB := by unfold finS; rw [if_pos e0]; show s.L.filter _ = _; rw [e4]; exact fin_at hc hA hB
    have hN : (finS s t).N = s.N := by unfold finS; rw [if_pos e0]
    have hV : finL s t = c.j := by unfold finL; rw [if_pos e0, e4]; exact (lead_at hc hA).1
    have he2 := he
    rw [e4] at he2
    obtain ⟨PA, q, PB, hps, rfl, rfl, rfl⟩ := cut_at he2
    have hq : ps[PA.length]? = some q := by rw [hps]; simp
    have hpl' : ps.length ≤ 1000 := by rw [← he, List.length_map] at hlen; exact hlen
    obtain ⟨b, hAb, _⟩ := rto_at hs hq
    subst hAb
    rw [List.length_map] at hE
    rw [← he] at hE
    have hd := fin_main hs hq hpl' t t0 t1 hE
    rw [e0, hV]
    refine hd.mono ?_
    rintro e wn ⟨A5, c5, rfl, hr, h5⟩
    refine ⟨_, _, rfl, hr, rt_close (s := finS s t) (ps := ps.take PA.length ++ ps.drop (PA.length + 1)) (A := A5) (z := c5) ?_ HOK.out ?_⟩
    · rw [hN]; exact h5
    · rw [hG, hps]; simp

theorem leave_step {ps : List Pc} {L : List FlightP.Call} {i : Nat} {q q' : Pc} {f : FlightP.Call → FlightP.Call} (h : ps.map Pc.c = (L.take i).map f ++ L.drop i) (hq : ps[i]? = some q) (hi : i < L.length) (hq' : q'.c = f q.c) : (ps.set i q').map Pc.c = (L.take (i + 1)).map f ++ L.drop (i + 1) := by
  have hlt : (L.take i).length = i := by rw [List.length_take]; omega
  have hc : L[i]? = some q.c := by
    have h1 : (ps.map Pc.c)[i]? = some q.c := by rw [List.getElem?_map, hq]; rfl
    rw [h, List.getElem?_append_right (by rw [List.length_map, hlt]; exact Nat.le_refl _), List.length_map, hlt, Nat.sub_self, List.getElem?_drop] at h1
    exact h1
  obtain ⟨hl, e⟩ := List.getElem?_eq_some_iff.1 hc
  rw [List.map_set, h, List.drop_eq_getElem_cons hl, List.set_append_right _ _ (by rw [List.length_map, hlt]; exact Nat.le_refl _), List.length_map, hlt, Nat.sub_self, List.set_cons_zero, hq', List.take_add_one, hc]
  simp
theorem leave_len {ps : List Pc} {L : List FlightP.Call} {i : Nat} {f : FlightP.Call → FlightP.Call} (h : ps.map Pc.c = (L.take i).map f ++ L.drop i) : ps.length = L.length := by
  have := congrArg List.length h
  rw [List.length_map, List.length_append, List.length_map, List.length_take, List.length_drop] at this
  omega
theorem leave_end {N : Int} {b z : Nat} {ps : List Pc} {A5 : Option Addr} {c5 : Nat} {j : List Int} (h : Sep B w wk (nums (.slice A5 j.length c5) j :: (rto p N (some ⟨b, 0, none⟩) z ps ++ Rs))) {i : Nat} {q : Pc} (hq : ps[i]? = some q) :
    b < wk.heap.size ∧ wk.frozen? ⟨b, i * 4 + 3, none⟩ = false ∧ Sep B w (wk.setCell ⟨b, i * 4 + 3, none⟩ (.slice A5 j.length c5)) (rto p N (some ⟨b, 0, none⟩) z (ps.set i ⟨{ q.c with j := j }, A5, c5⟩) ++ Rs) := by
  obtain ⟨b', e, hb, _, _, hf⟩ := rto_at h.tail hq
  injection e with e
  injection e with e
  subst e
  refine ⟨hb, hf _, ?_⟩
  have h1 := h.setc 2 rfl (x' := (⟨{ q.c with j := j }, A5, c5⟩ : Pc)) (j := 3) (u := .slice A5 j.length c5) hq (by show 3 < 4; omega) rfl
  have h2 := reads_in h1 (L' := (ps.set i ⟨{ q.c with j := j }, A5, c5⟩).map fun q => (q.v, q.c.j)) (by
    intro x hx
    obtain ⟨y, hy, rfl⟩ := List.mem_map.1 hx
    rcases List.mem_or_eq_of_mem_set hy with hy | rfl
    · exact List.mem_cons_of_mem _ (List.mem_map.2 ⟨y, hy, rfl⟩)
    · exact List.mem_cons_self ..)
  unfold rto
  rw [List.length_set]
  exact h2

set_option maxRecDepth 100000 in
set_option maxHeartbeats 2000000 in
theorem leave_main {N : Int} {A : Option Addr} {z n : Nat} {L : List FlightP.Call} {ps0 : List Pc} (h : Sep B w wk (rto p N A z ps0 ++ Rs)) (he : ps0.map Pc.c = L) (hn : L.length = n) (hl : n ≤ 1000) (t : Int) {jv : Int} {Bo : Bool} (HJ : Hid (joinsT L t = jv)) (hb : decide (0 ≤ jv) = Bo) :
    Calls Try.prog 13 #[.pointer (some ⟨p, 0, none⟩), .int .i64 t] wk fun e wn => e = .returned (.bool Bo) ∧ ∃ ps, ps.map Pc.c = L.map (lvC t) ∧ Sep B w wn (rto p N A z ps ++ Rs) := by
  have hl0 : ps0.length = n := by rw [← hn, ← he, List.length_map]
  have HJC := Lib.hid (joins_o h (by omega) t)
  rw [he, HJ.out] at HJC
  have H0 : Hid (ps0.map Pc.c = (L.take 0).map (lvC t) ++ L.drop 0 ∧ Sep B w wk (rto p N A z ps0 ++ Rs)) := ⟨by simpa using he, h⟩
  have HN := Lib.hid hn
  clear h he HJ hl0 hn
  go_enter Try.func13, Try.ntmps13
  go_wp2_with fail
  refine HJC.out.mono ?_
  rintro e w1 ⟨rfl, rfl⟩
  go_wp2
  clear HJC
  go_loopw [6] (fun u wr => ∃ i : Nat, i ≤ n ∧ u = .int .i64 i ∧ Hid (∃ ps : List Pc, ps.map Pc.c = (L.take i).map (lvC t) ++ L.drop i ∧ Sep B w wr (rto p N A z ps ++ Rs))) (fun u _ => n - (intOf u).toNat)
  case atStart => exact ⟨0, Nat.zero_le _, rfl, _, H0.out⟩
  case round =>
    obtain ⟨i, hi, rfl, HS⟩ := hrel
    obtain ⟨ps, hps, hS⟩ := HS.out
    have HPS := Lib.hid hps
    have hpn : ps.length = n := by rw [leave_len hps, HN.out]
    have SL := Lib.hid hS
    obtain ⟨x0, _, _, hpl⟩ := rto_cs hS
    rw [hpn] at x0
    clear HS H0 hS hps
    by_cases hlt : i < n
    · have hx : ps[i]? = some ps[i] := List.getElem?_eq_getElem (by omega)
      generalize ps[i] = q at hx
      obtain ⟨b, rfl, _⟩ := rto_at SL.out hx
      have HQ := Lib.hid hx
      have S0 : Hid (Sep B w wr.drew ([] ++ (rto p N (some ⟨b, 0, none⟩) z ps ++ Rs))) := SL.out.drew
      obtain ⟨k0, k1⟩ := held_at [] S0.out HQ.out
      rw [hpn] at k0
      have i0 : (0 : Int) ≤ (i : Int) := by omega
      have i1 : (i : Int) < (n : Int) := by omega
      have HW := Lib.hid (without_s S0.out (rto_rd (S0.out : Sep B w wr.drew (rto p N (some ⟨b, 0, none⟩) z ps ++ Rs)) hx) t)
      have HPN := Lib.hid hpn
      clear hx SL hpn
      go_wp2
      refine Held.begin_ (fun V : World => V.cell? ⟨p, 0, none⟩ = some (.slice (some ⟨b, 0, none⟩) n z) ∧ V.cell? ⟨b, i * 4 + 3, none⟩ = some (.slice q.A q.c.j.length q.z)) 17 (by kernel_rfl) ?_
      have hC : (fun V : World => V.cell? ⟨p, 0, none⟩ = some (.slice (some ⟨b, 0, none⟩) n z) ∧ V.cell? ⟨b, i * 4 + 3, none⟩ = some (.slice q.A q.c.j.length q.z)) wr.drew := ⟨k0, k1⟩
      refine Held.take 0 (v := ?_) hC rfl (by kernel_rfl) (by kernel_rfl) (by kernel_rfl) (by kernel_rfl) (fun _ _ _ h => h) ?_ ?_; rotate_left; · (intro W hW; obtain ⟨k0, k1⟩ := hW; go_simp <;> with_reducible rfl)
      try simp only [Act.put, List.setIfInBounds_toArray, List.set_cons_zero, List.set_cons_succ]
      refine Held.take 1 (v := ?_) hC rfl (by kernel_rfl) (by kernel_rfl) (by kernel_rfl) (by kernel_rfl) (fun _ _ _ h => h) ?_ ?_; rotate_left; · (intro W hW; obtain ⟨k0, k1⟩ := hW; go_simp <;> with_reducible rfl)
      try simp only [Act.put, List.setIfInBounds_toArray, List.set_cons_zero, List.set_cons_succ]
      refine Held.take 2 (v := ?_) hC rfl (by kernel_rfl) (by kernel_rfl) (by kernel_rfl) (by kernel_rfl) (fun _ _ _ h => h) ?_ ?_; rotate_left; · (intro W hW; obtain ⟨k0, k1⟩ := hW; go_simp <;> with_reducible rfl)
      try simp only [Act.put, List.setIfInBounds_toArray, List.set_cons_zero, List.set_cons_succ]
      refine Held.take 3 (v := ?_) hC rfl (by kernel_rfl) (by kernel_rfl) (by kernel_rfl) (by kernel_rfl) (fun _ _ _ h => h) ?_ ?_; rotate_left; · (intro W hW; obtain ⟨k0, k1⟩ := hW; go_simp <;> with_reducible rfl)
      try simp only [Act.put, List.setIfInBounds_toArray, List.set_cons_zero, List.set_cons_succ]
      refine Held.take 4 (v := ?_) hC rfl (by kernel_rfl) (by kernel_rfl) (by kernel_rfl) (by kernel_rfl) (fun _ _ _ h => h) ?_ ?_; rotate_left; · (intro W hW; obtain ⟨k0, k1⟩ := hW; go_simp <;> with_reducible rfl)
      try simp only [Act.put, List.setIfInBounds_toArray, List.set_cons_zero, List.set_cons_succ]
      refine Held.take 5 (v := ?_) hC rfl (by kernel_rfl) (by kernel_rfl) (by kernel_rfl) (by kernel_rfl) (fun _ _ _ h => h) ?_ ?_; rotate_left; · (intro W hW; obtain ⟨k0, k1⟩ := hW; go_simp <;> with_reducible rfl)
      try simp only [Act.put, List.setIfInBounds_toArray, List.set_cons_zero, List.set_cons_succ]
      refine Held.take 6 (v := ?_) hC rfl (by kernel_rfl) (by kernel_rfl) (by kernel_rfl) (by kernel_rfl) (fun _ _ _ h => h) ?_ ?_; rotate_left; · (intro W hW; obtain ⟨k0, k1⟩ := hW; go_simp <;> with_reducible rfl)
      try simp only [Act.put, List.setIfInBounds_toArray, List.set_cons_zero, List.set_cons_succ]
      refine Held.take 7 (v := ?_) hC rfl (by kernel_rfl) (by kernel_rfl) (by kernel_rfl) (by kernel_rfl) (fun _ _ _ h => h) ?_ ?_; rotate_left; · (intro W hW; obtain ⟨k0, k1⟩ := hW; go_simp <;> with_reducible rfl)
      try simp only [Act.put, List.setIfInBounds_toArray, List.set_cons_zero, List.set_cons_succ]
      refine Held.take 8 (v := ?_) hC rfl (by kernel_rfl) (by kernel_rfl) (by kernel_rfl) (by kernel_rfl) (fun _ _ _ h => h) ?_ ?_; rotate_left; · (intro W hW; obtain ⟨k0, k1⟩ := hW; go_simp <;> with_reducible rfl)
      try simp only [Act.put, List.setIfInBounds_toArray, List.set_cons_zero, List.set_cons_succ]
      refine Held.take 9 (v := ?_) hC rfl (by kernel_rfl) (by kernel_rfl) (by kernel_rfl) (by kernel_rfl) (fun _ _ _ h => h) ?_ ?_; rotate_left; · (intro W hW; obtain ⟨k0, k1⟩ := hW; go_simp <;> with_reducible rfl)
      try simp only [Act.put, List.setIfInBounds_toArray, List.set_cons_zero, List.set_cons_succ]
      refine Held.take 10 (v := ?_) hC rfl (by kernel_rfl) (by kernel_rfl) (by kernel_rfl) (by kernel_rfl) (fun _ _ _ h => h) ?_ ?_; rotate_left; · (intro W hW; obtain ⟨k0, k1⟩ := hW; go_simp <;> with_reducible rfl)
      try simp only [Act.put, List.setIfInBounds_toArray, List.set_cons_zero, List.set_cons_succ]
      refine Held.take 11 (v := ?_) hC rfl (by kernel_rfl) (by kernel_rfl) (by kernel_rfl) (by kernel_rfl) (fun _ _ _ h => h) ?_ ?_; rotate_left; · (intro W hW; obtain ⟨k0, k1⟩ := hW; go_simp <;> with_reducible rfl)
      try simp only [Act.put, List.setIfInBounds_toArray, List.set_cons_zero, List.set_cons_succ]
      refine Held.take 12 (v := ?_) hC rfl (by kernel_rfl) (by kernel_rfl) (by kernel_rfl) (by kernel_rfl) (fun _ _ _ h => h) ?_ ?_; rotate_left; · (intro W hW; obtain ⟨k0, k1⟩ := hW; go_simp <;> with_reducible rfl)
      try simp only [Act.put, List.setIfInBounds_toArray, List.set_cons_zero, List.set_cons_succ]
      refine Held.take 13 (v := ?_) hC rfl (by kernel_rfl) (by kernel_rfl) (by kernel_rfl) (by kernel_rfl) (fun _ _ _ h => h) ?_ ?_; rotate_left; · (intro W hW; obtain ⟨k0, k1⟩ := hW; go_simp <;> with_reducible rfl)
      try simp only [Act.put, List.setIfInBounds_toArray, List.set_cons_zero, List.set_cons_succ]
      refine Held.only 14 (by kernel_rfl) rfl ?_
      intro K hK
      go_simp
      go_at_call 23
      refine HW.out.mono ?_
      rintro e w5 ⟨A5, c5, rfl, h5, hb5, _⟩
      have S5 : Hid (Sep B w w5 ([nums (.slice A5 (withoutL q.c.j t).length c5) (withoutL q.c.j t)] ++ (rto p N (some ⟨b, 0, none⟩) z ps ++ Rs))) := h5
      clear h5 hb5 HW S0 hC k0 k1
      obtain ⟨k0, k1⟩ := held_at _ S5.out HQ.out
      rw [HPN.out] at k0
      obtain ⟨_, fz, S6⟩ := leave_end S5.out HQ.out
      have S7 := Lib.hid S6
      clear S6 S5
      generalize (withoutL q.c.j t).length = jn at *
      refine hK.out _ _ (fun _ => ⟨k0, k1⟩) ?_
      clear hK K
      try simp only [Act.put, List.setIfInBounds_toArray, List.set_cons_zero, List.set_cons_succ]
      refine Held.only 15 (by kernel_rfl) rfl ?_
      intro K hK
      go_simp
      refine hK.out _ _ (fun _ => ⟨k0, k1⟩) ?_
      clear hK K
      try simp only [Act.put, List.setIfInBounds_toArray, List.set_cons_zero, List.set_cons_succ]
      refine Held.only 16 (by kernel_rfl) rfl ?_
      intro K hK
      go_simp
      refine hK.out _ _ (fun _ => ⟨k0, k1⟩) ?_
      clear hK K
      try simp only [Act.put, List.setIfInBounds_toArray, List.set_cons_zero, List.set_cons_succ]
      refine Held.only 17 (by kernel_rfl) rfl ?_
      intro K hK
      go_simp
      refine hK.out _ _ (fun h => absurd rfl h) ?_
      clear hK K
      try simp only [Act.put, List.setIfInBounds_toArray, List.set_cons_zero, List.set_cons_succ]
      refine Held.done (by kernel_rfl) ?_ _
      have HP2 : Hid ((ps.set i ⟨{ q.c with j := withoutL q.c.j t }, A5, c5⟩).map Pc.c = (L.take (i + 1)).map (lvC t) ++ L.drop (i + 1)) := leave_step HPS.out HQ.out (by rw [HN.out]; exact hlt) rfl
      clear k0 k1 fz HPS
      go_wp2
      go_roundw
      case rel => exact ⟨i + 1, by omega, by go_num, _, HP2.out, S7.out⟩
      case measure => simp [intOf]; omega
    · have hE : i = n := by omega
      have hps := HPS.out
      rw [hE, List.take_of_length_le (by rw [HN.out]; omega), List.drop_of_length_le (by rw [HN.out]; omega), List.append_nil] at hps
      have HP3 := Lib.hid hps
      clear hps HPS
      go_wp2
      go_ret
      exact ⟨rfl, _, HP3.out, SL.out⟩
theorem leave_s (h : Sep B w wk (rt p s :: Rs)) (t : Int) :
    Calls Try.prog 13 #[.pointer (some ⟨p, 0, none⟩), .int .i64 t] wk fun e wn => e = .returned (.bool (waitsJ s.L t)) ∧ Sep B w wn (rt p (lvS s t) :: Rs) := by
  have HF := do_facts (rt_ok h) t
  obtain ⟨A, z, ps, hs, hok, he⟩ := rt_open h
  have hb : decide (0 ≤ joinsT s.L t) = waitsJ s.L t := by
    cases hw : waitsJ s.L t with
    | true => exact decide_eq_true (HF.1 hw)
    | false => rw [HF.2.1 hw]; rfl
  refine (leave_main hs he rfl (len_L hok) t rfl hb).mono ?_
  rintro e wn ⟨rfl, ps', hp, h5⟩
  exact ⟨rfl, rt_close (s := lvS s t) (ps := ps') h5 (hok.leave t) hp⟩
end
end Go.Proofs.Ytbkeodjebfkkdaa.RefFlight
