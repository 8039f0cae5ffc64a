/-
  Contracts of the functions of package heap, as it landed, seventh part: Put. Condition: the pointer's blocks are as 'HB' says.
-/
import Derived.Test.YtpoolfnfboohjaaHeapE
import Derived.Test.YtpoolfnfboohjaaHeld
namespace Go.Proofs.Ytpoolfnfboohjaa.HeapC
open Go.ChangeShapes Go.WideShapes Go.ChangeAt Go.RowKit Mem RefHeap HeapI HeapP

theorem place_no {R : List Ent} {p : List Int} {M : List Ent} {N : Int} (h : Full R p M N) {id : Int} (hno : ∀ e ∈ M, e.id ≠ id) : placeV p id = -1 := by
  unfold placeV
  split
  · rename_i hr
    have := h.no id.toNat (by omega) (fun e he => by have := hno e he; omega)
    rw [List.getD_eq_getElem?_getD, this]
    rfl
  · rfl
theorem place_in {R : List Ent} {p : List Int} {M : List Ent} {N : Int} (h : Full R p M N) {j : Nat} {e : Ent} (hj : R[j]? = some e) : placeV p e.id = j := by
  have hi := h.idx (h.perm.mem_iff.1 (mem_get hj))
  unfold placeV
  rw [if_pos ⟨hi.1, hi.2.1⟩, List.getD_eq_getElem?_getD, h.at_ j e hj]
  rfl
theorem Full.plen {R : List Ent} {p : List Int} {M : List Ent} {N : Int} (h : Full R p M N) : p.length ≤ 1000 := by have := h.pn; have := h.good.n1; omega

section
variable {w w1 : World} {g q : Nat} {u v : Value} {R : List Ent} {p : List Int}
/-- One more thing at the end of the rows. -/
theorem HB.more (h : HB w g q u R p) {R' : List Ent} (ho : OwnL entE w1 0 65 v R') (hg : w.grownBy w1 u.ownBlock) (hat : v.ownBlock = u.ownBlock ∨ v.ownBlock = some w.heap.size) : HB (w1.setCell ⟨g, 0, none⟩ v) g q v R' p := by
  have hvg : ∀ k, v.ownBlock = some k → k ≠ g ∧ k ≠ q := by
    intro k hk
    rcases hat with e | e
    · exact h.apart k (e ▸ hk)
    · rw [e] at hk
      injection hk with hk
      have := h.glt
      have := h.qlt
      omega
  have hgb : w1.heap[g]? = w.heap[g]? := hg.block g h.glt fun e => (h.apart g e.symm).1 rfl
  refine ⟨?_, ?_, ?_, h.ne, hvg⟩
  · simp [World.setCell, Array.getElem?_modify, hgb, h.head]
  · refine own_of_blocks h.places fun k hk hl => ?_
    obtain rfl : q = k := by simpa [Value.ownBlock] using hk
    rw [Below.heap_setCell _ _ _ q (show q ≠ g from fun e => h.ne e.symm)]
    exact hg.block q hl fun e => (h.apart q e.symm).2 rfl
  · exact ho.of_blocks fun k hk _ => Below.heap_setCell _ _ _ k (hvg k hk).1
theorem foot_lt (h : HB w g q u R p) {k : Nat} (hk : foot g q u k) : k < w.heap.size := h.lt k hk
end

theorem put_name {w : World} {g q : Nat} {u : Value} {R : List Ent} {p : List Int} (h : HB w g q u R p) (hp : p.length ≤ 100000) (x : Ent) (hx : ¬ (0 ≤ x.id ∧ x.id < p.length)) :
    Calls Try.prog 45 #[.pointer (some ⟨g, 0, none⟩), x.val] w fun e w' => e = .returned (.int .i64 3) ∧ Below w.heap.size w w' := by
  have H1 := Lib.hid (h.alloc (.cells #[.int .i64 x.id, .int .i64 x.at_, .int .i64 x.seq] 65))
  have hd := decide_eq_false hx
  clear h hx
  unfold Ent.val
  go_enter Try.func45, Try.ntmps45
  go_wp2_with fail
  refine (mayBe_c H1.out hp x.id).mono ?_
  rintro e w1 ⟨rfl, rfl⟩
  rw [hd]
  clear hd
  go_wp2
  go_ret
  exact ⟨rfl, new_below0 w _⟩
theorem put_waits {w : World} {g q : Nat} {u : Value} {R : List Ent} {p : List Int} (h : HB w g q u R p) (hp : p.length ≤ 100000) (x : Ent) (hx : 0 ≤ x.id ∧ x.id < p.length) (j : Nat) (hj : placeV p x.id = j) :
    Calls Try.prog 45 #[.pointer (some ⟨g, 0, none⟩), x.val] w fun e w' => e = .returned (.int .i64 6) ∧ Below w.heap.size w w' := by
  have H1 := Lib.hid (h.alloc (.cells #[.int .i64 x.id, .int .i64 x.at_, .int .i64 x.seq] 65))
  have hd := decide_eq_true hx
  have HJ := Lib.hid hj
  have hne : ((j : Int) != -1) = true := by simp
  clear h hx hj
  unfold Ent.val
  go_enter Try.func45, Try.ntmps45
  go_wp2_with fail
  refine (mayBe_c H1.out hp x.id).mono ?_
  rintro e w1 ⟨rfl, rfl⟩
  rw [hd]
  clear hd
  go_wp2_with fail
  refine (placeOf_c H1.out hp x.id).mono ?_
  rintro e w1 ⟨rfl, rfl⟩
  rw [HJ.out]
  go_wp2
  go_ret
  exact ⟨rfl, new_below0 w _⟩

/-- What stands behind Put. -/
def PutDone (w w' : World) (g q : Nat) (u : Value) (M : List Ent) (N : Int) : Prop :=
  ∃ u' R p, HB w' g q u' R p ∧ Full R p M N ∧ Only (foot g q u) w w' ∧ ∀ k, foot g q u' k → foot g q u k ∨ w.heap.size ≤ k

set_option maxRecDepth 100000 in
set_option maxHeartbeats 2000000 in
theorem put_yes {w : World} {g q : Nat} {u : Value} {R : List Ent} {p : List Int} (h : HB w g q u R p) {L M : List Ent} {N : Int} (hF : Full R p L N) (x : Ent) (h0 : 0 ≤ x.id) (h1 : x.id < N) (hi : EntIn x) (hx : ∀ e ∈ L, e.id ≠ x.id) (hM : M.Perm (x :: L)) :
    Calls Try.prog 45 #[.pointer (some ⟨g, 0, none⟩), x.val] w fun e w' => e = .returned (.int .i64 0) ∧ PutDone w w' g q u M N := by
  have hp : p.length ≤ 100000 := by have := Full.plen hF; omega
  have hR : R.length ≤ 1000 := hF.len
  have hd : decide (0 ≤ x.id ∧ x.id < (p.length : Int)) = true := decide_eq_true (by have := hF.pn; omega)
  have HP := Lib.hid (place_no hF hx)
  have HH : Hid (Hole (R ++ [x]) p x R.length M N) := hF.put h0 h1 hi hx hM
  have H1 : Hid (HB (w.alloc (.cells #[.int .i64 x.id, .int .i64 x.at_, .int .i64 x.seq] 65)) g q u R p) := h.alloc _
  have hgl := h.glt
  obtain ⟨A, c, hu⟩ := h.form
  have hug : u.ownBlock ≠ some g := fun e => (h.apart g e).1 rfl
  have hux : u.ownBlock ≠ some w.heap.size := fun e => by have := (h.rows.lt _ e).2; omega
  have HB0 := Lib.hid h
  clear h hF h0 h1 hi hx hM
  unfold Ent.val
  go_enter Try.func45, Try.ntmps45
  go_wp2_with fail
  refine (mayBe_c H1.out hp x.id).mono ?_
  rintro e w1 ⟨rfl, rfl⟩
  rw [hd]
  clear hd
  go_wp2_with fail
  refine (placeOf_c H1.out hp x.id).mono ?_
  rintro e w1 ⟨rfl, rfl⟩
  rw [HP.out]
  go_wp2
  obtain ⟨W, hW⟩ : ∃ W, W = w.alloc (.cells #[.int .i64 x.id, .int .i64 x.at_, .int .i64 x.seq] 65) := ⟨_, rfl⟩
  have HW : Hid (Below w.heap.size w W) := by rw [hW]; exact new_below0 w _
  have HX : Hid (W.heap[w.heap.size]? = some (.cells #[.int .i64 x.id, .int .i64 x.at_, .int .i64 x.seq] 65 (0, 0))) := by rw [hW]; exact heap_alloc_new w _
  rw [← hW] at H1 ⊢
  clear hW
  subst hu
  have k0 := H1.out.c0
  have kx0 : W.cell? ⟨w.heap.size, 0, none⟩ = some (.int .i64 x.id) := (cell_block HX.out 0).trans rfl
  have kx1 : W.cell? ⟨w.heap.size, 1, none⟩ = some (.int .i64 x.at_) := (cell_block HX.out 1).trans rfl
  have kx2 : W.cell? ⟨w.heap.size, 2, none⟩ = some (.int .i64 x.seq) := (cell_block HX.out 2).trans rfl
  have hxW : w.heap.size < W.heap.size := lt_of_block HX.out
  have hgW : g < W.heap.size := by omega
  refine Held.begin_ (fun W : World => W.cell? ⟨g, 0, none⟩ = some (.slice A R.length c) ∧ W.cell? ⟨w.heap.size, 0, none⟩ = some (.int .i64 x.id) ∧ W.cell? ⟨w.heap.size, 1, none⟩ = some (.int .i64 x.at_) ∧ W.cell? ⟨w.heap.size, 2, none⟩ = some (.int .i64 x.seq)) 10 (by kernel_rfl) ?_
  have hC : (fun W : World => W.cell? ⟨g, 0, none⟩ = some (.slice A R.length c) ∧ W.cell? ⟨w.heap.size, 0, none⟩ = some (.int .i64 x.id) ∧ W.cell? ⟨w.heap.size, 1, none⟩ = some (.int .i64 x.at_) ∧ W.cell? ⟨w.heap.size, 2, none⟩ = some (.int .i64 x.seq)) W.drew := ⟨k0, kx0, kx1, kx2⟩
  refine Held.take 0 (v := ?_) hC rfl (by kernel_rfl) (by kernel_rfl) (by kernel_rfl) (by kernel_rfl) (fun _ _ _ h => h) ?_ ?_; rotate_left; · (intro W hW; obtain ⟨k0, k1, k2, k3⟩ := hW; go_simp <;> with_reducible rfl)
  try simp only [Act.put, List.setIfInBounds_toArray, List.set_cons_zero, List.set_cons_succ]
  refine Held.take 1 (v := ?_) hC rfl (by kernel_rfl) (by kernel_rfl) (by kernel_rfl) (by kernel_rfl) (fun _ _ _ h => h) ?_ ?_; rotate_left; · (intro W hW; obtain ⟨k0, k1, k2, k3⟩ := hW; go_simp <;> with_reducible rfl)
  try simp only [Act.put, List.setIfInBounds_toArray, List.set_cons_zero, List.set_cons_succ]
  refine Held.take 2 (v := ?_) hC rfl (by kernel_rfl) (by kernel_rfl) (by kernel_rfl) (by kernel_rfl) (fun _ _ _ h => h) ?_ ?_; rotate_left; · (intro W hW; obtain ⟨k0, k1, k2, k3⟩ := hW; go_simp <;> with_reducible rfl)
  try simp only [Act.put, List.setIfInBounds_toArray, List.set_cons_zero, List.set_cons_succ]
  refine Held.take 3 (v := ?_) hC rfl (by kernel_rfl) (by kernel_rfl) (by kernel_rfl) (by kernel_rfl) (fun _ _ _ h => h) ?_ ?_; rotate_left; · (intro W hW; obtain ⟨k0, k1, k2, k3⟩ := hW; go_simp <;> with_reducible rfl)
  try simp only [Act.put, List.setIfInBounds_toArray, List.set_cons_zero, List.set_cons_succ]
  refine Held.take 4 (v := ?_) hC rfl (by kernel_rfl) (by kernel_rfl) (by kernel_rfl) (by kernel_rfl) (fun _ _ _ h => h) ?_ ?_; rotate_left; · (intro W hW; obtain ⟨k0, k1, k2, k3⟩ := hW; go_simp <;> with_reducible rfl)
  try simp only [Act.put, List.setIfInBounds_toArray, List.set_cons_zero, List.set_cons_succ]
  refine Held.take 5 (v := ?_) hC rfl (by kernel_rfl) (by kernel_rfl) (by kernel_rfl) (by kernel_rfl) (fun _ _ _ h => h) ?_ ?_; rotate_left; · (intro W hW; obtain ⟨k0, k1, k2, k3⟩ := hW; go_simp <;> with_reducible rfl)
  try simp only [Act.put, List.setIfInBounds_toArray, List.set_cons_zero, List.set_cons_succ]
  refine Held.only 6 (by kernel_rfl) rfl ?_
  intro K hK
  go_simp
  have HL : Hid (Below W.heap.size W (W.drew.alloc (.cells #[.int .i64 x.id, .int .i64 x.at_, .int .i64 x.seq] 65))) := (Below.refl _ _).drew.alloc (Nat.le_refl _) _
  have hC2 : (fun W : World => W.cell? ⟨g, 0, none⟩ = some (.slice A R.length c) ∧ W.cell? ⟨w.heap.size, 0, none⟩ = some (.int .i64 x.id) ∧ W.cell? ⟨w.heap.size, 1, none⟩ = some (.int .i64 x.at_) ∧ W.cell? ⟨w.heap.size, 2, none⟩ = some (.int .i64 x.seq)) (W.drew.alloc (.cells #[.int .i64 x.id, .int .i64 x.at_, .int .i64 x.seq] 65)) := ⟨(HL.out.cell (p := ⟨g, 0, none⟩) hgW).trans k0, (HL.out.cell (p := ⟨w.heap.size, 0, none⟩) hxW).trans kx0, (HL.out.cell (p := ⟨w.heap.size, 1, none⟩) hxW).trans kx1, (HL.out.cell (p := ⟨w.heap.size, 2, none⟩) hxW).trans kx2⟩
  refine hK.out _ _ (fun _ => hC2) ?_
  clear hK K
  try simp only [Act.put, List.setIfInBounds_toArray, List.set_cons_zero, List.set_cons_succ]
  have HH2 : Hid (HB (W.drew.alloc (.cells #[.int .i64 x.id, .int .i64 x.at_, .int .i64 x.seq] 65)) g q (.slice A R.length c) R p) := H1.out.below HL.out
  have HRL : Hid (RdL entE (W.drew.alloc (.cells #[.int .i64 x.id, .int .i64 x.at_, .int .i64 x.seq] 65)) (fun _ => True) (.slice (some ⟨W.drew.heap.size, 0, none⟩) 1 1) [x]) := RdL.lit1 (E := entE) W.drew _ x rfl _ trivial
  have HC2 := Lib.hid hC2
  clear hC hC2 k0 kx0 kx1 kx2
  refine Held.only 7 (by kernel_rfl) rfl ?_
  intro K hK
  refine wp_appL (.tmp 19) (.tmp 21) rowElem (by rfl) (by rfl) (by rfl) HH2.out.rows HRL.out (by simp; omega) (Nat.zero_le _) ?_
  intro v1 w1 hown1 hgrow hat
  have hg1 : w1.cell? ⟨g, 0, none⟩ = some (.slice A R.length c) := (World.cell?_of_block (hgrow.block g HH2.out.glt fun e => hug e.symm)).trans HC2.out.1
  have hbx1 := hgrow.block w.heap.size (Nat.lt_of_lt_of_le hxW HL.out.size) fun e => hux e.symm
  have hC3 : (fun W : World => W.cell? ⟨g, 0, none⟩ = some (.slice A R.length c) ∧ W.cell? ⟨w.heap.size, 0, none⟩ = some (.int .i64 x.id) ∧ W.cell? ⟨w.heap.size, 1, none⟩ = some (.int .i64 x.at_) ∧ W.cell? ⟨w.heap.size, 2, none⟩ = some (.int .i64 x.seq)) w1 := ⟨hg1, (World.cell?_of_block hbx1).trans HC2.out.2.1, (World.cell?_of_block hbx1).trans HC2.out.2.2.1, (World.cell?_of_block hbx1).trans HC2.out.2.2.2⟩
  have fz1 : w1.frozen? ⟨g, 0, none⟩ = false := (World.frozen?_of_block (hgrow.block g HH2.out.glt fun e => hug e.symm)).trans HH2.out.f0
  have HM := Lib.hid (HH2.out.more hown1 hgrow hat)
  have HO1 : Hid (Only (foot g q (.slice A R.length c)) w w1) := ((Only.of_below (F := (foot g q (.slice A R.length c))) HW.out).trans (Only.of_below (F := (foot g q (.slice A R.length c))) HL.out) fun _ _ h => h).trans (Only.of_grown (F := (foot g q (.slice A R.length c))) hgrow fun k hk _ => .inr (.inr hk)) fun _ _ h => h
  have HXW1 : Hid (w1.heap[w.heap.size]? = some (.cells #[.int .i64 x.id, .int .i64 x.at_, .int .i64 x.seq] 65 (0, 0))) := hbx1.trans ((HL.out.block w.heap.size hxW).trans HX.out)
  have HAT : Hid (∀ k, v1.ownBlock = some k → (Value.slice A R.length c).ownBlock = some k ∨ w.heap.size ≤ k) := by
    intro k hk
    rcases hat with e | e
    · exact .inl (e ▸ hk)
    · have h5 := HL.out.size
      have h6 : (W.drew.alloc (.cells #[.int .i64 x.id, .int .i64 x.at_, .int .i64 x.seq] 65)).heap.size = k := Option.some.inj (e.symm.trans hk)
      exact .inr (by omega)
  obtain ⟨A1, c1, rfl⟩ := hown1.form
  clear hown1 hgrow hat hbx1 hg1
  refine hK.out _ _ (fun _ => hC3) ?_
  clear hK K
  try simp only [Act.put, List.setIfInBounds_toArray, List.set_cons_zero, List.set_cons_succ]
  refine Held.only 8 (by kernel_rfl) rfl ?_
  intro K hK
  go_simp
  refine hK.out _ _ (fun _ => hC3) ?_
  clear hK K
  try simp only [Act.put, List.setIfInBounds_toArray, List.set_cons_zero, List.set_cons_succ]
  refine Held.only 9 (by kernel_rfl) rfl ?_
  intro K hK
  go_simp
  refine hK.out _ _ (fun _ => hC3) ?_
  clear hK K
  try simp only [Act.put, List.setIfInBounds_toArray, List.set_cons_zero, List.set_cons_succ]
  refine Held.only 10 (by kernel_rfl) rfl ?_
  intro K hK
  go_simp
  refine hK.out _ _ (fun h => absurd rfl h) ?_
  clear hK K
  try simp only [Act.put, List.setIfInBounds_toArray, List.set_cons_zero, List.set_cons_succ]
  refine Held.done (by kernel_rfl) ?_ _
  clear hC3 HC2 HRL HH2 H1 HL HB0
  have hw5 : (w1.setCell ⟨g, 0, none⟩ (.slice A1 (R ++ [x]).length c1)).heap[w.heap.size]? = some (.cells #[.int .i64 x.id, .int .i64 x.at_, .int .i64 x.seq] 65 (0, 0)) := (Below.heap_setCell w1 _ _ _ (by show w.heap.size ≠ g; omega)).trans HXW1.out
  have HO5 : Hid (Only (foot g q (.slice A R.length c)) w (w1.setCell ⟨g, 0, none⟩ (.slice A1 (R ++ [x]).length c1))) := HO1.out.setCell (a := ⟨g, 0, none⟩) (.inl (.inl rfl)) _
  have hla : (R ++ [x]).length = R.length + 1 := by simp
  rw [hla] at HM hw5 HO5 HAT
  clear hla
  generalize hn1 : R.length + 1 = n1 at *
  have HN1 := Lib.hid hn1
  clear hn1
  generalize w1.setCell ⟨g, 0, none⟩ (.slice A1 n1 c1) = w5 at *
  go_wp2
  have HS : Hid (Stood w5.drew w5.drew g q (.slice A1 n1 c1) n1 p.length x R.length M N) := ⟨_, _, HM.out.drew, HH.out, by simp; exact HN1.out, rfl, Only.refl _ _⟩
  have y0 : w5.drew.cell? ⟨w.heap.size, 0, none⟩ = some (.int .i64 x.id) := (cell_block hw5 0).trans rfl
  have y1 : w5.drew.cell? ⟨w.heap.size, 1, none⟩ = some (.int .i64 x.at_) := (cell_block hw5 1).trans rfl
  have y2 : w5.drew.cell? ⟨w.heap.size, 2, none⟩ = some (.int .i64 x.seq) := (cell_block hw5 2).trans rfl
  have g0 : w5.drew.cell? ⟨g, 0, none⟩ = some (.slice A1 n1 c1) := HM.out.c0
  have HO6 : Hid (Only (foot g q (.slice A R.length c)) w w5.drew) := HO5.out.drew
  have en : IntKind.i64.wrap ((n1 : Int) - 1) = (R.length : Int) := by rw [IntWalk.i64_in _ (by have := HN1.out; omega)]; have := HN1.out; omega
  have hst := settle_c HS.out
  unfold Ent.val at hst
  have HST := Lib.hid hst
  clear hw5 fz1 hst HW HX HXW1 hgl
  refine wp_region_still_tail 8 (by kernel_rfl) (by kernel_rfl) ?_
  simp only [List.take_succ_cons, List.take_zero, List.drop_succ_cons, List.drop_zero]
  change wpStill _ _ w5.drew (fun a' => wpList _ _ _ _ a' w5.drew) _ _
  generalize w5.drew = w6 at *
  repeat still_step
  refine wpStill_nil ?_
  clear en
  go_wp2_with fail
  refine HST.out.mono ?_
  rintro e w7 ⟨rfl, R7, p7, b1, b2, b3, b4, b5⟩
  have HB7 := Lib.hid b1
  have HF7 := Lib.hid b2
  have HO7 := Lib.hid b5
  clear b1 b2 b3 b4 b5
  go_wp2
  go_ret
  refine ⟨rfl, _, R7, p7, HB7.out, HF7.out, HO6.out.trans HO7.out fun k hk hf => ?_, fun k hk => ?_⟩
  · rcases hf with hf | hf
    · exact .inr (.inl hf)
    · rcases HAT.out k hf with h | h
      · exact .inr (.inr h)
      · omega
  · rcases hk with hk | hk | hk
    · exact .inl (.inl hk)
    · exact .inl (.inr (.inl hk))
    · exact (HAT.out k hk).imp (fun h => .inr (.inr h)) id
end Go.Proofs.Ytpoolfnfboohjaa.HeapC
