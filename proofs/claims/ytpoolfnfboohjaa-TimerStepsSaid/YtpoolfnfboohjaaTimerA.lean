/-
  Contracts of the functions of package timer, as it landed, first part: all but those that tell lists. Condition: the pointer is as 'TA' says.
-/
import Derived.Test.YtpoolfnfboohjaaTimerP
import Derived.Test.YtpoolfnfboohjaaHeapT
import Derived.Test.YtpoolfnfboohjaaSat
namespace Go.Proofs.Ytpoolfnfboohjaa.TimerC
open Go.ChangeShapes Go.WideShapes Go.ChangeAt Go.RowKit Mem RefHeap RefTimer HeapC

/-- A clock behind a pointer: its time, how many alarms were set, its alarms in order, how many keys. -/
def TA (w : World) (v : Value) (F : Nat → Prop) (T C : Int) (L : List Ent) (M : Int) : Prop :=
  ∃ g hv FH, v = .pointer (some ⟨g, 0, none⟩) ∧ w.heap[g]? = some (.cells #[.int .i64 T, .int .i64 C, hv] 62 (0, 0)) ∧ HeapA w hv FH L M ∧ ¬ FH g ∧ F = (fun k => k = g ∨ FH k) ∧ TimerI.Ok T C L M

section
variable {w w' : World} {v : Value} {F : Nat → Prop} {T C : Int} {L : List Ent} {M : Int}
theorem TA.ok (h : TA w v F T C L M) : TimerI.Ok T C L M := by obtain ⟨_, _, _, _, _, _, _, _, h⟩ := h; exact h
theorem TA.ptr (h : TA w v F T C L M) : ∃ a, v = .pointer (some a) := by obtain ⟨g, _, _, e, _⟩ := h; exact ⟨_, e⟩
theorem TA.keep (h : TA w v F T C L M) (hk : ∀ k, k < w.heap.size → F k → w'.heap[k]? = w.heap[k]?) : TA w' v F T C L M := by
  obtain ⟨g, hv, FH, e, hg, ha, hn, rfl, ho⟩ := h
  exact ⟨g, hv, FH, e, (hk g (lt_of_block hg) (.inl rfl)).trans hg, ha.keep fun k hk' hF => hk k hk' (.inr hF), hn, rfl, ho⟩
theorem TA.below (h : TA w v F T C L M) (hb : Below w.heap.size w w') : TA w' v F T C L M := h.keep fun k hk _ => hb.block k hk
theorem TA.lt (h : TA w v F T C L M) : ∀ k, F k → k < w.heap.size := by
  obtain ⟨g, hv, FH, e, hg, ha, hn, rfl, ho⟩ := h
  rintro k (rfl | hk)
  · exact lt_of_block hg
  · exact ha.lt k hk
/-- What a call of the heap's leaves of the clock. -/
theorem TA.heap {g : Nat} {hv : Value} {FH : Nat → Prop} {L' : List Ent} {C' : Int} (hg : w.heap[g]? = some (.cells #[.int .i64 T, .int .i64 C, hv] 62 (0, 0))) (hn : ¬ FH g) (ha : HeapI.After HeapA w w' hv FH L' M) (ho : TimerI.Ok T C' L' M)
    {w2 : World} (hs : w2.heap[g]? = some (.cells #[.int .i64 T, .int .i64 C', hv] 62 (0, 0))) (hk : Only (fun k => k = g) w' w2) : TimerI.After TA w w2 (.pointer (some ⟨g, 0, none⟩)) (fun k => k = g ∨ FH k) T C' L' M := by
  obtain ⟨F', ha', ho', hF'⟩ := ha
  have hgl := lt_of_block hg
  have hn' : ¬ F' g := fun h => (hF' g h).elim hn (by omega)
  refine ⟨_, ⟨g, hv, F', rfl, hs, ha'.keep fun k hk' hF => hk.block k hk' fun e => hn' (e ▸ hF), hn', rfl, ho⟩, ⟨hk.os.trans ho'.os, hk.tape.trans ho'.tape, hk.output.trans ho'.output, Nat.le_trans ho'.size hk.size, fun b hb hnb => ?_⟩, fun k hk' => ?_⟩
  · exact (hk.block b (Nat.lt_of_lt_of_le hb ho'.size) fun e => hnb (.inl e)).trans (ho'.block b hb fun h => hnb (.inr h))
  · rcases hk' with rfl | hk'
    · exact .inl (.inl rfl)
    · exact (hF' k hk').imp .inr id
theorem TA.same (h : TA w v F T C L M) (hb : Below w.heap.size w w') : TimerI.After TA w w' v F T C L M := ⟨F, h.below hb, Only.of_below hb, fun _ h => .inl h⟩
theorem after_on {w1 w2 : World} {F1 : Nat → Prop} (o1 : Only F w w1) (f1 : ∀ k, F1 k → F k ∨ w.heap.size ≤ k) {T2 C2 : Int} {L2 : List Ent} (h2 : TimerI.After TA w1 w2 v F1 T2 C2 L2 M) : TimerI.After TA w w2 v F T2 C2 L2 M := by
  obtain ⟨F2, a2, o2, f2⟩ := h2
  refine ⟨F2, a2, o1.trans o2 fun b hb h => (f1 b h).resolve_right (by omega), fun k hk => ?_⟩
  rcases f2 k hk with h | h
  · exact f1 k h
  · exact .inr (Nat.le_trans o1.size h)

theorem undrew {hv : Value} {FH : Nat → Prop} (h : HeapI.After HeapA w.drew w' hv FH L M) : HeapI.After HeapA w w' hv FH L M := by
  obtain ⟨F', ha, ho, hF⟩ := h
  exact ⟨F', ha, ⟨ho.os, ho.tape, ho.output, ho.size, ho.block⟩, hF⟩
theorem after_below {w1 w2 : World} {T2 C2 : Int} {L2 : List Ent} (hb : Below w.heap.size w w1) (h2 : TimerI.After TA w1 w2 v F T2 C2 L2 M) : TimerI.After TA w w2 v F T2 C2 L2 M := by
  obtain ⟨F2, a2, o2, f2⟩ := h2
  exact ⟨F2, a2, (Only.of_below (F := F) hb).trans o2 fun _ _ h => h, fun k hk => (f2 k hk).imp id (Nat.le_trans hb.size)⟩

theorem now_c (h : TA w v F T C L M) : Calls Try.prog 17 #[v] w fun e w' => e = .returned (.int .i64 T) ∧ Below w.heap.size w w' := by
  obtain ⟨g, hv, FH, rfl, hg, ha, hn, rfl, ho⟩ := h
  have c0 := (cell_block hg 0).trans rfl
  clear ha hn ho hg
  go_enter Try.func17, Try.ntmps17
  go_wp2
  go_ret
  exact ⟨rfl, Below.refl _ _⟩
theorem stop_c (h : TA w v F T C L M) (key : Int) : Calls Try.prog 28 #[v, .int .i64 key] w fun e w' => e = .returned (.bool (getB L key)) ∧ TimerI.After TA w w' v F T C (dropH L key) M := by
  obtain ⟨g, hv, FH, rfl, hg, ha, hn, rfl, ho⟩ := h
  obtain ⟨ap, rfl⟩ := ha.ptr
  have c2 := (cell_block hg 2).trans rfl
  have HA := Lib.hid ha
  have HG := Lib.hid hg
  have HN := Lib.hid hn
  have HO := Lib.hid ho
  clear ha hn ho hg
  go_enter Try.func28, Try.ntmps28
  go_wp2_with fail
  refine (drop_a HA.out key).mono ?_
  rintro e w1 ⟨rfl, h1⟩
  have H1 := Lib.hid h1
  clear h1
  go_wp2
  go_ret
  have hgl := lt_of_block HG.out
  obtain ⟨F', _, ho', hF'⟩ := H1.out
  exact ⟨rfl, TA.heap HG.out HN.out H1.out (ok_sub HO.out List.filter_sublist) ((ho'.block _ hgl HN.out).trans HG.out) (Only.refl _ _)⟩
theorem next_c (h : TA w v F T C L M) : Calls Try.prog 18 #[v] w fun e w' => e = .returned (.int .i64 (nextT L)) ∧ Below w.heap.size w w' := by
  obtain ⟨g, hv, FH, rfl, hg, ha, hn, rfl, ho⟩ := h
  obtain ⟨ap, rfl⟩ := ha.ptr
  have c2 := (cell_block hg 2).trans rfl
  have HA := Lib.hid ha
  clear ha hn ho hg
  cases L with
  | nil =>
    go_enter Try.func18, Try.ntmps18
    go_wp2_with fail
    refine (first_a HA.out).mono ?_
    rintro e w1 ⟨rfl, h1⟩
    have H1 := Lib.hid h1
    clear h1
    rw [show firstE [] = zeroEnt from rfl, show (!([] : List Ent).isEmpty) = false from rfl]
    simp only [Ent.val, zeroEnt]
    go_wp2
    go_ret
    exact ⟨rfl, H1.out.alloc H1.out.size _⟩
  | cons a l =>
    go_enter Try.func18, Try.ntmps18
    go_wp2_with fail
    refine (first_a HA.out).mono ?_
    rintro e w1 ⟨rfl, h1⟩
    have H1 := Lib.hid h1
    clear h1
    rw [show firstE (a :: l) = a from rfl, show (!(a :: l).isEmpty) = true from rfl]
    simp only [Ent.val]
    go_wp2
    go_ret
    exact ⟨rfl, H1.out.alloc H1.out.size _⟩
theorem alarm_c (x : Ent) (w : World) : Calls Try.prog 33 #[x.val] w fun e w' => e = .returned x.val ∧ Below w.heap.size w w' := by
  simp only [Ent.val]
  go_enter Try.func33, Try.ntmps33
  go_wp2
  exact bodyPost_ret (v := x.val) (by simp [results, Try.results33, go_sem, Ent.val]) rfl ⟨rfl, ((Below.refl _ _).alloc (Nat.le_refl _) _).alloc (by simp) _⟩
theorem get_c (h : TA w v F T C L M) (key : Int) : Calls Try.prog 21 #[v, .int .i64 key] w fun e w' => e = .returned (.tuple #[(getE L key).val, .bool (getB L key)]) ∧ Below w.heap.size w w' := by
  obtain ⟨g, hv, FH, rfl, hg, ha, hn, rfl, ho⟩ := h
  obtain ⟨ap, rfl⟩ := ha.ptr
  have hb1 := new_below0 w (.cells #[.int .i64 0, .int .i64 0, .int .i64 0] 48)
  have hg1 := (hb1.block g (lt_of_block hg)).trans hg
  have c2 := (cell_block hg1 2).trans rfl
  have HX : Hid ((w.alloc (.cells #[.int .i64 0, .int .i64 0, .int .i64 0] 48)).heap[w.heap.size]? = some (.cells #[.int .i64 0, .int .i64 0, .int .i64 0] 48 (0, 0))) := heap_alloc_new w _
  have HA := Lib.hid (ha.below hb1)
  have HB := Lib.hid hb1
  have HGE := Lib.hid (get_a HA.out key)
  clear ha hn ho hg hg1 hb1 HA
  generalize getE L key = x at *
  generalize getB L key = b at *
  go_enter Try.func21, Try.ntmps21
  go_wp2_with fail
  refine HGE.out.mono ?_
  rintro e w1 ⟨rfl, h1⟩
  simp only [Ent.val]
  have H1 := Lib.hid (HB.out.trans (h1.mono (by simp)))
  have HX1 := Lib.hid ((h1.block _ (lt_of_block HX.out)).trans HX.out)
  clear h1
  go_wp2_with fail
  refine (alarm_c x _).mono ?_
  rintro e w2 ⟨rfl, h2⟩
  simp only [Ent.val]
  have h12 := (new_below0 w1 (.cells #[.int .i64 x.id, .int .i64 x.at_, .int .i64 x.seq] 65)).trans (h2.mono (by simp))
  have H2 := Lib.hid (H1.out.trans (h12.mono H1.out.size))
  have HX2 := Lib.hid ((h12.block _ (lt_of_block HX1.out)).trans HX1.out)
  have f0 := frozen_block HX2.out 0
  have f1 := frozen_block HX2.out 1
  have f2 := frozen_block HX2.out 2
  have z0 : w2.cell? ⟨w.heap.size, 0, none⟩ = some (.int .i64 0) := (cell_block HX2.out 0).trans rfl
  have z1 : w2.cell? ⟨w.heap.size, 1, none⟩ = some (.int .i64 0) := (cell_block HX2.out 1).trans rfl
  have z2 : w2.cell? ⟨w.heap.size, 2, none⟩ = some (.int .i64 0) := (cell_block HX2.out 2).trans rfl
  clear h2 h12
  go_wp2
  have HZ := Lib.hid (set3 HX2.out (.int .i64 x.id) (.int .i64 x.at_) (.int .i64 x.seq))
  have r0 := (cell_block HZ.out 0).trans rfl
  have r1 := (cell_block HZ.out 1).trans rfl
  have r2 := (cell_block HZ.out 2).trans rfl
  exact bodyPost_ret (v := .tuple #[x.val, .bool b]) (by simp [results, Try.results21, go_sem, Ent.val, r0, r1, r2]) rfl ⟨rfl, ((H2.out.setCell (Nat.le_refl _) _).setCell (Nat.le_refl _) _).setCell (Nat.le_refl _) _⟩
end

/-- What becomes of the alarms where a key that has none is given one. -/
def keyL (L : List Ent) (M C key t : Int) : List Ent := if 0 ≤ key ∧ key < M then insT L key t (C + 1) else L

set_option maxRecDepth 100000 in
theorem put_c {w : World} {v : Value} {F : Nat → Prop} {T C : Int} {L : List Ent} {M : Int} (h : TA w v F T C L M) (hC : C ≤ 1000000) (key t : Int) (hk : In64 key) (ht : In64 t) (hb : getB L key = false) :
    Calls Try.prog 37 #[v, .int .i64 key, .int .i64 t] w fun e w' => e = .returned (.int .i64 (resE M key)) ∧ TimerI.After TA w w' v F T (resN M C key) (keyL L M C key t) M := by
  obtain ⟨g, hv, FH, rfl, hg, ha, hn, rfl, ho⟩ := h
  obtain ⟨ap, rfl⟩ := ha.ptr
  have hgl := lt_of_block hg
  have HA := Lib.hid ha
  have HG := Lib.hid hg
  have HN := Lib.hid hn
  have HO := Lib.hid ho
  have hc0 := ho.c0
  have hX : HeapI.EntIn ⟨key, t, C + 1⟩ := ⟨hk, ht, ⟨by show _ ≤ C + 1; omega, by show C + 1 ≤ _; omega⟩⟩
  have HW : Hid (Below w.heap.size w w.drew) := (Below.refl _ _).drew
  have HP := Lib.hid (put_a (ha.below HW.out) ⟨key, t, C + 1⟩ hX)
  have k1 : w.drew.cell? ⟨g, 1, none⟩ = some (.int .i64 C) := (cell_block hg 1).trans rfl
  have k2 : w.drew.cell? ⟨g, 2, none⟩ = some (.pointer (some ap)) := (cell_block hg 2).trans rfl
  have hw1 : IntKind.i64.wrap (C + 1) = C + 1 := IntWalk.i64_in _ (by omega)
  have HE : Hid (putHE L M ⟨key, t, C + 1⟩ = resE M key) := by
    show _ = _
    unfold putHE resE
    rw [hb]
    rfl
  rw [HE.out] at HP
  simp only [Ent.val] at HP
  clear hX hn ho hg ha hC hc0 hk hb
  go_enter Try.func37, Try.ntmps37
  go_wp2
  go_region_held3 (fun W => W.cell? ⟨g, 1, none⟩ = some (.int .i64 C) ∧ W.cell? ⟨g, 2, none⟩ = some (.pointer (some ap))) (go_keep)
    ((go_at_call 45; (with_reducible refine HP.out.mono ?_); rintro e w1 ⟨rfl, h1⟩; have H1 := Lib.hid h1; have hg1 : w1.heap[g]? = some (.cells #[.int .i64 T, .int .i64 C, .pointer (some ap)] 62 (0, 0)) := (by obtain ⟨F', _, ho', _⟩ := h1; exact (ho'.block _ hgl HN.out).trans HG.out); have HG1 := Lib.hid hg1; have s1 : w1.cell? ⟨g, 1, none⟩ = some (.int .i64 C) := (cell_block hg1 1).trans rfl; have s2 : w1.cell? ⟨g, 2, none⟩ = some (.pointer (some ap)) := (cell_block hg1 2).trans rfl; have f1 := frozen_block hg1 1; clear h1 hg1))
  by_cases hr : 0 ≤ key ∧ key < M
  · have HR := Lib.hid hr
    have hE : resE M key = 0 := by unfold resE; rw [if_pos hr]
    clear hr HP
    generalize hq : resE M key = q at *
    subst hE
    go_wp2
    go_ret
    have hN : resN M C key = C + 1 := by unfold resN; rw [if_pos HR.out]
    have hP : putH L M ⟨key, t, C + 1⟩ = insT L key t (C + 1) := by rw [insT_is HO.out]; unfold putH; rw [if_pos (by rw [HE.out])]
    have h1 := undrew H1.out
    rw [hP] at h1
    rw [hN, show keyL L M C key t = insT L key t (C + 1) from if_pos HR.out]
    obtain ⟨F', ha', ho', hF'⟩ := h1
    have hA : HeapI.After HeapA w w1 (.pointer (some ap)) FH (insT L key t (C + 1)) M := ⟨F', ha', ho', hF'⟩
    refine ⟨by first | rfl | exact ret_int hq.symm, TA.heap HG.out HN.out hA (ok_ins HO.out HR.out ht ha'.ok) (w2 := w1.setCell ⟨g, 1, none⟩ (.int .i64 (C + 1))) ?_ ((Only.refl (fun k => k = g) w1).setCell (.inl rfl) _)⟩
    simp [World.setCell, Array.getElem?_modify, HG1.out]
  · have HR := Lib.hid hr
    have hE : resE M key = 3 := by unfold resE; rw [if_neg hr]
    clear hr HP
    generalize hq : resE M key = q at *
    subst hE
    go_wp2
    go_ret
    have hN : resN M C key = C := by unfold resN; rw [if_neg HR.out]
    have hP : putH L M ⟨key, t, C + 1⟩ = L := by unfold putH; rw [if_neg (by rw [HE.out]; decide)]
    have h1 := undrew H1.out
    rw [hP] at h1
    rw [hN, show keyL L M C key t = L from if_neg HR.out]
    exact ⟨by first | rfl | exact ret_int hq.symm, TA.heap HG.out HN.out h1 HO.out HG1.out (Only.refl _ _)⟩

section
variable {w w' : World} {v : Value} {F : Nat → Prop} {T C : Int} {L : List Ent} {M : Int}
theorem set_c (h : TA w v F T C L M) (hC : C ≤ 1000000) (key t : Int) (hk : In64 key) (ht : In64 t) : Calls Try.prog 25 #[v, .int .i64 key, .int .i64 t] w fun e w' => e = .returned (.int .i64 (setE L M key)) ∧ TimerI.After TA w w' v F T (setN L M C key) (setL L M C key t) M := by
  have H := Lib.hid h
  obtain ⟨g, hv, FH, rfl, hg, ha, hn, rfl, ho⟩ := h
  obtain ⟨ap, rfl⟩ := ha.ptr
  have c2 := (cell_block hg 2).trans rfl
  have HGE := Lib.hid (get_a ha key)
  have HHO := Lib.hid ha.ok
  clear ha hn ho hg
  rcases hb : getB L key with _ | _
  · rw [hb] at HGE
    have HBB := Lib.hid hb
    generalize getE L key = x at *
    clear hb
    simp only [Ent.val] at HGE
    go_enter Try.func25, Try.ntmps25
    go_wp2_with fail
    refine HGE.out.mono ?_
    rintro e w1 ⟨rfl, h1⟩
    have HB1 := Lib.hid (h1.alloc h1.size (.cells #[.int .i64 x.id, .int .i64 x.at_, .int .i64 x.seq] 65))
    clear h1
    go_wp2_with fail
    refine (put_c (H.out.below HB1.out) hC key t hk ht HBB.out).mono ?_
    rintro e w2 ⟨rfl, h2⟩
    have H2 := Lib.hid h2
    clear h2
    go_wp2
    go_ret
    have e0 : setE L M key = resE M key := by unfold setE resE; rw [HBB.out]; rfl
    have e1 : setN L M C key = resN M C key := by
      unfold setN resN; rw [e0]; unfold resE
      by_cases hr : 0 ≤ key ∧ key < M <;> simp [hr]
    have e2 : setL L M C key t = keyL L M C key t := by
      unfold setL keyL; rw [e0]; unfold resE
      by_cases hr : 0 ≤ key ∧ key < M <;> simp [hr]
    rw [e0, e1, e2]
    exact ⟨rfl, after_below HB1.out H2.out⟩
  · rw [hb] at HGE
    have hr : 0 ≤ key ∧ key < M := by
      obtain ⟨x', hx', hi', _⟩ := get_some hb
      have := HHO.out.ids x' hx'
      omega
    have hE : setE L M key = 5 := by unfold setE; rw [if_pos hr, hb]; rfl
    have hN : setN L M C key = C := by unfold setN; rw [if_neg (by rw [hE]; decide)]
    have hL : setL L M C key t = L := by unfold setL; rw [if_neg (by rw [hE]; decide)]
    rw [hE, hN, hL]
    generalize getE L key = x at *
    clear hb hE hN hL
    simp only [Ent.val] at HGE
    go_enter Try.func25, Try.ntmps25
    go_wp2_with fail
    refine HGE.out.mono ?_
    rintro e w1 ⟨rfl, h1⟩
    have HB1 := Lib.hid (h1.alloc h1.size (.cells #[.int .i64 x.id, .int .i64 x.at_, .int .i64 x.seq] 65))
    clear h1
    go_wp2
    go_ret
    exact ⟨rfl, H.out.same HB1.out⟩
theorem later_c (h : TA w v F T C L M) (d : Int) (hd : In64 d) : Calls Try.prog 36 #[v, .int .i64 d] w fun e w' => e = .returned (.int .i64 (laterT T d)) ∧ Below w.heap.size w w' := by
  obtain ⟨g, hv, FH, rfl, hg, ha, hn, rfl, ho⟩ := h
  have c0 := (cell_block hg 0).trans rfl
  have HT := Lib.hid ho.t64
  have hl : Hid (SatC.satv (T + max d 0) = laterT T d) := by
    show _ = _
    obtain ⟨t0, t1⟩ := ho.t64
    obtain ⟨d0, d1⟩ := hd
    unfold SatC.satv laterT addT
    split <;> split <;> (try split) <;> (try split) <;> omega
  have HAD := Lib.hid (SatC.add_any T (max d 0) w ho.t64.1 ho.t64.2 (by obtain ⟨d0, d1⟩ := hd; omega) (by obtain ⟨d0, d1⟩ := hd; omega))
  rw [hl.out] at HAD
  clear ha hn ho hg hl
  generalize laterT T d = r at *
  go_enter Try.func36, Try.ntmps36
  go_wp2_with fail
  refine HAD.out.mono ?_
  rintro e w1 ⟨rfl, rfl⟩
  go_wp2
  go_ret
  exact ⟨rfl, Below.refl _ _⟩
theorem after_c (h : TA w v F T C L M) (hC : C ≤ 1000000) (key d : Int) (hk : In64 key) (hd : In64 d) : Calls Try.prog 24 #[v, .int .i64 key, .int .i64 d] w fun e w' => e = .returned (.int .i64 (setE L M key)) ∧ TimerI.After TA w w' v F T (setN L M C key) (setL L M C key (laterT T d)) M := by
  obtain ⟨p, rfl⟩ := h.ptr
  have H := Lib.hid h
  have HL := Lib.hid (laterT_in h.ok.t64 hd)
  clear h
  go_enter Try.func24, Try.ntmps24
  go_wp2_with fail
  refine (later_c H.out d hd).mono ?_
  rintro e w1 ⟨rfl, h1⟩
  have H1 := Lib.hid h1
  clear h1
  go_wp2_with fail
  refine (set_c (H.out.below H1.out) hC key (laterT T d) hk HL.out).mono ?_
  rintro e w2 ⟨rfl, h2⟩
  have H2 := Lib.hid h2
  clear h2
  go_wp2
  go_ret
  exact ⟨rfl, after_below H1.out H2.out⟩
theorem reset_c (h : TA w v F T C L M) (hC : C ≤ 1000000) (key t : Int) (hk : In64 key) (ht : In64 t) : Calls Try.prog 27 #[v, .int .i64 key, .int .i64 t] w fun e w' => e = .returned (.int .i64 (resE M key)) ∧ TimerI.After TA w w' v F T (resN M C key) (resL L M C key t) M := by
  obtain ⟨g, hv, FH, rfl, hg, ha, hn, rfl, ho⟩ := h
  obtain ⟨ap, rfl⟩ := ha.ptr
  have c2 := (cell_block hg 2).trans rfl
  have HA := Lib.hid ha
  have HG := Lib.hid hg
  have HN := Lib.hid hn
  have HO := Lib.hid ho
  clear ha hn ho hg
  go_enter Try.func27, Try.ntmps27
  go_wp2_with fail
  refine (drop_a HA.out key).mono ?_
  rintro e w1 ⟨rfl, h1⟩
  have hgl := lt_of_block HG.out
  have h2 : TimerI.After TA w w1 (.pointer (some ⟨g, 0, none⟩)) (fun k => k = g ∨ FH k) T C (dropH L key) M := by
    obtain ⟨F', ha', ho', hF'⟩ := h1
    exact TA.heap HG.out HN.out ⟨F', ha', ho', hF'⟩ (ok_sub HO.out List.filter_sublist) ((ho'.block _ hgl HN.out).trans HG.out) (Only.refl _ _)
  obtain ⟨F1, ha1, ho1, hF1⟩ := h2
  have HA1 := Lib.hid ha1
  have HO1 := Lib.hid ho1
  have HF1 := Lib.hid hF1
  clear h1 ha1 ho1 hF1
  go_wp2_with fail
  refine (put_c HA1.out hC key t hk ht (getB_dropped L key)).mono ?_
  rintro e w2 ⟨rfl, h2⟩
  have H2 := Lib.hid h2
  clear h2
  go_wp2
  go_ret
  have e2 : resL L M C key t = keyL (dropH L key) M C key t := by
    unfold resL keyL
    by_cases hr : 0 ≤ key ∧ key < M
    · simp [hr]
    · rw [if_neg hr, if_neg hr]
      exact (drop_same fun e he hi => hr (by have := HO.out.ids e he; omega)).symm
  rw [e2]
  exact ⟨rfl, after_on HO1.out HF1.out H2.out⟩
end

theorem new_no_c (n : Int) (w : World) (h : n < 1 ∨ 1000 < n) : Calls Try.prog 7 #[.int .i64 n] w fun e w' => e = .returned (.tuple #[.pointer none, .int .i64 1]) ∧ Below w.heap.size w w' := by
  go_enter Try.func7, Try.ntmps7
  go_wp2_with fail
  refine (HeapC.new_no n w h).mono ?_
  rintro e w1 ⟨rfl, h1⟩
  have H1 := Lib.hid h1
  clear h1
  go_wp2
  go_ret2
  exact ⟨rfl, H1.out⟩
end Go.Proofs.Ytpoolfnfboohjaa.TimerC
