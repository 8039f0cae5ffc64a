/-
  Package heap's Move and Take, as they landed. Condition: the pointer is as 'HeapA' says.
-/
import Derived.Test.YtilfjhpellmfoaaHeapT
namespace Go.Proofs.Ytilfjhpellmfoaa.HeapC
open Go.ChangeShapes Go.WideShapes Go.ChangeAt Go.RowKit Mem RefHeap HeapI HeapP

theorem getE_in {L : List Ent} {N : Int} {id : Int} (h : Ok L N) (hg : getB L id = true) : EntIn (getE L id) := by
  obtain ⟨e, he, _, h2⟩ := get_some hg
  rw [h2]
  exact h.ins e he

set_option maxHeartbeats 1000000 in
theorem move_a {w : World} {v : Value} {F : Nat → Prop} {L : List Ent} {N : Int} (h : HeapA w v F L N) (id t : Int) (ht : In64 t) :
    Calls Try.prog 29 #[v, .int .i64 id, .int .i64 t] w fun e w' => e = .returned (.bool (getB L id)) ∧ After HeapA w w' v F (moveH L N id t) N := by
  obtain ⟨p, rfl⟩ := h.ptr
  have HH := Lib.hid h
  have HT := Lib.hid ht
  clear h ht
  obtain ⟨gb, hgb⟩ : ∃ gb, getB L id = gb := ⟨_, rfl⟩
  have HGB := Lib.hid hgb
  cases gb
  · have HM : Hid (moveH L N id t = L) := by show _ = _; unfold moveH; rw [if_neg (by rw [hgb]; simp)]
    clear hgb
    go_enter Try.func29, Try.ntmps29
    go_wp2_with fail
    refine (get_a HH.out id).mono ?_
    rintro e w2 ⟨rfl, hb2⟩
    have HB2 := Lib.hid hb2
    rw [HGB.out]
    clear hb2
    simp only [Ent.val]
    go_wp2
    go_ret
    exact ⟨ret_bool HGB.out.symm, by rw [HM.out]; exact after_same HH.out (HB2.out.alloc HB2.out.size _)⟩
  · have HM : Hid (moveH L N id t = putH (dropH L id) N { getE L id with at_ := t }) := by show _ = _; unfold moveH; rw [if_pos hgb]
    have HIN : Hid (EntIn { getE L id with at_ := t }) := by
      have := getE_in HH.out.ok hgb
      exact ⟨this.1, HT.out, this.2.2⟩
    clear hgb
    go_enter Try.func29, Try.ntmps29
    go_wp2_with fail
    refine (get_a HH.out id).mono ?_
    rintro e w2 ⟨rfl, hb2⟩
    rw [HGB.out]
    generalize getE L id = ge at *
    have HB3 : Hid (Below w.heap.size w (w2.alloc (.cells #[.int .i64 ge.id, .int .i64 ge.at_, .int .i64 ge.seq] 32))) := hb2.alloc hb2.size _
    have hw2 : w.heap.size ≤ w2.heap.size := hb2.size
    have HX3 : Hid ((w2.alloc (.cells #[.int .i64 ge.id, .int .i64 ge.at_, .int .i64 ge.seq] 32)).heap[w2.heap.size]? = some (.cells #[.int .i64 ge.id, .int .i64 ge.at_, .int .i64 ge.seq] 32 (0, 0))) := heap_alloc_new w2 _
    clear hb2
    simp only [Ent.val]
    go_wp2_with fail
    generalize w2.alloc (.cells #[.int .i64 ge.id, .int .i64 ge.at_, .int .i64 ge.seq] 32) = w3 at *
    generalize w2.heap.size = g at *
    have hg3 : g < w3.heap.size := lt_of_block HX3.out
    refine (drop_a (HH.out.below HB3.out) id).mono ?_
    rintro e w4 ⟨rfl, F4, ha4, ho4, hf4⟩
    have hng : ¬ F4 g := fun hg => by
      rcases hf4 g hg with h | h
      · have := HH.out.lt g h; omega
      · omega
    have hnF : ¬ F g := fun h => by have := HH.out.lt g h; omega
    have y0 := (ho4.block g hg3 hnF).trans HX3.out
    have a0 : w4.cell? ⟨g, 0, none⟩ = some (.int .i64 ge.id) := (cell_block y0 0).trans rfl
    have a1 : w4.cell? ⟨g, 1, none⟩ = some (.int .i64 ge.at_) := (cell_block y0 1).trans rfl
    have a2 : w4.cell? ⟨g, 2, none⟩ = some (.int .i64 ge.seq) := (cell_block y0 2).trans rfl
    have f1 := frozen_block y0 1
    have HA5 : Hid (HeapA (w4.setCell ⟨g, 1, none⟩ (.int .i64 t)) (.pointer (some p)) F4 (dropH L id) N) := ha4.keep fun k _ hk => Below.heap_setCell _ _ _ _ (show k ≠ g from fun e => hng (e ▸ hk))
    have HO5 : Hid (Only F w (w4.setCell ⟨g, 1, none⟩ (.int .i64 t))) := Only.setCell (a := ⟨g, 1, none⟩) ((Only.of_below (F := F) HB3.out).trans ho4 fun _ _ h => h) (.inr hw2) _
    have HF5 : Hid (∀ k, F4 k → F k ∨ w.heap.size ≤ k) := fun k hk => (hf4 k hk).imp (fun h => h) fun h => Nat.le_trans HB3.out.size h
    clear ha4 ho4 hf4 hng hnF y0
    go_wp2_with fail
    refine (put_a HA5.out { ge with at_ := t } HIN.out).mono ?_
    rintro e w6 ⟨rfl, h6⟩
    have H6 := Lib.hid h6
    clear h6
    go_wp2
    go_ret
    exact ⟨ret_bool HGB.out.symm, by rw [HM.out]; exact after_trans HO5.out HF5.out H6.out⟩

theorem take_no {w : World} {v : Value} {F : Nat → Prop} {L : List Ent} {N : Int} (h : HeapA w v F L N) (now : Int) (hn : takeB L now = false) :
    Calls Try.prog 28 #[v, .int .i64 now] w fun e w' => e = .returned (.tuple #[zeroEnt.val, .bool false]) ∧ Below w.heap.size w w' := by
  obtain ⟨p, rfl⟩ := h.ptr
  have HH1 := Lib.hid (h.below (new_below0 w (.cells #[.int .i64 0, .int .i64 0, .int .i64 0] 32)))
  have HB1 : Hid (Below w.heap.size w (w.alloc (.cells #[.int .i64 0, .int .i64 0, .int .i64 0] 32))) := new_below0 w _
  have HX1 : Hid ((w.alloc (.cells #[.int .i64 0, .int .i64 0, .int .i64 0] 32)).heap[w.heap.size]? = some (.cells #[.int .i64 0, .int .i64 0, .int .i64 0] 32 (0, 0))) := heap_alloc_new w _
  clear h
  have hc : (!L.isEmpty) = false ∨ ((!L.isEmpty) = true ∧ now < (firstE L).at_) := by
    cases L with
    | nil => exact .inl rfl
    | cons a l => exact .inr ⟨rfl, by unfold takeB at hn; show now < a.at_; simp at hn; omega⟩
  clear hn
  have HFI := Lib.hid (first_a HH1.out)
  generalize firstE L = x at *
  generalize (!L.isEmpty) = b at *
  go_enter Try.func28, Try.ntmps28
  go_wp2_with fail
  refine HFI.out.mono ?_
  rintro e w2 ⟨rfl, hb2⟩
  have HB2 : Hid (Below w.heap.size w (w2.alloc (.cells #[.int .i64 x.id, .int .i64 x.at_, .int .i64 x.seq] 32))) := (HB1.out.trans (hb2.mono (by simp))).alloc (Nat.le_trans HB1.out.size hb2.size) _
  have hwl2 : w.heap.size < w2.heap.size := Nat.lt_of_lt_of_le (lt_of_block HX1.out) hb2.size
  have hy2 := (hb2.block w.heap.size (lt_of_block HX1.out)).trans HX1.out
  have hy0 : (w2.alloc (.cells #[.int .i64 x.id, .int .i64 x.at_, .int .i64 x.seq] 32)).heap[w.heap.size]? = some (.cells #[.int .i64 0, .int .i64 0, .int .i64 0] 32 (0, 0)) := (Below.heap_alloc w2 _ _ hwl2).trans hy2
  have hx0 : (w2.alloc (.cells #[.int .i64 x.id, .int .i64 x.at_, .int .i64 x.seq] 32)).heap[w2.heap.size]? = some (.cells #[.int .i64 x.id, .int .i64 x.at_, .int .i64 x.seq] 32 (0, 0)) := heap_alloc_new w2 _
  have HY := Lib.hid hy0
  have HX := Lib.hid hx0
  have HY2 := Lib.hid hy2
  have HB3 : Hid (Below w.heap.size w w2) := HB1.out.trans (hb2.mono (by simp))
  clear hb2 hy0 hx0 hy2
  simp only [Ent.val]
  have hg2 : w2.heap.size < (w2.alloc (.cells #[.int .i64 x.id, .int .i64 x.at_, .int .i64 x.seq] 32)).heap.size := by simp
  have f0 := frozen_block HY2.out 0
  have f1 := frozen_block HY2.out 1
  have f2 := frozen_block HY2.out 2
  have z0 : w2.cell? ⟨w.heap.size, 0, none⟩ = some (.int .i64 0) := (cell_block HY2.out 0).trans rfl
  have z1 : w2.cell? ⟨w.heap.size, 1, none⟩ = some (.int .i64 0) := (cell_block HY2.out 1).trans rfl
  have z2 : w2.cell? ⟨w.heap.size, 2, none⟩ = some (.int .i64 0) := (cell_block HY2.out 2).trans rfl
  clear HFI HH1 HX1 HB1 hg2
  rcases hc with rfl | ⟨rfl, hlt⟩
  · go_wp2
    have HZ := Lib.hid (set3 HY2.out (.int .i64 0) (.int .i64 0) (.int .i64 0))
    have r0 := (cell_block HZ.out 0).trans rfl
    have r1 := (cell_block HZ.out 1).trans rfl
    have r2 := (cell_block HZ.out 2).trans rfl
    exact bodyPost_ret (v := .tuple #[zeroEnt.val, .bool false]) (by simp [results, Try.results28, go_sem, Ent.val, zeroEnt, r0, r1, r2, hwl2]) rfl ⟨rfl, (((HB3.out.setCell (Nat.le_refl _) _).setCell (Nat.le_refl _) _).setCell (Nat.le_refl _) _).alloc (by simp; omega) _⟩
  · go_wp2
    have HZ := Lib.hid (set3 HY2.out (.int .i64 0) (.int .i64 0) (.int .i64 0))
    have r0 := (cell_block HZ.out 0).trans rfl
    have r1 := (cell_block HZ.out 1).trans rfl
    have r2 := (cell_block HZ.out 2).trans rfl
    exact bodyPost_ret (v := .tuple #[zeroEnt.val, .bool false]) (by simp [results, Try.results28, go_sem, Ent.val, zeroEnt, r0, r1, r2, hwl2]) rfl ⟨rfl, (((HB3.out.setCell (Nat.le_refl _) _).setCell (Nat.le_refl _) _).setCell (Nat.le_refl _) _).alloc (by simp; omega) _⟩
end Go.Proofs.Ytilfjhpellmfoaa.HeapC
