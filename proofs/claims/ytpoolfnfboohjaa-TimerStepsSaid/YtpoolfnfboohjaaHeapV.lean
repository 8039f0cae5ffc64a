/-
  Package heap's Take, as it landed, where the first one's time has come. Condition: the pointer is as 'HeapA' says.
-/
import Derived.Test.YtpoolfnfboohjaaHeapU
namespace Go.Proofs.Ytpoolfnfboohjaa.HeapC
open Go.ChangeShapes Go.WideShapes Go.ChangeAt Go.RowKit Mem RefHeap HeapI HeapP

set_option maxRecDepth 100000 in
set_option maxHeartbeats 1000000 in
theorem take_yes {w : World} {v : Value} {F : Nat → Prop} {x : Ent} {l : List Ent} {N : Int} (h : HeapA w v F (x :: l) N) (now : Int) (hn : x.at_ ≤ now) :
    Calls Try.prog 43 #[v, .int .i64 now] w fun e w' => e = .returned (.tuple #[x.val, .bool true]) ∧ After HeapA w w' v F (dropH (x :: l) x.id) N := by
  obtain ⟨p, rfl⟩ := h.ptr
  have HH := Lib.hid h
  have HH1 := Lib.hid (h.below (new_below0 w (.cells #[.int .i64 0, .int .i64 0, .int .i64 0] 65)))
  have HB1 : Hid (Below w.heap.size w (w.alloc (.cells #[.int .i64 0, .int .i64 0, .int .i64 0] 65))) := new_below0 w _
  have HX1 : Hid ((w.alloc (.cells #[.int .i64 0, .int .i64 0, .int .i64 0] 65)).heap[w.heap.size]? = some (.cells #[.int .i64 0, .int .i64 0, .int .i64 0] 65 (0, 0))) := heap_alloc_new w _
  have HG : Hid (getB (x :: l) x.id = true) := by show _ = _; unfold getB; simp
  have hfi := first_a HH1.out
  have HFI : Hid (Calls Try.prog 31 #[.pointer (some p)] (w.alloc (.cells #[.int .i64 0, .int .i64 0, .int .i64 0] 65)) fun e w' => e = .returned (.tuple #[x.val, .bool true]) ∧ Below (w.alloc (.cells #[.int .i64 0, .int .i64 0, .int .i64 0] 65)).heap.size (w.alloc (.cells #[.int .i64 0, .int .i64 0, .int .i64 0] 65)) w') := hfi
  clear h hfi
  go_enter Try.func43, Try.ntmps43
  go_wp2_with fail
  refine HFI.out.mono ?_
  rintro e w2 ⟨rfl, hb2⟩
  have HB2 : Hid (Below w.heap.size w w2) := HB1.out.trans (hb2.mono (by simp))
  have hwl2 : w.heap.size < w2.heap.size := Nat.lt_of_lt_of_le (lt_of_block HX1.out) hb2.size
  have HY2 : Hid (w2.heap[w.heap.size]? = some (.cells #[.int .i64 0, .int .i64 0, .int .i64 0] 65 (0, 0))) := (hb2.block w.heap.size (lt_of_block HX1.out)).trans HX1.out
  clear hb2 HFI HX1 HB1 HH1
  simp only [Ent.val]
  have ht : ¬ now < x.at_ := by omega
  go_wp2
  have HW3 : Hid (Below w.heap.size w (w2.alloc (.cells #[.int .i64 x.id, .int .i64 x.at_, .int .i64 x.seq] 65)).drew) := (HB2.out.alloc HB2.out.size _).drew
  have HA3 := Lib.hid (HH.out.below HW3.out)
  have HZ3 : Hid ((w2.alloc (.cells #[.int .i64 x.id, .int .i64 x.at_, .int .i64 x.seq] 65)).drew.heap[w.heap.size]? = some (.cells #[.int .i64 0, .int .i64 0, .int .i64 0] 65 (0, 0))) := (Below.heap_alloc w2 _ _ hwl2).trans HY2.out
  have HX3 : Hid ((w2.alloc (.cells #[.int .i64 x.id, .int .i64 x.at_, .int .i64 x.seq] 65)).drew.heap[w2.heap.size]? = some (.cells #[.int .i64 x.id, .int .i64 x.at_, .int .i64 x.seq] 65 (0, 0))) := heap_alloc_new w2 _
  have hnF : ¬ F w.heap.size ∧ ¬ F w2.heap.size := ⟨fun h => by have := HH.out.lt _ h; omega, fun h => by have := HH.out.lt _ h; omega⟩
  have HNF := Lib.hid hnF
  have hne1 : w2.heap.size ≠ w.heap.size := by omega
  have hne2 : w.heap.size ≠ w2.heap.size := by omega
  clear hnF
  go_region_held3 (fun W => W.cell? ⟨w2.heap.size, 0, none⟩ = some (.int .i64 x.id) ∧ W.cell? ⟨w2.heap.size, 1, none⟩ = some (.int .i64 x.at_) ∧ W.cell? ⟨w2.heap.size, 2, none⟩ = some (.int .i64 x.seq)) (go_keep)
    ((go_at_call 38; (with_reducible refine (drop_a HA3.out x.id).mono ?_); rintro e w5 ⟨rfl, F5, ha5, ho5, hf5⟩; rw [HG.out]; have HX5 := Lib.hid ((ho5.block _ (lt_of_block HX3.out) HNF.out.2).trans HX3.out); have HZ5 := Lib.hid ((ho5.block _ (lt_of_block HZ3.out) HNF.out.1).trans HZ3.out); have s0 : w5.cell? ⟨w2.heap.size, 0, none⟩ = some (.int .i64 x.id) := (cell_block HX5.out 0).trans rfl; have s1 : w5.cell? ⟨w2.heap.size, 1, none⟩ = some (.int .i64 x.at_) := (cell_block HX5.out 1).trans rfl; have s2 : w5.cell? ⟨w2.heap.size, 2, none⟩ = some (.int .i64 x.seq) := (cell_block HX5.out 2).trans rfl; have z0 : w5.cell? ⟨w.heap.size, 0, none⟩ = some (.int .i64 0) := (cell_block HZ5.out 0).trans rfl; have z1 : w5.cell? ⟨w.heap.size, 1, none⟩ = some (.int .i64 0) := (cell_block HZ5.out 1).trans rfl; have z2 : w5.cell? ⟨w.heap.size, 2, none⟩ = some (.int .i64 0) := (cell_block HZ5.out 2).trans rfl; have f0 := frozen_block HZ5.out 0; have f1 := frozen_block HZ5.out 1; have f2 := frozen_block HZ5.out 2))
  have HO5 : Hid (Only F w w5) := (Only.of_below (F := F) HW3.out).trans ho5 fun _ _ h => h
  have HF5 : Hid (∀ k, F5 k → F k ∨ w.heap.size ≤ k) := fun k hk => (hf5 k hk).imp (fun h => h) fun h => Nat.le_trans HW3.out.size h
  have hn5 : ¬ F5 w.heap.size := fun hg => by
    rcases hf5 _ hg with h | h
    · exact HNF.out.1 h
    · have := lt_of_block HZ3.out; omega
  have HA5 : Hid (HeapA (((w5.setCell ⟨w.heap.size, 0, none⟩ (.int .i64 x.id)).setCell ⟨w.heap.size, 1, none⟩ (.int .i64 x.at_)).setCell ⟨w.heap.size, 2, none⟩ (.int .i64 x.seq)) (.pointer (some p)) F5 (dropH (x :: l) x.id) N) := ha5.keep fun k _ hk => set3_far (show k ≠ w.heap.size from fun e => hn5 (e ▸ hk)) _ _ _
  have HZ := Lib.hid (set3 HZ5.out (.int .i64 x.id) (.int .i64 x.at_) (.int .i64 x.seq))
  clear ha5 ho5 hf5 hn5 s0 s1 s2 z0 z1 z2
  go_wp2
  have r0 := (cell_block HZ.out 0).trans rfl
  have r1 := (cell_block HZ.out 1).trans rfl
  have r2 := (cell_block HZ.out 2).trans rfl
  exact bodyPost_ret (v := .tuple #[x.val, .bool true]) (by simp [results, Try.results43, go_sem, Ent.val, r0, r1, r2]) rfl ⟨rfl, F5, HA5.out, Only.set3 HO5.out (Nat.le_refl _) _ _ _, HF5.out⟩

theorem take_a {w : World} {v : Value} {F : Nat → Prop} {L : List Ent} {N : Int} (h : HeapA w v F L N) (now : Int) :
    Calls Try.prog 43 #[v, .int .i64 now] w fun e w' => e = .returned (.tuple #[(takeE L now).val, .bool (takeB L now)]) ∧ After HeapA w w' v F (takeH L now) N := by
  rcases ht : takeB L now with _ | _
  · have h1 : takeE L now = zeroEnt := by unfold takeE; rw [ht]; rfl
    have h2 : takeH L now = L := by unfold takeH; rw [ht]; rfl
    rw [h1, h2]
    refine (take_no h now ht).mono ?_
    rintro e w' ⟨rfl, hb⟩
    exact ⟨rfl, after_same h hb⟩
  · cases L with
    | nil => simp [takeB] at ht
    | cons x l =>
      have h1 : takeE (x :: l) now = x := by unfold takeE; rw [ht]; rfl
      have h2 : takeH (x :: l) now = dropH (x :: l) x.id := by unfold takeH; rw [ht]; rfl
      rw [h1, h2]
      exact take_yes h now (by simpa [takeB] using ht)
theorem new_a (n : Int) (w : World) (h1 : 1 ≤ n) (h2 : n ≤ 1000) : Calls Try.prog 29 #[.int .i64 n] w fun e w' => ∃ v F, e = .returned (.tuple #[v, .int .i64 0]) ∧ HeapA w' v F [] n ∧ Below w.heap.size w w' ∧ ∀ k, F k → w.heap.size ≤ k := by
  obtain ⟨m, rfl⟩ := Int.eq_ofNat_of_zero_le (by omega : 0 ≤ n)
  refine (new_yes m w (by omega) (by omega)).mono ?_
  rintro e w' ⟨g, q, rfl, hb, hbl, hg, hq⟩
  have hl : (List.replicate m (-1 : Int) ++ List.replicate (m - m) 0) = List.replicate m (-1) := by simp
  rw [hl] at hb
  have hf := Full.new (m : Int) h1 h2
  rw [Int.toNat_natCast] at hf
  refine ⟨_, _, rfl, ⟨g, q, _, _, _, rfl, rfl, hb, hf, ok_of hf.good (by simp)⟩, hbl, fun k hk => ?_⟩
  rcases hk with rfl | rfl | hk
  · exact hg
  · exact hq
  · simp [Value.ownBlock] at hk
end Go.Proofs.Ytpoolfnfboohjaa.HeapC
