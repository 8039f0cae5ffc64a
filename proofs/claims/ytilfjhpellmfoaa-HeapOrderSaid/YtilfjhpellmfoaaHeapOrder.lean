/-
  The walk of the law HeapOrder over any package that meets 'Heap': it returns true and leaves old memory as it was. Conditions: none but 'Heap', and that the arguments are int64s.
-/
import Derived.Test.YtilfjhpellmfoaaHeapM
namespace Go.Proofs.Ytilfjhpellmfoaa.HeapI
open Go.ChangeShapes Go.WideShapes Go.ChangeAt Go.RowKit Mem RefHeap

theorem ahead_iff (a b : Ent) : RefHeap.ahead a b = true ↔ (a.at_ < b.at_ ∨ (a.at_ = b.at_ ∧ (a.seq < b.seq ∨ (a.seq = b.seq ∧ a.id < b.id)))) := by
  unfold RefHeap.ahead
  by_cases e1 : a.at_ = b.at_
  · rw [if_neg (by simpa using e1)]
    by_cases e2 : a.seq = b.seq
    · rw [if_neg (by simpa using e2)]; simp; omega
    · rw [if_pos e2]; simp; omega
  · rw [if_pos e1]; simp; omega
theorem ahead_no (a b : Ent) : RefHeap.ahead a b = false ↔ ¬ (a.at_ < b.at_ ∨ (a.at_ = b.at_ ∧ (a.seq < b.seq ∨ (a.seq = b.seq ∧ a.id < b.id)))) := by
  rw [← ahead_iff, Bool.not_eq_true]
theorem ahead_asymm (a b : Ent) (h : RefHeap.ahead a b = true) : RefHeap.ahead b a = false := by
  rw [ahead_iff] at h; rw [ahead_no]; omega
theorem ahead_irrefl (a : Ent) : RefHeap.ahead a a = false := by rw [ahead_no]; omega
theorem ent_ne {a b : Ent} (h : a ≠ b) : a.at_ ≠ b.at_ ∨ a.seq ≠ b.seq ∨ a.id ≠ b.id := by
  by_cases e1 : a.at_ = b.at_
  · by_cases e2 : a.seq = b.seq
    · by_cases e3 : a.id = b.id
      · exact absurd (by cases a; cases b; simp_all) h
      · exact .inr (.inr e3)
    · exact .inr (.inl e2)
  · exact .inl e1
theorem ahead_total (a b : Ent) (h : a ≠ b) (hn : RefHeap.ahead a b = false) : RefHeap.ahead b a = true := by
  have := ent_ne h
  rw [ahead_no] at hn; rw [ahead_iff]; omega
theorem ahead_trans (a b c : Ent) (h1 : RefHeap.ahead a b = true) (h2 : RefHeap.ahead b c = true) : RefHeap.ahead a c = true := by
  rw [ahead_iff] at *; omega

theorem entHeldP : Try.prog.stoodInHeld 32 = false := by kernel_rfl
theorem entGuardP : Try.prog.eqGuardType Try.prog.depth 32 = false := by kernel_rfl
/-- '!=' of two entries of the program's. -/
theorem run_neq_entP (W : World) (a b : Ent) :
    (binOp .neq 32 (.agg #[.int .i64 a.id, .int .i64 a.at_, .int .i64 a.seq]) (.agg #[.int .i64 b.id, .int .i64 b.at_, .int .i64 b.seq])).run Try.prog W = .ok (.bool (!decide (a = b))) W := by
  have hut : Try.prog.underlying 32 = some (.struct (Try.prog.fieldsOf 32)) := by simp only [Program.fieldsOf, Try.underlying32]
  rw [run_neq_struct, run_equalIn_agg _ 9999 _ _ _ hut entHeldP]
  simp only [Program.fieldsOf, Try.underlying32]
  have h2 := Try.underlying2
  have h3 := Try.underlying3
  simp [go_sem, h2, h3]
  obtain ⟨xi, xa, xz⟩ := a
  obtain ⟨yi, ya, yz⟩ := b
  by_cases e1 : xi = yi <;> by_cases e2 : xa = ya <;> by_cases e3 : xz = yz <;> simp [e1, e2, e3]

/-- The three arguments, each in a block of its own from g on. -/
def Boxes (W : World) (g : Nat) (a b c : Ent) : Prop :=
  W.heap[g]? = some (.cells #[.int .i64 a.id, .int .i64 a.at_, .int .i64 a.seq] 32 (0, 0)) ∧ W.heap[g + 1]? = some (.cells #[.int .i64 b.id, .int .i64 b.at_, .int .i64 b.seq] 32 (0, 0)) ∧ W.heap[g + 2]? = some (.cells #[.int .i64 c.id, .int .i64 c.at_, .int .i64 c.seq] 32 (0, 0))
theorem Boxes.next {W W' : World} {g : Nat} {a b c : Ent} (h : Boxes W g a b c) (hb : Below W.heap.size W W') : Boxes W' g a b c :=
  ⟨(hb.block _ (lt_of_block h.1)).trans h.1, (hb.block _ (lt_of_block h.2.1)).trans h.2.1, (hb.block _ (lt_of_block h.2.2)).trans h.2.2⟩
theorem Boxes.cells {W : World} {g : Nat} {a b c : Ent} (h : Boxes W g a b c) :
    (W.cell? ⟨g, 0, none⟩ = some (.int .i64 a.id) ∧ W.cell? ⟨g, 1, none⟩ = some (.int .i64 a.at_) ∧ W.cell? ⟨g, 2, none⟩ = some (.int .i64 a.seq)) ∧
    (W.cell? ⟨g + 1, 0, none⟩ = some (.int .i64 b.id) ∧ W.cell? ⟨g + 1, 1, none⟩ = some (.int .i64 b.at_) ∧ W.cell? ⟨g + 1, 2, none⟩ = some (.int .i64 b.seq)) ∧
    (W.cell? ⟨g + 2, 0, none⟩ = some (.int .i64 c.id) ∧ W.cell? ⟨g + 2, 1, none⟩ = some (.int .i64 c.at_) ∧ W.cell? ⟨g + 2, 2, none⟩ = some (.int .i64 c.seq)) :=
  ⟨⟨(cell_block h.1 0).trans rfl, (cell_block h.1 1).trans rfl, (cell_block h.1 2).trans rfl⟩, ⟨(cell_block h.2.1 0).trans rfl, (cell_block h.2.1 1).trans rfl, (cell_block h.2.1 2).trans rfl⟩, ⟨(cell_block h.2.2 0).trans rfl, (cell_block h.2.2 1).trans rfl, (cell_block h.2.2 2).trans rfl⟩⟩
theorem boxes_new (w : World) (a b c : Ent) : Boxes (((w.alloc (.cells #[.int .i64 a.id, .int .i64 a.at_, .int .i64 a.seq] 32)).alloc (.cells #[.int .i64 b.id, .int .i64 b.at_, .int .i64 b.seq] 32)).alloc (.cells #[.int .i64 c.id, .int .i64 c.at_, .int .i64 c.seq] 32)) w.heap.size a b c := by
  refine ⟨?_, ?_, ?_⟩
  · rw [Below.heap_alloc _ _ _ (by simp; omega), Below.heap_alloc _ _ _ (by simp)]; exact heap_alloc_new w _
  · rw [Below.heap_alloc _ _ _ (by simp)]
    have := heap_alloc_new (w.alloc (.cells #[.int .i64 a.id, .int .i64 a.at_, .int .i64 a.seq] 32)) (.cells #[.int .i64 b.id, .int .i64 b.at_, .int .i64 b.seq] 32)
    simpa using this
  · have := heap_alloc_new ((w.alloc (.cells #[.int .i64 a.id, .int .i64 a.at_, .int .i64 a.seq] 32)).alloc (.cells #[.int .i64 b.id, .int .i64 b.at_, .int .i64 b.seq] 32)) (.cells #[.int .i64 c.id, .int .i64 c.at_, .int .i64 c.seq] 32)
    simpa using this

theorem ahead_i (I : Heap) (a b : Ent) (w : World) (ha : EntIn a) (hb : EntIn b) {B : Bool} (hB : RefHeap.ahead a b = B) :
    Calls Try.prog 25 #[.agg #[.int .i64 a.id, .int .i64 a.at_, .int .i64 a.seq], .agg #[.int .i64 b.id, .int .i64 b.at_, .int .i64 b.seq]] w fun e w' => e = .returned (.bool B) ∧ Below w.heap.size w w' := by subst hB; exact I.ahead a b w ha hb
theorem ahead_r (a b : Ent) (w : World) {B : Bool} (hB : RefHeap.ahead a b = B) :
    Calls Try.prog 26 #[.agg #[.int .i64 a.id, .int .i64 a.at_, .int .i64 a.seq], .agg #[.int .i64 b.id, .int .i64 b.at_, .int .i64 b.seq]] w fun e w' => e = .returned (.bool B) ∧ Below w.heap.size w w' := by subst hB; exact RefHeap.ahead_any a b w

set_option maxHeartbeats 4000000 in
set_option maxRecDepth 100000 in
theorem order_walk (I : Heap) (a b c : Ent) (ha : EntIn a) (hb : EntIn b) (hc : EntIn c) (w : World) :
    Calls Try.prog 4 #[.agg #[.int .i64 a.id, .int .i64 a.at_, .int .i64 a.seq], .agg #[.int .i64 b.id, .int .i64 b.at_, .int .i64 b.seq], .agg #[.int .i64 c.id, .int .i64 c.at_, .int .i64 c.seq]] w fun e w' => e = .returned (.bool true) ∧ Below w.heap.size w w' := by
  have HX0 := Lib.hid (boxes_new w a b c)
  have HB0 : Hid (Below w.heap.size w (((w.alloc (.cells #[.int .i64 a.id, .int .i64 a.at_, .int .i64 a.seq] 32)).alloc (.cells #[.int .i64 b.id, .int .i64 b.at_, .int .i64 b.seq] 32)).alloc (.cells #[.int .i64 c.id, .int .i64 c.at_, .int .i64 c.seq] 32))) := (((Below.refl _ _).alloc (Nat.le_refl _) _).alloc (by simp) _).alloc (by simp; omega) _
  have IA := Lib.hid ha
  have IB := Lib.hid hb
  have IC := Lib.hid hc
  clear ha hb hc
  have hgu := entGuardP
  have key : ∃ X Y D Z V : Bool, Hid (RefHeap.ahead a b = X) ∧ Hid (RefHeap.ahead b a = Y) ∧ Hid (decide (a = b) = D) ∧ Hid (RefHeap.ahead b c = Z) ∧ Hid (RefHeap.ahead a c = V) ∧ ((X = false ∧ Y = false ∧ D = true) ∨ (X = false ∧ Y = true ∧ D = false) ∨ (X = true ∧ Y = false ∧ D = false ∧ Z = false) ∨ (X = true ∧ Y = false ∧ D = false ∧ Z = true ∧ V = true)) := by
    refine ⟨_, _, _, _, _, rfl, rfl, rfl, rfl, rfl, ?_⟩
    by_cases e : a = b
    · subst e; exact .inl ⟨ahead_irrefl a, ahead_irrefl a, by simp⟩
    · right
      cases hX : RefHeap.ahead a b
      · exact .inl ⟨rfl, ahead_total a b e hX, by simpa using e⟩
      · right
        cases hZ : RefHeap.ahead b c
        · exact .inl ⟨rfl, ahead_asymm a b hX, by simpa using e, rfl⟩
        · exact .inr ⟨rfl, ahead_asymm a b hX, by simpa using e, rfl, ahead_trans a b c hX hZ⟩
  obtain ⟨X, Y, D, Z, V, KX, KY, KD, KZ, KV, hcase⟩ := key
  have hneq := fun W => run_neq_entP W a b
  rw [KD.out] at hneq
  rcases hcase with ⟨rfl, rfl, rfl⟩ | ⟨rfl, rfl, rfl⟩ | ⟨rfl, rfl, rfl, rfl⟩ | ⟨rfl, rfl, rfl, rfl, rfl⟩
  all_goals
    go_enter Try.func4, Try.ntmps4
    go_wp2_with fail
    refine (awake_any I _).mono ?_
    rintro e w1 ⟨rfl, hb1⟩
    have HXn : Hid (Boxes w1 w.heap.size a b c) := HX0.out.next hb1
    have HBn : Hid (Below w.heap.size w w1) := HB0.out.trans (hb1.mono HB0.out.size)
    obtain ⟨⟨sa0, sa1, sa2⟩, ⟨sb0, sb1, sb2⟩, sc0, sc1, sc2⟩ := HXn.out.cells
    clear hb1
    go_wp2_with fail
    have HXn : Hid (Boxes w1.drew w.heap.size a b c) := HXn.out.next ((Below.refl _ _).drew)
    have HBn : Hid (Below w.heap.size w w1.drew) := HBn.out.drew
    go_region_held3 (fun W => W.cell? ⟨w.heap.size, 0, none⟩ = some (.int .i64 a.id) ∧ W.cell? ⟨w.heap.size, 1, none⟩ = some (.int .i64 a.at_) ∧ W.cell? ⟨w.heap.size, 2, none⟩ = some (.int .i64 a.seq) ∧ W.cell? ⟨w.heap.size + 1, 0, none⟩ = some (.int .i64 b.id) ∧ W.cell? ⟨w.heap.size + 1, 1, none⟩ = some (.int .i64 b.at_) ∧ W.cell? ⟨w.heap.size + 1, 2, none⟩ = some (.int .i64 b.seq)) (go_keep)
      ((go_at_call 25; (first | (with_reducible refine (ahead_i I a b _ IA.out IB.out KX.out).mono ?_) | (with_reducible refine (ahead_i I b a _ IB.out IA.out KY.out).mono ?_)); rintro e w5 ⟨rfl, hb5⟩; have HXn := Lib.hid (HXn.out.next hb5); have HBn : Hid (Below w.heap.size w w5) := HBn.out.trans (hb5.mono HBn.out.size); obtain ⟨⟨sa0, sa1, sa2⟩, ⟨sb0, sb1, sb2⟩, sc0, sc1, sc2⟩ := HXn.out.cells; clear hb5))
    all_goals
      go_wp2_with (first
        | (go_at_call 26; (with_reducible refine (ahead_r a b _ KX.out).mono ?_); rintro e w7 ⟨rfl, hb7⟩; have HXn := Lib.hid (HXn.out.next hb7); have HBn : Hid (Below w.heap.size w w7) := HBn.out.trans (hb7.mono HBn.out.size); obtain ⟨⟨sa0, sa1, sa2⟩, ⟨sb0, sb1, sb2⟩, sc0, sc1, sc2⟩ := HXn.out.cells; clear hb7)
        | (go_at_call 25; (first | (with_reducible refine (ahead_i I b c _ IB.out IC.out KZ.out).mono ?_) | (with_reducible refine (ahead_i I a c _ IA.out IC.out KV.out).mono ?_)); rintro e w8 ⟨rfl, hb8⟩; have HXn := Lib.hid (HXn.out.next hb8); have HBn : Hid (Below w.heap.size w w8) := HBn.out.trans (hb8.mono HBn.out.size); obtain ⟨⟨sa0, sa1, sa2⟩, ⟨sb0, sb1, sb2⟩, sc0, sc1, sc2⟩ := HXn.out.cells; clear hb8))
      go_ret
      exact ⟨rfl, HBn.out⟩
end Go.Proofs.Ytilfjhpellmfoaa.HeapI
