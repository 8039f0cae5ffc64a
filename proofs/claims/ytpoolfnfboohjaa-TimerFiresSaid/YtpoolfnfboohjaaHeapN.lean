/-
  Package heap's New and All, as they landed. Condition: that All's pointer is as 'HB' says.
-/
import Derived.Test.YtpoolfnfboohjaaHeapH
import Derived.OwnWalk
namespace Go.Proofs.Ytpoolfnfboohjaa.HeapC
open Go.ChangeShapes Go.WideShapes Go.ChangeAt Go.RowKit Mem RefHeap HeapI HeapP

/-- 'make([]int, n)'. -/
theorem wpList_makeInts {P : Program} (w : World) {ops : Array Oper} {rest : List Oper} {o : Oper} {a : Act} {Q : Exit → Act → World → Prop}
    (hg : o.guard = none) (l c : Operand) {t e : TypeId} (he : IntElem P t e) (hop : o.op = Op.makeSlice t l c)
    (n : Nat) (hl : a.eval l = .int .i64 (n : Int)) (hc : a.eval c = .int .i64 (n : Int)) (hn : n ≤ 100000)
    (hK : ∀ w', Own w' w.heap.size e (.slice (some ⟨w.heap.size, 0, none⟩) n n) (List.replicate n 0) → w.grownBy w' none → w'.heap.size = w.heap.size + 1 → wpList P ops Q rest (a.put o.dst (.slice (some ⟨w.heap.size, 0, none⟩) n n)) w') :
    wpList P ops Q (o :: rest) a w := by
  obtain ⟨h1, i, h2, h3, h4, h5⟩ := he
  refine wpList_plain hg fun K hK' => ?_
  have hr := run_make (P := P) w t e i (.int .i64 0) h1 h2 h3 .i64 .i64 n n (by omega) (Int.le_refl _) (by rw [h5]; omega) (by omega)
  simp only [Int.toNat_natCast] at hr
  rw [h4] at hr
  have hm : (madeCells (Value.int .i64 0).cells (n * 1)).toList = (List.replicate n (0 : Int)).map (Value.int .i64) := by
    have := toList_madeCells_one (.int .i64 0) n
    rw [Nat.mul_one, List.map_replicate]
    exact this
  have ho := World.ownsRow_lit (e := e) (size := 1) (base := w.heap.size) w (madeCells (Value.int .i64 0).cells (n * 1)) n (Nat.le_refl _) (by unfold maxLen; omega) (size_madeCells _ _)
  rw [hm] at ho
  unfold Oper.wp
  simp [execOp, hop, hl, hc, hr, Result.andThen]
  refine hK' _ _ (hK _ ?_ (World.grownBy_alloc w _ none) (by simp))
  unfold Own
  rw [List.length_replicate]
  rw [Nat.mul_one] at ho
  exact ho

theorem set_rep (n j : Nat) (h : j < n) : (List.replicate j (-1 : Int) ++ List.replicate (n - j) 0).set j (-1) = List.replicate (j + 1) (-1) ++ List.replicate (n - (j + 1)) 0 := by
  obtain ⟨k, hk⟩ : ∃ k, n - j = k + 1 := ⟨n - j - 1, by omega⟩
  rw [hk, show n - (j + 1) = k by omega, List.set_append_right _ _ (by simp), List.length_replicate, Nat.sub_self, List.replicate_succ (n := k), List.set_cons_zero, List.replicate_succ' (n := j), List.append_assoc]
  rfl
theorem own_base0 {w : World} {base : Nat} {e : TypeId} {v : Value} {xs : List Int} (h : Own w base e v xs) : Own w 0 e v xs := by
  refine ⟨h.1, ?_⟩
  rcases h.2 with h0 | ⟨g, cap, cur, rfl, hb, rest⟩
  · exact .inl h0
  · exact .inr ⟨g, cap, cur, rfl, Nat.zero_le _, rest⟩
/-- Where New's loop stands. -/
def NewAt (w wr : World) (g q n j : Nat) : Prop := HB wr g q (.slice none 0 0) [] (List.replicate j (-1) ++ List.replicate (n - j) 0) ∧ Below w.heap.size w wr ∧ w.heap.size ≤ g ∧ w.heap.size ≤ q
theorem NewAt.set {w wr : World} {g q n j : Nat} (h : NewAt w wr g q n j) (hj : j < n) : NewAt w (wr.setCell ⟨q, j, none⟩ (.int .i64 (-1))) g q n (j + 1) := by
  obtain ⟨h1, h2, h3, h4⟩ := h
  have := h1.unplace j (-1)
  rw [set_rep n j hj] at this
  exact ⟨this, h2.setCell h4 _, h3, h4⟩

set_option maxRecDepth 100000 in
theorem new_yes (n : Nat) (w : World) (h1 : 1 ≤ n) (h2 : n ≤ 1000) :
    Calls Try.prog 29 #[.int .i64 n] w fun e w' => ∃ g q, e = .returned (.tuple #[.pointer (some ⟨g, 0, none⟩), .int .i64 0]) ∧ NewAt w w' g q n n := by
  go_enter Try.func29, Try.ntmps29
  go_wp2_with (refine wpList_makeInts _ rfl _ _ intElem rfl n rfl rfl (by omega) ?_; intro w1 ho hgr hsz)
  have HN : Hid (NewAt w (w1.alloc (.cells #[.slice none 0 0, .slice (some ⟨w.heap.size, 0, none⟩) n n] 75)) w1.heap.size w.heap.size n 0) := by
    have hl : (List.replicate 0 (-1 : Int) ++ List.replicate (n - 0) 0) = List.replicate n 0 := by simp
    have hb : Below w.heap.size w w1 := ⟨hgr.os, hgr.tape, hgr.output, hgr.size, fun k hk => hgr.block k hk (by simp)⟩
    refine ⟨?_, hb.alloc hgr.size _, hgr.size, Nat.le_refl _⟩
    rw [hl]
    refine ⟨?_, ?_, OwnL.none_ _ _ _, by omega, fun k hk => by simp [Value.ownBlock] at hk⟩
    · rw [List.length_replicate]; exact heap_alloc_new w1 _
    · rw [List.length_replicate]
      have := own_base0 (Own.alloc ho (.cells #[.slice none 0 0, .slice (some ⟨w.heap.size, 0, none⟩) n n] 75))
      exact this
  rw [hsz] at HN
  clear ho hgr hsz
  generalize w1.alloc (.cells #[.slice none 0 0, .slice (some ⟨w.heap.size, 0, none⟩) n n] 75) = w2 at *
  generalize hq : w.heap.size = q at *
  have HQ := Lib.hid hq
  clear hq
  go_loopw [21] (fun t wr => ∃ j : Nat, j ≤ n ∧ t = .int .i64 j ∧ Hid (NewAt w wr (q + 1) q n j)) (fun t _ => n - (intOf t).toNat)
  case atStart => exact ⟨0, Nat.zero_le _, rfl, HN⟩
  case round =>
    clear HN
    obtain ⟨j, hj, rfl, HJ⟩ := hrel
    by_cases hlt : j < n
    · have hp : (List.replicate j (-1 : Int) ++ List.replicate (n - j) 0).length = n := by simp; omega
      have c1 := HJ.out.1.c1
      rw [hp] at c1
      have hx : (List.replicate j (-1 : Int) ++ List.replicate (n - j) 0)[j]? = some 0 := by
        rw [List.getElem?_append_right (by simp), List.length_replicate, Nat.sub_self, List.getElem?_replicate, if_pos (by omega)]
      have q0 := HJ.out.1.place hx
      have qf := HJ.out.1.pf j
      clear hx hp
      go_wp2
      go_roundw
      case rel => exact ⟨j + 1, by omega, by go_num, HJ.out.set hlt⟩
      case measure => simp [intOf]; omega
    · obtain rfl : j = n := by omega
      go_wp2
      go_ret2
      exact ⟨_, _, rfl, HJ.out⟩
end Go.Proofs.Ytpoolfnfboohjaa.HeapC
