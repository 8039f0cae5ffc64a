/-
  Contracts of the functions of package countermandref17 (the document's answer for layer 17), third part: Read. Condition: what the slice reads as.
-/
import Derived.Test.YtolooaahaofflaaDoorRefScrB
import Derived.Test.YtolooaahaofflaaDoorCut
import Derived.StillTailTactics
namespace Go.Proofs.YtolooaahaofflaaDoor.ScriptP
open Go.ChangeShapes Go.WideShapes Go.ChangeAt Go.RowKit Mem MutP CodeP

/-- So many programs have been read, so far. -/
def Tail (b : List Int) (m i at_ : Nat) (ps : List (List In)) : Prop := tailP b = ((readP (m - i) (b.drop at_)).1, ps ++ (readP (m - i) (b.drop at_)).2.1, (readP (m - i) (b.drop at_)).2.2)
theorem tail_start {b : List Int} {m : Nat} (hm : manyOf b = m) : Tail b m 0 33 [] := by
  unfold Tail tailP
  rw [hm, Int.toNat_natCast, Nat.sub_zero, List.nil_append]
theorem readP_succ (k : Nat) (b : List Int) : readP (k + 1) b = if readE b = 0 then ((readP k (b.drop (readN b).toNat)).1, readR b :: (readP k (b.drop (readN b).toNat)).2.1, (readP k (b.drop (readN b).toNat)).2.2) else (readE b, [], []) := rfl
theorem tail_more {b : List Int} {m i at_ : Nat} {ps : List (List In)} (h : Tail b m i at_ ps) (hi : i < m) (he : readE (b.drop at_) = 0) {n : Nat} (hn : readN (b.drop at_) = n) : Tail b m (i + 1) (at_ + n) (ps ++ [readR (b.drop at_)]) := by
  unfold Tail at *
  rw [h, show m - i = (m - (i + 1)) + 1 by omega, readP_succ, if_pos he, hn, Int.toNat_natCast, List.drop_drop]
  simp
theorem tail_err {b : List Int} {m i at_ : Nat} {ps : List (List In)} (h : Tail b m i at_ ps) (hi : i < m) (he : readE (b.drop at_) ≠ 0) : (tailP b).1 = readE (b.drop at_) := by
  unfold Tail at h
  rw [h, show m - i = (m - (i + 1)) + 1 by omega, readP_succ, if_neg he]
theorem tail_end {b : List Int} {m i at_ : Nat} {ps : List (List In)} (h : Tail b m i at_ ps) (hi : m ≤ i) : tailP b = (0, ps, b.drop at_) := by
  unfold Tail at h
  rw [h, show m - i = 0 by omega]
  unfold readP
  simp
theorem readX_snoc : ∀ (k : Nat) (b : List Int), readX (k + 1) b = readX k b ++ [itAt (b.drop (10 * k))]
  | 0, b => rfl
  | k + 1, b => by
    have ih := readX_snoc k (b.drop 10)
    show itAt b :: readX (k + 1) (b.drop 10) = itAt b :: readX k (b.drop 10) ++ _
    rw [ih, List.drop_drop, show 10 + 10 * k = 10 * (k + 1) by omega, List.cons_append]
theorem readX_get : ∀ (k : Nat) (b : List Int) (j : Nat), j < k → (readX k b)[j]? = some (itAt (b.drop (10 * j)))
  | k + 1, b, 0, _ => rfl
  | k + 1, b, j + 1, h => by
    have ih := readX_get k (b.drop 10) j (by omega)
    show (readX k (b.drop 10))[j]? = _
    rw [ih, List.drop_drop, show 10 + 10 * j = 10 * (j + 1) by omega]
theorem se_long {b : List Int} (h : 4000 < b.length) : readSE b = 9 := by unfold readSE; rw [if_pos h]
theorem se_short {b : List Int} (h : b.length < 33) : readSE b = 8 := by unfold readSE; rw [if_neg (by omega), if_pos h]
theorem se_room {b : List Int} (h1 : b.length ≤ 4000) (h2 : 33 ≤ b.length) {x : Int} (hx : x ∈ roomsOf b) (hn : x < 0) : readSE b = 7 := by
  unfold readSE
  rw [if_neg (by omega), if_neg (by omega), if_pos]
  exact List.any_eq_true.2 ⟨x, hx, decide_eq_true hn⟩
/-- Its length and its rooms are right. -/
def Head (b : List Int) : Prop := (b.length ≤ 4000 ∧ 33 ≤ b.length) ∧ ∀ x ∈ roomsOf b, 0 ≤ x
theorem se_head {b : List Int} (h : Head b) : readSE b = if manyOf b < 1 ∨ 8 < manyOf b then 7 else if (tailP b).1 ≠ 0 then (tailP b).1
  else if (tailP b).2.2.length % 10 ≠ 0 then 8 else if 200 < (scOf b).xs.length ∨ (scOf b).xs.all rightI = false then 7 else 0 := by
  unfold readSE
  rw [if_neg (by have := h.1; omega), if_neg (by have := h.1; omega), if_neg]
  intro ha
  obtain ⟨x, hx, hn⟩ := List.any_eq_true.1 ha
  have := h.2 x hx
  have := of_decide_eq_true hn
  omega
theorem se_many {b : List Int} (h : Head b) (hm : manyOf b < 1 ∨ 8 < manyOf b) : readSE b = 7 := by rw [se_head h, if_pos hm]
theorem se_prog {b : List Int} (h : Head b) (hm : 1 ≤ manyOf b ∧ manyOf b ≤ 8) (he : (tailP b).1 ≠ 0) : readSE b = (tailP b).1 := by rw [se_head h, if_neg (by omega), if_pos he]
theorem se_left {b : List Int} (h : Head b) (hm : 1 ≤ manyOf b ∧ manyOf b ≤ 8) {ps : List (List In)} {l : List Int} (he : tailP b = (0, ps, l)) (hl : l.length % 10 ≠ 0) : readSE b = 8 := by
  rw [se_head h, if_neg (by omega), he, if_neg (by simp), if_pos hl]
theorem sc_xs {b : List Int} {ps : List (List In)} {l : List Int} (he : tailP b = (0, ps, l)) : scOf b = ⟨roomsOf b, ps, readX (l.length / 10) l⟩ := by unfold scOf; rw [he]
theorem se_item {b : List Int} (h : Head b) (hm : 1 ≤ manyOf b ∧ manyOf b ≤ 8) {ps : List (List In)} {l : List Int} (he : tailP b = (0, ps, l)) (hl : l.length % 10 = 0) {j : Nat} (hj : 10 * j < l.length) (hb : rightI (itAt (l.drop (10 * j))) = false ∨ 200 ≤ j) : readSE b = 7 := by
  rw [se_head h, if_neg (by omega), he, if_neg (by simp), if_neg (by simpa using hl), if_pos]
  rw [sc_xs he]
  rcases hb with hb | hb
  · refine .inr ?_
    rw [Bool.eq_false_iff]
    intro ha
    have hg := readX_get (l.length / 10) l j (by omega)
    have := List.all_eq_true.1 ha _ (List.mem_of_getElem? hg)
    rw [hb] at this
    cases this
  · refine .inl ?_
    rw [readX_len]
    omega
theorem se_ok {b : List Int} (h : Head b) (hm : 1 ≤ manyOf b ∧ manyOf b ≤ 8) {ps : List (List In)} {l : List Int} (he : tailP b = (0, ps, l)) (hl : l.length % 10 = 0) (hx : ∀ x ∈ readX (l.length / 10) l, rightI x = true) (h2 : l.length / 10 ≤ 200) : readSE b = 0 ∧ readS b = ⟨roomsOf b, ps, readX (l.length / 10) l⟩ := by
  have hE : readSE b = 0 := by
    rw [se_head h, if_neg (by omega), he, if_neg (by simp), if_neg (by simpa using hl), if_neg]
    rw [sc_xs he]
    rintro (hb | hb)
    · rw [readX_len] at hb; omega
    · rw [List.all_eq_true.2 hx] at hb; cases hb
  exact ⟨hE, by unfold readS; rw [if_pos hE, sc_xs he]⟩
theorem itAt_at {b : List Int} {t : Nat} {x0 x1 : Int} (h0 : b[t]? = some x0) (h1 : b[t + 1]? = some x1) : itAt (b.drop t) = ⟨x0, x1, numI (b.drop (t + 2))⟩ := by
  unfold itAt
  simp [List.getD, List.getElem?_drop, h0, h1]
end Go.Proofs.YtolooaahaofflaaDoor.ScriptP

namespace Go.Proofs.YtolooaahaofflaaDoor.RefScr
open Go.ChangeShapes Go.WideShapes Go.ChangeAt Go.RowKit Mem MutP CodeP ScriptP Hand RefCode CodeI Scr

theorem byUnder : Tryd.prog.underlying 29 = some (.slice (Tryd.prog.elem 29)) := by kernel_rfl
theorem bySize : ∀ w, (sizeOf (Tryd.prog.elem 29)).run Tryd.prog w = .ok 1 w := fun w => by kernel_rfl
theorem r17P : Elem (plE (α := In)) Tryd.prog 36 64 := elem_of (z := .slice none 0 0) (bytes := 24) Tryd.underlying36 (by kernel_rfl) rfl (by omega)
theorem r17X : Elem itE Tryd.prog 37 47 := elem_of (z := .agg #[.int .i64 0, .int .i64 0, .int .i64 0]) (bytes := 24) Tryd.underlying37 (by kernel_rfl) rfl (by omega)
theorem grow_none {α : Type} {B : Nat → Prop} {w wk : World} {Rs : List Res} (h : Sep B w wk Rs) (E : Enc α) (e : TypeId) : Sep B w wk (grow E e (.slice none 0 0) [] :: Rs) :=
  h.add (Below.refl _ _) (R := grow E e (.slice none 0 0) []) (F := fun _ => False) ⟨OwnL.none_ _ _ _, by funext k; simp [Value.ownBlock]⟩ fun _ h => h.elim
/-- What the rooms read as, when so many of them have been read. -/
def upTo (i j : Nat) (x : Int) : Int := if j < i then x else 0

set_option maxRecDepth 100000 in
set_option maxHeartbeats 2000000 in
theorem read_s {w : World} {G : Nat → Prop} {A : Option Addr} {c : Nat} {b : List Int} (h : RdL byE w G (.slice A b.length c) b) (hb : ∀ x ∈ b, Byte x) (hc : b.length ≤ c) :
    Calls Tryd.prog 12 #[.slice A b.length c] w fun e w' => ∃ q, e = .returned (.tuple #[.agg q.arr, .int .i64 (readSE b)]) ∧ SaysS w w' q (readS b) := by
  have HR := Lib.hid h
  have HBY := Lib.hid hb
  clear h hb
  obtain ⟨n, hn⟩ : ∃ n, b.length = n := ⟨_, rfl⟩
  have HN := Lib.hid hn
  rw [hn] at HR hc ⊢
  clear hn
  unfold Sv.arr
  have S0 : Hid (Sep (fun _ => False) w ((w.alloc (.cells #[.int .i64 0, .int .i64 0, .int .i64 0, .int .i64 0, .slice none 0 0, .slice none 0 0] 39)).alloc (.cells #[.int .i64 0, .int .i64 0, .int .i64 0, .int .i64 0, .slice none 0 0, .slice none 0 0] 39)) [blk (w.heap.size + 1) (.cells #[.int .i64 0, .int .i64 0, .int .i64 0, .int .i64 0, .slice none 0 0, .slice none 0 0] 39), blk w.heap.size (.cells #[.int .i64 0, .int .i64 0, .int .i64 0, .int .i64 0, .slice none 0 0, .slice none 0 0] 39)]) := by
    have h1 := ((Sep.nil (fun _ => False) w).new (.cells #[.int .i64 0, .int .i64 0, .int .i64 0, .int .i64 0, .slice none 0 0, .slice none 0 0] 39)).new (.cells #[.int .i64 0, .int .i64 0, .int .i64 0, .int .i64 0, .slice none 0 0, .slice none 0 0] 39)
    rw [show (w.alloc (.cells #[.int .i64 0, .int .i64 0, .int .i64 0, .int .i64 0, .slice none 0 0, .slice none 0 0] 39)).heap.size = w.heap.size + 1 by simp] at h1
    exact h1
  rcases (by omega : 4000 < n ∨ (n ≤ 4000 ∧ n < 33) ∨ (n ≤ 4000 ∧ 33 ≤ n)) with h1 | ⟨h1, h2⟩ | ⟨h1, h2⟩
  · have HF : Hid (readSE b = 9) := se_long (by rw [HN.out]; exact h1)
    have d0 : decide ((n : Int) > 4000) = true := decide_eq_true (by omega)
    have d1 : decide (4000 < n) = true := decide_eq_true h1
    clear h1
    go_enter Tryd.func12, Tryd.ntmps12
    have T1 := S0.out
    obtain ⟨wz, hwz⟩ : ∃ wz : World, wz = ((w.alloc (.cells #[.int .i64 0, .int .i64 0, .int .i64 0, .int .i64 0, .slice none 0 0, .slice none 0 0] 39)).alloc (.cells #[.int .i64 0, .int .i64 0, .int .i64 0, .int .i64 0, .slice none 0 0, .slice none 0 0] 39)) := ⟨_, rfl⟩
    rw [← hwz] at T1
    have TB := Lib.hid (T1.blk_at 1 (g := w.heap.size) (o := .cells #[.int .i64 0, .int .i64 0, .int .i64 0, .int .i64 0, .slice none 0 0, .slice none 0 0] 39) rfl)
    have TO := Lib.hid T1.old
    have HWZ := Lib.hid hwz
    clear T1 hwz
    go_wp2
    rw [← HWZ.out]
    have z0 := (cell_block TB.out 0).trans rfl
    have z1 := (cell_block TB.out 1).trans rfl
    have z2 := (cell_block TB.out 2).trans rfl
    have z3 := (cell_block TB.out 3).trans rfl
    have z4 := (cell_block TB.out 4).trans rfl
    have z5 := (cell_block TB.out 5).trans rfl
    refine bodyPost_ret (v := .tuple #[.agg #[.int .i64 0, .int .i64 0, .int .i64 0, .int .i64 0, .slice none 0 0, .slice none 0 0], .int .i64 (readSE b)]) (by simp [results, Tryd.results12, go_sem, z0, z1, z2, z3, z4, z5, HF.out]) rfl ?_
    have hne : readSE b ≠ 0 := by rw [HF.out]; first | decide | exact HNE.out
    refine ⟨⟨0, 0, 0, 0, none, 0, 0, none, 0, 0⟩, rfl, ?_⟩
    rw [show readS b = zeroS by unfold readS; rw [if_neg hne]]
    exact saysS_zero TO.out
  · have HF : Hid (readSE b = 8) := se_short (by rw [HN.out]; exact h2)
    have d0 : decide ((n : Int) > 4000) = false := decide_eq_false (by omega)
    have d1 : decide (4000 < n) = false := decide_eq_false (by omega)
    have d2 : decide ((n : Int) < 33) = true := decide_eq_true (by omega)
    have d3 : decide (n < 33) = true := decide_eq_true h2
    clear h1 h2
    go_enter Tryd.func12, Tryd.ntmps12
    have T1 := S0.out
    obtain ⟨wz, hwz⟩ : ∃ wz : World, wz = ((w.alloc (.cells #[.int .i64 0, .int .i64 0, .int .i64 0, .int .i64 0, .slice none 0 0, .slice none 0 0] 39)).alloc (.cells #[.int .i64 0, .int .i64 0, .int .i64 0, .int .i64 0, .slice none 0 0, .slice none 0 0] 39)) := ⟨_, rfl⟩
    rw [← hwz] at T1
    have TB := Lib.hid (T1.blk_at 1 (g := w.heap.size) (o := .cells #[.int .i64 0, .int .i64 0, .int .i64 0, .int .i64 0, .slice none 0 0, .slice none 0 0] 39) rfl)
    have TO := Lib.hid T1.old
    have HWZ := Lib.hid hwz
    clear T1 hwz
    go_wp2
    rw [← HWZ.out]
    have z0 := (cell_block TB.out 0).trans rfl
    have z1 := (cell_block TB.out 1).trans rfl
    have z2 := (cell_block TB.out 2).trans rfl
    have z3 := (cell_block TB.out 3).trans rfl
    have z4 := (cell_block TB.out 4).trans rfl
    have z5 := (cell_block TB.out 5).trans rfl
    refine bodyPost_ret (v := .tuple #[.agg #[.int .i64 0, .int .i64 0, .int .i64 0, .int .i64 0, .slice none 0 0, .slice none 0 0], .int .i64 (readSE b)]) (by simp [results, Tryd.results12, go_sem, z0, z1, z2, z3, z4, z5, HF.out]) rfl ?_
    have hne : readSE b ≠ 0 := by rw [HF.out]; first | decide | exact HNE.out
    refine ⟨⟨0, 0, 0, 0, none, 0, 0, none, 0, 0⟩, rfl, ?_⟩
    rw [show readS b = zeroS by unfold readS; rw [if_neg hne]]
    exact saysS_zero TO.out
  · obtain ⟨x, hx⟩ : ∃ x, b[0]? = some x := ⟨_, List.getElem?_eq_getElem (by rw [HN.out]; omega)⟩
    obtain ⟨g, off, rfl, hg, _⟩ := by_at HR.out hx
    have HCE : Hid (∀ (j : Nat) (y : Int), b[j]? = some y → w.cell? ⟨g, off + j, none⟩ = some (.int .u8 y)) := fun j y hy => by
      obtain ⟨g', off', e, _, hcell⟩ := by_at HR.out hy
      injection e with e
      injection e with e1 e2
      subst e1 e2
      exact hcell
    have HCV : Hid (∀ V : World, Below w.heap.size w V → ∀ (j : Nat) (y : Int), b[j]? = some y → V.cell? ⟨g, off + j, none⟩ = some (.int .u8 y)) := fun V hV j y hy => (hV.cell (p := ⟨g, off + j, none⟩) hg).trans (HCE.out j y hy)
    have HNUM : Hid (∀ V : World, Below w.heap.size w V → ∀ t : Nat, t + 8 ≤ n → Calls Tryd.prog 31 #[.slice (some ⟨g, off + t, none⟩) (n - t) (c - t)] V fun e w' => e = .returned (.int .i64 (numI (b.drop t))) ∧ V = w') := fun V hV t ht =>
      num_c (by rw [List.length_drop, HN.out]; omega) (fun x hx => HBY.out x (List.mem_of_mem_drop hx)) (by rw [List.length_drop, HN.out]) (by omega) fun j y hy => by
        rw [List.getElem?_drop] at hy
        have := HCV.out V hV _ _ hy
        rwa [← Nat.add_assoc] at this
    have HCUT : Hid (∀ t : Nat, t ≤ n → ∃ A', Cuts Tryd.prog 29 (.slice (some ⟨g, off, none⟩) n c) (some (.int .i64 t)) none none (.slice A' (n - t) (c - t)) ∧ (t < n → A' = some ⟨g, off + t, none⟩) ∧ RdL byE w (fun _ => True) (.slice A' (n - t) (c - t)) (b.drop t)) := fun t ht => by
      rcases (by omega : t < n ∨ (t = n ∧ n < c) ∨ (t = n ∧ n = c)) with h | ⟨h, h'⟩ | ⟨h, h'⟩
      · refine ⟨_, cut_from byUnder bySize g off n c t ht (by omega) hc, fun _ => rfl, ?_⟩
        have := rdL_behind HR.out t ht
        rw [show off + t * byE.sz = off + t by show off + t * 1 = _; omega] at this
        exact anyL this
      · refine ⟨_, cut_from byUnder bySize g off n c t ht (by omega) hc, fun h2 => absurd h2 (by omega), ?_⟩
        rw [show n - t = 0 by omega, List.drop_of_length_le (by rw [HN.out]; omega)]
        exact RdL.nil _ _ _ _
      · refine ⟨some ⟨g, off, none⟩, ?_, fun h2 => absurd h2 (by omega), ?_⟩
        · have key : ∀ w, (Instr.slice 29 (.slice (some ⟨g, off, none⟩) n c) (some (.int .i64 t)) none none).run Tryd.prog w = .ok (.slice (some ⟨g, off, none⟩) (n - t) (c - t)) w := fun w => by
            rw [run_slice_l (ht := byUnder) (h0 := by omega) (h1 := by omega), bySize]
            simp only [Result.andThen, sliced, Int.toNat_natCast]
            rw [if_pos (by omega), ← h']
          exact ⟨fun w => by rw [run_sliceAt_slice (h := byUnder)]; exact key w, key⟩
        · rw [show n - t = 0 by omega, List.drop_of_length_le (by rw [HN.out]; omega)]
          exact RdL.nil _ _ _ _
    obtain ⟨n0, n1, n2, n3, hro⟩ : ∃ n0 n1 n2 n3, roomsOf b = [n0, n1, n2, n3] := ⟨_, _, _, _, rfl⟩
    have HRO := Lib.hid hro
    have HRX : Hid (∀ i : Nat, i < 4 → (roomsOf b)[i]? = some (numI (b.drop (8 * i)))) := fun i hi => by
      rcases (by omega : i = 0 ∨ i = 1 ∨ i = 2 ∨ i = 3) with rfl | rfl | rfl | rfl <;> rfl
    have HLEN : Hid (b.length ≤ 4000 ∧ 33 ≤ b.length) := by show _ ∧ _; rw [HN.out]; exact ⟨h1, h2⟩
    have HNC := Lib.hid hc
    have d0 : decide ((n : Int) > 4000) = false := decide_eq_false (by omega)
    have d1 : decide (4000 < n) = false := decide_eq_false (by omega)
    have d2 : decide ((n : Int) < 33) = false := decide_eq_false (by omega)
    have d3 : decide (n < 33) = false := decide_eq_false (by omega)
    clear hx hro hc
    go_enter Tryd.func12, Tryd.ntmps12
    go_wp2
    clear d0 d1 d2 d3
    go_loopw [5] (fun t wr => ∃ i : Nat, i ≤ 4 ∧ t = .int .i64 (i : Int) ∧ Hid (Sep (fun _ => False) w wr [blk (w.heap.size + 1) (.cells #[.int .i64 (upTo i 0 n0), .int .i64 (upTo i 1 n1), .int .i64 (upTo i 2 n2), .int .i64 (upTo i 3 n3), .slice none 0 0, .slice none 0 0] 39), blk w.heap.size (.cells #[.int .i64 0, .int .i64 0, .int .i64 0, .int .i64 0, .slice none 0 0, .slice none 0 0] 39)]) ∧ Hid (∀ x ∈ (roomsOf b).take i, 0 ≤ x)) (fun t _ => 4 - (intOf t).toNat)
    case atStart => exact ⟨0, Nat.zero_le _, rfl, by show Sep _ _ _ _; simpa [upTo] using S0.out, by show ∀ x ∈ _, _; simp⟩
    case round =>
      obtain ⟨i, hi, rfl, HS, HA⟩ := hrel
      clear S0
      rcases (by omega : i < 4 ∨ 4 ≤ i) with h4 | h4
      · obtain ⟨t, ht⟩ : ∃ t : Nat, 8 * i = t := ⟨_, rfl⟩
        have hxr := HRX.out i h4
        rw [ht] at hxr
        obtain ⟨x, hx⟩ : ∃ x, numI (b.drop t) = x := ⟨_, rfl⟩
        rw [hx] at hxr
        have HXR := Lib.hid hxr
        have HT : Hid ((roomsOf b).take (i + 1) = (roomsOf b).take i ++ [x]) := take_snocI _ i x hxr
        have HC := Lib.hid (HNUM.out wr HS.out.old t (by omega))
        rw [hx] at HC
        obtain ⟨A', ⟨sl1, sl2⟩, hA', _⟩ := HCUT.out t (by omega)
        rw [hA' (by omega)] at sl1 sl2
        have w8 : IntKind.i64.wrap (8 * (i : Int)) = (t : Int) := by rw [IntWalk.i64_in _ (by omega)]; omega
        have i0 : (0 : Int) ≤ (i : Int) := by omega
        have i4 : (i : Int) < 4 := by omega
        have d0 : decide ((i : Int) < 4) = true := decide_eq_true i4
        have d1 : decide (i < 4) = true := decide_eq_true h4
        have hk : wr.cell? ⟨w.heap.size + 1, i, none⟩ = some (.int .i64 0) := by
          have hb := HS.out.blk_at 0 rfl
          rcases (by omega : i = 0 ∨ i = 1 ∨ i = 2 ∨ i = 3) with rfl | rfl | rfl | rfl
          · exact (cell_block hb 0).trans rfl
          · exact (cell_block hb 1).trans rfl
          · exact (cell_block hb 2).trans rfl
          · exact (cell_block hb 3).trans rfl
        have hf := frozen_block (HS.out.blk_at 0 rfl) i
        have S2 : Hid (Sep (fun _ => False) w (wr.setCell ⟨w.heap.size + 1, i, none⟩ (.int .i64 x)) [blk (w.heap.size + 1) (.cells #[.int .i64 (upTo (i + 1) 0 n0), .int .i64 (upTo (i + 1) 1 n1), .int .i64 (upTo (i + 1) 2 n2), .int .i64 (upTo (i + 1) 3 n3), .slice none 0 0, .slice none 0 0] 39), blk w.heap.size (.cells #[.int .i64 0, .int .i64 0, .int .i64 0, .int .i64 0, .slice none 0 0, .slice none 0 0] 39)]) := by
          have h3 := HS.out.set 0 rfl i (.int .i64 x)
          have hx3 := HXR.out
          rw [HRO.out] at hx3
          rcases (by omega : i = 0 ∨ i = 1 ∨ i = 2 ∨ i = 3) with rfl | rfl | rfl | rfl
          · obtain rfl : n0 = x := by simpa using hx3
            exact h3
          · obtain rfl : n1 = x := by simpa using hx3
            exact h3
          · obtain rfl : n2 = x := by simpa using hx3
            exact h3
          · obtain rfl : n3 = x := by simpa using hx3
            exact h3
        have m0 := (cell_block (HS.out.blk_at 1 (g := w.heap.size) (o := .cells #[.int .i64 0, .int .i64 0, .int .i64 0, .int .i64 0, .slice none 0 0, .slice none 0 0] 39) rfl) 0).trans rfl
        have f0 := frozen_block (HS.out.blk_at 1 (g := w.heap.size) (o := .cells #[.int .i64 0, .int .i64 0, .int .i64 0, .int .i64 0, .slice none 0 0, .slice none 0 0] 39) rfl) 0
        have m1 := (cell_block (HS.out.blk_at 1 (g := w.heap.size) (o := .cells #[.int .i64 0, .int .i64 0, .int .i64 0, .int .i64 0, .slice none 0 0, .slice none 0 0] 39) rfl) 1).trans rfl
        have f1 := frozen_block (HS.out.blk_at 1 (g := w.heap.size) (o := .cells #[.int .i64 0, .int .i64 0, .int .i64 0, .int .i64 0, .slice none 0 0, .slice none 0 0] 39) rfl) 1
        have m2 := (cell_block (HS.out.blk_at 1 (g := w.heap.size) (o := .cells #[.int .i64 0, .int .i64 0, .int .i64 0, .int .i64 0, .slice none 0 0, .slice none 0 0] 39) rfl) 2).trans rfl
        have f2 := frozen_block (HS.out.blk_at 1 (g := w.heap.size) (o := .cells #[.int .i64 0, .int .i64 0, .int .i64 0, .int .i64 0, .slice none 0 0, .slice none 0 0] 39) rfl) 2
        have m3 := (cell_block (HS.out.blk_at 1 (g := w.heap.size) (o := .cells #[.int .i64 0, .int .i64 0, .int .i64 0, .int .i64 0, .slice none 0 0, .slice none 0 0] 39) rfl) 3).trans rfl
        have f3 := frozen_block (HS.out.blk_at 1 (g := w.heap.size) (o := .cells #[.int .i64 0, .int .i64 0, .int .i64 0, .int .i64 0, .slice none 0 0, .slice none 0 0] 39) rfl) 3
        have m4 := (cell_block (HS.out.blk_at 1 (g := w.heap.size) (o := .cells #[.int .i64 0, .int .i64 0, .int .i64 0, .int .i64 0, .slice none 0 0, .slice none 0 0] 39) rfl) 4).trans rfl
        have f4 := frozen_block (HS.out.blk_at 1 (g := w.heap.size) (o := .cells #[.int .i64 0, .int .i64 0, .int .i64 0, .int .i64 0, .slice none 0 0, .slice none 0 0] 39) rfl) 4
        have m5 := (cell_block (HS.out.blk_at 1 (g := w.heap.size) (o := .cells #[.int .i64 0, .int .i64 0, .int .i64 0, .int .i64 0, .slice none 0 0, .slice none 0 0] 39) rfl) 5).trans rfl
        have f5 := frozen_block (HS.out.blk_at 1 (g := w.heap.size) (o := .cells #[.int .i64 0, .int .i64 0, .int .i64 0, .int .i64 0, .slice none 0 0, .slice none 0 0] 39) rfl) 5
        clear ht hxr hx hA' HS
        rcases (by omega : x < 0 ∨ 0 ≤ x) with hneg | hneg
        · have dx : decide (x < 0) = true := decide_eq_true hneg
          have HF : Hid (readSE b = 7) := se_room HLEN.out.1 HLEN.out.2 (List.mem_of_getElem? HXR.out) hneg
          clear hneg
          go_wp2_with fail
          refine HC.out.mono ?_
          rintro e w3 ⟨rfl, rfl⟩
          have T1 := (((((S2.out.set 1 rfl 0 (.int .i64 0)).set 1 rfl 1 (.int .i64 0)).set 1 rfl 2 (.int .i64 0)).set 1 rfl 3 (.int .i64 0)).set 1 rfl 4 (.slice none 0 0)).set 1 rfl 5 (.slice none 0 0)
          obtain ⟨wz, hwz⟩ : ∃ wz : World, wz = (((((((wr.setCell ⟨w.heap.size + 1, i, none⟩ (.int .i64 x)).setCell ⟨w.heap.size, 0, none⟩ (.int .i64 0)).setCell ⟨w.heap.size, 1, none⟩ (.int .i64 0)).setCell ⟨w.heap.size, 2, none⟩ (.int .i64 0)).setCell ⟨w.heap.size, 3, none⟩ (.int .i64 0)).setCell ⟨w.heap.size, 4, none⟩ (.slice none 0 0)).setCell ⟨w.heap.size, 5, none⟩ (.slice none 0 0)) := ⟨_, rfl⟩
          rw [← hwz] at T1
          have TB := Lib.hid (T1.blk_at 1 (g := w.heap.size) (o := .cells #[.int .i64 0, .int .i64 0, .int .i64 0, .int .i64 0, .slice none 0 0, .slice none 0 0] 39) rfl)
          have TO := Lib.hid T1.old
          have HWZ := Lib.hid hwz
          clear T1 hwz
          go_wp2
          rw [← HWZ.out]
          have z0 := (cell_block TB.out 0).trans rfl
          have z1 := (cell_block TB.out 1).trans rfl
          have z2 := (cell_block TB.out 2).trans rfl
          have z3 := (cell_block TB.out 3).trans rfl
          have z4 := (cell_block TB.out 4).trans rfl
          have z5 := (cell_block TB.out 5).trans rfl
          refine bodyPost_ret (v := .tuple #[.agg #[.int .i64 0, .int .i64 0, .int .i64 0, .int .i64 0, .slice none 0 0, .slice none 0 0], .int .i64 (readSE b)]) (by simp [results, Tryd.results12, go_sem, z0, z1, z2, z3, z4, z5, HF.out]) rfl ?_
          have hne : readSE b ≠ 0 := by rw [HF.out]; first | decide | exact HNE.out
          refine ⟨⟨0, 0, 0, 0, none, 0, 0, none, 0, 0⟩, rfl, ?_⟩
          rw [show readS b = zeroS by unfold readS; rw [if_neg hne]]
          exact saysS_zero TO.out
        · have dx : decide (x < 0) = false := decide_eq_false (by omega)
          have HA2 : Hid (∀ y ∈ (roomsOf b).take (i + 1), 0 ≤ y) := fun y hy => by
            rw [HT.out] at hy
            rcases List.mem_append.1 hy with hy | hy
            · exact HA.out y hy
            · rw [List.mem_singleton] at hy; rw [hy]; exact hneg
          clear hneg m0 m1 m2 m3 m4 m5 f0 f1 f2 f3 f4 f5
          go_wp2_with fail
          refine HC.out.mono ?_
          rintro e w3 ⟨rfl, rfl⟩
          go_wp2
          go_roundw
          case rel => exact ⟨i + 1, by omega, by go_num, S2, HA2⟩
          case measure => simp [intOf]; omega
      · have HHD : Hid (Head b) := ⟨HLEN.out, fun x hx => HA.out x (by rw [List.take_of_length_le (by rw [HRO.out]; simpa using h4)]; exact hx)⟩
        have S1 : Hid (Sep (fun _ => False) w wr [blk (w.heap.size + 1) (.cells #[.int .i64 n0, .int .i64 n1, .int .i64 n2, .int .i64 n3, .slice none 0 0, .slice none 0 0] 39), blk w.heap.size (.cells #[.int .i64 0, .int .i64 0, .int .i64 0, .int .i64 0, .slice none 0 0, .slice none 0 0] 39)]) := by
          have h3 := HS.out
          have e : ∀ (j : Nat) (x : Int), j < 4 → upTo i j x = x := fun j x hj => by unfold upTo; rw [if_pos (by omega)]
          rw [e 0 n0 (by omega), e 1 n1 (by omega), e 2 n2 (by omega), e 3 n3 (by omega)] at h3
          exact h3
        obtain ⟨y, hy⟩ : ∃ y, b[32]? = some y := ⟨_, List.getElem?_eq_getElem (by have := HLEN.out.2; omega)⟩
        have HM : Hid (manyOf b = y) := by show _ = _; unfold manyOf; simp [List.getD, hy]
        have hy0 : 0 ≤ y ∧ y ≤ 255 := HBY.out y (List.mem_of_getElem? hy)
        have q0 : wr.cell? ⟨g, off + 32, none⟩ = some (.int .u8 y) := HCV.out wr S1.out.old 32 y hy
        have wy : IntKind.i64.wrap y = y := IntWalk.i64_in _ (by omega)
        have n32 : (32 : Int) < (n : Int) := by omega
        have n32' : 32 < n := by omega
        have d0 : decide ((i : Int) < 4) = false := decide_eq_false (by omega)
        have d1 : decide (i < 4) = false := decide_eq_false (by omega)
        clear HS HA hi h4 hy
        rcases (by omega : y < 1 ∨ (1 ≤ y ∧ 8 < y) ∨ (1 ≤ y ∧ y ≤ 8)) with h4 | ⟨h4, h5⟩ | ⟨h4, h5⟩
        · have HF : Hid (readSE b = 7) := se_many HHD.out (by rw [HM.out]; exact .inl h4)
          have d4 : decide (y < 1) = true := decide_eq_true h4
          clear h4 hy0
          have m0 := (cell_block (S1.out.blk_at 1 (g := w.heap.size) (o := .cells #[.int .i64 0, .int .i64 0, .int .i64 0, .int .i64 0, .slice none 0 0, .slice none 0 0] 39) rfl) 0).trans rfl
          have f0 := frozen_block (S1.out.blk_at 1 (g := w.heap.size) (o := .cells #[.int .i64 0, .int .i64 0, .int .i64 0, .int .i64 0, .slice none 0 0, .slice none 0 0] 39) rfl) 0
          have m1 := (cell_block (S1.out.blk_at 1 (g := w.heap.size) (o := .cells #[.int .i64 0, .int .i64 0, .int .i64 0, .int .i64 0, .slice none 0 0, .slice none 0 0] 39) rfl) 1).trans rfl
          have f1 := frozen_block (S1.out.blk_at 1 (g := w.heap.size) (o := .cells #[.int .i64 0, .int .i64 0, .int .i64 0, .int .i64 0, .slice none 0 0, .slice none 0 0] 39) rfl) 1
          have m2 := (cell_block (S1.out.blk_at 1 (g := w.heap.size) (o := .cells #[.int .i64 0, .int .i64 0, .int .i64 0, .int .i64 0, .slice none 0 0, .slice none 0 0] 39) rfl) 2).trans rfl
          have f2 := frozen_block (S1.out.blk_at 1 (g := w.heap.size) (o := .cells #[.int .i64 0, .int .i64 0, .int .i64 0, .int .i64 0, .slice none 0 0, .slice none 0 0] 39) rfl) 2
          have m3 := (cell_block (S1.out.blk_at 1 (g := w.heap.size) (o := .cells #[.int .i64 0, .int .i64 0, .int .i64 0, .int .i64 0, .slice none 0 0, .slice none 0 0] 39) rfl) 3).trans rfl
          have f3 := frozen_block (S1.out.blk_at 1 (g := w.heap.size) (o := .cells #[.int .i64 0, .int .i64 0, .int .i64 0, .int .i64 0, .slice none 0 0, .slice none 0 0] 39) rfl) 3
          have m4 := (cell_block (S1.out.blk_at 1 (g := w.heap.size) (o := .cells #[.int .i64 0, .int .i64 0, .int .i64 0, .int .i64 0, .slice none 0 0, .slice none 0 0] 39) rfl) 4).trans rfl
          have f4 := frozen_block (S1.out.blk_at 1 (g := w.heap.size) (o := .cells #[.int .i64 0, .int .i64 0, .int .i64 0, .int .i64 0, .slice none 0 0, .slice none 0 0] 39) rfl) 4
          have m5 := (cell_block (S1.out.blk_at 1 (g := w.heap.size) (o := .cells #[.int .i64 0, .int .i64 0, .int .i64 0, .int .i64 0, .slice none 0 0, .slice none 0 0] 39) rfl) 5).trans rfl
          have f5 := frozen_block (S1.out.blk_at 1 (g := w.heap.size) (o := .cells #[.int .i64 0, .int .i64 0, .int .i64 0, .int .i64 0, .slice none 0 0, .slice none 0 0] 39) rfl) 5
          have T1 := (((((S1.out.set 1 rfl 0 (.int .i64 0)).set 1 rfl 1 (.int .i64 0)).set 1 rfl 2 (.int .i64 0)).set 1 rfl 3 (.int .i64 0)).set 1 rfl 4 (.slice none 0 0)).set 1 rfl 5 (.slice none 0 0)
          obtain ⟨wz, hwz⟩ : ∃ wz : World, wz = ((((((wr.setCell ⟨w.heap.size, 0, none⟩ (.int .i64 0)).setCell ⟨w.heap.size, 1, none⟩ (.int .i64 0)).setCell ⟨w.heap.size, 2, none⟩ (.int .i64 0)).setCell ⟨w.heap.size, 3, none⟩ (.int .i64 0)).setCell ⟨w.heap.size, 4, none⟩ (.slice none 0 0)).setCell ⟨w.heap.size, 5, none⟩ (.slice none 0 0)) := ⟨_, rfl⟩
          rw [← hwz] at T1
          have TB := Lib.hid (T1.blk_at 1 (g := w.heap.size) (o := .cells #[.int .i64 0, .int .i64 0, .int .i64 0, .int .i64 0, .slice none 0 0, .slice none 0 0] 39) rfl)
          have TO := Lib.hid T1.old
          have HWZ := Lib.hid hwz
          clear T1 hwz
          go_wp2
          rw [← HWZ.out]
          have z0 := (cell_block TB.out 0).trans rfl
          have z1 := (cell_block TB.out 1).trans rfl
          have z2 := (cell_block TB.out 2).trans rfl
          have z3 := (cell_block TB.out 3).trans rfl
          have z4 := (cell_block TB.out 4).trans rfl
          have z5 := (cell_block TB.out 5).trans rfl
          refine bodyPost_ret (v := .tuple #[.agg #[.int .i64 0, .int .i64 0, .int .i64 0, .int .i64 0, .slice none 0 0, .slice none 0 0], .int .i64 (readSE b)]) (by simp [results, Tryd.results12, go_sem, z0, z1, z2, z3, z4, z5, HF.out]) rfl ?_
          have hne : readSE b ≠ 0 := by rw [HF.out]; first | decide | exact HNE.out
          refine ⟨⟨0, 0, 0, 0, none, 0, 0, none, 0, 0⟩, rfl, ?_⟩
          rw [show readS b = zeroS by unfold readS; rw [if_neg hne]]
          exact saysS_zero TO.out
        · have HF : Hid (readSE b = 7) := se_many HHD.out (by rw [HM.out]; exact .inr h5)
          have d4 : decide (y < 1) = false := decide_eq_false (by omega)
          have d5 : decide (y > 8) = true := decide_eq_true (by omega)
          clear h4 h5 hy0
          have m0 := (cell_block (S1.out.blk_at 1 (g := w.heap.size) (o := .cells #[.int .i64 0, .int .i64 0, .int .i64 0, .int .i64 0, .slice none 0 0, .slice none 0 0] 39) rfl) 0).trans rfl
          have f0 := frozen_block (S1.out.blk_at 1 (g := w.heap.size) (o := .cells #[.int .i64 0, .int .i64 0, .int .i64 0, .int .i64 0, .slice none 0 0, .slice none 0 0] 39) rfl) 0
          have m1 := (cell_block (S1.out.blk_at 1 (g := w.heap.size) (o := .cells #[.int .i64 0, .int .i64 0, .int .i64 0, .int .i64 0, .slice none 0 0, .slice none 0 0] 39) rfl) 1).trans rfl
          have f1 := frozen_block (S1.out.blk_at 1 (g := w.heap.size) (o := .cells #[.int .i64 0, .int .i64 0, .int .i64 0, .int .i64 0, .slice none 0 0, .slice none 0 0] 39) rfl) 1
          have m2 := (cell_block (S1.out.blk_at 1 (g := w.heap.size) (o := .cells #[.int .i64 0, .int .i64 0, .int .i64 0, .int .i64 0, .slice none 0 0, .slice none 0 0] 39) rfl) 2).trans rfl
          have f2 := frozen_block (S1.out.blk_at 1 (g := w.heap.size) (o := .cells #[.int .i64 0, .int .i64 0, .int .i64 0, .int .i64 0, .slice none 0 0, .slice none 0 0] 39) rfl) 2
          have m3 := (cell_block (S1.out.blk_at 1 (g := w.heap.size) (o := .cells #[.int .i64 0, .int .i64 0, .int .i64 0, .int .i64 0, .slice none 0 0, .slice none 0 0] 39) rfl) 3).trans rfl
          have f3 := frozen_block (S1.out.blk_at 1 (g := w.heap.size) (o := .cells #[.int .i64 0, .int .i64 0, .int .i64 0, .int .i64 0, .slice none 0 0, .slice none 0 0] 39) rfl) 3
          have m4 := (cell_block (S1.out.blk_at 1 (g := w.heap.size) (o := .cells #[.int .i64 0, .int .i64 0, .int .i64 0, .int .i64 0, .slice none 0 0, .slice none 0 0] 39) rfl) 4).trans rfl
          have f4 := frozen_block (S1.out.blk_at 1 (g := w.heap.size) (o := .cells #[.int .i64 0, .int .i64 0, .int .i64 0, .int .i64 0, .slice none 0 0, .slice none 0 0] 39) rfl) 4
          have m5 := (cell_block (S1.out.blk_at 1 (g := w.heap.size) (o := .cells #[.int .i64 0, .int .i64 0, .int .i64 0, .int .i64 0, .slice none 0 0, .slice none 0 0] 39) rfl) 5).trans rfl
          have f5 := frozen_block (S1.out.blk_at 1 (g := w.heap.size) (o := .cells #[.int .i64 0, .int .i64 0, .int .i64 0, .int .i64 0, .slice none 0 0, .slice none 0 0] 39) rfl) 5
          have T1 := (((((S1.out.set 1 rfl 0 (.int .i64 0)).set 1 rfl 1 (.int .i64 0)).set 1 rfl 2 (.int .i64 0)).set 1 rfl 3 (.int .i64 0)).set 1 rfl 4 (.slice none 0 0)).set 1 rfl 5 (.slice none 0 0)
          obtain ⟨wz, hwz⟩ : ∃ wz : World, wz = ((((((wr.setCell ⟨w.heap.size, 0, none⟩ (.int .i64 0)).setCell ⟨w.heap.size, 1, none⟩ (.int .i64 0)).setCell ⟨w.heap.size, 2, none⟩ (.int .i64 0)).setCell ⟨w.heap.size, 3, none⟩ (.int .i64 0)).setCell ⟨w.heap.size, 4, none⟩ (.slice none 0 0)).setCell ⟨w.heap.size, 5, none⟩ (.slice none 0 0)) := ⟨_, rfl⟩
          rw [← hwz] at T1
          have TB := Lib.hid (T1.blk_at 1 (g := w.heap.size) (o := .cells #[.int .i64 0, .int .i64 0, .int .i64 0, .int .i64 0, .slice none 0 0, .slice none 0 0] 39) rfl)
          have TO := Lib.hid T1.old
          have HWZ := Lib.hid hwz
          clear T1 hwz
          go_wp2
          rw [← HWZ.out]
          have z0 := (cell_block TB.out 0).trans rfl
          have z1 := (cell_block TB.out 1).trans rfl
          have z2 := (cell_block TB.out 2).trans rfl
          have z3 := (cell_block TB.out 3).trans rfl
          have z4 := (cell_block TB.out 4).trans rfl
          have z5 := (cell_block TB.out 5).trans rfl
          refine bodyPost_ret (v := .tuple #[.agg #[.int .i64 0, .int .i64 0, .int .i64 0, .int .i64 0, .slice none 0 0, .slice none 0 0], .int .i64 (readSE b)]) (by simp [results, Tryd.results12, go_sem, z0, z1, z2, z3, z4, z5, HF.out]) rfl ?_
          have hne : readSE b ≠ 0 := by rw [HF.out]; first | decide | exact HNE.out
          refine ⟨⟨0, 0, 0, 0, none, 0, 0, none, 0, 0⟩, rfl, ?_⟩
          rw [show readS b = zeroS by unfold readS; rw [if_neg hne]]
          exact saysS_zero TO.out
        · obtain ⟨m, rfl⟩ := Int.eq_ofNat_of_zero_le hy0.1
          have d4 : decide ((m : Int) < 1) = false := decide_eq_false (by omega)
          have d5 : decide ((m : Int) > 8) = false := decide_eq_false (by omega)
          have HMB : Hid (1 ≤ manyOf b ∧ manyOf b ≤ 8) := by show _ ∧ _; rw [HM.out]; exact ⟨h4, h5⟩
          have hm8 : m ≤ 8 := by omega
          clear h4 h5 hy0
          go_wp2
          clear d0 d1 d4 d5 q0 wy n32 n32'
          have S2 : Hid (Sep (fun _ => False) w wr [blk (w.heap.size + 1) (.cells #[.int .i64 n0, .int .i64 n1, .int .i64 n2, .int .i64 n3, .slice none 0 0, .slice none 0 0] 39), blk w.heap.size (.cells #[.int .i64 0, .int .i64 0, .int .i64 0, .int .i64 0, .slice none 0 0, .slice none 0 0] 39), grow plE 64 (.slice none 0 0) ([] : List (Pl In)), readsP inE []]) := by
            have h3 := (grow_none (S1.out.readsP_nil inE) (plE (α := In)) 64)
            exact h3.perm ((List.perm_append_comm (l₁ := [grow plE 64 (.slice none 0 0) ([] : List (Pl In)), readsP inE []]) (l₂ := [blk (w.heap.size + 1) (.cells #[.int .i64 n0, .int .i64 n1, .int .i64 n2, .int .i64 n3, .slice none 0 0, .slice none 0 0] 39), blk w.heap.size (.cells #[.int .i64 0, .int .i64 0, .int .i64 0, .int .i64 0, .slice none 0 0, .slice none 0 0] 39)])))
          go_loopw [7, 8] (fun a v wr => ∃ (i at_ : Nat) (qs : List (Pl In)) (Ap : Option Addr) (cp : Nat), i ≤ m ∧ v = .int .i64 (i : Int) ∧ a = .int .i64 (at_ : Int) ∧ at_ ≤ n ∧ Hid (Tail b m i at_ (qs.map Pl.l) ∧ qs.length = i) ∧ Hid (Sep (fun _ => False) w wr [blk (w.heap.size + 1) (.cells #[.int .i64 n0, .int .i64 n1, .int .i64 n2, .int .i64 n3, .slice Ap qs.length cp, .slice none 0 0] 39), blk w.heap.size (.cells #[.int .i64 0, .int .i64 0, .int .i64 0, .int .i64 0, .slice none 0 0, .slice none 0 0] 39), grow plE 64 (.slice Ap qs.length cp) qs, readsP inE qs])) (fun _ v _ => m - (intOf v).toNat)
          case atStart => exact ⟨0, 33, [], none, 0, Nat.zero_le _, rfl, rfl, h2, ⟨tail_start HM.out, rfl⟩, S2.out⟩
          case round =>
            obtain ⟨i, at_, qs, Ap, cp, hi, rfl, rfl, han, HT, HS⟩ := hrel
            clear S1 S2
            rcases (by omega : i < m ∨ m ≤ i) with h4 | h4
            · obtain ⟨A', ⟨sl1, sl2⟩, _, hrd⟩ := HCUT.out at_ han
              have hdl : (b.drop at_).length = n - at_ := by rw [List.length_drop, HN.out]
              have hC0 := read_r (w := wr) (A := A') (c := c - at_) (b := b.drop at_) (by rw [hdl]; exact hrd.below HS.out.old) (fun x hx => HBY.out x (List.mem_of_mem_drop hx)) (by rw [hdl]; have := HNC.out; omega)
              rw [hdl] at hC0
              have hpos := readE_pos (b.drop at_)
              obtain ⟨E, hE⟩ : ∃ E, readE (b.drop at_) = E := ⟨_, rfl⟩
              have HEE := Lib.hid hE
              rw [hE] at hC0
              have HC := Lib.hid hC0
              have i0 : decide ((i : Int) < (m : Int)) = true := decide_eq_true (by omega)
              have i1 : decide (i < m) = true := decide_eq_true h4
              clear hC0 hrd hE hdl
              rcases (by omega : E ≠ 0 ∨ E = 0) with hne | hne
              · have ene : (E != 0) = true := by simpa using hne
                have HNE : Hid (E ≠ 0) := hne
                have HF : Hid (readSE b = E) := by
                  have h5 := tail_err HT.out.1 h4 (by rw [HEE.out]; exact hne)
                  have h6 := se_prog HHD.out HMB.out (by rw [h5, HEE.out]; exact hne)
                  exact h6.trans (h5.trans HEE.out)
                clear hne hpos
                go_wp2_with fail
                refine HC.out.mono ?_
                rintro e w5 ⟨u, rfl, hsy, _⟩
                have S5 := Lib.hid (HS.out.next hsy.2)
                clear hsy HC sl1 sl2
                have m0 := (cell_block (S5.out.blk_at 1 (g := w.heap.size) (o := .cells #[.int .i64 0, .int .i64 0, .int .i64 0, .int .i64 0, .slice none 0 0, .slice none 0 0] 39) rfl) 0).trans rfl
                have f0 := frozen_block (S5.out.blk_at 1 (g := w.heap.size) (o := .cells #[.int .i64 0, .int .i64 0, .int .i64 0, .int .i64 0, .slice none 0 0, .slice none 0 0] 39) rfl) 0
                have m1 := (cell_block (S5.out.blk_at 1 (g := w.heap.size) (o := .cells #[.int .i64 0, .int .i64 0, .int .i64 0, .int .i64 0, .slice none 0 0, .slice none 0 0] 39) rfl) 1).trans rfl
                have f1 := frozen_block (S5.out.blk_at 1 (g := w.heap.size) (o := .cells #[.int .i64 0, .int .i64 0, .int .i64 0, .int .i64 0, .slice none 0 0, .slice none 0 0] 39) rfl) 1
                have m2 := (cell_block (S5.out.blk_at 1 (g := w.heap.size) (o := .cells #[.int .i64 0, .int .i64 0, .int .i64 0, .int .i64 0, .slice none 0 0, .slice none 0 0] 39) rfl) 2).trans rfl
                have f2 := frozen_block (S5.out.blk_at 1 (g := w.heap.size) (o := .cells #[.int .i64 0, .int .i64 0, .int .i64 0, .int .i64 0, .slice none 0 0, .slice none 0 0] 39) rfl) 2
                have m3 := (cell_block (S5.out.blk_at 1 (g := w.heap.size) (o := .cells #[.int .i64 0, .int .i64 0, .int .i64 0, .int .i64 0, .slice none 0 0, .slice none 0 0] 39) rfl) 3).trans rfl
                have f3 := frozen_block (S5.out.blk_at 1 (g := w.heap.size) (o := .cells #[.int .i64 0, .int .i64 0, .int .i64 0, .int .i64 0, .slice none 0 0, .slice none 0 0] 39) rfl) 3
                have m4 := (cell_block (S5.out.blk_at 1 (g := w.heap.size) (o := .cells #[.int .i64 0, .int .i64 0, .int .i64 0, .int .i64 0, .slice none 0 0, .slice none 0 0] 39) rfl) 4).trans rfl
                have f4 := frozen_block (S5.out.blk_at 1 (g := w.heap.size) (o := .cells #[.int .i64 0, .int .i64 0, .int .i64 0, .int .i64 0, .slice none 0 0, .slice none 0 0] 39) rfl) 4
                have m5 := (cell_block (S5.out.blk_at 1 (g := w.heap.size) (o := .cells #[.int .i64 0, .int .i64 0, .int .i64 0, .int .i64 0, .slice none 0 0, .slice none 0 0] 39) rfl) 5).trans rfl
                have f5 := frozen_block (S5.out.blk_at 1 (g := w.heap.size) (o := .cells #[.int .i64 0, .int .i64 0, .int .i64 0, .int .i64 0, .slice none 0 0, .slice none 0 0] 39) rfl) 5
                have T1 := (((((S5.out.set 1 rfl 0 (.int .i64 0)).set 1 rfl 1 (.int .i64 0)).set 1 rfl 2 (.int .i64 0)).set 1 rfl 3 (.int .i64 0)).set 1 rfl 4 (.slice none 0 0)).set 1 rfl 5 (.slice none 0 0)
                obtain ⟨wz, hwz⟩ : ∃ wz : World, wz = ((((((w5.setCell ⟨w.heap.size, 0, none⟩ (.int .i64 0)).setCell ⟨w.heap.size, 1, none⟩ (.int .i64 0)).setCell ⟨w.heap.size, 2, none⟩ (.int .i64 0)).setCell ⟨w.heap.size, 3, none⟩ (.int .i64 0)).setCell ⟨w.heap.size, 4, none⟩ (.slice none 0 0)).setCell ⟨w.heap.size, 5, none⟩ (.slice none 0 0)) := ⟨_, rfl⟩
                rw [← hwz] at T1
                have TB := Lib.hid (T1.blk_at 1 (g := w.heap.size) (o := .cells #[.int .i64 0, .int .i64 0, .int .i64 0, .int .i64 0, .slice none 0 0, .slice none 0 0] 39) rfl)
                have TO := Lib.hid T1.old
                have HWZ := Lib.hid hwz
                clear T1 hwz
                go_wp2
                rw [← HWZ.out]
                have z0 := (cell_block TB.out 0).trans rfl
                have z1 := (cell_block TB.out 1).trans rfl
                have z2 := (cell_block TB.out 2).trans rfl
                have z3 := (cell_block TB.out 3).trans rfl
                have z4 := (cell_block TB.out 4).trans rfl
                have z5 := (cell_block TB.out 5).trans rfl
                refine bodyPost_ret (v := .tuple #[.agg #[.int .i64 0, .int .i64 0, .int .i64 0, .int .i64 0, .slice none 0 0, .slice none 0 0], .int .i64 (readSE b)]) (by simp [results, Tryd.results12, go_sem, z0, z1, z2, z3, z4, z5, HF.out]) rfl ?_
                have hne : readSE b ≠ 0 := by rw [HF.out]; first | decide | exact HNE.out
                refine ⟨⟨0, 0, 0, 0, none, 0, 0, none, 0, 0⟩, rfl, ?_⟩
                rw [show readS b = zeroS by unfold readS; rw [if_neg hne]]
                exact saysS_zero TO.out
              · subst hne
                obtain ⟨fo1, fo2, ⟨fo3, fo4⟩, fo5⟩ := forth HEE.out (fun x hx => HBY.out x (List.mem_of_mem_drop hx))
                rw [List.length_drop, HN.out] at fo4
                obtain ⟨N, hN⟩ := Int.eq_ofNat_of_zero_le (by omega : 0 ≤ readN (b.drop at_))
                rw [hN] at HC fo4
                have HTM : Hid (Tail b m (i + 1) (at_ + N) (qs.map Pl.l ++ [readR (b.drop at_)])) := tail_more HT.out.1 h4 HEE.out hN
                obtain ⟨a2, ha2⟩ : ∃ a2 : Nat, at_ + N = a2 := ⟨_, rfl⟩
                have wa : IntKind.i64.wrap ((at_ : Int) + (N : Int)) = (a2 : Int) := by rw [IntWalk.i64_in _ (by have := HLEN.out.1; rw [HN.out] at this; omega)]; omega
                have han2 : a2 ≤ n := by omega
                rw [ha2] at HTM
                have HQL : Hid (qs.length ≤ 8) := by have := HT.out.2; show _ ≤ _; omega
                clear fo1 fo2 fo3 fo4 fo5 hN ha2 hpos
                go_wp2_with fail
                refine HC.out.mono ?_
                rintro e w5 ⟨u, rfl, hsy, hfu⟩
                obtain ⟨Au, cu, rfl⟩ := hsy.1.form
                have hfc := hfu _ _ _ rfl
                obtain ⟨q, hq⟩ : ∃ q : Pl In, q = ⟨Au, cu, readR (b.drop at_)⟩ := ⟨_, rfl⟩
                have hqv : Value.slice Au (readR (b.drop at_)).length cu = q.v := by rw [hq]; rfl
                have HQ : Hid (q.l = readR (b.drop at_) ∧ q.l.length ≤ q.c) := by rw [hq]; exact ⟨rfl, hfc⟩
                have hsy2 : SaysL inE wr w5 q.v q.l := by rw [hq]; exact hsy
                have S5 := Lib.hid (SaysL.sep HS.out hsy2)
                have k4 : w5.cell? ⟨w.heap.size + 1, 4, none⟩ = some (.slice Ap qs.length cp) := (cell_block (S5.out.blk_at 1 rfl) 4).trans rfl
                obtain ⟨ln, hln⟩ : ∃ ln, (readR (b.drop at_)).length = ln := ⟨_, rfl⟩
                have hqA : q.v = .slice Au ln cu := by rw [← hqv, hln]
                have S6 : Hid (Sep (fun _ => False) w (w5.alloc (.cells #[.slice Au ln cu] 64)) [told plE (.slice (some ⟨w5.heap.size, 0, none⟩) 1 1) [q], told inE q.v q.l, blk (w.heap.size + 1) (.cells #[.int .i64 n0, .int .i64 n1, .int .i64 n2, .int .i64 n3, .slice Ap qs.length cp, .slice none 0 0] 39), blk w.heap.size (.cells #[.int .i64 0, .int .i64 0, .int .i64 0, .int .i64 0, .slice none 0 0, .slice none 0 0] 39), grow plE 64 (.slice Ap qs.length cp) qs, readsP inE qs]) := by
                  rw [← hqA]
                  exact S5.out.lit_told (E := plE) 64 [q] (cs := #[q.v]) rfl (by simp) rfl
                rw [hln]
                clear hq hqv hqA hln hsy hsy2 hfu hfc HC sl1 sl2 HS
                go_wp2_with (at_builtin; refine wpList_appS rfl _ _ r17P rfl rfl rfl S6.out 4 rfl (S6.out.rdL 0 rfl) (by have := HQL.out; simp; omega) ?_)
                intro A7 c7 w7 l7 HL7 h7
                have S7 : Hid (Sep (fun _ => False) w w7 [told inE q.v q.l, blk (w.heap.size + 1) (.cells #[.int .i64 n0, .int .i64 n1, .int .i64 n2, .int .i64 n3, .slice Ap qs.length cp, .slice none 0 0] 39), blk w.heap.size (.cells #[.int .i64 0, .int .i64 0, .int .i64 0, .int .i64 0, .slice none 0 0, .slice none 0 0] 39), grow plE 64 (.slice A7 l7.length c7) l7, readsP inE qs]) := Sep.tail h7
                have y4 : w7.cell? ⟨w.heap.size + 1, 4, none⟩ = some (.slice Ap qs.length cp) := (cell_block (S7.out.blk_at 1 rfl) 4).trans rfl
                have yf := frozen_block (S7.out.blk_at 1 rfl) 4
                have S8 : Hid (Sep (fun _ => False) w (w7.setCell ⟨w.heap.size + 1, 4, none⟩ (.slice A7 l7.length c7)) [blk (w.heap.size + 1) (.cells #[.int .i64 n0, .int .i64 n1, .int .i64 n2, .int .i64 n3, .slice A7 l7.length c7, .slice none 0 0] 39), blk w.heap.size (.cells #[.int .i64 0, .int .i64 0, .int .i64 0, .int .i64 0, .slice none 0 0, .slice none 0 0] 39), grow plE 64 (.slice A7 l7.length c7) l7, readsP inE l7]) := by
                  have h8 := S7.out.set 1 rfl 4 (.slice A7 l7.length c7)
                  have h9 : Sep (fun _ => False) w (w7.setCell ⟨w.heap.size + 1, 4, none⟩ (.slice A7 l7.length c7)) (told inE q.v q.l :: readsP inE qs :: [blk (w.heap.size + 1) (.cells #[.int .i64 n0, .int .i64 n1, .int .i64 n2, .int .i64 n3, .slice A7 l7.length c7, .slice none 0 0] 39), blk w.heap.size (.cells #[.int .i64 0, .int .i64 0, .int .i64 0, .int .i64 0, .slice none 0 0, .slice none 0 0] 39), grow plE 64 (.slice A7 l7.length c7) l7]) := h8.perm ((List.perm_append_comm (l₁ := [blk (w.heap.size + 1) (.cells #[.int .i64 n0, .int .i64 n1, .int .i64 n2, .int .i64 n3, .slice A7 l7.length c7, .slice none 0 0] 39), blk w.heap.size (.cells #[.int .i64 0, .int .i64 0, .int .i64 0, .int .i64 0, .slice none 0 0, .slice none 0 0] 39), grow plE 64 (.slice A7 l7.length c7) l7]) (l₂ := [readsP inE qs])).cons _)
                  have h10 := h9.readsP_add HQ.out.2
                  rw [← HL7.out] at h10
                  exact h10.perm (List.perm_append_comm (l₁ := [readsP inE l7]) (l₂ := [blk (w.heap.size + 1) (.cells #[.int .i64 n0, .int .i64 n1, .int .i64 n2, .int .i64 n3, .slice A7 l7.length c7, .slice none 0 0] 39), blk w.heap.size (.cells #[.int .i64 0, .int .i64 0, .int .i64 0, .int .i64 0, .slice none 0 0, .slice none 0 0] 39), grow plE 64 (.slice A7 l7.length c7) l7]))
                have HT2 : Hid (Tail b m (i + 1) a2 (l7.map Pl.l) ∧ l7.length = i + 1) := by
                  refine ⟨?_, ?_⟩
                  · rw [HL7.out, List.map_append, List.map_cons, List.map_nil, HQ.out.1]; exact HTM.out
                  · rw [HL7.out, List.length_append, HT.out.2]; rfl
                clear h7 S6 S5 HL7 S7 k4
                go_wp2
                go_roundw
                case rel => exact ⟨i + 1, a2, l7, A7, c7, by omega, by go_num, rfl, han2, HT2, S8⟩
                case measure => simp [intOf]; omega
            · have HTE : Hid (tailP b = (0, qs.map Pl.l, b.drop at_)) := tail_end HT.out.1 h4
              have i0 : decide ((i : Int) < (m : Int)) = false := decide_eq_false (by omega)
              have i1 : decide (i < m) = false := decide_eq_false (by omega)
              have HQL : Hid (qs.length ≤ 8) := by have := HT.out.2; show _ ≤ _; omega
              clear HT hi h4
              obtain ⟨r, hr⟩ : ∃ r : Nat, n - at_ = r := ⟨_, rfl⟩
              have wr_ : IntKind.i64.wrap ((n : Int) - (at_ : Int)) = (r : Int) := by rw [IntWalk.i64_in _ (by have := HLEN.out.1; rw [HN.out] at this; omega)]; omega
              have hrl : (b.drop at_).length = r := by rw [List.length_drop, HN.out, hr]
              have HRL := Lib.hid hrl
              obtain ⟨z, hz⟩ : ∃ z : Int, (r : Int).tmod 10 = z := ⟨_, rfl⟩
              have hzm : z = ((r % 10 : Nat) : Int) := by rw [← hz, Int.tmod_eq_emod_of_nonneg (by omega)]; rfl
              have HRN : Hid (at_ + r = n ∧ n ≤ 4000) := ⟨by omega, h1⟩
              clear hr hrl
              rcases (by omega : z ≠ 0 ∨ z = 0) with hz0 | hz0
              · have ez : (z != 0) = true := by simpa using hz0
                have HF : Hid (readSE b = 8) := se_left HHD.out HMB.out HTE.out (by rw [HRL.out]; omega)
                clear hz0 hzm
                have m0 := (cell_block (HS.out.blk_at 1 (g := w.heap.size) (o := .cells #[.int .i64 0, .int .i64 0, .int .i64 0, .int .i64 0, .slice none 0 0, .slice none 0 0] 39) rfl) 0).trans rfl
                have f0 := frozen_block (HS.out.blk_at 1 (g := w.heap.size) (o := .cells #[.int .i64 0, .int .i64 0, .int .i64 0, .int .i64 0, .slice none 0 0, .slice none 0 0] 39) rfl) 0
                have m1 := (cell_block (HS.out.blk_at 1 (g := w.heap.size) (o := .cells #[.int .i64 0, .int .i64 0, .int .i64 0, .int .i64 0, .slice none 0 0, .slice none 0 0] 39) rfl) 1).trans rfl
                have f1 := frozen_block (HS.out.blk_at 1 (g := w.heap.size) (o := .cells #[.int .i64 0, .int .i64 0, .int .i64 0, .int .i64 0, .slice none 0 0, .slice none 0 0] 39) rfl) 1
                have m2 := (cell_block (HS.out.blk_at 1 (g := w.heap.size) (o := .cells #[.int .i64 0, .int .i64 0, .int .i64 0, .int .i64 0, .slice none 0 0, .slice none 0 0] 39) rfl) 2).trans rfl
                have f2 := frozen_block (HS.out.blk_at 1 (g := w.heap.size) (o := .cells #[.int .i64 0, .int .i64 0, .int .i64 0, .int .i64 0, .slice none 0 0, .slice none 0 0] 39) rfl) 2
                have m3 := (cell_block (HS.out.blk_at 1 (g := w.heap.size) (o := .cells #[.int .i64 0, .int .i64 0, .int .i64 0, .int .i64 0, .slice none 0 0, .slice none 0 0] 39) rfl) 3).trans rfl
                have f3 := frozen_block (HS.out.blk_at 1 (g := w.heap.size) (o := .cells #[.int .i64 0, .int .i64 0, .int .i64 0, .int .i64 0, .slice none 0 0, .slice none 0 0] 39) rfl) 3
                have m4 := (cell_block (HS.out.blk_at 1 (g := w.heap.size) (o := .cells #[.int .i64 0, .int .i64 0, .int .i64 0, .int .i64 0, .slice none 0 0, .slice none 0 0] 39) rfl) 4).trans rfl
                have f4 := frozen_block (HS.out.blk_at 1 (g := w.heap.size) (o := .cells #[.int .i64 0, .int .i64 0, .int .i64 0, .int .i64 0, .slice none 0 0, .slice none 0 0] 39) rfl) 4
                have m5 := (cell_block (HS.out.blk_at 1 (g := w.heap.size) (o := .cells #[.int .i64 0, .int .i64 0, .int .i64 0, .int .i64 0, .slice none 0 0, .slice none 0 0] 39) rfl) 5).trans rfl
                have f5 := frozen_block (HS.out.blk_at 1 (g := w.heap.size) (o := .cells #[.int .i64 0, .int .i64 0, .int .i64 0, .int .i64 0, .slice none 0 0, .slice none 0 0] 39) rfl) 5
                have T1 := (((((HS.out.set 1 rfl 0 (.int .i64 0)).set 1 rfl 1 (.int .i64 0)).set 1 rfl 2 (.int .i64 0)).set 1 rfl 3 (.int .i64 0)).set 1 rfl 4 (.slice none 0 0)).set 1 rfl 5 (.slice none 0 0)
                obtain ⟨wz, hwz⟩ : ∃ wz : World, wz = ((((((wr.setCell ⟨w.heap.size, 0, none⟩ (.int .i64 0)).setCell ⟨w.heap.size, 1, none⟩ (.int .i64 0)).setCell ⟨w.heap.size, 2, none⟩ (.int .i64 0)).setCell ⟨w.heap.size, 3, none⟩ (.int .i64 0)).setCell ⟨w.heap.size, 4, none⟩ (.slice none 0 0)).setCell ⟨w.heap.size, 5, none⟩ (.slice none 0 0)) := ⟨_, rfl⟩
                rw [← hwz] at T1
                have TB := Lib.hid (T1.blk_at 1 (g := w.heap.size) (o := .cells #[.int .i64 0, .int .i64 0, .int .i64 0, .int .i64 0, .slice none 0 0, .slice none 0 0] 39) rfl)
                have TO := Lib.hid T1.old
                have HWZ := Lib.hid hwz
                clear T1 hwz
                go_wp2
                rw [← HWZ.out]
                have z0 := (cell_block TB.out 0).trans rfl
                have z1 := (cell_block TB.out 1).trans rfl
                have z2 := (cell_block TB.out 2).trans rfl
                have z3 := (cell_block TB.out 3).trans rfl
                have z4 := (cell_block TB.out 4).trans rfl
                have z5 := (cell_block TB.out 5).trans rfl
                refine bodyPost_ret (v := .tuple #[.agg #[.int .i64 0, .int .i64 0, .int .i64 0, .int .i64 0, .slice none 0 0, .slice none 0 0], .int .i64 (readSE b)]) (by simp [results, Tryd.results12, go_sem, z0, z1, z2, z3, z4, z5, HF.out]) rfl ?_
                have hne : readSE b ≠ 0 := by rw [HF.out]; first | decide | exact HNE.out
                refine ⟨⟨0, 0, 0, 0, none, 0, 0, none, 0, 0⟩, rfl, ?_⟩
                rw [show readS b = zeroS by unfold readS; rw [if_neg hne]]
                exact saysS_zero TO.out
              · subst hz0
                have HR10 : Hid (r % 10 = 0) := by show _ = _; omega
                clear hzm
                go_wp2
                clear i0 i1 wr_ hz
                have S3 : Hid (Sep (fun _ => False) w wr [blk (w.heap.size + 1) (.cells #[.int .i64 n0, .int .i64 n1, .int .i64 n2, .int .i64 n3, .slice Ap qs.length cp, .slice none 0 0] 39), blk w.heap.size (.cells #[.int .i64 0, .int .i64 0, .int .i64 0, .int .i64 0, .slice none 0 0, .slice none 0 0] 39), grow plE 64 (.slice Ap qs.length cp) qs, readsP inE qs, grow itE 47 (.slice none 0 0) ([] : List It)]) := (grow_none HS.out itE 47).perm (List.perm_append_comm (l₁ := [grow itE 47 (.slice none 0 0) ([] : List It)]) (l₂ := [blk (w.heap.size + 1) (.cells #[.int .i64 n0, .int .i64 n1, .int .i64 n2, .int .i64 n3, .slice Ap qs.length cp, .slice none 0 0] 39), blk w.heap.size (.cells #[.int .i64 0, .int .i64 0, .int .i64 0, .int .i64 0, .slice none 0 0, .slice none 0 0] 39), grow plE 64 (.slice Ap qs.length cp) qs, readsP inE qs]))
                go_loopw [7] (fun a wr => ∃ (j p : Nat) (Ax : Option Addr) (cx : Nat), a = .int .i64 (p : Int) ∧ p ≤ n ∧ Hid (p = at_ + 10 * j ∧ j ≤ 200) ∧ Hid (∀ x ∈ readX j (b.drop at_), rightI x = true) ∧ Hid (Sep (fun _ => False) w wr [blk (w.heap.size + 1) (.cells #[.int .i64 n0, .int .i64 n1, .int .i64 n2, .int .i64 n3, .slice Ap qs.length cp, .slice Ax j cx] 39), blk w.heap.size (.cells #[.int .i64 0, .int .i64 0, .int .i64 0, .int .i64 0, .slice none 0 0, .slice none 0 0] 39), grow plE 64 (.slice Ap qs.length cp) qs, readsP inE qs, grow itE 47 (.slice Ax j cx) (readX j (b.drop at_))])) (fun a _ => n - (intOf a).toNat)
                case atStart => exact ⟨0, at_, none, 0, rfl, han, ⟨by omega, by omega⟩, (by show ∀ x ∈ _, _; intro x hx; cases hx), S3.out⟩
                case round =>
                  obtain ⟨j, p, Ax, cx, rfl, hpn, HJ, HA, HS3⟩ := hrel
                  clear S3 HS
                  rcases (by omega : p < n ∨ n ≤ p) with h4 | h4
                  · have hp10 : p + 10 ≤ n := by have := HJ.out.1; have := HRN.out; have := HR10.out; omega
                    have hdd : (b.drop at_).drop (10 * j) = b.drop p := by rw [List.drop_drop, HJ.out.1]
                    obtain ⟨y0, hy0⟩ : ∃ y, b[p]? = some y := ⟨_, List.getElem?_eq_getElem (by rw [HN.out]; omega)⟩
                    obtain ⟨y1, hy1⟩ : ∃ y, b[p + 1]? = some y := ⟨_, List.getElem?_eq_getElem (by rw [HN.out]; omega)⟩
                    obtain ⟨z, hz⟩ : ∃ z, numI (b.drop (p + 2)) = z := ⟨_, rfl⟩
                    have HIT : Hid (itAt ((b.drop at_).drop (10 * j)) = ⟨y0, y1, z⟩) := by show _ = _; rw [hdd, itAt_at hy0 hy1, hz]
                    have HSN : Hid (readX (j + 1) (b.drop at_) = readX j (b.drop at_) ++ [⟨y0, y1, z⟩]) := by show _ = _; rw [readX_snoc, HIT.out]
                    have HJL : Hid (10 * j < (b.drop at_).length) := by have := HJ.out.1; have := HRN.out; show _ < _; rw [HRL.out]; omega
                    have b0 : 0 ≤ y0 ∧ y0 ≤ 255 := HBY.out y0 (List.mem_of_getElem? hy0)
                    have b1 : 0 ≤ y1 ∧ y1 ≤ 255 := HBY.out y1 (List.mem_of_getElem? hy1)
                    have v0 : IntKind.i64.wrap y0 = y0 := IntWalk.i64_in _ (by omega)
                    have v1 : IntKind.i64.wrap y1 = y1 := IntWalk.i64_in _ (by omega)
                    obtain ⟨pa, hpa⟩ : ∃ pa : Nat, p + 1 = pa := ⟨_, rfl⟩
                    obtain ⟨pb, hpb⟩ : ∃ pb : Nat, p + 2 = pb := ⟨_, rfl⟩
                    obtain ⟨pc, hpc⟩ : ∃ pc : Nat, p + 10 = pc := ⟨_, rfl⟩
                    rw [hpa] at hy1
                    rw [hpb] at hz
                    have bn : n ≤ 4000 := HRN.out.2
                    have wpa : IntKind.i64.wrap ((p : Int) + 1) = (pa : Int) := by rw [IntWalk.i64_in _ (by omega)]; omega
                    have wpb : IntKind.i64.wrap ((p : Int) + 2) = (pb : Int) := by rw [IntWalk.i64_in _ (by omega)]; omega
                    have wpc : IntKind.i64.wrap ((p : Int) + 10) = (pc : Int) := by rw [IntWalk.i64_in _ (by omega)]; omega
                    have HPC : Hid (pc = at_ + 10 * (j + 1) ∧ pc ≤ n ∧ p < pc) := by have := HJ.out.1; show _ ∧ _; omega
                    have x0 : (0 : Int) ≤ (p : Int) := by omega
                    have x1 : (p : Int) < (n : Int) := by omega
                    have x2 : p < n := h4
                    have x3 : (0 : Int) ≤ (pa : Int) := by omega
                    have x4 : (pa : Int) < (n : Int) := by omega
                    have x5 : pa < n := by omega
                    obtain ⟨A', ⟨sl1, sl2⟩, hA', _⟩ := HCUT.out pb (by omega)
                    rw [hA' (by omega)] at sl1 sl2
                    have HCL : Hid (∀ V : World, Below w.heap.size w V → (fun V : World => V.cell? ⟨g, off + p, none⟩ = some (.int .u8 y0) ∧ V.cell? ⟨g, off + pa, none⟩ = some (.int .u8 y1)) V) := fun V hV => ⟨HCV.out V hV p y0 hy0, HCV.out V hV pa y1 hy1⟩
                    have HNW : Hid (∀ V : World, Below w.heap.size w V → Calls Tryd.prog 31 #[.slice (some ⟨g, off + pb, none⟩) (n - pb) (c - pb)] V fun e w' => e = .returned (.int .i64 z) ∧ V = w') := fun V hV => by have := HNUM.out V hV pb (by omega); rw [hz] at this; exact this
                    have dp : decide ((p : Int) < (n : Int)) = true := decide_eq_true x1
                    have dp2 : decide (p < n) = true := decide_eq_true x2
                    obtain ⟨gx, hgx⟩ : ∃ gx, wr.heap.size = gx := ⟨_, rfl⟩
                    clear hp10 hdd hy0 hy1 hz hpa hpb hpc hA' b0 b1 bn h4 hpn
                    go_upto_region 27 with (fail)
                    go_cut [12] (fun s wx => s = .pointer (some ⟨gx, 0, none⟩) ∧ Hid (Sep (fun _ => False) w wx [blk gx (.cells #[.int .i64 y0, .int .i64 y1, .int .i64 z] 47), blk (w.heap.size + 1) (.cells #[.int .i64 n0, .int .i64 n1, .int .i64 n2, .int .i64 n3, .slice Ap qs.length cp, .slice Ax j cx] 39), blk w.heap.size (.cells #[.int .i64 0, .int .i64 0, .int .i64 0, .int .i64 0, .slice none 0 0, .slice none 0 0] 39), grow plE 64 (.slice Ap qs.length cp) qs, readsP inE qs, grow itE 47 (.slice Ax j cx) (readX j (b.drop at_))]))
                    case first => as_aux_lemma =>
                      have S2 := Lib.hid HS3.out.drew
                      have hsz : wr.drew.heap.size = gx := hgx
                      refine Held.begin_ (fun V : World => V.cell? ⟨g, off + p, none⟩ = some (.int .u8 y0) ∧ V.cell? ⟨g, off + pa, none⟩ = some (.int .u8 y1)) 18 (by kernel_rfl) ?_
                      have hC : (fun V : World => V.cell? ⟨g, off + p, none⟩ = some (.int .u8 y0) ∧ V.cell? ⟨g, off + pa, none⟩ = some (.int .u8 y1)) wr.drew := HCL.out _ S2.out.old
                      refine Held.take 0 (v := ?_) hC rfl (by kernel_rfl) (by kernel_rfl) (by kernel_rfl) (by kernel_rfl) (fun _ _ _ h => h) ?_ ?_; rotate_left; · (intro W hW; obtain ⟨k0, k1⟩ := hW; go_simp <;> with_reducible rfl)
                      try simp only [Act.put, List.setIfInBounds_toArray, List.set_cons_zero, List.set_cons_succ]
                      refine Held.take 1 (v := ?_) hC rfl (by kernel_rfl) (by kernel_rfl) (by kernel_rfl) (by kernel_rfl) (fun _ _ _ h => h) ?_ ?_; rotate_left; · (intro W hW; obtain ⟨k0, k1⟩ := hW; go_simp <;> with_reducible rfl)
                      try simp only [Act.put, List.setIfInBounds_toArray, List.set_cons_zero, List.set_cons_succ]
                      refine Held.take 2 (v := ?_) hC rfl (by kernel_rfl) (by kernel_rfl) (by kernel_rfl) (by kernel_rfl) (fun _ _ _ h => h) ?_ ?_; rotate_left; · (intro W hW; obtain ⟨k0, k1⟩ := hW; go_simp <;> with_reducible rfl)
                      try simp only [Act.put, List.setIfInBounds_toArray, List.set_cons_zero, List.set_cons_succ]
                      refine Held.take 3 (v := ?_) hC rfl (by kernel_rfl) (by kernel_rfl) (by kernel_rfl) (by kernel_rfl) (fun _ _ _ h => h) ?_ ?_; rotate_left; · (intro W hW; obtain ⟨k0, k1⟩ := hW; go_simp <;> with_reducible rfl)
                      try simp only [Act.put, List.setIfInBounds_toArray, List.set_cons_zero, List.set_cons_succ]
                      refine Held.take 4 (v := ?_) hC rfl (by kernel_rfl) (by kernel_rfl) (by kernel_rfl) (by kernel_rfl) (fun _ _ _ h => h) ?_ ?_; rotate_left; · (intro W hW; obtain ⟨k0, k1⟩ := hW; go_simp <;> with_reducible rfl)
                      try simp only [Act.put, List.setIfInBounds_toArray, List.set_cons_zero, List.set_cons_succ]
                      refine Held.take 5 (v := ?_) hC rfl (by kernel_rfl) (by kernel_rfl) (by kernel_rfl) (by kernel_rfl) (fun _ _ _ h => h) ?_ ?_; rotate_left; · (intro W hW; obtain ⟨k0, k1⟩ := hW; go_simp <;> with_reducible rfl)
                      try simp only [Act.put, List.setIfInBounds_toArray, List.set_cons_zero, List.set_cons_succ]
                      refine Held.take 6 (v := ?_) hC rfl (by kernel_rfl) (by kernel_rfl) (by kernel_rfl) (by kernel_rfl) (fun _ _ _ h => h) ?_ ?_; rotate_left; · (intro W hW; obtain ⟨k0, k1⟩ := hW; go_simp <;> with_reducible rfl)
                      try simp only [Act.put, List.setIfInBounds_toArray, List.set_cons_zero, List.set_cons_succ]
                      refine Held.take 7 (v := ?_) hC rfl (by kernel_rfl) (by kernel_rfl) (by kernel_rfl) (by kernel_rfl) (fun _ _ _ h => h) ?_ ?_; rotate_left; · (intro W hW; obtain ⟨k0, k1⟩ := hW; go_simp <;> with_reducible rfl)
                      try simp only [Act.put, List.setIfInBounds_toArray, List.set_cons_zero, List.set_cons_succ]
                      refine Held.take 8 (v := ?_) hC rfl (by kernel_rfl) (by kernel_rfl) (by kernel_rfl) (by kernel_rfl) (fun _ _ _ h => h) ?_ ?_; rotate_left; · (intro W hW; obtain ⟨k0, k1⟩ := hW; go_simp <;> with_reducible rfl)
                      try simp only [Act.put, List.setIfInBounds_toArray, List.set_cons_zero, List.set_cons_succ]
                      refine Held.take 9 (v := ?_) hC rfl (by kernel_rfl) (by kernel_rfl) (by kernel_rfl) (by kernel_rfl) (fun _ _ _ h => h) ?_ ?_; rotate_left; · (intro W hW; obtain ⟨k0, k1⟩ := hW; go_simp <;> with_reducible rfl)
                      try simp only [Act.put, List.setIfInBounds_toArray, List.set_cons_zero, List.set_cons_succ]
                      refine Held.take 10 (v := ?_) hC rfl (by kernel_rfl) (by kernel_rfl) (by kernel_rfl) (by kernel_rfl) (fun _ _ _ h => h) ?_ ?_; rotate_left; · (intro W hW; obtain ⟨k0, k1⟩ := hW; go_simp <;> with_reducible rfl)
                      try simp only [Act.put, List.setIfInBounds_toArray, List.set_cons_zero, List.set_cons_succ]
                      refine Held.take 11 (v := ?_) hC rfl (by kernel_rfl) (by kernel_rfl) (by kernel_rfl) (by kernel_rfl) (fun _ _ _ h => h) ?_ ?_; rotate_left; · (intro W hW; obtain ⟨k0, k1⟩ := hW; go_simp <;> with_reducible rfl)
                      try simp only [Act.put, List.setIfInBounds_toArray, List.set_cons_zero, List.set_cons_succ]
                      refine Held.take 12 (v := ?_) hC rfl (by kernel_rfl) (by kernel_rfl) (by kernel_rfl) (by kernel_rfl) (fun _ _ _ h => h) ?_ ?_; rotate_left; · (intro W hW; obtain ⟨k0, k1⟩ := hW; go_simp <;> with_reducible rfl)
                      try simp only [Act.put, List.setIfInBounds_toArray, List.set_cons_zero, List.set_cons_succ]
                      refine Held.take 13 (v := ?_) hC rfl (by kernel_rfl) (by kernel_rfl) (by kernel_rfl) (by kernel_rfl) (fun _ _ _ h => h) ?_ ?_; rotate_left; · (intro W hW; obtain ⟨k0, k1⟩ := hW; go_simp <;> with_reducible rfl)
                      try simp only [Act.put, List.setIfInBounds_toArray, List.set_cons_zero, List.set_cons_succ]
                      refine Held.take 14 (v := ?_) hC rfl (by kernel_rfl) (by kernel_rfl) (by kernel_rfl) (by kernel_rfl) (fun _ _ _ h => h) ?_ ?_; rotate_left; · (intro W hW; obtain ⟨k0, k1⟩ := hW; go_simp <;> with_reducible rfl)
                      try simp only [Act.put, List.setIfInBounds_toArray, List.set_cons_zero, List.set_cons_succ]
                      clear hC HS3 hgx
                      generalize wr.drew = w0 at *
                      subst hsz
                      have S3 : Hid (Sep (fun _ => False) w (w0.alloc (.cells #[.int .i64 0, .int .i64 0, .int .i64 0] 47)) [blk w0.heap.size (.cells #[.int .i64 0, .int .i64 0, .int .i64 0] 47), blk (w.heap.size + 1) (.cells #[.int .i64 n0, .int .i64 n1, .int .i64 n2, .int .i64 n3, .slice Ap qs.length cp, .slice Ax j cx] 39), blk w.heap.size (.cells #[.int .i64 0, .int .i64 0, .int .i64 0, .int .i64 0, .slice none 0 0, .slice none 0 0] 39), grow plE 64 (.slice Ap qs.length cp) qs, readsP inE qs, grow itE 47 (.slice Ax j cx) (readX j (b.drop at_))]) := S2.out.new _
                      have S9 : Hid (Sep (fun _ => False) w (w0.alloc (.cells #[.int .i64 y0, .int .i64 y1, .int .i64 z] 47)) [blk w0.heap.size (.cells #[.int .i64 y0, .int .i64 y1, .int .i64 z] 47), blk (w.heap.size + 1) (.cells #[.int .i64 n0, .int .i64 n1, .int .i64 n2, .int .i64 n3, .slice Ap qs.length cp, .slice Ax j cx] 39), blk w.heap.size (.cells #[.int .i64 0, .int .i64 0, .int .i64 0, .int .i64 0, .slice none 0 0, .slice none 0 0] 39), grow plE 64 (.slice Ap qs.length cp) qs, readsP inE qs, grow itE 47 (.slice Ax j cx) (readX j (b.drop at_))]) := S2.out.new _
                      refine Held.either 15 17 (by kernel_rfl) rfl rfl ?_ ?_
                      · intro K hK
                        go_simp
                        refine (HNW.out w0 S2.out.old).mono ?_
                        rintro e w1 ⟨rfl, rfl⟩
                        refine hK.out _ _ (fun _ => HCL.out _ S2.out.old) ?_
                        clear hK K
                        try simp only [Act.put, List.setIfInBounds_toArray, List.set_cons_zero, List.set_cons_succ]
                        have hC : (fun V : World => V.cell? ⟨g, off + p, none⟩ = some (.int .u8 y0) ∧ V.cell? ⟨g, off + pa, none⟩ = some (.int .u8 y1)) w0 := HCL.out _ S2.out.old
                        refine Held.take 16 (v := ?_) hC rfl (by kernel_rfl) (by kernel_rfl) (by kernel_rfl) (by kernel_rfl) (fun _ _ _ h => h) ?_ ?_; rotate_left; · (intro W hW; obtain ⟨k0, k1⟩ := hW; go_simp <;> with_reducible rfl)
                        try simp only [Act.put, List.setIfInBounds_toArray, List.set_cons_zero, List.set_cons_succ]
                        clear hC
                        refine Held.only 17 (by kernel_rfl) rfl ?_
                        intro K hK
                        go_simp
                        refine hK.out _ _ (fun _ => HCL.out _ S3.out.old) ?_
                        clear hK K
                        try simp only [Act.put, List.setIfInBounds_toArray, List.set_cons_zero, List.set_cons_succ]
                        refine Held.only 18 (by kernel_rfl) rfl ?_
                        intro K hK
                        go_simp
                        refine hK.out _ _ (fun h => absurd rfl h) ?_
                        clear hK K
                        try simp only [Act.put]
                        refine Held.done (by kernel_rfl) ?_ _
                        go_wp2_with fail
                        go_meet
                        exact ⟨rfl, S9⟩
                      · intro K hK
                        go_simp
                        refine hK.out _ _ (fun _ => HCL.out _ S3.out.old) ?_
                        clear hK K
                        try simp only [Act.put, List.setIfInBounds_toArray, List.set_cons_zero, List.set_cons_succ]
                        refine Held.only 15 (by kernel_rfl) rfl ?_
                        intro K hK
                        go_simp
                        refine (HNW.out _ S3.out.old).mono ?_
                        rintro e w1 ⟨rfl, rfl⟩
                        refine hK.out _ _ (fun _ => HCL.out _ S3.out.old) ?_
                        clear hK K
                        try simp only [Act.put, List.setIfInBounds_toArray, List.set_cons_zero, List.set_cons_succ]
                        refine Held.only 16 (by kernel_rfl) rfl ?_
                        intro K hK
                        go_simp
                        refine hK.out _ _ (fun _ => HCL.out _ S3.out.old) ?_
                        clear hK K
                        try simp only [Act.put, List.setIfInBounds_toArray, List.set_cons_zero, List.set_cons_succ]
                        refine Held.only 18 (by kernel_rfl) rfl ?_
                        intro K hK
                        go_simp
                        refine hK.out _ _ (fun h => absurd rfl h) ?_
                        clear hK K
                        try simp only [Act.put]
                        refine Held.done (by kernel_rfl) ?_ _
                        go_wp2_with fail
                        go_meet
                        exact ⟨rfl, S9⟩
                    case rest =>
                      obtain ⟨rfl, S5⟩ := hcut
                      have HC := Lib.hid (right_s ⟨y0, y1, z⟩ wc)
                      have g0 := (cell_block (S5.out.blk_at 0 rfl) 0).trans rfl
                      have g1 := (cell_block (S5.out.blk_at 0 rfl) 1).trans rfl
                      have g2 := (cell_block (S5.out.blk_at 0 rfl) 2).trans rfl
                      clear sl1 sl2 HNW HS3 v0 v1 wpa wpb x0 x1 x3 x4 x5 HCL hgx
                      cases hrx : rightI ⟨y0, y1, z⟩ with
                      | false =>
                        rw [hrx] at HC
                        have HF : Hid (readSE b = 7) := se_item HHD.out HMB.out HTE.out (by rw [HRL.out]; exact HR10.out) HJL.out (.inl (by rw [HIT.out]; exact hrx))
                        clear hrx
                        go_wp2_with fail
                        refine HC.out.mono ?_
                        rintro e w5 ⟨rfl, h5⟩
                        have S6 := Lib.hid (S5.out.next h5).tail
                        clear h5 HC g0 g1 g2
  
                        have m0 := (cell_block (S6.out.blk_at 1 (g := w.heap.size) (o := .cells #[.int .i64 0, .int .i64 0, .int .i64 0, .int .i64 0, .slice none 0 0, .slice none 0 0] 39) rfl) 0).trans rfl
                        have f0 := frozen_block (S6.out.blk_at 1 (g := w.heap.size) (o := .cells #[.int .i64 0, .int .i64 0, .int .i64 0, .int .i64 0, .slice none 0 0, .slice none 0 0] 39) rfl) 0
                        have m1 := (cell_block (S6.out.blk_at 1 (g := w.heap.size) (o := .cells #[.int .i64 0, .int .i64 0, .int .i64 0, .int .i64 0, .slice none 0 0, .slice none 0 0] 39) rfl) 1).trans rfl
                        have f1 := frozen_block (S6.out.blk_at 1 (g := w.heap.size) (o := .cells #[.int .i64 0, .int .i64 0, .int .i64 0, .int .i64 0, .slice none 0 0, .slice none 0 0] 39) rfl) 1
                        have m2 := (cell_block (S6.out.blk_at 1 (g := w.heap.size) (o := .cells #[.int .i64 0, .int .i64 0, .int .i64 0, .int .i64 0, .slice none 0 0, .slice none 0 0] 39) rfl) 2).trans rfl
                        have f2 := frozen_block (S6.out.blk_at 1 (g := w.heap.size) (o := .cells #[.int .i64 0, .int .i64 0, .int .i64 0, .int .i64 0, .slice none 0 0, .slice none 0 0] 39) rfl) 2
                        have m3 := (cell_block (S6.out.blk_at 1 (g := w.heap.size) (o := .cells #[.int .i64 0, .int .i64 0, .int .i64 0, .int .i64 0, .slice none 0 0, .slice none 0 0] 39) rfl) 3).trans rfl
                        have f3 := frozen_block (S6.out.blk_at 1 (g := w.heap.size) (o := .cells #[.int .i64 0, .int .i64 0, .int .i64 0, .int .i64 0, .slice none 0 0, .slice none 0 0] 39) rfl) 3
                        have m4 := (cell_block (S6.out.blk_at 1 (g := w.heap.size) (o := .cells #[.int .i64 0, .int .i64 0, .int .i64 0, .int .i64 0, .slice none 0 0, .slice none 0 0] 39) rfl) 4).trans rfl
                        have f4 := frozen_block (S6.out.blk_at 1 (g := w.heap.size) (o := .cells #[.int .i64 0, .int .i64 0, .int .i64 0, .int .i64 0, .slice none 0 0, .slice none 0 0] 39) rfl) 4
                        have m5 := (cell_block (S6.out.blk_at 1 (g := w.heap.size) (o := .cells #[.int .i64 0, .int .i64 0, .int .i64 0, .int .i64 0, .slice none 0 0, .slice none 0 0] 39) rfl) 5).trans rfl
                        have f5 := frozen_block (S6.out.blk_at 1 (g := w.heap.size) (o := .cells #[.int .i64 0, .int .i64 0, .int .i64 0, .int .i64 0, .slice none 0 0, .slice none 0 0] 39) rfl) 5
                        have T1 := (((((S6.out.set 1 rfl 0 (.int .i64 0)).set 1 rfl 1 (.int .i64 0)).set 1 rfl 2 (.int .i64 0)).set 1 rfl 3 (.int .i64 0)).set 1 rfl 4 (.slice none 0 0)).set 1 rfl 5 (.slice none 0 0)
                        obtain ⟨wz, hwz⟩ : ∃ wz : World, wz = ((((((w5.setCell ⟨w.heap.size, 0, none⟩ (.int .i64 0)).setCell ⟨w.heap.size, 1, none⟩ (.int .i64 0)).setCell ⟨w.heap.size, 2, none⟩ (.int .i64 0)).setCell ⟨w.heap.size, 3, none⟩ (.int .i64 0)).setCell ⟨w.heap.size, 4, none⟩ (.slice none 0 0)).setCell ⟨w.heap.size, 5, none⟩ (.slice none 0 0)) := ⟨_, rfl⟩
                        rw [← hwz] at T1
                        have TB := Lib.hid (T1.blk_at 1 (g := w.heap.size) (o := .cells #[.int .i64 0, .int .i64 0, .int .i64 0, .int .i64 0, .slice none 0 0, .slice none 0 0] 39) rfl)
                        have TO := Lib.hid T1.old
                        have HWZ := Lib.hid hwz
                        clear T1 hwz
                        go_wp2
                        rw [← HWZ.out]
                        have z0 := (cell_block TB.out 0).trans rfl
                        have z1 := (cell_block TB.out 1).trans rfl
                        have z2 := (cell_block TB.out 2).trans rfl
                        have z3 := (cell_block TB.out 3).trans rfl
                        have z4 := (cell_block TB.out 4).trans rfl
                        have z5 := (cell_block TB.out 5).trans rfl
                        refine bodyPost_ret (v := .tuple #[.agg #[.int .i64 0, .int .i64 0, .int .i64 0, .int .i64 0, .slice none 0 0, .slice none 0 0], .int .i64 (readSE b)]) (by simp [results, Tryd.results12, go_sem, z0, z1, z2, z3, z4, z5, HF.out]) rfl ?_
                        have hne : readSE b ≠ 0 := by rw [HF.out]; first | decide | exact HNE.out
                        refine ⟨⟨0, 0, 0, 0, none, 0, 0, none, 0, 0⟩, rfl, ?_⟩
                        rw [show readS b = zeroS by unfold readS; rw [if_neg hne]]
                        exact saysS_zero TO.out
                      | true =>
                        rw [hrx] at HC
                        have HA2 : Hid (∀ x ∈ readX (j + 1) (b.drop at_), rightI x = true) := fun x hx => by
                          rw [HSN.out] at hx
                          rcases List.mem_append.1 hx with hx | hx
                          · exact HA.out x hx
                          · rw [List.mem_singleton] at hx; rw [hx]; exact hrx
                        clear hrx
                        go_wp2_with fail
                        refine HC.out.mono ?_
                        rintro e w5 ⟨rfl, h5⟩
                        have S60 := Lib.hid (S5.out.next h5)
                        have S6 := Lib.hid S60.out.tail
                        have k5 : w5.cell? ⟨w.heap.size + 1, 5, none⟩ = some (.slice Ax j cx) := (cell_block (S6.out.blk_at 0 rfl) 5).trans rfl
                        have hbx := S60.out.blk_at 0 (g := gx) (o := .cells #[.int .i64 y0, .int .i64 y1, .int .i64 z] 47) rfl
                        have k6 : w5.cell? ⟨gx, 0, none⟩ = some (.int .i64 y0) := (cell_block hbx 0).trans rfl
                        have k7 : w5.cell? ⟨gx, 1, none⟩ = some (.int .i64 y1) := (cell_block hbx 1).trans rfl
                        have k8 : w5.cell? ⟨gx, 2, none⟩ = some (.int .i64 z) := (cell_block hbx 2).trans rfl
                        clear h5 HC S5 hbx S60 g0 g1 g2
                        rcases (by omega : 200 ≤ j ∨ j < 200) with hj | hj
                        · have HF : Hid (readSE b = 7) := se_item HHD.out HMB.out HTE.out (by rw [HRL.out]; exact HR10.out) HJL.out (.inr hj)
                          have dj : decide ((j : Int) ≥ 200) = true := decide_eq_true (by omega)
                          have dj2 : decide (200 ≤ j) = true := decide_eq_true hj
                          clear hj k6 k7 k8
  
                          have m0 := (cell_block (S6.out.blk_at 1 (g := w.heap.size) (o := .cells #[.int .i64 0, .int .i64 0, .int .i64 0, .int .i64 0, .slice none 0 0, .slice none 0 0] 39) rfl) 0).trans rfl
                          have f0 := frozen_block (S6.out.blk_at 1 (g := w.heap.size) (o := .cells #[.int .i64 0, .int .i64 0, .int .i64 0, .int .i64 0, .slice none 0 0, .slice none 0 0] 39) rfl) 0
                          have m1 := (cell_block (S6.out.blk_at 1 (g := w.heap.size) (o := .cells #[.int .i64 0, .int .i64 0, .int .i64 0, .int .i64 0, .slice none 0 0, .slice none 0 0] 39) rfl) 1).trans rfl
                          have f1 := frozen_block (S6.out.blk_at 1 (g := w.heap.size) (o := .cells #[.int .i64 0, .int .i64 0, .int .i64 0, .int .i64 0, .slice none 0 0, .slice none 0 0] 39) rfl) 1
                          have m2 := (cell_block (S6.out.blk_at 1 (g := w.heap.size) (o := .cells #[.int .i64 0, .int .i64 0, .int .i64 0, .int .i64 0, .slice none 0 0, .slice none 0 0] 39) rfl) 2).trans rfl
                          have f2 := frozen_block (S6.out.blk_at 1 (g := w.heap.size) (o := .cells #[.int .i64 0, .int .i64 0, .int .i64 0, .int .i64 0, .slice none 0 0, .slice none 0 0] 39) rfl) 2
                          have m3 := (cell_block (S6.out.blk_at 1 (g := w.heap.size) (o := .cells #[.int .i64 0, .int .i64 0, .int .i64 0, .int .i64 0, .slice none 0 0, .slice none 0 0] 39) rfl) 3).trans rfl
                          have f3 := frozen_block (S6.out.blk_at 1 (g := w.heap.size) (o := .cells #[.int .i64 0, .int .i64 0, .int .i64 0, .int .i64 0, .slice none 0 0, .slice none 0 0] 39) rfl) 3
                          have m4 := (cell_block (S6.out.blk_at 1 (g := w.heap.size) (o := .cells #[.int .i64 0, .int .i64 0, .int .i64 0, .int .i64 0, .slice none 0 0, .slice none 0 0] 39) rfl) 4).trans rfl
                          have f4 := frozen_block (S6.out.blk_at 1 (g := w.heap.size) (o := .cells #[.int .i64 0, .int .i64 0, .int .i64 0, .int .i64 0, .slice none 0 0, .slice none 0 0] 39) rfl) 4
                          have m5 := (cell_block (S6.out.blk_at 1 (g := w.heap.size) (o := .cells #[.int .i64 0, .int .i64 0, .int .i64 0, .int .i64 0, .slice none 0 0, .slice none 0 0] 39) rfl) 5).trans rfl
                          have f5 := frozen_block (S6.out.blk_at 1 (g := w.heap.size) (o := .cells #[.int .i64 0, .int .i64 0, .int .i64 0, .int .i64 0, .slice none 0 0, .slice none 0 0] 39) rfl) 5
                          have T1 := (((((S6.out.set 1 rfl 0 (.int .i64 0)).set 1 rfl 1 (.int .i64 0)).set 1 rfl 2 (.int .i64 0)).set 1 rfl 3 (.int .i64 0)).set 1 rfl 4 (.slice none 0 0)).set 1 rfl 5 (.slice none 0 0)
                          obtain ⟨wz, hwz⟩ : ∃ wz : World, wz = ((((((w5.setCell ⟨w.heap.size, 0, none⟩ (.int .i64 0)).setCell ⟨w.heap.size, 1, none⟩ (.int .i64 0)).setCell ⟨w.heap.size, 2, none⟩ (.int .i64 0)).setCell ⟨w.heap.size, 3, none⟩ (.int .i64 0)).setCell ⟨w.heap.size, 4, none⟩ (.slice none 0 0)).setCell ⟨w.heap.size, 5, none⟩ (.slice none 0 0)) := ⟨_, rfl⟩
                          rw [← hwz] at T1
                          have TB := Lib.hid (T1.blk_at 1 (g := w.heap.size) (o := .cells #[.int .i64 0, .int .i64 0, .int .i64 0, .int .i64 0, .slice none 0 0, .slice none 0 0] 39) rfl)
                          have TO := Lib.hid T1.old
                          have HWZ := Lib.hid hwz
                          clear T1 hwz
                          go_wp2
                          rw [← HWZ.out]
                          have z0 := (cell_block TB.out 0).trans rfl
                          have z1 := (cell_block TB.out 1).trans rfl
                          have z2 := (cell_block TB.out 2).trans rfl
                          have z3 := (cell_block TB.out 3).trans rfl
                          have z4 := (cell_block TB.out 4).trans rfl
                          have z5 := (cell_block TB.out 5).trans rfl
                          refine bodyPost_ret (v := .tuple #[.agg #[.int .i64 0, .int .i64 0, .int .i64 0, .int .i64 0, .slice none 0 0, .slice none 0 0], .int .i64 (readSE b)]) (by simp [results, Tryd.results12, go_sem, z0, z1, z2, z3, z4, z5, HF.out]) rfl ?_
                          have hne : readSE b ≠ 0 := by rw [HF.out]; first | decide | exact HNE.out
                          refine ⟨⟨0, 0, 0, 0, none, 0, 0, none, 0, 0⟩, rfl, ?_⟩
                          rw [show readS b = zeroS by unfold readS; rw [if_neg hne]]
                          exact saysS_zero TO.out
                        · have dj : decide ((j : Int) ≥ 200) = false := decide_eq_false (by omega)
                          have dj2 : decide (200 ≤ j) = false := decide_eq_false (by omega)
                          have S7 : Hid (Sep (fun _ => False) w (w5.alloc (.cells #[.int .i64 y0, .int .i64 y1, .int .i64 z] 47)) [told itE (.slice (some ⟨w5.heap.size, 0, none⟩) 1 1) [⟨y0, y1, z⟩], blk (w.heap.size + 1) (.cells #[.int .i64 n0, .int .i64 n1, .int .i64 n2, .int .i64 n3, .slice Ap qs.length cp, .slice Ax j cx] 39), blk w.heap.size (.cells #[.int .i64 0, .int .i64 0, .int .i64 0, .int .i64 0, .slice none 0 0, .slice none 0 0] 39), grow plE 64 (.slice Ap qs.length cp) qs, readsP inE qs, grow itE 47 (.slice Ax j cx) (readX j (b.drop at_))]) := S6.out.lit_told (E := itE) 47 [(⟨y0, y1, z⟩ : It)] (cs := #[.int .i64 y0, .int .i64 y1, .int .i64 z]) rfl (by simp) rfl
                          clear S6
                          go_wp2_with (at_builtin; refine wpList_appS rfl _ _ r17X rfl rfl rfl S7.out 5 rfl (S7.out.rdL 0 rfl) (by rw [readX_len]; simp; omega) ?_)
                          intro A8 c8 w8 l8 HL8 h8
                          have S8 : Hid (Sep (fun _ => False) w w8 [blk (w.heap.size + 1) (.cells #[.int .i64 n0, .int .i64 n1, .int .i64 n2, .int .i64 n3, .slice Ap qs.length cp, .slice Ax j cx] 39), blk w.heap.size (.cells #[.int .i64 0, .int .i64 0, .int .i64 0, .int .i64 0, .slice none 0 0, .slice none 0 0] 39), grow plE 64 (.slice Ap qs.length cp) qs, readsP inE qs, grow itE 47 (.slice A8 l8.length c8) l8]) := Sep.tail h8
                          have HL9 : Hid (l8 = readX (j + 1) (b.drop at_) ∧ l8.length = j + 1) := by
                            have e : l8 = readX (j + 1) (b.drop at_) := by rw [HL8.out, HSN.out]
                            exact ⟨e, by rw [e, readX_len]⟩
                          rw [HL9.out.2] at S8 ⊢
                          rw [HL9.out.1] at S8
                          have y5 : w8.cell? ⟨w.heap.size + 1, 5, none⟩ = some (.slice Ax j cx) := (cell_block (S8.out.blk_at 0 rfl) 5).trans rfl
                          have yf := frozen_block (S8.out.blk_at 0 rfl) 5
                          have S9 : Hid (Sep (fun _ => False) w (w8.setCell ⟨w.heap.size + 1, 5, none⟩ (.slice A8 (j + 1) c8)) [blk (w.heap.size + 1) (.cells #[.int .i64 n0, .int .i64 n1, .int .i64 n2, .int .i64 n3, .slice Ap qs.length cp, .slice A8 (j + 1) c8] 39), blk w.heap.size (.cells #[.int .i64 0, .int .i64 0, .int .i64 0, .int .i64 0, .slice none 0 0, .slice none 0 0] 39), grow plE 64 (.slice Ap qs.length cp) qs, readsP inE qs, grow itE 47 (.slice A8 (j + 1) c8) (readX (j + 1) (b.drop at_))]) := S8.out.set 0 rfl 5 (.slice A8 (j + 1) c8)
                          have HJ2 : Hid (pc = at_ + 10 * (j + 1) ∧ j + 1 ≤ 200) := ⟨HPC.out.1, hj⟩
                          clear h8 S7 HL8 S8 k5 k6 k7 k8
                          go_wp2
                          go_roundw
                          case rel => exact ⟨j + 1, pc, A8, c8, rfl, HPC.out.2.1, HJ2, HA2, S9⟩
                          case measure => have := HPC.out; simp [intOf]; omega
                  · have dp : decide ((p : Int) < (n : Int)) = false := decide_eq_false (by omega)
                    have dp2 : decide (p < n) = false := decide_eq_false (by omega)
                    have hjr : (b.drop at_).length / 10 = j := by rw [HRL.out]; have := HJ.out.1; have := HRN.out; omega
                    have HOK : Hid (readSE b = 0 ∧ readS b = ⟨[n0, n1, n2, n3], qs.map Pl.l, readX j (b.drop at_)⟩) := by
                      have h5 := se_ok HHD.out HMB.out HTE.out (by rw [HRL.out]; exact HR10.out) (by rw [hjr]; exact HA.out) (by rw [hjr]; exact HJ.out.2)
                      rw [hjr, HRO.out] at h5
                      exact h5
                    have k0 := (cell_block (HS3.out.blk_at 0 (g := w.heap.size + 1) (o := (.cells #[.int .i64 n0, .int .i64 n1, .int .i64 n2, .int .i64 n3, .slice Ap qs.length cp, .slice Ax j cx] 39)) rfl) 0).trans rfl
                    have k1 := (cell_block (HS3.out.blk_at 0 (g := w.heap.size + 1) (o := (.cells #[.int .i64 n0, .int .i64 n1, .int .i64 n2, .int .i64 n3, .slice Ap qs.length cp, .slice Ax j cx] 39)) rfl) 1).trans rfl
                    have k2 := (cell_block (HS3.out.blk_at 0 (g := w.heap.size + 1) (o := (.cells #[.int .i64 n0, .int .i64 n1, .int .i64 n2, .int .i64 n3, .slice Ap qs.length cp, .slice Ax j cx] 39)) rfl) 2).trans rfl
                    have k3 := (cell_block (HS3.out.blk_at 0 (g := w.heap.size + 1) (o := (.cells #[.int .i64 n0, .int .i64 n1, .int .i64 n2, .int .i64 n3, .slice Ap qs.length cp, .slice Ax j cx] 39)) rfl) 3).trans rfl
                    have k4 := (cell_block (HS3.out.blk_at 0 (g := w.heap.size + 1) (o := (.cells #[.int .i64 n0, .int .i64 n1, .int .i64 n2, .int .i64 n3, .slice Ap qs.length cp, .slice Ax j cx] 39)) rfl) 4).trans rfl
                    have k5 := (cell_block (HS3.out.blk_at 0 (g := w.heap.size + 1) (o := (.cells #[.int .i64 n0, .int .i64 n1, .int .i64 n2, .int .i64 n3, .slice Ap qs.length cp, .slice Ax j cx] 39)) rfl) 5).trans rfl
                    have m0 := (cell_block (HS3.out.blk_at 1 (g := w.heap.size) (o := .cells #[.int .i64 0, .int .i64 0, .int .i64 0, .int .i64 0, .slice none 0 0, .slice none 0 0] 39) rfl) 0).trans rfl
                    have f0 := frozen_block (HS3.out.blk_at 1 (g := w.heap.size) (o := .cells #[.int .i64 0, .int .i64 0, .int .i64 0, .int .i64 0, .slice none 0 0, .slice none 0 0] 39) rfl) 0
                    have m1 := (cell_block (HS3.out.blk_at 1 (g := w.heap.size) (o := .cells #[.int .i64 0, .int .i64 0, .int .i64 0, .int .i64 0, .slice none 0 0, .slice none 0 0] 39) rfl) 1).trans rfl
                    have f1 := frozen_block (HS3.out.blk_at 1 (g := w.heap.size) (o := .cells #[.int .i64 0, .int .i64 0, .int .i64 0, .int .i64 0, .slice none 0 0, .slice none 0 0] 39) rfl) 1
                    have m2 := (cell_block (HS3.out.blk_at 1 (g := w.heap.size) (o := .cells #[.int .i64 0, .int .i64 0, .int .i64 0, .int .i64 0, .slice none 0 0, .slice none 0 0] 39) rfl) 2).trans rfl
                    have f2 := frozen_block (HS3.out.blk_at 1 (g := w.heap.size) (o := .cells #[.int .i64 0, .int .i64 0, .int .i64 0, .int .i64 0, .slice none 0 0, .slice none 0 0] 39) rfl) 2
                    have m3 := (cell_block (HS3.out.blk_at 1 (g := w.heap.size) (o := .cells #[.int .i64 0, .int .i64 0, .int .i64 0, .int .i64 0, .slice none 0 0, .slice none 0 0] 39) rfl) 3).trans rfl
                    have f3 := frozen_block (HS3.out.blk_at 1 (g := w.heap.size) (o := .cells #[.int .i64 0, .int .i64 0, .int .i64 0, .int .i64 0, .slice none 0 0, .slice none 0 0] 39) rfl) 3
                    have m4 := (cell_block (HS3.out.blk_at 1 (g := w.heap.size) (o := .cells #[.int .i64 0, .int .i64 0, .int .i64 0, .int .i64 0, .slice none 0 0, .slice none 0 0] 39) rfl) 4).trans rfl
                    have f4 := frozen_block (HS3.out.blk_at 1 (g := w.heap.size) (o := .cells #[.int .i64 0, .int .i64 0, .int .i64 0, .int .i64 0, .slice none 0 0, .slice none 0 0] 39) rfl) 4
                    have m5 := (cell_block (HS3.out.blk_at 1 (g := w.heap.size) (o := .cells #[.int .i64 0, .int .i64 0, .int .i64 0, .int .i64 0, .slice none 0 0, .slice none 0 0] 39) rfl) 5).trans rfl
                    have f5 := frozen_block (HS3.out.blk_at 1 (g := w.heap.size) (o := .cells #[.int .i64 0, .int .i64 0, .int .i64 0, .int .i64 0, .slice none 0 0, .slice none 0 0] 39) rfl) 5
                    have T1 := (((((HS3.out.set 1 rfl 0 (.int .i64 n0)).set 1 rfl 1 (.int .i64 n1)).set 1 rfl 2 (.int .i64 n2)).set 1 rfl 3 (.int .i64 n3)).set 1 rfl 4 (.slice Ap qs.length cp)).set 1 rfl 5 (.slice Ax j cx)
                    obtain ⟨wz, hwz⟩ : ∃ wz : World, wz = ((((((wr.setCell ⟨w.heap.size, 0, none⟩ (.int .i64 n0)).setCell ⟨w.heap.size, 1, none⟩ (.int .i64 n1)).setCell ⟨w.heap.size, 2, none⟩ (.int .i64 n2)).setCell ⟨w.heap.size, 3, none⟩ (.int .i64 n3)).setCell ⟨w.heap.size, 4, none⟩ (.slice Ap qs.length cp)).setCell ⟨w.heap.size, 5, none⟩ (.slice Ax j cx)) := ⟨_, rfl⟩
                    rw [← hwz] at T1
                    have TS : Hid (Sep (fun _ => False) w wz [blk (w.heap.size + 1) (.cells #[.int .i64 n0, .int .i64 n1, .int .i64 n2, .int .i64 n3, .slice Ap qs.length cp, .slice Ax j cx] 39), blk w.heap.size (.cells #[.int .i64 n0, .int .i64 n1, .int .i64 n2, .int .i64 n3, .slice Ap qs.length cp, .slice Ax j cx] 39), grow plE 64 (.slice Ap qs.length cp) qs, readsP inE qs, grow itE 47 (.slice Ax j cx) (readX j (b.drop at_))]) := T1
                    have HWZ := Lib.hid hwz
                    clear T1 hwz h4 hjr
                    go_wp2
                    rw [← HWZ.out]
                    have z0 := (cell_block (TS.out.blk_at 1 (g := w.heap.size) (o := (.cells #[.int .i64 n0, .int .i64 n1, .int .i64 n2, .int .i64 n3, .slice Ap qs.length cp, .slice Ax j cx] 39)) rfl) 0).trans rfl
                    have z1 := (cell_block (TS.out.blk_at 1 (g := w.heap.size) (o := (.cells #[.int .i64 n0, .int .i64 n1, .int .i64 n2, .int .i64 n3, .slice Ap qs.length cp, .slice Ax j cx] 39)) rfl) 1).trans rfl
                    have z2 := (cell_block (TS.out.blk_at 1 (g := w.heap.size) (o := (.cells #[.int .i64 n0, .int .i64 n1, .int .i64 n2, .int .i64 n3, .slice Ap qs.length cp, .slice Ax j cx] 39)) rfl) 2).trans rfl
                    have z3 := (cell_block (TS.out.blk_at 1 (g := w.heap.size) (o := (.cells #[.int .i64 n0, .int .i64 n1, .int .i64 n2, .int .i64 n3, .slice Ap qs.length cp, .slice Ax j cx] 39)) rfl) 3).trans rfl
                    have z4 := (cell_block (TS.out.blk_at 1 (g := w.heap.size) (o := (.cells #[.int .i64 n0, .int .i64 n1, .int .i64 n2, .int .i64 n3, .slice Ap qs.length cp, .slice Ax j cx] 39)) rfl) 4).trans rfl
                    have z5 := (cell_block (TS.out.blk_at 1 (g := w.heap.size) (o := (.cells #[.int .i64 n0, .int .i64 n1, .int .i64 n2, .int .i64 n3, .slice Ap qs.length cp, .slice Ax j cx] 39)) rfl) 5).trans rfl
                    refine bodyPost_ret (v := .tuple #[.agg #[.int .i64 n0, .int .i64 n1, .int .i64 n2, .int .i64 n3, .slice Ap qs.length cp, .slice Ax j cx], .int .i64 (readSE b)]) (by simp [results, Tryd.results12, go_sem, z0, z1, z2, z3, z4, z5, HOK.out.1]) rfl ?_
                    refine ⟨⟨n0, n1, n2, n3, Ap, qs.length, cp, Ax, j, cx⟩, rfl, ?_⟩
                    rw [HOK.out.2]
                    have hfp : qs.length ≤ cp := fits_ownL (TS.out.own 2 rfl) _ _ _ rfl
                    have hfx : j ≤ cx := fits_ownL (TS.out.own 4 rfl) _ _ _ rfl
                    have t1 : Sep (fun _ => False) w wz [toldN inE (.slice Ap qs.length cp) (qs.map Pl.l), grow itE 47 (.slice Ax j cx) (readX j (b.drop at_))] := growN_told (TS.out.tail.tail) (by have := HQL.out; omega)
                    have t2 : Sep (fun _ => False) w wz [told itE (.slice Ax j cx) (readX j (b.drop at_)), toldN inE (.slice Ap qs.length cp) (qs.map Pl.l)] := grow_told t1.swap (by rw [readX_len]; have := HJ.out.2; omega)
                    exact saysS_of (scr_of (q := ⟨n0, n1, n2, n3, Ap, qs.length, cp, Ax, j, cx⟩) (s := ⟨[n0, n1, n2, n3], qs.map Pl.l, readX j (b.drop at_)⟩) t2.swap rfl hfp hfx)
end Go.Proofs.YtolooaahaofflaaDoor.RefScr
