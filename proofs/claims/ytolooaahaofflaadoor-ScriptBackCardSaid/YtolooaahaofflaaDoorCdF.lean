/-
  What package code does as it landed, sixth part: instructions, Read (a three-index slice). Condition: the table lies as it was written; what the slices read as.
-/
import Derived.Test.YtolooaahaofflaaDoorCdE
import Derived.Test.YtolooaahaofflaaDoorCut
import Derived.StillTailTactics
namespace Go.Proofs.YtolooaahaofflaaDoor.CdA
open Go.ChangeShapes Go.WideShapes Go.ChangeAt Go.RowKit Mem MutP CodeP Hand RefCode CodeT CodeI

theorem byUnder : Tryd.prog.underlying 29 = some (.slice (Tryd.prog.elem 29)) := by kernel_rfl
theorem bySize : ∀ w, (sizeOf (Tryd.prog.elem 29)).run Tryd.prog w = .ok 1 w := fun w => by kernel_rfl
def noI : In := ⟨0, 0, 0, 0⟩

set_option maxRecDepth 100000 in
set_option maxHeartbeats 1000000 in
theorem instr_l {w : World} {b : List Int} {g off c k n : Nat} (hk : k ≤ 24) (hn : 11 * k = n) (hl : b.length = n) (hnc : n ≤ c) (hb : ∀ x ∈ b, Byte x) (hg : g < w.heap.size)
    (hc : ∀ (i : Nat) (x : Int), b[i]? = some x → w.cell? ⟨g, off + i, none⟩ = some (.int .u8 x)) :
    Calls Tryd.prog 58 #[.slice (some ⟨g, off, none⟩) n c] w fun e w' => e = .returned (.slice (some ⟨w.heap.size, 0, none⟩) k k) ∧ Sep (fun _ => False) w w' [grow inE 56 (.slice (some ⟨w.heap.size, 0, none⟩) k k) (readL k b)] := by
  have HB := Lib.hid hb
  have HC : Hid (∀ V : World, Below w.heap.size w V → ∀ (i : Nat) (x : Int), b[i]? = some x → V.cell? ⟨g, off + i, none⟩ = some (.int .u8 x)) := fun V hV i x hx => (hV.cell hg).trans (hc i x hx)
  have HL := Lib.hid hl
  have HN := Lib.hid hn
  have hq : (n : Int).tdiv 11 = (k : Int) := by rw [Int.tdiv_eq_ediv_of_nonneg (by omega)]; omega
  have S0 := Lib.hid (Sep.nil (fun _ => False) w)
  clear hb hc hl hg hn
  go_enter Tryd.func58, Tryd.ntmps58
  go_wp2_with (refine wpList_makeE inE noI (z := .agg #[.int .i64 0, .int .i64 0, .int .i64 0, .int .i64 0]) (by_ := 32) rfl _ _ Tryd.underlying57 (by kernel_rfl) rfl (by decide) rfl k rfl rfl (by omega) (by decide) S0.out ?_; intro w1 h1)
  have S1 := Lib.hid h1
  clear h1 S0
  obtain ⟨G, hG⟩ : ∃ G, w.heap.size = G := ⟨_, rfl⟩
  have HG := Lib.hid hG
  rw [hG] at S1 ⊢
  clear hq hG
  go_wp2
  go_loopw [12] (fun v wr => ∃ i : Nat, i ≤ k ∧ v = .int .i64 (i : Int) ∧ Hid (Sep (fun _ => False) w wr [grow inE 56 (.slice (some ⟨G, 0, none⟩) k k) (readL i b ++ List.replicate (k - i) noI)])) (fun v _ => k - (intOf v).toNat)
  case atStart => exact ⟨0, Nat.zero_le _, rfl, S1.out⟩
  case round =>
    obtain ⟨i, hi, rfl, HS⟩ := hrel
    rcases (by omega : i = k ∨ i < k) with h8 | h8
    · subst h8
      have HF : Hid (readL i b ++ List.replicate (i - i) noI = readL i b) := by show _ = _; simp
      rw [HF.out] at HS
      have d0 : decide ((i : Int) < (i : Int)) = false := decide_eq_false (by omega)
      go_wp2
      go_ret
      exact ⟨by rw [HG.out]; rfl, by rw [HG.out]; exact HS.out⟩
    · obtain ⟨t, ht⟩ : ∃ t : Nat, 11 * i = t := ⟨_, rfl⟩
      have htn : t + 11 ≤ n := by have := HN.out; omega
      obtain ⟨y0, hy0⟩ : ∃ y, b[t]? = some y := ⟨_, List.getElem?_eq_getElem (by rw [HL.out]; omega)⟩
      obtain ⟨y1, hy1⟩ : ∃ y, b[t + 1]? = some y := ⟨_, List.getElem?_eq_getElem (by rw [HL.out]; omega)⟩
      obtain ⟨y2, hy2⟩ : ∃ y, b[t + 2]? = some y := ⟨_, List.getElem?_eq_getElem (by rw [HL.out]; omega)⟩
      obtain ⟨z, hz⟩ : ∃ z, numI (b.drop (t + 3)) = z := ⟨_, rfl⟩
      have HONE : Hid (readL (i + 1) b = readL i b ++ [⟨y0, y1, y2, z⟩]) := by show _ = _; rw [readL_snoc, ht, one_at hy0 hy1 hy2, hz]
      have b0 : 0 ≤ y0 ∧ y0 ≤ 255 := HB.out y0 (List.mem_of_getElem? hy0)
      have b1 : 0 ≤ y1 ∧ y1 ≤ 255 := HB.out y1 (List.mem_of_getElem? hy1)
      have b2 : 0 ≤ y2 ∧ y2 ≤ 255 := HB.out y2 (List.mem_of_getElem? hy2)
      have v0 : IntKind.i64.wrap y0 = y0 := IntWalk.i64_in _ (by omega)
      have v1 : IntKind.i64.wrap y1 = y1 := IntWalk.i64_in _ (by omega)
      have v2 : IntKind.i64.wrap y2 = y2 := IntWalk.i64_in _ (by omega)
      have u0 : IntKind.i64.wrap ((i : Int) * 11) = (t : Int) := by rw [IntWalk.i64_in _ (by omega)]; omega
      obtain ⟨o1, ho1⟩ : ∃ o1, off + t = o1 := ⟨_, rfl⟩
      obtain ⟨r, hr⟩ : ∃ r, n - t = r := ⟨_, rfl⟩
      obtain ⟨c1, hc1⟩ : ∃ c1, c - t = c1 := ⟨_, rfl⟩
      obtain ⟨sl1, sl2⟩ := cut_from byUnder bySize g off n c t (by omega) (by omega) hnc
      rw [ho1, hr, hc1] at sl1 sl2
      obtain ⟨sl3, sl4⟩ : Cuts Tryd.prog 29 (.slice (some ⟨g, o1, none⟩) r c1) (some (.int .i64 3)) (some (.int .i64 11)) none (.slice (some ⟨g, o1 + 3, none⟩) 8 (c1 - 3)) := cut_part byUnder bySize g o1 r c1 3 11 (by omega) (by omega) (by omega)
      have HNUM : Hid (∀ V : World, Below w.heap.size w V → Calls Tryd.prog 64 #[.slice (some ⟨g, o1 + 3, none⟩) 8 (c1 - 3)] V fun e w' => e = .returned (.int .i64 z) ∧ V = w') := fun V hV => by
        have h1 := number_l (w := V) (A := g) (off := o1 + 3) (c := c1 - 3) (b := (b.drop (t + 3)).take 8) (by rw [List.length_take, List.length_drop, HL.out]; omega) (fun x hx => HB.out x (List.mem_of_mem_drop (List.mem_of_mem_take hx))) fun j y hy => by
          rw [List.getElem?_take] at hy
          split at hy
          · rw [List.getElem?_drop] at hy
            have := HC.out V hV _ _ hy
            rwa [← Nat.add_assoc, ← Nat.add_assoc, ho1] at this
          · cases hy
        have e1 : numI ((b.drop (t + 3)).take 8) = z := by rw [← hz]; unfold numI; rw [List.take_take]; rfl
        rw [e1] at h1
        exact h1
      have q0 : ∀ V : World, Below w.heap.size w V → V.cell? ⟨g, o1, none⟩ = some (.int .u8 y0) := fun V hV => by rw [← ho1]; exact HC.out V hV _ _ hy0
      have q1 : ∀ V : World, Below w.heap.size w V → V.cell? ⟨g, o1 + 1, none⟩ = some (.int .u8 y1) := fun V hV => by have := HC.out V hV _ _ hy1; rwa [← Nat.add_assoc, ho1] at this
      have q2 : ∀ V : World, Below w.heap.size w V → V.cell? ⟨g, o1 + 2, none⟩ = some (.int .u8 y2) := fun V hV => by have := HC.out V hV _ _ hy2; rwa [← Nat.add_assoc, ho1] at this
      have k0 := q0 _ HS.out.drew.old
      have k1 := q1 _ HS.out.drew.old
      have k2 := q2 _ HS.out.drew.old
      have HNW := Lib.hid (HNUM.out _ HS.out.drew.old)
      obtain ⟨hx⟩ : Nonempty ((readL i b ++ List.replicate (k - i) noI)[i]? = some noI) := ⟨by
        rw [List.getElem?_append_right (by rw [readL_len]; omega), readL_len, Nat.sub_self, List.getElem?_replicate, if_pos (by omega)]⟩
      have HX := Lib.hid hx
      obtain ⟨b', c', hv, hb', e0, e1⟩ := HS.out.drew.elem 0 rfl hx
      have eg : b' = G := by have := congrArg Value.ownBlock hv; simpa [Value.ownBlock] using this.symm
      subst eg
      have fz := e1 (i * 4)
      have fz1 := e1 (i * 4 + 1)
      have fz2 := e1 (i * 4 + 2)
      have fz3 := e1 (i * 4 + 3)
      have z0 : wr.drew.cell? ⟨b', i * 4, none⟩ = some (.int .i64 0) := e0 0 _ rfl
      have z1 : wr.drew.cell? ⟨b', i * 4 + 1, none⟩ = some (.int .i64 0) := e0 1 _ rfl
      have z2 : wr.drew.cell? ⟨b', i * 4 + 2, none⟩ = some (.int .i64 0) := e0 2 _ rfl
      have z3 : wr.drew.cell? ⟨b', i * 4 + 3, none⟩ = some (.int .i64 0) := e0 3 _ rfl
      have S2 := Lib.hid HS.out.drew
      have i0 : (0 : Int) ≤ (i : Int) := by omega
      have i1 : (i : Int) < (k : Int) := by omega
      have d0 : decide ((i : Int) < (k : Int)) = true := decide_eq_true i1
      have d1 : decide (i < k) = true := decide_eq_true h8
      have r0 : (0 : Int) < (r : Int) := by omega
      have r1 : (1 : Int) < (r : Int) := by omega
      have r2 : (2 : Int) < (r : Int) := by omega
      have n0 : 0 < r := by omega
      have n1 : 1 < r := by omega
      have n2 : 2 < r := by omega
      have HIK := Lib.hid h8
      clear ht htn hy0 hy1 hy2 hz ho1 hr hc1 q0 q1 q2 e0 e1 hv hx HNUM hb'
      go_wp2
      refine wp_region_still_tail 19 (by kernel_rfl) (by kernel_rfl) ?_
      simp only [List.take_succ_cons, List.take_zero, List.drop_succ_cons, List.drop_zero]
      change wpStill _ _ wr.drew (fun a' => wpList _ _ _ _ a' wr.drew) _ _
      generalize wr.drew = w2 at *
      repeat (first | still_step | still_call (HNW.out.mono fun _ _ ⟨he, hw⟩ => ⟨he, hw.symm⟩))
      refine wpStill_nil ?_
      have HSET : Hid (Sep (fun _ => False) w ((((w2.setCell ⟨b', i * 4, none⟩ (.int .i64 y0)).setCell ⟨b', i * 4 + 1, none⟩ (.int .i64 y1)).setCell ⟨b', i * 4 + 2, none⟩ (.int .i64 y2)).setCell ⟨b', i * 4 + 3, none⟩ (.int .i64 z)) [grow inE 56 (.slice (some ⟨b', 0, none⟩) k k) (readL (i + 1) b ++ List.replicate (k - (i + 1)) noI)]) := by
        have hX : readL i b ++ List.replicate (k - i) noI = readL i b ++ noI :: List.replicate (k - (i + 1)) noI := by
          rw [show k - i = (k - (i + 1)) + 1 by have := HIK.out; omega, List.replicate_succ]
        have at_ : ∀ y : In, (readL i b ++ y :: List.replicate (k - (i + 1)) noI)[i]? = some y := fun y => by
          rw [List.getElem?_append_right (by rw [readL_len]; omega), readL_len, Nat.sub_self]; rfl
        have put : ∀ y y' : In, (readL i b ++ y :: List.replicate (k - (i + 1)) noI).set i y' = readL i b ++ y' :: List.replicate (k - (i + 1)) noI := fun y y' => by
          rw [List.set_append_right _ _ (by rw [readL_len]; omega), readL_len, Nat.sub_self]; rfl
        have h0 := S2.out
        rw [hX] at h0
        have h1 := h0.setc 0 rfl (k := i) (x := noI) (x' := ⟨y0, 0, 0, 0⟩) (j := 0) (u := .int .i64 y0) (at_ _) (by decide) rfl
        rw [put] at h1
        have h2 := h1.setc 0 rfl (k := i) (x := ⟨y0, 0, 0, 0⟩) (x' := ⟨y0, y1, 0, 0⟩) (j := 1) (u := .int .i64 y1) (at_ _) (by decide) rfl
        rw [put] at h2
        have h3 := h2.setc 0 rfl (k := i) (x := ⟨y0, y1, 0, 0⟩) (x' := ⟨y0, y1, y2, 0⟩) (j := 2) (u := .int .i64 y2) (at_ _) (by decide) rfl
        rw [put] at h3
        have h4 := h3.setc 0 rfl (k := i) (x := ⟨y0, y1, y2, 0⟩) (x' := ⟨y0, y1, y2, z⟩) (j := 3) (u := .int .i64 z) (at_ _) (by decide) rfl
        rw [put] at h4
        have e5 : readL i b ++ (⟨y0, y1, y2, z⟩ : In) :: List.replicate (k - (i + 1)) noI = readL (i + 1) b ++ List.replicate (k - (i + 1)) noI := by rw [HONE.out, List.append_assoc]; rfl
        rw [e5] at h4
        exact h4
      clear sl1 sl2 sl3 sl4 k0 k1 k2 HNW HONE r0 r1 r2 n0 n1 n2 v0 v1 v2
      go_wp2
      go_roundw
      case rel => exact ⟨i + 1, by omega, by go_num, HSET⟩
      case measure => simp [intOf]; omega
end Go.Proofs.YtolooaahaofflaaDoor.CdA
