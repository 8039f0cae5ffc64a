/-
  What package script does as it landed, fourth part: numberOf, roomsOf. Condition: what the slice reads as.
-/
import Derived.Test.YtolooaahaofflaaDoorSdC
namespace Go.Proofs.YtolooaahaofflaaDoor.ScA
open Go.ChangeShapes Go.WideShapes Go.ChangeAt Go.RowKit Mem MutP CodeP ScriptP Hand RefCode CodeI Scr CodeT CdA
open RefScr (upTo)

theorem cut_to {P : Program} {t : TypeId} (ht : P.underlying t = some (.slice (P.elem t))) (hz : ∀ w, (sizeOf (P.elem t)).run P w = .ok 1 w) (g off n c h : Nat) (h1 : h ≤ c) (h2 : 0 < c) : Cuts P t (.slice (some ⟨g, off, none⟩) n c) none (some (.int .i64 h)) none (.slice (some ⟨g, off, none⟩) h c) := by
  have key : ∀ w, (Instr.slice t (.slice (some ⟨g, off, none⟩) n c) none (some (.int .i64 h)) none).run P w = .ok (.slice (some ⟨g, off, none⟩) h c) w := fun w => by
    rw [run_slice_h (ht := ht) (h0 := by omega) (h2 := by omega), hz]
    simp only [Result.andThen, sliced, Int.toNat_natCast]
    rw [if_neg (by omega)]
    simp [Addr.add]
  exact ⟨fun w => by rw [run_sliceAt_slice (h := ht)]; exact key w, key⟩
/-- What stands behind the first t bytes of a slice that isn't empty. -/
theorem cut_any {w : World} {G : Nat → Prop} {A : Option Addr} {n c : Nat} {l : List Int} (h : RdL byE w G (.slice A n c) l) (hc : n ≤ c) (hp : 0 < n) (t : Nat) (ht : t ≤ n) :
    ∃ A', Cuts Tryd.prog 29 (.slice A n c) (some (.int .i64 t)) none none (.slice A' (n - t) (c - t)) ∧ RdL byE w (fun _ => True) (.slice A' (n - t) (c - t)) (l.drop t) := by
  obtain rfl := len_of h
  obtain ⟨x, hx⟩ : ∃ x, l[0]? = some x := ⟨_, List.getElem?_eq_getElem hp⟩
  obtain ⟨g, off, rfl, _, _⟩ := by_at h hx
  rcases (by omega : t < l.length ∨ (t = l.length ∧ l.length < c) ∨ (t = l.length ∧ l.length = c)) with h1 | ⟨h1, h'⟩ | ⟨h1, h'⟩
  · refine ⟨_, cut_from byUnder bySize g off l.length c t ht (by omega) hc, ?_⟩
    have := rdL_behind h t ht
    rw [show off + t * byE.sz = off + t by show off + t * 1 = _; omega] at this
    exact anyL this
  · refine ⟨_, cut_from byUnder bySize g off l.length c t ht (by omega) hc, ?_⟩
    rw [show l.length - t = 0 by omega, List.drop_of_length_le (by omega)]
    exact RdL.nil _ _ _ _
  · refine ⟨some ⟨g, off, none⟩, ?_, ?_⟩
    · have key : ∀ w, (Instr.slice 29 (.slice (some ⟨g, off, none⟩) l.length c) (some (.int .i64 t)) none none).run Tryd.prog w = .ok (.slice (some ⟨g, off, none⟩) (l.length - t) (c - t)) w := fun w => by
        rw [run_slice_l (ht := byUnder) (h0 := by omega) (h1 := by omega), bySize]
        simp only [Result.andThen, sliced, Int.toNat_natCast]
        rw [if_pos (by omega), ← h']
      exact ⟨fun w => by rw [run_sliceAt_slice (h := byUnder)]; exact key w, key⟩
    · rw [show l.length - t = 0 by omega, List.drop_of_length_le (by omega)]
      exact RdL.nil _ _ _ _

set_option maxRecDepth 100000 in
set_option maxHeartbeats 1000000 in
theorem numberOf_k {w : World} {b : List Int} {A : Nat} {off n c : Nat} (hn : 8 ≤ n) (hnc : n ≤ c) (hl : b.length = 8) (hb : ∀ x ∈ b, Byte x)
    (hc : ∀ (i : Nat) (x : Int), b[i]? = some x → w.cell? ⟨A, off + i, none⟩ = some (.int .u8 x)) :
    Calls Tryd.prog 47 #[.slice (some ⟨A, off, none⟩) n c] w fun e w' => e = .returned (.int .i64 (numI b)) ∧ w = w' := by
  have HB := Lib.hid hb
  have HC := Lib.hid hc
  have HL := Lib.hid hl
  obtain ⟨sl1, sl2⟩ : Cuts Tryd.prog 29 (.slice (some ⟨A, off, none⟩) n c) none (some (.int .i64 8)) none (.slice (some ⟨A, off, none⟩) 8 c) := cut_to byUnder bySize A off n c 8 (by omega) (by omega)
  clear hb hc hl hn hnc
  go_enter Tryd.func47, Tryd.ntmps47
  go_wp2
  clear sl1 sl2
  go_loopw [3, 9] (fun u v wr => ∃ i : Nat, i ≤ 8 ∧ v = .int .i64 (i : Int) ∧ u = .int .i64 (IntKind.i64.wrap (numU (b.take i))) ∧ w = wr) (fun _ v _ => (8 - intOf v).toNat)
  case atStart => exact ⟨0, by omega, rfl, rfl, rfl⟩
  case round =>
    obtain ⟨i, hi, rfl, rfl, rfl⟩ := hrel
    rcases (by omega : i = 8 ∨ i < 8) with h8 | h8
    · have HE : Hid (IntKind.i64.wrap (numU (b.take i)) = numI b) := by
        obtain ⟨h1, h2⟩ := numU_in HB.out (i := i) (by omega) (by rw [HL.out]; omega)
        subst h8
        have e8 : (256 : Int) ^ 8 = 18446744073709551616 := by decide
        rw [e8] at h2
        show _ = _
        rw [IntKind.wrap_i64]
        unfold numI low64
        split <;> omega
      obtain ⟨u, hu⟩ : ∃ u, IntKind.i64.wrap (numU (b.take i)) = u := ⟨_, rfl⟩
      have HU := Lib.hid hu
      rw [hu]
      clear hu
      have d0 : decide ((i : Int) < 8) = false := decide_eq_false (by omega)
      go_wp2
      go_ret
      exact ⟨by rw [← HE.out, HU.out]; rfl, rfl⟩
    · obtain ⟨x, hx⟩ : ∃ x, b[i]? = some x := ⟨_, List.getElem?_eq_getElem (by rw [HL.out]; exact h8)⟩
      have hx0 : 0 ≤ x ∧ x ≤ 255 := HB.out x (List.mem_of_getElem? hx)
      have q := HC.out i x hx
      have HOR := Lib.hid (or_byte (numU (b.take i)) x hx0)
      rw [← numU_take hx] at HOR
      obtain ⟨u, hu⟩ : ∃ u, IntKind.i64.wrap (numU (b.take i)) = u := ⟨_, rfl⟩
      rw [hu] at HOR ⊢
      obtain ⟨p, hp⟩ : ∃ p, IntKind.i64.wrap (u * 256) = p := ⟨_, rfl⟩
      rw [hp] at HOR
      obtain ⟨r, hr⟩ : ∃ r, IntKind.i64.wrap (numU (b.take (i + 1))) = r := ⟨_, rfl⟩
      have HRR := Lib.hid hr
      rw [hr] at HOR
      have hor : bits .or .i64 p x = r := HOR.out
      have wx : IntKind.i64.wrap x = x := IntWalk.i64_in _ (by omega)
      have i0 : (0 : Int) ≤ (i : Int) := by omega
      have i8 : (i : Int) < 8 := by omega
      have d0 : decide ((i : Int) < 8) = true := decide_eq_true i8
      clear hx hu hr HOR
      go_wp2
      go_roundw
      case rel => exact ⟨i + 1, by omega, by go_num, by rw [HRR.out], by simp⟩
      case measure => simp [intOf]; omega


set_option maxRecDepth 100000 in
set_option maxHeartbeats 2000000 in
theorem roomsOf_k {w : World} {g off n c : Nat} {b : List Int} (hn : b.length = n) (h32 : 32 ≤ n) (hnc : n ≤ c) (hb : ∀ x ∈ b, Byte x) (hg : g < w.heap.size)
    (hcell : ∀ (j : Nat) (y : Int), b[j]? = some y → w.cell? ⟨g, off + j, none⟩ = some (.int .u8 y)) {n0 n1 n2 n3 : Int} (hro : roomsOf b = [n0, n1, n2, n3]) :
    Calls Tryd.prog 27 #[.slice (some ⟨g, off, none⟩) n c] w fun e w' => e = .returned (.agg #[.int .i64 n0, .int .i64 n1, .int .i64 n2, .int .i64 n3]) ∧ Below w.heap.size w w' := by
  have HNUM : Hid (∀ V : World, Below w.heap.size w V → ∀ t : Nat, t + 8 ≤ n → Calls Tryd.prog 47 #[.slice (some ⟨g, off + t, none⟩) (n - t) (c - t)] V fun e w' => e = .returned (.int .i64 (numI (b.drop t))) ∧ V = w') := fun V hV t ht => by
    have h1 := numberOf_k (w := V) (b := (b.drop t).take 8) (A := g) (off := off + t) (n := n - t) (c := c - t) (by omega) (by omega) (by rw [List.length_take, List.length_drop]; omega) (fun x hx => hb x (List.mem_of_mem_drop (List.mem_of_mem_take hx))) fun j y hy => by
      have hj : j < 8 := by
        have := (List.getElem?_eq_some_iff.1 hy).1
        rw [List.length_take] at this
        omega
      rw [List.getElem?_take_of_lt hj, List.getElem?_drop] at hy
      have := (hV.cell (p := ⟨g, off + (t + j), none⟩) hg).trans (hcell _ _ hy)
      rwa [← Nat.add_assoc] at this
    rw [show numI ((b.drop t).take 8) = numI (b.drop t) by unfold numI; rw [List.take_take, Nat.min_self]] at h1
    exact h1
  have HCUT : Hid (∀ t : Nat, t < n → Cuts Tryd.prog 29 (.slice (some ⟨g, off, none⟩) n c) (some (.int .i64 t)) none none (.slice (some ⟨g, off + t, none⟩) (n - t) (c - t))) := fun t ht => cut_from byUnder bySize g off n c t (by omega) (by omega) hnc
  have HRO := Lib.hid hro
  have HRX : Hid (∀ i : Nat, i < 4 → (roomsOf b)[i]? = some (numI (b.drop (8 * i)))) := fun i hi => by
    rcases (by omega : i = 0 ∨ i = 1 ∨ i = 2 ∨ i = 3) with rfl | rfl | rfl | rfl <;> rfl
  have S0 : Hid (Sep (fun _ => False) w ((w.alloc (.cells #[.int .i64 0, .int .i64 0, .int .i64 0, .int .i64 0] 24)).alloc (.cells #[.int .i64 0, .int .i64 0, .int .i64 0, .int .i64 0] 24)) [blk (w.heap.size + 1) (.cells #[.int .i64 0, .int .i64 0, .int .i64 0, .int .i64 0] 24), blk w.heap.size (.cells #[.int .i64 0, .int .i64 0, .int .i64 0, .int .i64 0] 24)]) := by
    have h1 := ((Sep.nil (fun _ => False) w).new (.cells #[.int .i64 0, .int .i64 0, .int .i64 0, .int .i64 0] 24)).new (.cells #[.int .i64 0, .int .i64 0, .int .i64 0, .int .i64 0] 24)
    rw [show (w.alloc (.cells #[.int .i64 0, .int .i64 0, .int .i64 0, .int .i64 0] 24)).heap.size = w.heap.size + 1 by simp] at h1
    exact h1
  clear hro hb hcell hg hn
  go_enter Tryd.func27, Tryd.ntmps27
  go_wp2
  go_loopw [5] (fun t wr => ∃ i : Nat, i ≤ 4 ∧ t = .int .i64 (i : Int) ∧ Hid (Sep (fun _ => False) w wr [blk (w.heap.size + 1) (.cells #[.int .i64 (upTo i 0 n0), .int .i64 (upTo i 1 n1), .int .i64 (upTo i 2 n2), .int .i64 (upTo i 3 n3)] 24), blk w.heap.size (.cells #[.int .i64 0, .int .i64 0, .int .i64 0, .int .i64 0] 24)])) (fun t _ => 4 - (intOf t).toNat)
  case atStart => exact ⟨0, Nat.zero_le _, rfl, by show Sep _ _ _ _; simpa [upTo] using S0.out⟩
  case round =>
    obtain ⟨i, hi, rfl, HS⟩ := hrel
    clear S0
    rcases (by omega : i < 4 ∨ i = 4) with h4 | rfl
    · obtain ⟨t, ht⟩ : ∃ t : Nat, 8 * i = t := ⟨_, rfl⟩
      have hxr := HRX.out i h4
      rw [ht] at hxr
      obtain ⟨x, hx⟩ : ∃ x, numI (b.drop t) = x := ⟨_, rfl⟩
      rw [hx] at hxr
      have HXR := Lib.hid hxr
      have HC := Lib.hid (HNUM.out wr HS.out.old t (by omega))
      rw [hx] at HC
      obtain ⟨sl1, sl2⟩ := HCUT.out t (by omega)
      have w8 : IntKind.i64.wrap ((i : Int) * 8) = (t : Int) := by rw [IntWalk.i64_in _ (by omega)]; omega
      have i0 : (0 : Int) ≤ (i : Int) := by omega
      have i4 : (i : Int) < 4 := by omega
      have d0 : decide ((i : Int) < 4) = true := decide_eq_true i4
      have d1 : decide (i < 4) = true := decide_eq_true h4
      have hk : wr.cell? ⟨w.heap.size + 1, i, none⟩ = some (.int .i64 0) := by
        have hb := HS.out.blk_at 0 rfl
        rcases (by omega : i = 0 ∨ i = 1 ∨ i = 2 ∨ i = 3) with rfl | rfl | rfl | rfl
        · exact (cell_block hb 0).trans rfl
        · exact (cell_block hb 1).trans rfl
        · exact (cell_block hb 2).trans rfl
        · exact (cell_block hb 3).trans rfl
      have hf := frozen_block (HS.out.blk_at 0 rfl) i
      have S2 : Hid (Sep (fun _ => False) w (wr.setCell ⟨w.heap.size + 1, i, none⟩ (.int .i64 x)) [blk (w.heap.size + 1) (.cells #[.int .i64 (upTo (i + 1) 0 n0), .int .i64 (upTo (i + 1) 1 n1), .int .i64 (upTo (i + 1) 2 n2), .int .i64 (upTo (i + 1) 3 n3)] 24), blk w.heap.size (.cells #[.int .i64 0, .int .i64 0, .int .i64 0, .int .i64 0] 24)]) := by
        have h3 := HS.out.set 0 rfl i (.int .i64 x)
        have hx3 := HXR.out
        rw [HRO.out] at hx3
        rcases (by omega : i = 0 ∨ i = 1 ∨ i = 2 ∨ i = 3) with rfl | rfl | rfl | rfl
        · obtain rfl : n0 = x := by simpa using hx3
          exact h3
        · obtain rfl : n1 = x := by simpa using hx3
          exact h3
        · obtain rfl : n2 = x := by simpa using hx3
          exact h3
        · obtain rfl : n3 = x := by simpa using hx3
          exact h3
      clear ht hxr hx HS
      go_wp2_with fail
      refine HC.out.mono ?_
      rintro e w3 ⟨rfl, rfl⟩
      go_wp2
      go_roundw
      case rel => exact ⟨i + 1, by omega, by go_num, S2⟩
      case measure => simp [intOf]; omega
    · have S1 : Hid (Sep (fun _ => False) w wr [blk (w.heap.size + 1) (.cells #[.int .i64 n0, .int .i64 n1, .int .i64 n2, .int .i64 n3] 24), blk w.heap.size (.cells #[.int .i64 0, .int .i64 0, .int .i64 0, .int .i64 0] 24)]) := by
        have h3 := HS.out
        have e : ∀ (j : Nat) (x : Int), j < 4 → upTo 4 j x = x := fun j x hj => by unfold upTo; rw [if_pos (by omega)]
        rw [e 0 n0 (by omega), e 1 n1 (by omega), e 2 n2 (by omega), e 3 n3 (by omega)] at h3
        exact h3
      have d0 : decide (((4 : Nat) : Int) < 4) = false := decide_eq_false (by omega)
      have p0 := (cell_block (S1.out.blk_at 0 rfl) 0).trans rfl
      have p1 := (cell_block (S1.out.blk_at 0 rfl) 1).trans rfl
      have p2 := (cell_block (S1.out.blk_at 0 rfl) 2).trans rfl
      have p3 := (cell_block (S1.out.blk_at 0 rfl) 3).trans rfl
      have m0 := (cell_block (S1.out.blk_at 1 (g := w.heap.size) (o := .cells #[.int .i64 0, .int .i64 0, .int .i64 0, .int .i64 0] 24) rfl) 0).trans rfl
      have f0 := frozen_block (S1.out.blk_at 1 (g := w.heap.size) (o := .cells #[.int .i64 0, .int .i64 0, .int .i64 0, .int .i64 0] 24) rfl) 0
      have m1 := (cell_block (S1.out.blk_at 1 (g := w.heap.size) (o := .cells #[.int .i64 0, .int .i64 0, .int .i64 0, .int .i64 0] 24) rfl) 1).trans rfl
      have f1 := frozen_block (S1.out.blk_at 1 (g := w.heap.size) (o := .cells #[.int .i64 0, .int .i64 0, .int .i64 0, .int .i64 0] 24) rfl) 1
      have m2 := (cell_block (S1.out.blk_at 1 (g := w.heap.size) (o := .cells #[.int .i64 0, .int .i64 0, .int .i64 0, .int .i64 0] 24) rfl) 2).trans rfl
      have f2 := frozen_block (S1.out.blk_at 1 (g := w.heap.size) (o := .cells #[.int .i64 0, .int .i64 0, .int .i64 0, .int .i64 0] 24) rfl) 2
      have m3 := (cell_block (S1.out.blk_at 1 (g := w.heap.size) (o := .cells #[.int .i64 0, .int .i64 0, .int .i64 0, .int .i64 0] 24) rfl) 3).trans rfl
      have f3 := frozen_block (S1.out.blk_at 1 (g := w.heap.size) (o := .cells #[.int .i64 0, .int .i64 0, .int .i64 0, .int .i64 0] 24) rfl) 3
      have T1 := (((S1.out.set 1 rfl 0 (.int .i64 n0)).set 1 rfl 1 (.int .i64 n1)).set 1 rfl 2 (.int .i64 n2)).set 1 rfl 3 (.int .i64 n3)
      obtain ⟨wz, hwz⟩ : ∃ wz : World, wz = ((((wr.setCell ⟨w.heap.size, 0, none⟩ (.int .i64 n0)).setCell ⟨w.heap.size, 1, none⟩ (.int .i64 n1)).setCell ⟨w.heap.size, 2, none⟩ (.int .i64 n2)).setCell ⟨w.heap.size, 3, none⟩ (.int .i64 n3)) := ⟨_, rfl⟩
      rw [← hwz] at T1
      have TB := Lib.hid (T1.blk_at 1 (g := w.heap.size) (o := .cells #[.int .i64 n0, .int .i64 n1, .int .i64 n2, .int .i64 n3] 24) rfl)
      have TO := Lib.hid T1.old
      have HWZ := Lib.hid hwz
      clear T1 hwz HS
      go_wp2
      rw [← HWZ.out]
      have z0 := (cell_block TB.out 0).trans rfl
      have z1 := (cell_block TB.out 1).trans rfl
      have z2 := (cell_block TB.out 2).trans rfl
      have z3 := (cell_block TB.out 3).trans rfl
      refine bodyPost_ret (v := .agg #[.int .i64 n0, .int .i64 n1, .int .i64 n2, .int .i64 n3]) (by simp [results, Tryd.results27, go_sem, z0, z1, z2, z3]) rfl ?_
      exact ⟨rfl, TO.out⟩
end Go.Proofs.YtolooaahaofflaaDoor.ScA
