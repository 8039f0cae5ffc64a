/-
  The walk of the law TaskWakes over any package that meets 'Tb'. Condition: what the arguments read as.
-/
import Derived.Test.YthdipkdolgcmgaaTaskWakesP
import Derived.Test.YthdipkdolgcmgaaHeldN
namespace Go.Proofs.Ythdipkdolgcmgaa.TaskI
open Go.ChangeShapes Go.WideShapes Go.ChangeAt Go.RowKit Mem MutP TaskP Hand RefTask

set_option maxHeartbeats 1000000 in
set_option maxRecDepth 100000 in
theorem wakes_easy (I : Tb) (A : Option Addr) (len cap : Nat) (n x : Int) (q : Pk) (w : World) (hlen : len ≤ 9223372036854775807) (hno : 100 < len) :
    Calls Try.prog 5 #[.slice A len cap, .int .u8 n, .agg (pkA q), .int .i64 x] w fun e w' => e = .returned (.bool true) ∧ Below w.heap.size w w' := by
  have d0 : decide ((len : Int) > 100) = true := decide_eq_true (by omega)
  have d1 : decide (100 < len) = true := decide_eq_true hno
  have HB0 : Hid (Below w.heap.size w (w.alloc (.cells #[.int .i64 q.k, .int .i64 q.o, .int .i64 q.c, .int .i64 q.r, .int .i64 q.l, .int .i64 q.n] 32))) := new_below0 w _
  unfold pkA
  clear hno
  go_enter Try.func5, Try.ntmps5
  go_wp2_with fail
  refine (awake_any I _).mono ?_
  rintro e w1 ⟨rfl, hb1⟩
  have HB : Hid (Below w.heap.size w w1) := HB0.out.trans (hb1.mono HB0.out.size)
  clear hb1
  go_wp2
  go_ret
  exact ⟨rfl, HB.out⟩

set_option maxHeartbeats 4000000 in
set_option maxRecDepth 100000 in
theorem wakes_main (I : Tb) (A : Option Addr) (len cap : Nat) (n x : Int) (q : Pk) (zs : List AcT) (w : World) (hz : ZsIn w A len cap zs) (h60 : len ≤ 100) (hn : 0 ≤ n ∧ n ≤ 255) (hx : In64 x) (hq : InPk q) :
    Calls Try.prog 5 #[.slice A len cap, .int .u8 n, .agg (pkA q), .int .i64 x] w fun e w' => e = .returned (.bool true) ∧ Below w.heap.size w w' := by
  obtain ⟨hzl, hzr, hzo⟩ := hz (by omega)
  subst hzl
  have HZR := Lib.hid hzr
  have HZO := Lib.hid hzo
  have HX64 := Lib.hid hx
  have HQ64 := Lib.hid hq
  have HN64 : Hid (In64 n) := ⟨by omega, by omega⟩
  have wn : IntKind.i64.wrap n = n := IntWalk.i64_in _ (by omega)
  have S0 : Hid (Sep (fun _ => False) w (w.alloc (.cells #[.int .i64 q.k, .int .i64 q.o, .int .i64 q.c, .int .i64 q.r, .int .i64 q.l, .int .i64 q.n] 32)) [blk w.heap.size (.cells #[.int .i64 q.k, .int .i64 q.o, .int .i64 q.c, .int .i64 q.r, .int .i64 q.l, .int .i64 q.n] 32)]) := (Sep.nil _ _).new _
  unfold pkA
  clear hzr hzo hz hx hq
  go_enter Try.func5, Try.ntmps5
  go_wp2_with fail
  refine (awake_any I _).mono ?_
  rintro e w1 ⟨rfl, hb1⟩
  have S1 := Lib.hid (S0.out.next hb1)
  clear hb1 S0
  go_wp2_with fail
  refine (t_new S1.out I 30 (by omega) (by omega)).mono ?_
  rintro e w2 ⟨a, rfl, h2'⟩
  have S3 := Lib.hid h2'
  clear h2' S1
  go_wp2
  go_loopw [32] (fun u wr => ∃ j : Nat, j ≤ zs.length ∧ u = .int .i64 j ∧ Hid (∃ L : List Tk, Sep (fun _ => False) w wr [ob I.O (.pointer (some a)) (L, 30), blk w.heap.size (.cells #[.int .i64 q.k, .int .i64 q.o, .int .i64 q.c, .int .i64 q.r, .int .i64 q.l, .int .i64 q.n] 32)])) (fun u _ => zs.length - (intOf u).toNat)
  case atStart => exact ⟨0, Nat.zero_le _, rfl, _, S3.out⟩
  case round =>
    obtain ⟨j, hj, rfl, HS⟩ := hrel
    obtain ⟨L, hS⟩ := HS.out
    have SL := Lib.hid hS
    clear HS hS S3
    by_cases hlt : j < zs.length
    · have hx : zs[j]? = some zs[j] := List.getElem?_eq_getElem hlt
      generalize zs[j] = z at hx
      obtain ⟨hd64, hin⟩ := HZO.out z (List.mem_of_getElem? hx)
      obtain ⟨bb, off, rfl, hbb, c0, c1, c2, c3, c4, c5, c6, c7, c8, c9, c10⟩ := ac_cells HZR.out hx
      have hb := SL.out.old
      have q0 := (hb.cell (p := ⟨bb, off + j * 11, none⟩) hbb).trans c0
      have q1 := (hb.cell (p := ⟨bb, off + j * 11 + 1, none⟩) hbb).trans c1
      have q2 := (hb.cell (p := ⟨bb, off + j * 11 + 2, none⟩) hbb).trans c2
      have q3 := (hb.cell (p := ⟨bb, off + j * 11 + 3, none⟩) hbb).trans c3
      have q4 := (hb.cell (p := ⟨bb, off + j * 11 + 4, none⟩) hbb).trans c4
      have q5 := (hb.cell (p := ⟨bb, off + j * 11 + 5, none⟩) hbb).trans c5
      have q6 := (hb.cell (p := ⟨bb, off + j * 11 + 6, none⟩) hbb).trans c6
      have q7 := (hb.cell (p := ⟨bb, off + j * 11 + 7, none⟩) hbb).trans c7
      have q8 := (hb.cell (p := ⟨bb, off + j * 11 + 8, none⟩) hbb).trans c8
      have q9 := (hb.cell (p := ⟨bb, off + j * 11 + 9, none⟩) hbb).trans c9
      have q10 := (hb.cell (p := ⟨bb, off + j * 11 + 10, none⟩) hbb).trans c10
      obtain ⟨d, t, a', b, x', qq⟩ := z
      obtain ⟨k', o', c', r', l', n'⟩ := qq
      simp only at q0 q1 q2 q3 q4 q5 q6 q7 q8 q9 q10 hin
      have S4 := Lib.hid (SL.out.new (.cells #[.int .i64 d, .int .i64 t, .int .i64 a', .int .i64 b, .int .i64 x', .int .i64 k', .int .i64 o', .int .i64 c', .int .i64 r', .int .i64 l', .int .i64 n'] 34))
      have HIN := Lib.hid hin
      clear hx c0 c1 c2 c3 c4 c5 c6 c7 c8 c9 c10 hb SL hd64 hin
      go_wp2_with fail
      refine (t_do S4.out 1 rfl d t a' b x' ⟨k', o', c', r', l', n'⟩ HIN.out rfl rfl rfl rfl).mono ?_
      generalize aV L 30 d = V
      generalize aB L d t a' ⟨k', o', c', r', l', n'⟩ = Bo
      generalize aE L 30 d = E
      rintro e w5 ⟨rfl, h5⟩
      have S6 : Hid (∃ L : List Tk, Sep (fun _ => False) w w5 [ob I.O (.pointer (some a)) (L, 30), blk w.heap.size (.cells #[.int .i64 q.k, .int .i64 q.o, .int .i64 q.c, .int .i64 q.r, .int .i64 q.l, .int .i64 q.n] 32)]) := ⟨_, h5.tail⟩
      clear h5 S4 q0 q1 q2 q3 q4 q5 q6 q7 q8 q9 q10
      go_wp2
      go_roundw
      case rel => exact ⟨j + 1, by omega, by go_num, S6⟩
      case measure => simp [intOf]; omega
    · have d0 : decide ((j : Int) < (zs.length : Int)) = false := decide_eq_false (by omega)
      have d1 : decide (j < zs.length) = false := decide_eq_false hlt
      clear hlt hj
      obtain ⟨t0, ht0⟩ : ∃ t, getT L n = t := ⟨_, rfl⟩
      obtain ⟨b0, hb0⟩ : ∃ b, getB L n = b := ⟨_, rfl⟩
      have HT0 := Lib.hid ht0
      have HB0 := Lib.hid hb0
      obtain ⟨X, hX⟩ : ∃ X, tkA t0 = X := ⟨_, rfl⟩
      have HX := Lib.hid hX
      clear ht0 hb0 hX
      go_wp2_with fail
      refine (t_get SL.out 0 rfl n HN64.out (t := t0) (b := b0) HT0.out HB0.out).mono ?_
      rintro e w12 ⟨rfl, h12, _⟩
      have G12 := Lib.hid h12
      clear h12 SL
      have zr := zero_t
      have sX := sizeT_t t0
      have oX := tkA_one t0
      have sz : 0 + (tkA t0).size ≤ (tkA zeroT).size := by rw [tkA_size, tkA_size]; omega
      have HB : Hid ((w12.alloc (.cells (tkA zeroT) 53)).heap[w12.heap.size]? = some (.cells (tkA zeroT) 53 (0, 0))) := (G12.out.new _).blk_at 0 rfl
      have SV : Hid (Sep (fun _ => False) w (setCells (w12.alloc (.cells (tkA zeroT) 53)) w12.heap.size 0 (tkA t0).toList) (blk w12.heap.size (.cells (tkA t0) 53) :: [ob I.O (.pointer (some a)) (L, 30), blk w.heap.size (.cells #[.int .i64 q.k, .int .i64 q.o, .int .i64 q.c, .int .i64 q.r, .int .i64 q.l, .int .i64 q.n] 32)])) := var_sep G12.out t0
      generalize tkA zeroT = Z at *
      rw [HX.out] at sX oX sz SV ⊢
      go_upto_region 14 with (first | (refine wl_allocT rfl 53 rfl zr ?_; simp only [Act.put, List.setIfInBounds_toArray, List.set_cons_zero, List.set_cons_succ]) | (refine wl_storeAt rfl 53 (.tmp 13) (.tmp 45) rfl rfl rfl HB.out sz sX oX ?_))
      obtain ⟨v12, hv⟩ : ∃ v, setCells (w12.alloc (.cells Z 53)) w12.heap.size 0 X.toList = v := ⟨_, rfl⟩
      rw [hv] at SV
      (try rw [hv])
      have S12 := Lib.hid SV.out
      obtain ⟨g1, hg⟩ : ∃ g, w12.heap.size = g := ⟨_, rfl⟩
      rw [hg] at S12
      (try rw [hg])
      clear hv hg SV HB zr oX sz sX
      (try clear Z)
      clear G12
      obtain ⟨bA, hbA⟩ : ∃ b, againB L n q = b := ⟨_, rfl⟩
      obtain ⟨L1, hL1⟩ : ∃ l, againL L n q = l := ⟨_, rfl⟩
      have HBA : Hid ((decide (get t0 0 = 2) && decide (1 ≤ q.k)) = bA) := by
        show _ = _
        rw [← hbA, again_is, HT0.out]
      have HT1 : Hid (getT L1 n = wereT t0 q) := by
        show _ = _
        rw [← hL1, again_get, HT0.out]
      have y0 := (cell_block (S12.out.blk_at 2 (g := w.heap.size) (o := (.cells #[.int .i64 q.k, .int .i64 q.o, .int .i64 q.c, .int .i64 q.r, .int .i64 q.l, .int .i64 q.n] 32)) rfl) 0).trans rfl
      have y1 := (cell_block (S12.out.blk_at 2 (g := w.heap.size) (o := (.cells #[.int .i64 q.k, .int .i64 q.o, .int .i64 q.c, .int .i64 q.r, .int .i64 q.l, .int .i64 q.n] 32)) rfl) 1).trans rfl
      have y2 := (cell_block (S12.out.blk_at 2 (g := w.heap.size) (o := (.cells #[.int .i64 q.k, .int .i64 q.o, .int .i64 q.c, .int .i64 q.r, .int .i64 q.l, .int .i64 q.n] 32)) rfl) 2).trans rfl
      have y3 := (cell_block (S12.out.blk_at 2 (g := w.heap.size) (o := (.cells #[.int .i64 q.k, .int .i64 q.o, .int .i64 q.c, .int .i64 q.r, .int .i64 q.l, .int .i64 q.n] 32)) rfl) 3).trans rfl
      have y4 := (cell_block (S12.out.blk_at 2 (g := w.heap.size) (o := (.cells #[.int .i64 q.k, .int .i64 q.o, .int .i64 q.c, .int .i64 q.r, .int .i64 q.l, .int .i64 q.n] 32)) rfl) 4).trans rfl
      have y5 := (cell_block (S12.out.blk_at 2 (g := w.heap.size) (o := (.cells #[.int .i64 q.k, .int .i64 q.o, .int .i64 q.c, .int .i64 q.r, .int .i64 q.l, .int .i64 q.n] 32)) rfl) 5).trans rfl
      have KB := Lib.hid hbA
      have KL := Lib.hid hL1
      clear hbA hL1
      go_wp2_with fail
      refine (t_again S12.out 1 rfl n q HN64.out HQ64.out (b := bA) (L' := L1) KB.out KL.out).mono ?_
      rintro e w14 ⟨rfl, h14⟩
      have S14 : Hid (Sep (fun _ => False) w w14 [blk g1 (.cells X 53), ob I.O (.pointer (some a)) (L1, 30), blk w.heap.size (.cells #[.int .i64 q.k, .int .i64 q.o, .int .i64 q.c, .int .i64 q.r, .int .i64 q.l, .int .i64 q.n] 32)]) := h14
      clear h14 S12 y0 y1 y2 y3 y4 y5 KB KL
      have x0 : w14.cell? ⟨g1, 0, none⟩ = some (.int .i64 (get t0 0)) := (cell_block (S14.out.blk_at 0 (g := g1) rfl) 0).trans (by rw [← HX.out]; exact tkA_get t0 (by omega))
      have y0 := (cell_block (S14.out.blk_at 2 (g := w.heap.size) (o := (.cells #[.int .i64 q.k, .int .i64 q.o, .int .i64 q.c, .int .i64 q.r, .int .i64 q.l, .int .i64 q.n] 32)) rfl) 0).trans rfl
      have y1 := (cell_block (S14.out.blk_at 2 (g := w.heap.size) (o := (.cells #[.int .i64 q.k, .int .i64 q.o, .int .i64 q.c, .int .i64 q.r, .int .i64 q.l, .int .i64 q.n] 32)) rfl) 1).trans rfl
      have y2 := (cell_block (S14.out.blk_at 2 (g := w.heap.size) (o := (.cells #[.int .i64 q.k, .int .i64 q.o, .int .i64 q.c, .int .i64 q.r, .int .i64 q.l, .int .i64 q.n] 32)) rfl) 2).trans rfl
      have y3 := (cell_block (S14.out.blk_at 2 (g := w.heap.size) (o := (.cells #[.int .i64 q.k, .int .i64 q.o, .int .i64 q.c, .int .i64 q.r, .int .i64 q.l, .int .i64 q.n] 32)) rfl) 3).trans rfl
      have y4 := (cell_block (S14.out.blk_at 2 (g := w.heap.size) (o := (.cells #[.int .i64 q.k, .int .i64 q.o, .int .i64 q.c, .int .i64 q.r, .int .i64 q.l, .int .i64 q.n] 32)) rfl) 4).trans rfl
      have y5 := (cell_block (S14.out.blk_at 2 (g := w.heap.size) (o := (.cells #[.int .i64 q.k, .int .i64 q.o, .int .i64 q.c, .int .i64 q.r, .int .i64 q.l, .int .i64 q.n] 32)) rfl) 5).trans rfl
      go_upto_region 15 with (fail)
      go_cut [61] (fun s61 wx => s61 = .bool false ∧ wx = w14)
      case first => as_aux_lemma =>
        clear y1 y2 y3 y4 y5 S14 HT1
        generalize get t0 0 = st at *
        by_cases h1 : st = 2
        · subst h1
          by_cases h2 : 1 ≤ q.k
          · obtain rfl : true = bA := by rw [← HBA.out]; simp [h2]
            have k1 : decide (q.k ≥ 1) = true := decide_eq_true h2
            have k2 : decide (1 ≤ q.k) = true := decide_eq_true h2
            clear HBA
            go_wp2
            go_meet
            exact ⟨rfl, rfl⟩
          · obtain rfl : false = bA := by rw [← HBA.out]; simp [h2]
            have k1 : decide (q.k ≥ 1) = false := decide_eq_false h2
            have k2 : decide (1 ≤ q.k) = false := decide_eq_false h2
            clear HBA
            go_wp2
            go_meet
            exact ⟨rfl, rfl⟩
        · obtain rfl : false = bA := by rw [← HBA.out]; simp [h1]
          have e0 : (st == 2) = false := by simpa using h1
          clear HBA h1
          go_wp2
          go_meet
          exact ⟨rfl, rfl⟩
      case rest =>
      obtain ⟨rfl, hwc⟩ := hcut
      subst hwc
      go_upto_if 62 with (fail)
      go_cut [] (fun wx => Hid (Sep (fun _ => False) w wx [blk g1 (.cells (tkA (wereT t0 q)) 53), ob I.O (.pointer (some a)) (L1, 30), blk w.heap.size (.cells #[.int .i64 q.k, .int .i64 q.o, .int .i64 q.c, .int .i64 q.r, .int .i64 q.l, .int .i64 q.n] 32)]))
      case first => as_aux_lemma =>
        cases bA with
        | true =>
          have hw : Hid (wereT t0 q = wtT t0 q) := by
            have h1 := HBA.out
            rw [Bool.and_eq_true, decide_eq_true_eq, decide_eq_true_eq] at h1
            show _ = _
            unfold wereT
            rw [if_pos h1]
          have SW : Hid (Sep (fun _ => False) w (setCells wc g1 10 [.int .i64 q.k, .int .i64 q.o, .int .i64 q.c, .int .i64 q.r, .int .i64 q.l, .int .i64 q.n]) [blk g1 (.cells (tkA (wtT t0 q)) 53), ob I.O (.pointer (some a)) (L1, 30), blk w.heap.size (.cells #[.int .i64 q.k, .int .i64 q.o, .int .i64 q.c, .int .i64 q.r, .int .i64 q.l, .int .i64 q.n] 32)]) := by
            have h2 := Sep.whole [.int .i64 q.k, .int .i64 q.o, .int .i64 q.c, .int .i64 q.r, .int .i64 q.l, .int .i64 q.n] 10 S14.out 0 rfl
            have h3 : over X 10 [.int .i64 q.k, .int .i64 q.o, .int .i64 q.c, .int .i64 q.r, .int .i64 q.l, .int .i64 q.n] = tkA (wtT t0 q) := by rw [← HX.out, ← puts_wait]; exact tkA_puts [q.k, q.o, q.c, q.r, q.l, q.n] t0 10
            rw [h3] at h2
            exact h2
          have HBg : Hid (wc.heap[g1]? = some (.cells X 53 (0, 0))) := S14.out.blk_at 0 rfl
          have szp : 10 + 6 ≤ X.size := by rw [← HX.out, tkA_size]; omega
          have sp : (Try.prog.info? 32).map (·.size) = some 6 := by kernel_rfl
          have op : (#[.int .i64 q.k, .int .i64 q.o, .int .i64 q.c, .int .i64 q.r, .int .i64 q.l, .int .i64 q.n] : Array Value).all (·.oneCell') = true := by
            rw [Array.all_eq_true_iff_forall_mem]
            intro v hv
            simp at hv
            rcases hv with rfl | rfl | rfl | rfl | rfl | rfl <;> rfl
          clear S14 HBA x0
          go_wp2_with (refine wl_storeAt rfl 32 (.tmp 64) (.tmp 63) rfl rfl rfl HBg.out szp sp op ?_)
          go_meet
          show Sep _ _ _ _
          rw [hw.out]
          exact SW.out
        | false =>
          have hw : Hid (wereT t0 q = t0) := by
            have h1 := HBA.out
            show _ = _
            unfold wereT
            rw [if_neg (fun h => by rw [decide_eq_true h.1, decide_eq_true h.2] at h1; cases h1)]
          go_wp2
          go_meet
          show Sep _ _ _ _
          rw [hw.out, HX.out]
          exact S14.out
      case rest =>
      clear S14 HBA x0 y0 y1 y2 y3 y4 y5
      have S15 := hcut
      clear hcut
      go_upto_region 19 with (fail)
      obtain ⟨t1, ht1⟩ : ∃ t, wereT t0 q = t := ⟨_, rfl⟩
      rw [ht1] at HT1 S15
      clear ht1
      obtain ⟨Y, hY⟩ : ∃ Y, tkA t1 = Y := ⟨_, rfl⟩
      have HY := Lib.hid hY
      have S16 : Hid (Sep (fun _ => False) w wc [blk g1 (.cells Y 53), ob I.O (.pointer (some a)) (L1, 30), blk w.heap.size (.cells #[.int .i64 q.k, .int .i64 q.o, .int .i64 q.c, .int .i64 q.r, .int .i64 q.l, .int .i64 q.n] 32)]) := by rw [hY] at S15; exact S15
      clear hY S15
      obtain ⟨st, hst⟩ : ∃ z, get t1 0 = z := ⟨_, rfl⟩
      have HST := Lib.hid hst
      have HY0 : Hid (Y[0]? = some (.int .i64 st)) := by show _ = _; rw [← HY.out, tkA_get t1 (by omega), hst]
      obtain ⟨bW, hbW⟩ : ∃ b, isB L1 n 2 = b := ⟨_, rfl⟩
      obtain ⟨L2, hL2⟩ : ∃ l, wakeL L1 n x = l := ⟨_, rfl⟩
      have HBW : Hid (decide (st = 2) = bW) := by
        show _ = _
        rw [← hbW, is_state (by omega), HT1.out, hst]
      have HT2 : Hid (getT L2 n = if st = 2 then wkT t1 x else t1) := by
        show _ = _
        rw [← hL2, wake_get, HT1.out, hst]
      have KW := Lib.hid hbW
      have KL := Lib.hid hL2
      clear hst hbW hL2 HX HT0 HB0 HT1
      go_cut [73] (fun s73 wx => s73 = .bool false ∧ Hid (Sep (fun _ => False) w wx [blk g1 (.cells Y 53), ob I.O (.pointer (some a)) (L2, 30), blk w.heap.size (.cells #[.int .i64 q.k, .int .i64 q.o, .int .i64 q.c, .int .i64 q.r, .int .i64 q.l, .int .i64 q.n] 32)]))
      case first => as_aux_lemma =>
        have SD := Lib.hid S16.out.drew
        refine Held.begin_ (fun V : World => V.cell? ⟨g1, 0, none⟩ = some (.int .i64 st)) 99 (by kernel_rfl) ?_
        have hC : (fun V : World => V.cell? ⟨g1, 0, none⟩ = some (.int .i64 st)) wc.drew := (cell_block (SD.out.blk_at 0 rfl) 0).trans HY0.out
        generalize wc.drew = w0 at *
        obtain ⟨z, hz⟩ : ∃ z, (st == 2) = z := ⟨_, rfl⟩
        have hzz : (bW != z) = false := by rw [← HBW.out, ← hz]; by_cases h : st = 2 <;> simp [h]
        clear HBW
        refine Held.takeN 0 (v := ?_) hC rfl (by kernel_rfl) (by kernel_rfl) (by kernel_rfl) rfl (fun _ _ _ h => h) rfl ?_ ?_; rotate_left; · (intro W hW; have hW2 : W.cell? ⟨g1, 0, none⟩ = some (.int .i64 st) := hW; go_simp <;> with_reducible rfl)
        try simp only [Act.put, List.setIfInBounds_toArray, List.set_cons_zero, List.set_cons_succ]
        refine Held.takeN 1 (v := ?_) hC rfl (by kernel_rfl) (by kernel_rfl) (by kernel_rfl) rfl (fun _ _ _ h => h) rfl ?_ ?_; rotate_left; · (intro W hW; have hW2 : W.cell? ⟨g1, 0, none⟩ = some (.int .i64 st) := hW; go_simp <;> with_reducible rfl)
        try simp only [Act.put, List.setIfInBounds_toArray, List.set_cons_zero, List.set_cons_succ]
        refine Held.takeN 2 (v := ?_) hC rfl (by kernel_rfl) (by kernel_rfl) (by kernel_rfl) rfl (fun _ _ _ h => h) rfl ?_ ?_; rotate_left; · (intro W hW; have hW2 : W.cell? ⟨g1, 0, none⟩ = some (.int .i64 st) := hW; go_simp <;> with_reducible rfl)
        try simp only [Act.put, List.setIfInBounds_toArray, List.set_cons_zero, List.set_cons_succ]
        refine Held.takeN 3 (v := ?_) hC rfl (by kernel_rfl) (by kernel_rfl) (by kernel_rfl) rfl (fun _ _ _ h => h) rfl ?_ ?_; rotate_left; · (intro W hW; have hW2 : W.cell? ⟨g1, 0, none⟩ = some (.int .i64 st) := hW; go_simp <;> with_reducible rfl)
        try simp only [Act.put, List.setIfInBounds_toArray, List.set_cons_zero, List.set_cons_succ]
        refine Held.takeN 5 (v := ?_) hC rfl (by kernel_rfl) (by kernel_rfl) (by kernel_rfl) rfl (fun _ _ _ h => h) rfl ?_ ?_; rotate_left; · (intro W hW; have hW2 : W.cell? ⟨g1, 0, none⟩ = some (.int .i64 st) := hW; go_simp <;> with_reducible rfl)
        try simp only [Act.put, List.setIfInBounds_toArray, List.set_cons_zero, List.set_cons_succ]
        refine Held.takeN 6 (v := ?_) hC rfl (by kernel_rfl) (by kernel_rfl) (by kernel_rfl) rfl (fun _ _ _ h => h) rfl ?_ ?_; rotate_left; · (intro W hW; have hW2 : W.cell? ⟨g1, 0, none⟩ = some (.int .i64 st) := hW; go_simp <;> with_reducible rfl)
        try simp only [Act.put, List.setIfInBounds_toArray, List.set_cons_zero, List.set_cons_succ]
        refine Held.takeN 7 (v := ?_) hC rfl (by kernel_rfl) (by kernel_rfl) (by kernel_rfl) rfl (fun _ _ _ h => h) rfl ?_ ?_; rotate_left; · (intro W hW; have hW2 : W.cell? ⟨g1, 0, none⟩ = some (.int .i64 st) := hW; go_simp <;> with_reducible rfl)
        try simp only [Act.put, List.setIfInBounds_toArray, List.set_cons_zero, List.set_cons_succ]
        clear hC
        refine Held.onlyG 4 (by kernel_rfl) rfl rfl ?_
        intro K hK
        go_simp
        refine (t_wake SD.out 1 rfl n x HN64.out HX64.out (b := bW) (L' := L2) KW.out KL.out).mono ?_
        rintro e w17 ⟨rfl, h17⟩
        have S17 : Hid (Sep (fun _ => False) w w17 [blk g1 (.cells Y 53), ob I.O (.pointer (some a)) (L2, 30), blk w.heap.size (.cells #[.int .i64 q.k, .int .i64 q.o, .int .i64 q.c, .int .i64 q.r, .int .i64 q.l, .int .i64 q.n] 32)]) := h17
        clear h17
        refine hK.out _ _ (fun _ => (cell_block (S17.out.blk_at 0 rfl) 0).trans HY0.out) ?_
        clear hK K
        try simp only [Act.put, List.setIfInBounds_toArray, List.set_cons_zero, List.set_cons_succ]
        have hC : (fun V : World => V.cell? ⟨g1, 0, none⟩ = some (.int .i64 st)) w17 := (cell_block (S17.out.blk_at 0 rfl) 0).trans HY0.out
        refine Held.takeN 8 (v := ?_) hC rfl (by kernel_rfl) (by kernel_rfl) (by kernel_rfl) rfl (fun _ _ _ h => h) rfl ?_ ?_; rotate_left; · (intro W hW; have hW2 : W.cell? ⟨g1, 0, none⟩ = some (.int .i64 st) := hW; go_simp <;> with_reducible rfl)
        try simp only [Act.put, List.setIfInBounds_toArray, List.set_cons_zero, List.set_cons_succ]
        refine Held.done (by kernel_rfl) ?_ _
        go_wp2_with fail
        go_meet
        exact ⟨congrArg Value.bool hzz, S17.out⟩
      case rest =>
      obtain ⟨rfl, S18⟩ := hcut
      clear S16 HBW KW KL
      have x0 := (cell_block (S18.out.blk_at 0 (g := g1) (o := .cells Y 53) rfl) 0).trans HY0.out
      go_upto_if 76 with (fail)
      obtain ⟨t2, ht2⟩ : ∃ t, (if st = 2 then wkT t1 x else t1) = t := ⟨_, rfl⟩
      rw [ht2] at HT2
      have H2 := Lib.hid ht2
      clear ht2
      go_cut [] (fun wx => Hid (Sep (fun _ => False) w wx [blk g1 (.cells (tkA t2) 53), ob I.O (.pointer (some a)) (L2, 30), blk w.heap.size (.cells #[.int .i64 q.k, .int .i64 q.o, .int .i64 q.c, .int .i64 q.r, .int .i64 q.l, .int .i64 q.n] 32)]))
      case first => as_aux_lemma =>
        by_cases h1 : st = 2
        · have e0 : (st == 2) = true := by simpa using h1
          have HW : Hid (t2 = wkT t1 x) := by show _ = _; rw [← H2.out, if_pos h1]
          obtain ⟨r, hr⟩ : ∃ r, get t1 13 = r := ⟨_, rfl⟩
          have HRR := Lib.hid hr
          have x13 : wc.cell? ⟨g1, 13, none⟩ = some (.int .i64 r) := (cell_block (S18.out.blk_at 0 (g := g1) (o := .cells Y 53) rfl) 13).trans (by rw [← HY.out, tkA_get t1 (by omega), hr])
          have sp : (Try.prog.info? 32).map (·.size) = some 6 := by kernel_rfl
          have op : (#[.int .i64 0, .int .i64 0, .int .i64 0, .int .i64 0, .int .i64 0, .int .i64 0] : Array Value).all (·.oneCell') = true := by
            rw [Array.all_eq_true_iff_forall_mem]
            intro v hv
            simp at hv
            subst hv
            rfl
          have f0 := frozen_block (S18.out.blk_at 0 (g := g1) (o := .cells Y 53) rfl) 0
          clear hr H2
          by_cases hin : 0 ≤ r ∧ r < 6
          · obtain ⟨k, rfl⟩ := Int.eq_ofNat_of_zero_le hin.1
            have hk6 : k < 6 := by omega
            have HREG : Hid (regT t1 (k : Int) x = put t1 (4 + k) x) := by show _ = _; unfold regT; rw [if_pos (by omega), Int.toNat_natCast]
            have c1 : decide ((k : Int) ≥ 0) = true := decide_eq_true hin.1
            have c2 : decide ((k : Int) < 6) = true := decide_eq_true hin.2
            have hk : wc.cell? ⟨g1, 4 + k, none⟩ = some (.int .i64 (get t1 (4 + k))) := (cell_block (S18.out.blk_at 0 (g := g1) (o := .cells Y 53) rfl) (4 + k)).trans (by rw [← HY.out, tkA_get t1 (by omega)])
            have hf := frozen_block (S18.out.blk_at 0 (g := g1) (o := .cells Y 53) rfl) (4 + k)
            have SA : Hid (Sep (fun _ => False) w (wc.setCell ⟨g1, 4 + k, none⟩ (.int .i64 x)) [blk g1 (.cells (tkA (put t1 (4 + k) x)) 53), ob I.O (.pointer (some a)) (L2, 30), blk w.heap.size (.cells #[.int .i64 q.k, .int .i64 q.o, .int .i64 q.c, .int .i64 q.r, .int .i64 q.l, .int .i64 q.n] 32)]) := by
              have h2 := S18.out.set 0 rfl (4 + k) (.int .i64 x)
              rw [← HY.out, ← tkA_put] at h2
              exact h2
            have x0' : (wc.setCell ⟨g1, 4 + k, none⟩ (.int .i64 x)).cell? ⟨g1, 0, none⟩ = some (.int .i64 st) := (cell_block (SA.out.blk_at 0 rfl) 0).trans (by rw [tkA_get _ (by omega), get_put_ne _ _ (by omega), HST.out])
            have f0' := frozen_block (SA.out.blk_at 0 rfl) 0
            have SB : Hid (Sep (fun _ => False) w ((wc.setCell ⟨g1, 4 + k, none⟩ (.int .i64 x)).setCell ⟨g1, 0, none⟩ (.int .i64 1)) [blk g1 (.cells (tkA (stT (regT t1 (k : Int) x) 1)) 53), ob I.O (.pointer (some a)) (L2, 30), blk w.heap.size (.cells #[.int .i64 q.k, .int .i64 q.o, .int .i64 q.c, .int .i64 q.r, .int .i64 q.l, .int .i64 q.n] 32)]) := by
              have h2 := SA.out.set 0 rfl 0 (.int .i64 1)
              rw [← tkA_put, ← HREG.out] at h2
              exact h2
            have HBg : Hid (((wc.setCell ⟨g1, 4 + k, none⟩ (.int .i64 x)).setCell ⟨g1, 0, none⟩ (.int .i64 1)).heap[g1]? = some (.cells (tkA (stT (regT t1 (k : Int) x) 1)) 53 (0, 0))) := SB.out.blk_at 0 rfl
            have szp : 10 + 6 ≤ (tkA (stT (regT t1 (k : Int) x) 1)).size := by rw [tkA_size]; omega
            have SC : Hid (Sep (fun _ => False) w (setCells ((wc.setCell ⟨g1, 4 + k, none⟩ (.int .i64 x)).setCell ⟨g1, 0, none⟩ (.int .i64 1)) g1 10 [.int .i64 0, .int .i64 0, .int .i64 0, .int .i64 0, .int .i64 0, .int .i64 0]) [blk g1 (.cells (tkA t2) 53), ob I.O (.pointer (some a)) (L2, 30), blk w.heap.size (.cells #[.int .i64 q.k, .int .i64 q.o, .int .i64 q.c, .int .i64 q.r, .int .i64 q.l, .int .i64 q.n] 32)]) := by
              have h2 := Sep.whole [.int .i64 0, .int .i64 0, .int .i64 0, .int .i64 0, .int .i64 0, .int .i64 0] 10 SB.out 0 rfl
              have h3 : over (tkA (stT (regT t1 (k : Int) x) 1)) 10 [.int .i64 0, .int .i64 0, .int .i64 0, .int .i64 0, .int .i64 0, .int .i64 0] = tkA t2 := by
                rw [HW.out]
                unfold wkT
                rw [HRR.out, ← puts_wait]
                exact tkA_puts [0, 0, 0, 0, 0, 0] _ 10
              rw [h3] at h2
              exact h2
            clear SA SB S18 HREG HW HRR hin h1
            generalize tkA (stT (regT t1 (k : Int) x) 1) = Y2 at *
            go_wp2_with (refine wl_storeAt rfl 32 (.tmp 92) (.tmp 90) rfl rfl rfl HBg.out szp sp op ?_)
            go_meet
            exact SC.out
          · have HREG : Hid (regT t1 r x = t1) := by show _ = _; unfold regT; rw [if_neg (by omega)]
            have SB : Hid (Sep (fun _ => False) w (wc.setCell ⟨g1, 0, none⟩ (.int .i64 1)) [blk g1 (.cells (tkA (stT (regT t1 r x) 1)) 53), ob I.O (.pointer (some a)) (L2, 30), blk w.heap.size (.cells #[.int .i64 q.k, .int .i64 q.o, .int .i64 q.c, .int .i64 q.r, .int .i64 q.l, .int .i64 q.n] 32)]) := by
              have h2 := S18.out.set 0 rfl 0 (.int .i64 1)
              rw [← HY.out, ← tkA_put, ← HREG.out] at h2
              rw [HREG.out] at h2 ⊢
              exact h2
            have HBg : Hid ((wc.setCell ⟨g1, 0, none⟩ (.int .i64 1)).heap[g1]? = some (.cells (tkA (stT (regT t1 r x) 1)) 53 (0, 0))) := SB.out.blk_at 0 rfl
            have szp : 10 + 6 ≤ (tkA (stT (regT t1 r x) 1)).size := by rw [tkA_size]; omega
            have SC : Hid (Sep (fun _ => False) w (setCells (wc.setCell ⟨g1, 0, none⟩ (.int .i64 1)) g1 10 [.int .i64 0, .int .i64 0, .int .i64 0, .int .i64 0, .int .i64 0, .int .i64 0]) [blk g1 (.cells (tkA t2) 53), ob I.O (.pointer (some a)) (L2, 30), blk w.heap.size (.cells #[.int .i64 q.k, .int .i64 q.o, .int .i64 q.c, .int .i64 q.r, .int .i64 q.l, .int .i64 q.n] 32)]) := by
              have h2 := Sep.whole [.int .i64 0, .int .i64 0, .int .i64 0, .int .i64 0, .int .i64 0, .int .i64 0] 10 SB.out 0 rfl
              have h3 : over (tkA (stT (regT t1 r x) 1)) 10 [.int .i64 0, .int .i64 0, .int .i64 0, .int .i64 0, .int .i64 0, .int .i64 0] = tkA t2 := by
                rw [HW.out]
                unfold wkT
                rw [HRR.out, ← puts_wait]
                exact tkA_puts [0, 0, 0, 0, 0, 0] _ 10
              rw [h3] at h2
              exact h2
            clear SB S18 HREG HW HRR h1
            generalize tkA (stT (regT t1 r x) 1) = Y2 at *
            rcases (by omega : r < 0 ∨ (0 ≤ r ∧ 6 ≤ r)) with hr0 | ⟨hr0, hr6⟩
            · have c1 : decide (r ≥ 0) = false := decide_eq_false (by omega)
              clear hin hr0
              go_wp2_with (refine wl_storeAt rfl 32 (.tmp 92) (.tmp 90) rfl rfl rfl HBg.out szp sp op ?_)
              go_meet
              exact SC.out
            · have c1 : decide (r ≥ 0) = true := decide_eq_true hr0
              have c2 : decide (r < 6) = false := decide_eq_false (by omega)
              clear hin hr0 hr6
              go_wp2_with (refine wl_storeAt rfl 32 (.tmp 92) (.tmp 90) rfl rfl rfl HBg.out szp sp op ?_)
              go_meet
              exact SC.out
        · have e0 : (st == 2) = false := by simpa using h1
          have HW : Hid (t2 = t1) := by show _ = _; rw [← H2.out, if_neg h1]
          clear h1
          go_wp2
          go_meet
          show Sep _ _ _ _
          rw [HW.out, HY.out]
          exact S18.out
      case rest =>
      have S19 := hcut
      clear hcut S18 x0 H2 HST HY0 HY
      obtain ⟨b2, hb2⟩ : ∃ b, getB L2 n = b := ⟨_, rfl⟩
      have HB2 := Lib.hid hb2
      obtain ⟨X, hX⟩ : ∃ X, tkA t2 = X := ⟨_, rfl⟩
      have HX := Lib.hid hX
      clear hb2 hX
      go_wp2_with fail
      refine (t_get S19.out 1 rfl n HN64.out (t := t2) (b := b2) HT2.out HB2.out).mono ?_
      rintro e w20 ⟨rfl, h20, _⟩
      have G20 := Lib.hid h20
      clear h20 S19
      have zr := zero_t
      have sX := sizeT_t t2
      have oX := tkA_one t2
      have sz : 0 + (tkA t2).size ≤ (tkA zeroT).size := by rw [tkA_size, tkA_size]; omega
      have HB : Hid ((w20.alloc (.cells (tkA zeroT) 53)).heap[w20.heap.size]? = some (.cells (tkA zeroT) 53 (0, 0))) := (G20.out.new _).blk_at 0 rfl
      have SV : Hid (Sep (fun _ => False) w (setCells (w20.alloc (.cells (tkA zeroT) 53)) w20.heap.size 0 (tkA t2).toList) (blk w20.heap.size (.cells (tkA t2) 53) :: [blk g1 (.cells (tkA t2) 53), ob I.O (.pointer (some a)) (L2, 30), blk w.heap.size (.cells #[.int .i64 q.k, .int .i64 q.o, .int .i64 q.c, .int .i64 q.r, .int .i64 q.l, .int .i64 q.n] 32)])) := var_sep G20.out t2
      generalize tkA zeroT = Z at *
      rw [HX.out] at sX oX sz SV ⊢
      go_upto_region 27 with (first | (refine wl_allocT rfl 53 rfl zr ?_; simp only [Act.put, List.setIfInBounds_toArray, List.set_cons_zero, List.set_cons_succ]) | (refine wl_storeAt rfl 53 (.tmp 17) (.tmp 98) rfl rfl rfl HB.out sz sX oX ?_))
      obtain ⟨v20, hv⟩ : ∃ v, setCells (w20.alloc (.cells Z 53)) w20.heap.size 0 X.toList = v := ⟨_, rfl⟩
      rw [hv] at SV
      (try rw [hv])
      have S20 := Lib.hid SV.out
      obtain ⟨g2, hg⟩ : ∃ g, w20.heap.size = g := ⟨_, rfl⟩
      rw [hg] at S20
      (try rw [hg])
      clear hv hg SV HB zr oX sz sX
      (try clear Z)
      clear G20
      have SR : Hid (Sep (fun _ => False) w v20 [blk g2 (.cells X 53), blk g1 (.cells X 53), ob I.O (.pointer (some a)) (L2, 30), blk w.heap.size (.cells #[.int .i64 q.k, .int .i64 q.o, .int .i64 q.c, .int .i64 q.r, .int .i64 q.l, .int .i64 q.n] 32)]) := by
        exact S20.out
      have sT : (Try.prog.info? 53).map (·.size) = some X.size := by rw [← HX.out, tkA_size]; exact size_t
      have HC1 := Lib.hid (cells_at (SR.out.blk_at 1 (g := g1) rfl))
      have HC2 := Lib.hid (cells_at (SR.out.blk_at 0 (g := g2) rfl))
      have heq : ∀ V, (binOp .eql 53 (.agg X) (.agg X)).run Try.prog V = .ok (.bool true) V := fun V => by
        have h1 := run_eql_tkT V t2 t2
        rw [HX.out, decide_eq_true rfl] at h1
        exact h1
      have hgu := tkGuard
      clear S20
      go_wp2_with (first | (refine wl_loadAt rfl 53 (.tmp 17) rfl rfl HC2.out Try.underlying53 rfl sT ?_; simp only [Act.put, List.setIfInBounds_toArray, List.set_cons_zero, List.set_cons_succ]) | (refine wl_loadAt rfl 53 (.tmp 13) rfl rfl HC1.out Try.underlying53 rfl sT ?_; simp only [Act.put, List.setIfInBounds_toArray, List.set_cons_zero, List.set_cons_succ]))
      go_ret
      exact ⟨rfl, SR.out.old⟩

theorem wakes_walk (I : Tb) (A : Option Addr) (len cap : Nat) (n x : Int) (q : Pk) (zs : List AcT) (w : World) (hlen : len ≤ 9223372036854775807) (hz : ZsIn w A len cap zs) (hn : 0 ≤ n ∧ n ≤ 255) (hx : In64 x) (hq : InPk q) :
    Calls Try.prog 5 #[.slice A len cap, .int .u8 n, .agg (pkA q), .int .i64 x] w fun e w' => e = .returned (.bool true) ∧ Below w.heap.size w w' := by
  by_cases hno : len ≤ 100
  · exact wakes_main I A len cap n x q zs w hz hno hn hx hq
  · exact wakes_easy I A len cap n x q w hlen (by omega)
end Go.Proofs.Ythdipkdolgcmgaa.TaskI
