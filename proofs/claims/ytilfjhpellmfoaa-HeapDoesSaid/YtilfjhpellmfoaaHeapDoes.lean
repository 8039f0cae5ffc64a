/-
  The walk of the law HeapDoes over any package that meets 'Heap': it returns true and leaves old memory as it was. Conditions: none but 'Heap'.
-/
import Derived.Test.YtilfjhpellmfoaaHeapDoesA
namespace Go.Proofs.Ytilfjhpellmfoaa.HeapI
open Go.ChangeShapes Go.WideShapes Go.ChangeAt Go.RowKit Mem RefHeap Hand

set_option maxHeartbeats 8000000 in
set_option maxRecDepth 100000 in
theorem does_main (I : Heap) (n : Int) (A : Option Addr) (len cap : Nat) (zs : List (Int × Ent)) (w : World) (h1 : 1 ≤ n) (h2 : n ≤ 60) (h120 : len ≤ 120)
    (hz : len ≤ 1000000 → zs.length = len ∧ RdL actE w (fun b => b < w.heap.size) (.slice A len cap) zs ∧ ∀ z ∈ zs, EntIn z.2) :
    Calls Try.prog 3 #[.int .i64 n, .slice A len cap] w fun e w' => e = .returned (.bool true) ∧ Below w.heap.size w w' := by
  obtain ⟨hzl, hzr, hzo⟩ := hz (by omega)
  have HZL := Lib.hid hzl
  have HZR := Lib.hid hzr
  have HZO := Lib.hid hzo
  clear hzl hzr hzo hz
  go_enter Try.func3, Try.ntmps3
  go_wp2_with fail
  refine (awake_any I _).mono ?_
  rintro e w1 ⟨rfl, hb1⟩
  have S1 := Lib.hid ((Sep.nil (fun _ => False) w).next hb1)
  clear hb1
  go_wp2_with fail
  refine (s_new S1.out I n (by omega) (by omega)).mono ?_
  rintro e w2 ⟨a, rfl, h2'⟩
  have S2 := Lib.hid h2'
  clear h2' S1
  go_wp2_with fail
  refine (r_new S2.out n (by omega) (by omega)).mono ?_
  rintro e w3 ⟨p, rfl, h3⟩
  have S3 := Lib.hid h3
  clear h3 S2
  go_wp2
  go_loopw [68, 10, 11, 12, 13, 14, 15, 16, 17, 18, 19, 20, 21, 23, 24, 25, 26, 27, 28, 29, 30] (fun u _ _ _ _ _ _ _ _ _ _ _ _ _ _ _ _ _ _ _ _ wr => ∃ j : Nat, j ≤ len ∧ u = .int .i64 j ∧ Hid (∃ L, Sep (fun _ => False) w wr [rh p L n, hp I (.pointer (some a)) L n])) (fun u _ _ _ _ _ _ _ _ _ _ _ _ _ _ _ _ _ _ _ _ _ => len - (intOf u).toNat)
  case atStart => exact ⟨0, Nat.zero_le _, rfl, _, S3.out⟩
  case round =>
    obtain ⟨j, hj, rfl, HS⟩ := hrel
    obtain ⟨L, hS⟩ := HS.out
    have SL := Lib.hid hS
    clear HS hS S3
    by_cases hlt : j < len
    · have hx : zs[j]? = some (zs[j]'(by rw [HZL.out]; exact hlt)) := List.getElem?_eq_getElem _
      generalize zs[j]'(by rw [HZL.out]; exact hlt) = z at hx
      have hze := HZO.out z (List.mem_of_getElem? hx)
      have HE := Lib.hid hze
      obtain ⟨bb, off, rfl, _, hbb, c0, c1, c2, c3⟩ := act_cells HZR.out hx
      have hb := SL.out.old
      have q0 := (hb.cell (p := ⟨bb, off + j * 4, none⟩) hbb).trans c0
      have q1 := (hb.cell (p := ⟨bb, off + j * 4 + 1, none⟩) hbb).trans c1
      have q2 := (hb.cell (p := ⟨bb, off + j * 4 + 2, none⟩) hbb).trans c2
      have q3 := (hb.cell (p := ⟨bb, off + j * 4 + 3, none⟩) hbb).trans c3
      obtain ⟨d, x⟩ := z
      have S4 := Lib.hid (SL.out.new (.cells #[.int .i64 d, .int .i64 x.id, .int .i64 x.at_, .int .i64 x.seq] 34))
      have hl1000 : L.length ≤ 1000 := (s_ok SL.out 1 rfl).len
      clear hx hze c0 c1 c2 c3 hb SL
      obtain ⟨E, hE⟩ : ∃ E, doE L n d x = E := ⟨_, rfl⟩
      obtain ⟨Bo, hBo⟩ : ∃ Bo, doB L d x = Bo := ⟨_, rfl⟩
      obtain ⟨X, hX⟩ : ∃ X, doX L d x = X := ⟨_, rfl⟩
      obtain ⟨L2, hL2⟩ : ∃ L2, doH L n d x = L2 := ⟨_, rfl⟩
      have KE := Lib.hid hE
      have KB := Lib.hid hBo
      have KX := Lib.hid hX
      have KL := Lib.hid hL2
      clear hE hBo hX hL2
      go_wp2_with fail
      refine (s_do2 S4.out 2 rfl d x HE.out KE.out KB.out KX.out KL.out).mono ?_
      rintro e w5 ⟨rfl, h5⟩
      obtain ⟨a0, a1, a2, a3⟩ := act_blk (h5.blk_at 0 rfl)
      have hlt5 : wr.heap.size < w5.heap.size := lt_of_block (h5.blk_at 0 rfl)
      have h6 := (h5.new (.cells #[.int .i64 X.id, .int .i64 X.at_, .int .i64 X.seq] 32)).new (.cells #[.int .i64 0, .int .i64 0, .int .i64 0] 37)
      have e6 : (w5.alloc (.cells #[.int .i64 X.id, .int .i64 X.at_, .int .i64 X.seq] 32)).heap.size = w5.heap.size + 1 := by simp
      rw [e6] at h6
      have S6 := Lib.hid h6
      clear h5 h6 e6 S4 q0 q1 q2 q3
      go_upto_block 2 with (fail)
      go_cut [14, 15] (fun s14 s15 wx => s14 = .int .i64 E ∧ s15 = .bool Bo ∧ Hid (Sep (fun _ => False) w wx [blk (w5.heap.size + 1) (.cells #[.int .i64 X.id, .int .i64 X.at_, .int .i64 X.seq] 37), blk w5.heap.size (.cells #[.int .i64 X.id, .int .i64 X.at_, .int .i64 X.seq] 32), blk wr.heap.size (.cells #[.int .i64 d, .int .i64 x.id, .int .i64 x.at_, .int .i64 x.seq] 34), rh p L2 n, hp I (.pointer (some a)) L2 n]))
      case first => as_aux_lemma =>
        rcases (by omega : d = 0 ∨ d = 1 ∨ d = 2 ∨ d = 3 ∨ (d ≠ 0 ∧ d ≠ 1 ∧ d ≠ 2 ∧ d ≠ 3)) with rfl | rfl | rfl | rfl | ⟨d0, d1, d2, d3⟩
        · have hE : Hid (putHE L n x = E) := KE.out
          have hB : Hid (false = Bo) := KB.out
          have hX : Hid (zeroEnt = X) := KX.out
          have hL : Hid (putH L n x = L2) := KL.out
          go_wp2_with fail
          refine (r_put S6.out 3 rfl (by omega) x hE.out hL.out).mono ?_
          rintro e w7 ⟨rfl, h7⟩
          have S7 := Lib.hid h7
          clear h7
          go_wp2
          go_meet
          exact ⟨rfl, by rw [← hB.out], by rw [← hX.out] at S7 ⊢; exact S7⟩
        · have hE : Hid (0 = E) := KE.out
          have hB : Hid (getB L x.id = Bo) := KB.out
          have hX : Hid (zeroEnt = X) := KX.out
          have hL : Hid (dropH L x.id = L2) := KL.out
          go_wp2_with fail
          refine (r_drop S6.out 3 rfl x.id hB.out hL.out).mono ?_
          rintro e w7 ⟨rfl, h7⟩
          have S7 := Lib.hid h7
          clear h7
          go_wp2
          go_meet
          exact ⟨by rw [← hE.out], rfl, by rw [← hX.out] at S7 ⊢; exact S7⟩
        · have hE : Hid (0 = E) := KE.out
          have hB : Hid (getB L x.id = Bo) := KB.out
          have hX : Hid (zeroEnt = X) := KX.out
          have hL : Hid (moveH L n x.id x.at_ = L2) := KL.out
          go_wp2_with fail
          refine (r_move S6.out 3 rfl (by omega) x.id x.at_ hB.out hL.out).mono ?_
          rintro e w7 ⟨rfl, h7⟩
          have S7 := Lib.hid h7
          clear h7
          go_wp2
          go_meet
          exact ⟨by rw [← hE.out], rfl, by rw [← hX.out] at S7 ⊢; exact S7⟩
        · have hE : Hid (0 = E) := KE.out
          have hB : Hid (takeB L x.at_ = Bo) := KB.out
          have hX : Hid (takeE L x.at_ = X) := KX.out
          have hL : Hid (takeH L x.at_ = L2) := KL.out
          go_wp2_with fail
          refine (r_take S6.out 3 rfl x.at_ hX.out hB.out hL.out).mono ?_
          rintro e w7 ⟨rfl, h7⟩
          simp only [Ent.val]
          obtain ⟨b0, b1, b2, f0, f1, f2⟩ := box_cells h7 0 rfl
          have S7 := Lib.hid (box_set h7 0 rfl (.int .i64 X.id) (.int .i64 X.at_) (.int .i64 X.seq))
          clear h7
          go_wp2
          go_meet
          exact ⟨by rw [← hE.out], rfl, S7⟩
        · have hE : Hid (E = 0) := by have := KE.out; unfold doE at this; rw [if_neg d0] at this; exact this.symm
          have hB : Hid (Bo = false) := by have := KB.out; unfold doB at this; rw [if_neg (by omega), if_neg d3] at this; exact this.symm
          have hX : Hid (X = zeroEnt) := by have := KX.out; unfold doX at this; rw [if_neg d3] at this; exact this.symm
          have hL : Hid (L2 = L) := by have := KL.out; unfold doH at this; rw [if_neg d0, if_neg d1, if_neg d2, if_neg d3] at this; exact this.symm
          have e0 : (d == 0) = false := by simpa using d0
          have e1 : (d == 1) = false := by simpa using d1
          have e2 : (d == 2) = false := by simpa using d2
          have e3 : (d == 3) = false := by simpa using d3
          clear d0 d1 d2 d3
          go_wp2
          go_meet
          exact ⟨by rw [hE.out], by rw [hB.out], by have := S6.out; rw [hX.out, hL.out] at this ⊢; exact this⟩
      case rest =>
        obtain ⟨rfl, rfl, S7⟩ := hcut
        clear S6 a0 a1 a2 a3 hlt5
        go_wp2_with fail
        refine (s_first S7.out 4 rfl).mono ?_
        rintro e w8 ⟨rfl, h8⟩
        have hok2 := s_ok h8 4 rfl
        have HOK := Lib.hid hok2
        have hl2 : L2.length ≤ 1000 := hok2.len
        clear hok2
        generalize hY : firstE L2 = Y at *
        generalize hZ : (!L2.isEmpty) = Z at *
        have HY := Lib.hid hY
        have HZ := Lib.hid hZ
        have S8 := Lib.hid (h8.new (.cells #[.int .i64 Y.id, .int .i64 Y.at_, .int .i64 Y.seq] 32))
        clear hY hZ h8 S7
        simp only [Ent.val]
        go_wp2_with fail
        refine (r_first S8.out 4 rfl).mono ?_
        rintro e w9 ⟨rfl, h9⟩
        rw [HY.out, HZ.out]
        have S9 := Lib.hid (h9.new (.cells #[.int .i64 Y.id, .int .i64 Y.at_, .int .i64 Y.seq] 37))
        clear h9 S8
        simp only [Ent.val]
        go_wp2_with fail
        have hq := S9.out
        obtain ⟨x0, x1, x2, _⟩ := box_cells hq 3 rfl
        obtain ⟨x3, x4, x5, _⟩ := box_cells hq 2 rfl
        obtain ⟨x6, x7, x8, _⟩ := box_cells hq 1 rfl
        obtain ⟨x9, x10, x11, _⟩ := box_cells hq 0 rfl
        have l13 := lt_of_block (hq.blk_at 3 rfl)
        have l16 := lt_of_block (hq.blk_at 2 rfl)
        have l17 := lt_of_block (hq.blk_at 1 rfl)
        have l19 := lt_of_block (hq.blk_at 0 rfl)
        obtain ⟨FA, hA⟩ := hq.get 6 rfl
        obtain ⟨FR, hR, _⟩ := hq.get 5 rfl
        obtain ⟨Aq, cq, x12, x13, _, _, rq⟩ := hR.head
        have hpl := hR.lt
        have HA := Lib.hid hA
        have HR := Lib.hid hR
        have RQ := Lib.hid (rq.mono (G' := fun _ => True) fun _ _ _ => trivial)
        generalize hwq : w9.alloc (.cells #[.int .i64 Y.id, .int .i64 Y.at_, .int .i64 Y.seq] 37) = wq at *
        generalize hg13 : w5.heap.size = g13 at *
        generalize hg16 : g13 + 1 = g16 at *
        generalize hg17 : w8.heap.size = g17 at *
        generalize hg19 : w9.heap.size = g19 at *
        clear hwq hg13 hg16 hg17 hg19 rq
        have FK : Hid (∀ W, Below wq.heap.size wq W → (W.cell? ⟨g13, 0, none⟩ = some (.int .i64 X.id) ∧ W.cell? ⟨g13, 1, none⟩ = some (.int .i64 X.at_) ∧ W.cell? ⟨g13, 2, none⟩ = some (.int .i64 X.seq) ∧ W.cell? ⟨g16, 0, none⟩ = some (.int .i64 X.id) ∧ W.cell? ⟨g16, 1, none⟩ = some (.int .i64 X.at_) ∧ W.cell? ⟨g16, 2, none⟩ = some (.int .i64 X.seq) ∧ W.cell? ⟨g17, 0, none⟩ = some (.int .i64 Y.id) ∧ W.cell? ⟨g17, 1, none⟩ = some (.int .i64 Y.at_) ∧ W.cell? ⟨g17, 2, none⟩ = some (.int .i64 Y.seq) ∧ W.cell? ⟨g19, 0, none⟩ = some (.int .i64 Y.id) ∧ W.cell? ⟨g19, 1, none⟩ = some (.int .i64 Y.at_) ∧ W.cell? ⟨g19, 2, none⟩ = some (.int .i64 Y.seq) ∧ W.cell? ⟨p, 0, none⟩ = some (.slice Aq L2.length cq))) := fun W hb =>
          ⟨(hb.cell (p := ⟨g13, 0, none⟩) l13).trans x0, (hb.cell (p := ⟨g13, 1, none⟩) l13).trans x1, (hb.cell (p := ⟨g13, 2, none⟩) l13).trans x2,
           (hb.cell (p := ⟨g16, 0, none⟩) l16).trans x3, (hb.cell (p := ⟨g16, 1, none⟩) l16).trans x4, (hb.cell (p := ⟨g16, 2, none⟩) l16).trans x5,
           (hb.cell (p := ⟨g17, 0, none⟩) l17).trans x6, (hb.cell (p := ⟨g17, 1, none⟩) l17).trans x7, (hb.cell (p := ⟨g17, 2, none⟩) l17).trans x8,
           (hb.cell (p := ⟨g19, 0, none⟩) l19).trans x9, (hb.cell (p := ⟨g19, 1, none⟩) l19).trans x10, (hb.cell (p := ⟨g19, 2, none⟩) l19).trans x11,
           (hb.cell (p := ⟨p, 0, none⟩) hpl).trans x12⟩
        have HB : Hid (Below wq.heap.size wq wq.drew) := (Below.refl _ _).drew
        have hn1 := fun W => run_neq_self W X
        have hn2 := fun W => run_neq_self W Y
        clear hq hA hR
        go_cut [174] (fun s174 wx => s174 = .bool false ∧ Hid (Below wq.heap.size wq wx))
        case first => as_aux_lemma =>
          go_region_held3 (fun W => W.cell? ⟨g13, 0, none⟩ = some (.int .i64 X.id) ∧ W.cell? ⟨g13, 1, none⟩ = some (.int .i64 X.at_) ∧ W.cell? ⟨g13, 2, none⟩ = some (.int .i64 X.seq) ∧ W.cell? ⟨g16, 0, none⟩ = some (.int .i64 X.id) ∧ W.cell? ⟨g16, 1, none⟩ = some (.int .i64 X.at_) ∧ W.cell? ⟨g16, 2, none⟩ = some (.int .i64 X.seq) ∧ W.cell? ⟨g17, 0, none⟩ = some (.int .i64 Y.id) ∧ W.cell? ⟨g17, 1, none⟩ = some (.int .i64 Y.at_) ∧ W.cell? ⟨g17, 2, none⟩ = some (.int .i64 Y.seq) ∧ W.cell? ⟨g19, 0, none⟩ = some (.int .i64 Y.id) ∧ W.cell? ⟨g19, 1, none⟩ = some (.int .i64 Y.at_) ∧ W.cell? ⟨g19, 2, none⟩ = some (.int .i64 Y.seq) ∧ W.cell? ⟨p, 0, none⟩ = some (.slice Aq L2.length cq)) (go_keep)
            (first
              | (go_at_call 17; refine (l_len HA.out HB.out).mono ?_; rintro e w11 ⟨rfl, hb11⟩; have HB := Lib.hid hb11; obtain ⟨k0, k1, k2, k3, k4, k5, k6, k7, k8, k9, k10, k11, k12⟩ := FK.out _ hb11; clear hb11)
              | (go_at_call 20; refine (l_all HA.out HB.out).mono ?_; rintro e w11 ⟨A1, c1, rfl, r11, hb11⟩; have HB := Lib.hid hb11; have R1 := Lib.hid r11; clear r11; obtain ⟨k0, k1, k2, k3, k4, k5, k6, k7, k8, k9, k10, k11, k12⟩ := FK.out _ hb11; clear hb11)
              | (go_at_call 19; refine (l_own R1.out (by omega) HB.out).mono ?_; rintro e w11 ⟨A2, c2, rfl, r12, hb11⟩; have HB := Lib.hid hb11; have R2 := Lib.hid r12; clear r12; obtain ⟨k0, k1, k2, k3, k4, k5, k6, k7, k8, k9, k10, k11, k12⟩ := FK.out _ hb11; clear hb11)
              | (go_at_call 18; refine (l_same R2.out RQ.out HB.out).mono ?_; rintro e w11 ⟨rfl, hb11⟩; have HB := Lib.hid hb11; obtain ⟨k0, k1, k2, k3, k4, k5, k6, k7, k8, k9, k10, k11, k12⟩ := FK.out _ hb11; clear hb11)
              | (go_at_call 22; refine (l_rows HA.out HB.out).mono ?_; rintro e w11 ⟨A3, c3, Q3, rfl, _, h43, r13, hb11⟩; have HB := Lib.hid hb11; have R3 := Lib.hid r13; have H43 := Lib.hid h43; clear r13 h43; obtain ⟨k0, k1, k2, k3, k4, k5, k6, k7, k8, k9, k10, k11, k12⟩ := FK.out _ hb11; clear hb11)
              | (go_at_call 21; refine (l_held R3.out H43.out HB.out).mono ?_; rintro e w11 ⟨rfl, hb11⟩; have HB := Lib.hid hb11; obtain ⟨k0, k1, k2, k3, k4, k5, k6, k7, k8, k9, k10, k11, k12⟩ := FK.out _ hb11; clear hb11))
          go_wp2_with fail
          go_meet
          exact ⟨rfl, HB⟩
        case rest => as_aux_lemma =>
          obtain ⟨rfl, HB1⟩ := hcut
          clear HB FK hn1 hn2 x0 x1 x2 x3 x4 x5 x6 x7 x8 x9 x10 x11 l13 l16 l17 l19 RQ
          go_wp2_with fail
          refine (l_rows HA.out HB1.out).mono ?_
          rintro e w12 ⟨A6, c6, R, rfl, hperm, _, r12, hb12⟩
          have HB2 := Lib.hid hb12
          have R2 := Lib.hid r12
          have y12 := (hb12.cell (p := ⟨p, 0, none⟩) hpl).trans x12
          have HPM := Lib.hid hperm
          have hRl : R.length = L2.length := hperm.length_eq
          have HRL := Lib.hid hRl
          clear hb12 r12 hperm hRl HB1
          go_wp2
          clear y12
          go_loopw [187, 23, 24, 25] (fun t _ _ _ wr => ∃ i : Nat, i ≤ L2.length ∧ t = .int .i64 i ∧ Hid (Below wq.heap.size wq wr) ∧ Hid (RdL entE wr (fun _ => True) (.slice A6 L2.length c6) R)) (fun t _ _ _ _ => L2.length - (intOf t).toNat)
          case atStart => exact ⟨0, Nat.zero_le _, rfl, HB2, R2⟩
          case round => as_aux_lemma =>
            obtain ⟨i, hi, rfl, HB3, R3⟩ := hrel
            clear HB2 R2
            by_cases hil : i < L2.length
            · have hk : R[i]? = some (R[i]'(by rw [HRL.out]; exact hil)) := List.getElem?_eq_getElem _
              generalize R[i]'(by rw [HRL.out]; exact hil) = k at hk
              have hki := kept_in HOK.out HPM.out (List.mem_of_getElem? hk)
              have KG := Lib.hid hki.1
              have KH := Lib.hid hki.2
              obtain ⟨b6, off6, rfl, _, hb6, c0, c1, c2⟩ := ent_cells R3.out hk
              have HB4 : Hid (Below wq.heap.size wq (wr.alloc (.cells #[.int .i64 k.id, .int .i64 k.at_, .int .i64 k.seq] 32))) := HB3.out.alloc HB3.out.size _
              have R4 : Hid (RdL entE (wr.alloc (.cells #[.int .i64 k.id, .int .i64 k.at_, .int .i64 k.seq] 32)) (fun _ => True) (.slice (some ⟨b6, off6, none⟩) L2.length c6) R) := R3.out.alloc _
              have hnk := fun W => run_neq_self W k
              clear hk hki
              go_wp2_with fail
              refine (RefHeap.get_any (HR.out.below HB4.out) k.id).mono ?_
              rintro e w13 ⟨rfl, hb13⟩
              rw [KG.out, KH.out]
              simp only [Ent.val]
              obtain ⟨z0, z1, z2⟩ := ent_blk ((hb13.block wr.heap.size (by simp)).trans (heap_alloc_new wr _))
              have hz13 : wr.heap.size < w13.heap.size := Nat.lt_of_lt_of_le (by simp) hb13.size
              have HB5 : Hid (Below wq.heap.size wq (w13.alloc (.cells #[.int .i64 k.id, .int .i64 k.at_, .int .i64 k.seq] 37))) := (HB4.out.trans (hb13.mono HB4.out.size)).alloc (Nat.le_trans HB4.out.size hb13.size) _
              have R5 : Hid (RdL entE (w13.alloc (.cells #[.int .i64 k.id, .int .i64 k.at_, .int .i64 k.seq] 37)) (fun _ => True) (.slice (some ⟨b6, off6, none⟩) L2.length c6) R) := (R4.out.below hb13).alloc _
              clear hb13 c0 c1 c2
              go_wp2
              go_roundw
              case rel => exact ⟨i + 1, by omega, by go_num, HB5, R5⟩
              case measure => simp [intOf]; omega
            · go_wp2
              go_loopw [26, 27, 28, 29, 30] (fun t _ _ _ _ wr => ∃ q : Int, -1 ≤ q ∧ q ≤ n + 1 ∧ t = .int .i64 q ∧ Hid (Below wq.heap.size wq wr)) (fun t _ _ _ _ _ => (n + 1 - intOf t).toNat)
              case atStart => exact ⟨-1, by omega, by omega, rfl, HB3⟩
              case round => as_aux_lemma =>
                obtain ⟨q, hq0, hq1, rfl, HB6⟩ := hrel
                have y13 := (HB6.out.cell (p := ⟨p, 1, none⟩) hpl).trans x13
                clear HB3 R3
                by_cases hqn : q ≤ n
                · obtain ⟨G, hG⟩ : ∃ G, getE L2 q = G := ⟨_, rfl⟩
                  obtain ⟨gb, hgb⟩ : ∃ gb, getB L2 q = gb := ⟨_, rfl⟩
                  have KG := Lib.hid hG
                  have KH := Lib.hid hgb
                  have hng := fun W => run_neq_self W G
                  have hqi : Hid (In64 q) := ⟨by omega, by omega⟩
                  clear hG hgb
                  go_wp2_with fail
                  refine (I.get (I.keep HA.out HB6.out.size fun k hk _ => HB6.out.block k hk) q hqi.out).mono ?_
                  rintro e w14 ⟨rfl, hb14⟩
                  rw [KG.out, KH.out]
                  simp only [Ent.val]
                  have HB7 : Hid (Below wq.heap.size wq (w14.alloc (.cells #[.int .i64 G.id, .int .i64 G.at_, .int .i64 G.seq] 32))) := (HB6.out.trans (hb14.mono HB6.out.size)).alloc (Nat.le_trans HB6.out.size hb14.size) _
                  clear hb14 y13
                  go_wp2_with fail
                  refine (RefHeap.get_any (HR.out.below HB7.out) q).mono ?_
                  rintro e w15 ⟨rfl, hb15⟩
                  rw [KG.out, KH.out]
                  simp only [Ent.val]
                  obtain ⟨z0, z1, z2⟩ := ent_blk ((hb15.block w14.heap.size (by simp)).trans (heap_alloc_new w14 _))
                  have hz15 : w14.heap.size < w15.heap.size := Nat.lt_of_lt_of_le (by simp) hb15.size
                  have HB8 : Hid (Below wq.heap.size wq (w15.alloc (.cells #[.int .i64 G.id, .int .i64 G.at_, .int .i64 G.seq] 37))) := (HB7.out.trans (hb15.mono HB7.out.size)).alloc (Nat.le_trans HB7.out.size hb15.size) _
                  clear hb15
                  go_wp2
                  go_roundw
                  case rel => exact ⟨q + 1, by omega, by omega, by go_num, HB8⟩
                  case measure => simp [intOf]; omega
                · have SF : Hid (∃ L, Sep (fun _ => False) w wr [rh p L n, hp I (.pointer (some a)) L n]) := ⟨L2, (S9.out.next HB6.out).tail.tail.tail.tail.tail⟩
                  go_wp2
                  go_roundw
                  case rel => exact ⟨j + 1, by omega, by go_num, SF⟩
                  case measure => simp [intOf]; omega
    · have HB := Lib.hid SL.out.old
      go_wp2
      go_ret
      exact ⟨rfl, HB.out⟩

set_option maxHeartbeats 8000000 in
set_option maxRecDepth 100000 in
theorem does_walk (I : Heap) (n : Int) (A : Option Addr) (len cap : Nat) (zs : List (Int × Ent)) (w : World) (hn : In64 n) (hlen : len ≤ 9223372036854775807)
    (hz : len ≤ 1000000 → zs.length = len ∧ RdL actE w (fun b => b < w.heap.size) (.slice A len cap) zs ∧ ∀ z ∈ zs, EntIn z.2) :
    Calls Try.prog 3 #[.int .i64 n, .slice A len cap] w fun e w' => e = .returned (.bool true) ∧ Below w.heap.size w w' := by
  by_cases hno : 1 ≤ n ∧ n ≤ 60 ∧ len ≤ 120
  · obtain ⟨h1, h2, h120⟩ := hno
    exact does_main I n A len cap zs w h1 h2 h120 hz
  · exact does_easy I n A len cap w hn hlen hno
end Go.Proofs.Ytilfjhpellmfoaa.HeapI
