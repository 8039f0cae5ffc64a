/-
  The walk of the law TimerDoes over any package that meets 'Clk': it returns true and leaves old memory as it was. Conditions: none but 'Clk'.
-/
import Derived.Test.YtpoolfnfboohjaaTimerDoesA
namespace Go.Proofs.Ytpoolfnfboohjaa.TimerI
open Go.ChangeShapes Go.WideShapes Go.ChangeAt Go.RowKit Mem RefHeap RefTimer Hand

set_option maxHeartbeats 8000000 in
set_option maxRecDepth 100000 in
theorem does_main (I : Clk) (n : Int) (A : Option Addr) (len cap : Nat) (zs : List (Int × Int × Int)) (w : World) (h1 : 1 ≤ n) (h2 : n ≤ 40) (h120 : len ≤ 120)
    (hz : len ≤ 1000000 → zs.length = len ∧ RdL actE w (fun b => b < w.heap.size) (.slice A len cap) zs ∧ ∀ z ∈ zs, ActIn z) :
    Calls Try.prog 3 #[.int .i64 n, .slice A len cap] w fun e w' => e = .returned (.bool true) ∧ Below w.heap.size w w' := by
  obtain ⟨hzl, hzr, hzo⟩ := hz (by omega)
  have HZL := Lib.hid hzl
  have HZR := Lib.hid hzr
  have HZO := Lib.hid hzo
  clear hzl hzr hzo hz
  go_enter Try.func3, Try.ntmps3
  go_wp2_with fail
  refine (awake_any I _).mono ?_
  rintro e w1 ⟨rfl, hb1⟩
  have S1 := Lib.hid ((Sep.nil (fun _ => False) w).next hb1)
  clear hb1
  go_wp2_with fail
  refine (c_new S1.out I n (by omega) (by omega)).mono ?_
  rintro e w2 ⟨a, rfl, h2'⟩
  have S2 := Lib.hid h2'
  clear h2' S1
  go_wp2_with fail
  refine (d_new S2.out n (by omega) (by omega)).mono ?_
  rintro e w3 ⟨p, rfl, h3⟩
  have S3 := Lib.hid h3
  clear h3 S2
  go_wp2
  go_loopw [59, 10, 11, 12, 13, 14, 15, 16, 17, 18, 19, 20, 21] (fun u _ _ _ _ _ _ _ _ _ _ _ _ wr => ∃ j : Nat, j ≤ len ∧ u = .int .i64 j ∧ Hid (∃ (T C : Int) (L : List Ent), C ≤ (j : Int) ∧ Sep (fun _ => False) w wr [rc p T C L n, ck I (.pointer (some a)) T C L n])) (fun u _ _ _ _ _ _ _ _ _ _ _ _ _ => len - (intOf u).toNat)
  case atStart => exact ⟨0, Nat.zero_le _, rfl, 0, 0, [], by omega, S3.out⟩
  case round =>
    obtain ⟨j, hj, rfl, HS⟩ := hrel
    obtain ⟨T, C, L, hCj, hS⟩ := HS.out
    have SL := Lib.hid hS
    have hok := c_ok hS 1 rfl
    have hT64 : Hid (In64 T) := hok.t64
    have hC0 : 0 ≤ C := hok.c0
    have hlL : L.length ≤ 1000 := hok.len
    clear HS hS S3 hok
    by_cases hlt : j < len
    · have hx : zs[j]? = some (zs[j]'(by rw [HZL.out]; exact hlt)) := List.getElem?_eq_getElem _
      generalize zs[j]'(by rw [HZL.out]; exact hlt) = z at hx
      have HE := Lib.hid (HZO.out z (List.mem_of_getElem? hx))
      obtain ⟨bb, off, rfl, _, hbb, c0, c1, c2⟩ := act_cells HZR.out hx
      have hb := SL.out.old
      have q0 := (hb.cell (p := ⟨bb, off + j * 3, none⟩) hbb).trans c0
      have q1 := (hb.cell (p := ⟨bb, off + j * 3 + 1, none⟩) hbb).trans c1
      have q2 := (hb.cell (p := ⟨bb, off + j * 3 + 2, none⟩) hbb).trans c2
      obtain ⟨d, key, m⟩ := z
      have S4 := Lib.hid (SL.out.new (.cells #[.int .i64 d, .int .i64 key, .int .i64 m] 32))
      clear hx c0 c1 c2 hb SL
      have hCC := aC_le (L := L) (M := n) (C := C) (d := d) (key := key)
      obtain ⟨E, hE⟩ : ∃ E, aE L n d key = E := ⟨_, rfl⟩
      obtain ⟨Bo, hBo⟩ : ∃ Bo, aB L d key = Bo := ⟨_, rfl⟩
      obtain ⟨W, hW⟩ : ∃ W, aW T L d m = W := ⟨_, rfl⟩
      obtain ⟨T2, hT2⟩ : ∃ T2, aT T d m = T2 := ⟨_, rfl⟩
      obtain ⟨C2, hC2⟩ : ∃ C2, aC L n C d key = C2 := ⟨_, rfl⟩
      obtain ⟨L2, hL2⟩ : ∃ L2, aL T L n C d key m = L2 := ⟨_, rfl⟩
      rw [hC2] at hCC
      have hWl : W.length ≤ 1000 := by
        rw [← hW]
        unfold aW
        split
        · exact Nat.le_trans (List.length_filter_le _ _) hlL
        · simp
      have KE := Lib.hid hE
      have KB := Lib.hid hBo
      have KW := Lib.hid hW
      have KT := Lib.hid hT2
      have KC := Lib.hid hC2
      have KL := Lib.hid hL2
      clear hE hBo hW hT2 hC2 hL2
      go_wp2_with fail
      refine (c_do S4.out 2 rfl (by omega) d key m HE.out.1 HE.out.2).mono ?_
      rintro e w5 ⟨A5, c5, rfl, h5⟩
      rw [KW.out, KE.out, KB.out]
      rw [KW.out, KT.out, KC.out, KL.out] at h5
      obtain ⟨a0, a1, a2⟩ := ent_blk (h5.blk_at 1 rfl)
      have hlt5 : wr.heap.size < w5.heap.size := lt_of_block (h5.blk_at 1 rfl)
      have S6 := Lib.hid (h5.grow0 entE 51)
      clear h5 S4 q0 q1 q2
      go_upto_block 2 with (fail)
      go_cut [14, 15, 16] (fun s14 s15 s16 wx => s14 = .int .i64 E ∧ s15 = .bool Bo ∧ Hid (∃ Ag cg, s16 = .slice Ag W.length cg ∧ Sep (fun _ => False) w wx [grow entE 51 (.slice Ag W.length cg) W, told entE (.slice A5 W.length c5) W, blk wr.heap.size (.cells #[.int .i64 d, .int .i64 key, .int .i64 m] 32), rc p T2 C2 L2 n, ck I (.pointer (some a)) T2 C2 L2 n]))
      case first => as_aux_lemma =>
        rcases (by omega : d = 0 ∨ d = 1 ∨ d = 2 ∨ d = 3 ∨ d = 4 ∨ d = 5 ∨ (d ≠ 0 ∧ d ≠ 1 ∧ d ≠ 2 ∧ d ≠ 3 ∧ d ≠ 4 ∧ d ≠ 5)) with rfl | rfl | rfl | rfl | rfl | rfl | ⟨d0, d1, d2, d3, d4, d5⟩
        · have hE : Hid (setE L n key = E) := KE.out
          have hB : Hid (false = Bo) := KB.out
          have hW : Hid ([] = W) := KW.out
          have hT : Hid (T = T2) := KT.out
          have hC : Hid (setN L n C key = C2) := KC.out
          have hL : Hid (setL L n C key m = L2) := KL.out
          go_wp2_with fail
          refine (d_set S6.out 3 rfl (by omega) hC0 (by omega) key m hE.out hC.out hL.out).mono ?_
          rintro e w7 ⟨rfl, h7⟩
          have S7 := Lib.hid h7
          clear h7
          go_wp2
          go_meet
          exact ⟨rfl, by rw [← hB.out], by rw [← hW.out] at S7 ⊢; rw [← hT.out] at S7 ⊢; exact ⟨_, _, rfl, S7.out⟩⟩
        · have hE : Hid (setE L n key = E) := KE.out
          have hB : Hid (false = Bo) := KB.out
          have hW : Hid ([] = W) := KW.out
          have hT : Hid (T = T2) := KT.out
          have hC : Hid (setN L n C key = C2) := KC.out
          have hL : Hid (setL L n C key (laterT T m) = L2) := KL.out
          have hd6 := S6.out.drew
          obtain ⟨b0, b1, b2⟩ := ent_blk (hd6.blk_at 2 rfl)
          have S6d := Lib.hid hd6
          obtain ⟨G6, hR6⟩ := rc_is hd6 3 rfl
          have HR6 := Lib.hid hR6
          clear hd6 hR6
          go_wp2
          refine wp_region_still_tail 7 (by kernel_rfl) (by kernel_rfl) ?_
          simp only [List.take_succ_cons, List.take_zero, List.drop_succ_cons, List.drop_zero]
          change wpStill _ _ (w5.alloc (.cells #[] 51)).drew (fun a' => wpList _ _ _ _ a' (w5.alloc (.cells #[] 51)).drew) _ _
          generalize (w5.alloc (.cells #[] 51)).drew = w6 at *
          repeat (first | still_step | still_call (still_of (later_any HR6.out m hT64.out HE.out.2)))
          refine wpStill_nil ?_
          go_wp2_with fail
          refine (d_set S6d.out 3 rfl (by omega) hC0 (by omega) key (laterT T m) hE.out hC.out hL.out).mono ?_
          rintro e w7 ⟨rfl, h7⟩
          have S7 := Lib.hid h7
          clear h7
          go_wp2
          go_meet
          exact ⟨rfl, by rw [← hB.out], by rw [← hW.out] at S7 ⊢; rw [← hT.out] at S7 ⊢; exact ⟨_, _, rfl, S7.out⟩⟩
        · have hE : Hid (resE n key = E) := KE.out
          have hB : Hid (false = Bo) := KB.out
          have hW : Hid ([] = W) := KW.out
          have hT : Hid (T = T2) := KT.out
          have hC : Hid (resN n C key = C2) := KC.out
          have hL : Hid (resL L n C key m = L2) := KL.out
          go_wp2_with fail
          refine (d_reset S6.out 3 rfl (by omega) hC0 (by omega) key m hE.out hC.out hL.out).mono ?_
          rintro e w7 ⟨rfl, h7⟩
          have S7 := Lib.hid h7
          clear h7
          go_wp2
          go_meet
          exact ⟨rfl, by rw [← hB.out], by rw [← hW.out] at S7 ⊢; rw [← hT.out] at S7 ⊢; exact ⟨_, _, rfl, S7.out⟩⟩
        · have hE : Hid (0 = E) := KE.out
          have hB : Hid (getB L key = Bo) := KB.out
          have hW : Hid ([] = W) := KW.out
          have hT : Hid (T = T2) := KT.out
          have hC : Hid (C = C2) := KC.out
          have hL : Hid (dropH L key = L2) := KL.out
          go_wp2_with fail
          refine (d_stop S6.out 3 rfl key hB.out hL.out).mono ?_
          rintro e w7 ⟨rfl, h7⟩
          have S7 := Lib.hid h7
          clear h7
          go_wp2
          go_meet
          exact ⟨by rw [← hE.out], rfl, by rw [← hW.out] at S7 ⊢; rw [← hT.out, ← hC.out] at S7 ⊢; exact ⟨_, _, rfl, S7.out⟩⟩
        · have hE : Hid (0 = E) := KE.out
          have hB : Hid (false = Bo) := KB.out
          have hT : Hid (toT T m = T2) := KT.out
          have hW : Hid (L.filter (fun y => decide (y.at_ ≤ T2)) = W) := by rw [← hT.out]; exact KW.out
          have hC : Hid (C = C2) := KC.out
          have hL : Hid (L.filter (fun y => decide (T2 < y.at_)) = L2) := by rw [← hT.out]; exact KL.out
          go_wp2_with fail
          refine (d_to S6.out 3 rfl (by omega) m hT.out hW.out hL.out).mono ?_
          rintro e w7 ⟨Ag, cg, rfl, h7⟩
          have S7 := Lib.hid h7.swap.tail
          clear h7
          go_wp2
          go_meet
          exact ⟨by rw [← hE.out], by rw [← hB.out], by rw [← hC.out] at S7 ⊢; exact ⟨_, _, rfl, S7.out⟩⟩
        · have hE : Hid (0 = E) := KE.out
          have hB : Hid (false = Bo) := KB.out
          have hT : Hid (toT T (laterT T m) = T2) := KT.out
          have hW : Hid (L.filter (fun y => decide (y.at_ ≤ T2)) = W) := by rw [← hT.out]; exact KW.out
          have hC : Hid (C = C2) := KC.out
          have hL : Hid (L.filter (fun y => decide (T2 < y.at_)) = L2) := by rw [← hT.out]; exact KL.out
          go_wp2_with fail
          refine (later_any (rc_is S6.out 3 rfl).choose_spec m hT64.out HE.out.2).mono ?_
          rintro e w6 ⟨rfl, rfl⟩
          go_wp2_with fail
          refine (d_to S6.out 3 rfl (by omega) (laterT T m) hT.out hW.out hL.out).mono ?_
          rintro e w7 ⟨Ag, cg, rfl, h7⟩
          have S7 := Lib.hid h7.swap.tail
          clear h7
          go_wp2
          go_meet
          exact ⟨by rw [← hE.out], by rw [← hB.out], by rw [← hC.out] at S7 ⊢; exact ⟨_, _, rfl, S7.out⟩⟩
        · have HR : Hid (0 = E ∧ false = Bo ∧ T = T2 ∧ [] = W ∧ C = C2 ∧ L = L2) := by
            refine ⟨?_, ?_, ?_, ?_, ?_, ?_⟩
            · rw [← KE.out]; unfold aE; rw [if_neg (by omega), if_neg d2]
            · rw [← KB.out]; unfold aB; rw [if_neg d3]
            · rw [← KT.out]; unfold aT; rw [if_neg d4, if_neg d5]
            · rw [← KW.out]; unfold aW; rw [if_neg (by omega)]
            · rw [← KC.out]; unfold aC; rw [if_neg (by omega), if_neg d2]
            · rw [← KL.out]; unfold aL; rw [if_neg d0, if_neg d1, if_neg d2, if_neg d3, if_neg (by omega)]
          have e0 : (d == 0) = false := by simpa using d0
          have e1 : (d == 1) = false := by simpa using d1
          have e2 : (d == 2) = false := by simpa using d2
          have e3 : (d == 3) = false := by simpa using d3
          have e4 : (d == 4) = false := by simpa using d4
          have e5 : (d == 5) = false := by simpa using d5
          clear d0 d1 d2 d3 d4 d5
          go_wp2
          go_meet
          obtain ⟨r0, r1, r2, r3, r4, r5⟩ := HR.out
          exact ⟨by rw [← r0], by rw [← r1], by rw [← r3] at S6 ⊢; rw [← r2, ← r4, ← r5] at S6 ⊢; exact ⟨_, _, rfl, S6.out⟩⟩
      case rest => as_aux_lemma =>
        obtain ⟨rfl, rfl, HS7⟩ := hcut
        obtain ⟨Ag, cg, rfl, h7⟩ := HS7.out
        have hok2 := c_ok h7 4 rfl
        have hl2 : L2.length ≤ 1000 := hok2.len
        have S9 := Lib.hid h7
        obtain ⟨FA, hA⟩ := h7.get 4 rfl
        obtain ⟨FR, hR, _⟩ := h7.get 3 rfl
        obtain ⟨Aq, cq, x2, x3, _, _, rq, x0, x1, _⟩ := hR.head
        have hpl := hR.lt
        have HA := Lib.hid hA
        have HR := Lib.hid hR
        have RQ := Lib.hid (rq.mono (G' := fun _ => True) fun _ _ _ => trivial)
        have RW := Lib.hid (h7.rdL 1 rfl)
        have RG := Lib.hid ((h7.own 0 rfl).rd (G := fun _ => True) (by omega) fun _ _ => trivial)
        clear HS7 h7 hA hR rq hok2 S6 a0 a1 a2 hlt5
        generalize wc = wq at *
        have FK : Hid (∀ Q, Below wq.heap.size wq Q → (Q.cell? ⟨p, 0, none⟩ = some (.int .i64 T2) ∧ Q.cell? ⟨p, 2, none⟩ = some (.slice Aq L2.length cq))) := fun Q hb => ⟨(hb.cell (p := ⟨p, 0, none⟩) hpl).trans x0, (hb.cell (p := ⟨p, 2, none⟩) hpl).trans x2⟩
        have HB : Hid (Below wq.heap.size wq wq.drew) := (Below.refl _ _).drew
        have hTT : (T2 != T2) = false := by simp
        have hNN : (nextT L2 != nextT L2) = false := by simp
        go_upto_region 29 with (fail)
        go_cut [160] (fun s160 wx => s160 = .bool false ∧ Hid (Below wq.heap.size wq wx))
        case first => as_aux_lemma =>
          go_region_held3 (fun Q => Q.cell? ⟨p, 0, none⟩ = some (.int .i64 T2) ∧ Q.cell? ⟨p, 2, none⟩ = some (.slice Aq L2.length cq)) (go_keep)
            (first
              | (go_at_call 16; (first | (with_reducible refine (l_own (RW.out.below HB.out) (by omega) HB.out).mono ?_) | (with_reducible refine (l_own R3.out (by omega) HB.out).mono ?_)); rintro e w11 ⟨A1, c1, rfl, r11, hb11⟩; have HB := Lib.hid hb11; have R1 := Lib.hid r11; clear r11; obtain ⟨k0, k1⟩ := FK.out _ hb11; clear hb11)
              | (go_at_call 15; (first | (with_reducible refine (l_same R1.out RG.out HB.out).mono ?_) | (with_reducible refine (l_same R1.out RQ.out HB.out).mono ?_)); rintro e w11 ⟨rfl, hb11⟩; have HB := Lib.hid hb11; obtain ⟨k0, k1⟩ := FK.out _ hb11; clear hb11)
              | (go_at_call 17; (with_reducible refine (l_now HA.out HB.out).mono ?_); rintro e w11 ⟨rfl, hb11⟩; have HB := Lib.hid hb11; obtain ⟨k0, k1⟩ := FK.out _ hb11; clear hb11)
              | (go_at_call 18; (with_reducible refine (l_next HA.out HB.out).mono ?_); rintro e w11 ⟨rfl, hb11⟩; have HB := Lib.hid hb11; obtain ⟨k0, k1⟩ := FK.out _ hb11; clear hb11)
              | (go_at_call 19; (with_reducible refine (l_refnext HR.out HB.out).mono ?_); rintro e w11 ⟨rfl, hb11⟩; have HB := Lib.hid hb11; obtain ⟨k0, k1⟩ := FK.out _ hb11; clear hb11)
              | (go_at_call 20; (with_reducible refine (l_alarms HA.out HB.out).mono ?_); rintro e w11 ⟨A3, c3, rfl, r13, hb11⟩; have HB := Lib.hid hb11; have R3 := Lib.hid r13; clear r13; obtain ⟨k0, k1⟩ := FK.out _ hb11; clear hb11))
          go_wp2_with fail
          go_meet
          exact ⟨rfl, HB⟩
        case rest => as_aux_lemma =>
          obtain ⟨rfl, HB1⟩ := hcut
          clear HB FK RQ RW RG
          go_wp2
          go_loopw [17, 18, 19, 20, 21] (fun t _ _ _ _ wr => ∃ q : Int, -1 ≤ q ∧ q ≤ n + 1 ∧ t = .int .i64 q ∧ Hid (Below wq.heap.size wq wr)) (fun t _ _ _ _ _ => (n + 1 - intOf t).toNat)
          case atStart => exact ⟨-1, by omega, by omega, rfl, HB1⟩
          case round => as_aux_lemma =>
            obtain ⟨q, hq0, hq1, rfl, HB6⟩ := hrel
            have y13 := (HB6.out.cell (p := ⟨p, 3, none⟩) hpl).trans x3
            clear HB1
            by_cases hqn : q ≤ n
            · obtain ⟨G, hG⟩ : ∃ G, getE L2 q = G := ⟨_, rfl⟩
              obtain ⟨gb, hgb⟩ : ∃ gb, getB L2 q = gb := ⟨_, rfl⟩
              have KG := Lib.hid hG
              have KH := Lib.hid hgb
              have hng := fun W => run_neq_self W G
              have hqi : Hid (In64 q) := ⟨by omega, by omega⟩
              clear hG hgb
              go_wp2_with fail
              refine (I.get (I.keep HA.out HB6.out.size fun k hk _ => HB6.out.block k hk) q hqi.out).mono ?_
              rintro e w14 ⟨rfl, hb14⟩
              rw [KG.out, KH.out]
              simp only [Ent.val]
              have HB7 : Hid (Below wq.heap.size wq (w14.alloc (.cells #[.int .i64 G.id, .int .i64 G.at_, .int .i64 G.seq] 48))) := (HB6.out.trans (hb14.mono HB6.out.size)).alloc (Nat.le_trans HB6.out.size hb14.size) _
              clear hb14 y13
              go_wp2_with fail
              refine (RefTimer.get_any (HR.out.below HB7.out) q).mono ?_
              rintro e w15 ⟨rfl, hb15⟩
              rw [KG.out, KH.out]
              simp only [Ent.val]
              obtain ⟨z0, z1, z2⟩ := ent_blk ((hb15.block w14.heap.size (by simp)).trans (heap_alloc_new w14 _))
              have hz15 : w14.heap.size < w15.heap.size := Nat.lt_of_lt_of_le (by simp) hb15.size
              have HB8 : Hid (Below wq.heap.size wq (w15.alloc (.cells #[.int .i64 G.id, .int .i64 G.at_, .int .i64 G.seq] 51))) := (HB7.out.trans (hb15.mono HB7.out.size)).alloc (Nat.le_trans HB7.out.size hb15.size) _
              clear hb15
              go_wp2
              go_roundw
              case rel => exact ⟨q + 1, by omega, by omega, by go_num, HB8⟩
              case measure => simp [intOf]; omega
            · have SF : Hid (∃ (T C : Int) (L : List Ent), C ≤ ((j + 1 : Nat) : Int) ∧ Sep (fun _ => False) w wr [rc p T C L n, ck I (.pointer (some a)) T C L n]) := ⟨T2, C2, L2, by omega, (S9.out.next HB6.out).tail.tail.tail⟩
              go_wp2
              go_roundw
              case rel => exact ⟨j + 1, by omega, by go_num, SF⟩
              case measure => simp [intOf]; omega
    · have HB := Lib.hid SL.out.old
      go_wp2
      go_ret
      exact ⟨rfl, HB.out⟩

theorem does_walk (I : Clk) (n : Int) (A : Option Addr) (len cap : Nat) (zs : List (Int × Int × Int)) (w : World) (hn : In64 n) (hlen : len ≤ 9223372036854775807)
    (hz : len ≤ 1000000 → zs.length = len ∧ RdL actE w (fun b => b < w.heap.size) (.slice A len cap) zs ∧ ∀ z ∈ zs, ActIn z) :
    Calls Try.prog 3 #[.int .i64 n, .slice A len cap] w fun e w' => e = .returned (.bool true) ∧ Below w.heap.size w w' := by
  by_cases hno : 1 ≤ n ∧ n ≤ 40 ∧ len ≤ 120
  · obtain ⟨h1, h2, h120⟩ := hno
    exact does_main I n A len cap zs w h1 h2 h120 hz
  · exact does_easy I n A len cap w hn hlen hno
end Go.Proofs.Ytpoolfnfboohjaa.TimerI
