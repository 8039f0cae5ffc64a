/-
  The walk of the law TimerFires over any package that meets 'Clk': it returns true and leaves old memory as it was. Conditions: none but 'Clk'.
-/
import Derived.Test.YtpoolfnfboohjaaTimerDoesA
import Derived.BigQuiet
namespace Go.Proofs.Ytpoolfnfboohjaa.TimerI
open Go.ChangeShapes Go.WideShapes Go.ChangeAt Go.RowKit Mem RefHeap RefTimer Hand

theorem split_at (T : Int) : ∀ {L : List Ent}, L.Pairwise (fun a b => a.at_ < b.at_ ∨ (a.at_ = b.at_ ∧ a.seq < b.seq)) →
    L.filter (fun y => decide (y.at_ ≤ T)) ++ L.filter (fun y => decide (T < y.at_)) = L
  | [], _ => rfl
  | a :: L, ho => by
    have ho' := List.pairwise_cons.1 ho
    have ih := split_at T ho'.2
    by_cases ha : a.at_ ≤ T
    · have h1 : decide (a.at_ ≤ T) = true := decide_eq_true ha
      have h2 : decide (T < a.at_) = false := decide_eq_false (by omega)
      simp only [List.filter_cons, h1, h2, if_true, Bool.false_eq_true, if_false, List.cons_append]
      rw [ih]
    · have he : (a :: L).filter (fun y => decide (y.at_ ≤ T)) = [] := List.filter_eq_nil_iff.2 fun y hy => by
        rcases List.mem_cons.1 hy with rfl | hy
        · simpa using ha
        · have := ho'.1 y hy; simp; omega
      have hl : (a :: L).filter (fun y => decide (T < y.at_)) = a :: L := List.filter_eq_self.2 fun y hy => by
        rcases List.mem_cons.1 hy with rfl | hy
        · simp; omega
        · have := ho'.1 y hy; simp; omega
      rw [he, hl]
      rfl
theorem again_none {T : Int} (L : List Ent) : (L.filter (fun y => decide (T < y.at_))).filter (fun y => decide (y.at_ ≤ T)) = [] :=
  List.filter_eq_nil_iff.2 fun y hy => by have := (List.mem_filter.1 hy).2; simp at this ⊢; omega
theorem toT_again (T t : Int) : toT (toT T t) t = toT T t := toT_two (by omega)

/-- What the second loop may count on at alarm j. -/
structure At (T : Int) (L o r : List Ent) (j : Nat) (x : Ent) : Prop where
  prev : ∀ y, 0 < j → L[j - 1]? = some y → y.at_ < x.at_ ∨ (y.at_ = x.at_ ∧ y.seq < x.seq)
  out : j < o.length → o[j]? = some x ∧ x.at_ ≤ T
  left : ¬ j < o.length → r[j - o.length]? = some x ∧ T < x.at_
theorem at_of {T : Int} {L o r : List Ent} (ho : L.Pairwise (fun a b => a.at_ < b.at_ ∨ (a.at_ = b.at_ ∧ a.seq < b.seq))) (h1 : L.filter (fun y => decide (y.at_ ≤ T)) = o) (h2 : L.filter (fun y => decide (T < y.at_)) = r) {j : Nat} {x : Ent} (hx : L[j]? = some x) : At T L o r j x := by
  have hs : o ++ r = L := by rw [← h1, ← h2]; exact split_at T ho
  refine ⟨fun y hj hy => ?_, fun hj => ?_, fun hj => ?_⟩
  · obtain ⟨ha, hxe⟩ := List.getElem?_eq_some_iff.1 hx
    obtain ⟨hb, hye⟩ := List.getElem?_eq_some_iff.1 hy
    have := (List.pairwise_iff_getElem.1 ho) (j - 1) j hb ha (by omega)
    rw [hxe, hye] at this
    exact this
  · have : o[j]? = some x := by rw [← hs, List.getElem?_append_left hj] at hx; exact hx
    refine ⟨this, ?_⟩
    have hm := List.mem_of_getElem? this
    rw [← h1] at hm
    simpa using (List.mem_filter.1 hm).2
  · have : r[j - o.length]? = some x := by rw [← hs, List.getElem?_append_right (by omega)] at hx; exact hx
    refine ⟨this, ?_⟩
    have hm := List.mem_of_getElem? this
    rw [← h2] at hm
    simpa using (List.mem_filter.1 hm).2

set_option maxHeartbeats 4000000 in
set_option maxRecDepth 100000 in
theorem fires_walk (I : Clk) (A : Option Addr) (len cap : Nat) (zs : List (Int × Int × Int)) (t : Int) (w : World) (hlen : len ≤ 9223372036854775807) (ht : In64 t)
    (hz : len ≤ 1000000 → zs.length = len ∧ RdL actE w (fun b => b < w.heap.size) (.slice A len cap) zs ∧ ∀ z ∈ zs, ActIn z) :
    Calls Try.prog 4 #[.slice A len cap, .int .i64 t] w fun e w' => e = .returned (.bool true) ∧ Below w.heap.size w w' := by
  have HZ := Lib.hid hz
  have HT := Lib.hid ht
  clear hz ht
  by_cases h120 : len ≤ 120
  · obtain ⟨hzl, hzr, hzo⟩ := HZ.out (by omega)
    have HZL := Lib.hid hzl
    have HZR := Lib.hid hzr
    have HZO := Lib.hid hzo
    clear hzl hzr hzo HZ
    go_enter Try.func4, Try.ntmps4
    go_wp2_with fail
    refine (awake_any I _).mono ?_
    rintro e w1 ⟨rfl, hb1⟩
    have S1 := Lib.hid ((Sep.nil (fun _ => False) w).next hb1)
    clear hb1
    go_wp2_with fail
    refine (c_new S1.out I 40 (by omega) (by omega)).mono ?_
    rintro e w2 ⟨a, rfl, h2⟩
    have S2 := Lib.hid h2
    clear h2 S1
    go_wp2
    go_loopw [28, 8] (fun u _ wr => ∃ j : Nat, j ≤ len ∧ u = .int .i64 j ∧ Hid (∃ (T C : Int) (L : List Ent), C ≤ (j : Int) ∧ Sep (fun _ => False) w wr [ck I (.pointer (some a)) T C L 40])) (fun u _ _ => len - (intOf u).toNat)
    case atStart => exact ⟨0, Nat.zero_le _, rfl, 0, 0, [], by omega, S2.out⟩
    case round =>
      obtain ⟨j, hj, rfl, HS⟩ := hrel
      obtain ⟨T, C, L, hCj, hS⟩ := HS.out
      have SL := Lib.hid hS
      clear HS hS S2
      by_cases hlt : j < len
      · have hx : zs[j]? = some (zs[j]'(by rw [HZL.out]; exact hlt)) := List.getElem?_eq_getElem _
        generalize zs[j]'(by rw [HZL.out]; exact hlt) = z at hx
        have HE := Lib.hid (HZO.out z (List.mem_of_getElem? hx))
        obtain ⟨bb, off, rfl, _, hbb, c0, c1, c2⟩ := act_cells HZR.out hx
        have hb := SL.out.old
        have q0 := (hb.cell (p := ⟨bb, off + j * 3, none⟩) hbb).trans c0
        have q1 := (hb.cell (p := ⟨bb, off + j * 3 + 1, none⟩) hbb).trans c1
        have q2 := (hb.cell (p := ⟨bb, off + j * 3 + 2, none⟩) hbb).trans c2
        obtain ⟨d, key, n⟩ := z
        have S4 := Lib.hid (SL.out.new (.cells #[.int .i64 d, .int .i64 key, .int .i64 n] 32))
        clear hx c0 c1 c2 hb SL
        go_wp2_with fail
        refine (c_do S4.out 1 rfl (by omega) d key n HE.out.1 HE.out.2).mono ?_
        rintro e w5 ⟨A5, c5, rfl, h5⟩
        have S6 : Hid (∃ (T C : Int) (L : List Ent), C ≤ ((j + 1 : Nat) : Int) ∧ Sep (fun _ => False) w w5 [ck I (.pointer (some a)) T C L 40]) := ⟨_, _, _, by have := aC_le (L := L) (M := 40) (C := C) (d := d) (key := key); omega, h5.tail.tail⟩
        clear h5 S4
        go_wp2
        go_roundw
        case rel => exact ⟨j + 1, by omega, by go_num, S6⟩
        case measure => simp [intOf]; omega
      · have HOK := Lib.hid (c_ok SL.out 0 rfl)
        obtain ⟨T1, hT1⟩ : ∃ T1, toT T t = T1 := ⟨_, rfl⟩
        have hT2 : toT T1 t = T1 := by rw [← hT1]; exact toT_again T t
        have hTm : (if t > T then t else T) = T1 := by rw [← hT1]; unfold toT; rfl
        have KT1 := Lib.hid hT1
        have KT2 := Lib.hid hT2
        have hlL : L.length ≤ 1000 := HOK.out.len
        have hl1 := List.length_filter_le (fun y : Ent => decide (y.at_ ≤ T1)) L
        have hl2 := List.length_filter_le (fun y : Ent => decide (T1 < y.at_)) L
        have hsum : (L.filter (fun y => decide (y.at_ ≤ T1))).length + (L.filter (fun y => decide (T1 < y.at_))).length = L.length := by rw [← List.length_append, split_at T1 HOK.out.order]
        have KN := Lib.hid (again_none (T := T1) L)
        have KL : Hid (∀ j x, L[j]? = some x → At T1 L (L.filter (fun y => decide (y.at_ ≤ T1))) (L.filter (fun y => decide (T1 < y.at_))) j x) := fun j x hx => at_of HOK.out.order rfl rfl hx
        clear hT1 hT2
        generalize ho : L.filter (fun y => decide (y.at_ ≤ T1)) = o at *
        generalize hr : L.filter (fun y => decide (T1 < y.at_)) = r at *
        have Ko := Lib.hid ho
        have Kr := Lib.hid hr
        clear ho hr
        go_wp2_with fail
        refine (c_alarms SL.out 0 rfl).mono ?_
        rintro e w5 ⟨A5, c5, rfl, h5, r5⟩
        have S5 := Lib.hid h5
        have R5 := Lib.hid r5
        clear h5 r5 SL
        go_wp2_with fail
        refine (c_own S5.out R5.out (by omega)).mono ?_
        rintro e w6 ⟨A6, c6, rfl, h6⟩
        have S6 := Lib.hid h6
        clear h6 S5 R5
        go_wp2_with fail
        refine (c_now S6.out 1 rfl).mono ?_
        rintro e w7 ⟨rfl, h7⟩
        have S7 := Lib.hid h7
        clear h7 S6
        go_wp2_with fail
        refine (c_to S7.out 1 rfl t HT.out KT1.out Ko.out Kr.out).mono ?_
        rintro e w8 ⟨A8, c8, rfl, h8⟩
        have S8 := Lib.hid h8
        have R8 := Lib.hid (h8.rdL 0 rfl)
        clear h8 S7
        go_wp2_with fail
        refine (c_own S8.out R8.out (by omega)).mono ?_
        rintro e w9 ⟨A9, c9, rfl, h9⟩
        have S9 := Lib.hid h9.swap.tail
        clear h9 S8 R8
        go_wp2_with fail
        refine (c_alarms S9.out 2 rfl).mono ?_
        rintro e w10 ⟨A10, c10, rfl, h10, r10⟩
        have S10 := Lib.hid h10
        have R10 := Lib.hid r10
        clear h10 r10 S9
        go_wp2_with fail
        refine (c_own S10.out R10.out (by omega)).mono ?_
        rintro e w11 ⟨A11, c11, rfl, h11⟩
        have S11 := Lib.hid h11
        clear h11 S10 R10
        go_wp2_with fail
        refine (c_now S11.out 3 rfl).mono ?_
        rintro e w12 ⟨rfl, h12⟩
        have S12 := Lib.hid h12
        have RA := Lib.hid ((h12.own 2 rfl).rd (G := fun _ => True) (by omega) fun _ _ => trivial)
        have RO := Lib.hid ((h12.own 1 rfl).rd (G := fun _ => True) (by omega) fun _ _ => trivial)
        have RR := Lib.hid ((h12.own 0 rfl).rd (G := fun _ => True) (by omega) fun _ _ => trivial)
        clear h12 S11
        have hTT : (T1 != T1) = false := by simp
        have hs0 : ((o.length : Int) + (r.length : Int) != (L.length : Int)) = false := by simp; omega
        go_wp2
        clear hs0
        obtain ⟨F, hA⟩ := S12.out.get 3 rfl
        have HA : Hid (I.A w12 (.pointer (some a)) F T1 C r 40) := hA
        clear hA
        go_loopw [66, 13, 14] (fun u _ _ wr => ∃ k : Nat, k ≤ L.length ∧ u = .int .i64 k ∧ Hid (Below w12.heap.size w12 wr)) (fun u _ _ _ => L.length - (intOf u).toNat)
        case atStart => exact ⟨0, Nat.zero_le _, rfl, Below.refl _ _⟩
        case round => as_aux_lemma =>
          obtain ⟨k, hk, rfl, HB⟩ := hrel
          by_cases hlk : k < L.length
          · have hx : L[k]? = some L[k] := List.getElem?_eq_getElem hlk
            generalize L[k] = x at hx
            have HAT := Lib.hid (KL.out k x hx)
            obtain ⟨b, off, rfl, _, hb, c0, c1, c2⟩ := ent_cells RA.out hx
            have q0 := (HB.out.cell (p := ⟨b, off + k * 3, none⟩) hb).trans c0
            have q1 := (HB.out.cell (p := ⟨b, off + k * 3 + 1, none⟩) hb).trans c1
            have q2 := (HB.out.cell (p := ⟨b, off + k * 3 + 2, none⟩) hb).trans c2
            have HB2 : Hid (Below w12.heap.size w12 (wr.alloc (.cells #[.int .i64 x.id, .int .i64 x.at_, .int .i64 x.seq] 51))) := HB.out.alloc HB.out.size _
            obtain ⟨z0, z1, z2⟩ := ent_blk (heap_alloc_new wr (.cells #[.int .i64 x.id, .int .i64 x.at_, .int .i64 x.seq] 51))
            have hgl : wr.heap.size < (wr.alloc (.cells #[.int .i64 x.id, .int .i64 x.at_, .int .i64 x.seq] 51)).heap.size := by simp
            go_upto_region 21 with (fail)
            clear q0 q1 q2 c0 c1 c2
            generalize wr.alloc (.cells #[.int .i64 x.id, .int .i64 x.at_, .int .i64 x.seq] 51) = W0 at *
            generalize wr.heap.size = g at *
            go_cut [71] (fun s71 wx => s71 = .bool false ∧ Hid (Below W0.heap.size W0 wx))
            case first => as_aux_lemma =>
              rcases Nat.eq_zero_or_pos k with rfl | hpos
              · go_quiet (fail)
                go_wp2_with fail
                go_meet
                exact ⟨rfl, below_drewN (Below.refl _ _) _⟩
              · obtain ⟨m, rfl⟩ : ∃ m, k = m + 1 := ⟨k - 1, by omega⟩
                have hy : L[m]? = some (L[m]'(by omega)) := List.getElem?_eq_getElem _
                generalize L[m]'_ = y at hy
                have hyx := HAT.out.prev y (by omega) hy
                obtain ⟨b', off', heq, _, _, d0, d1, d2⟩ := ent_cells RA.out hy
                obtain ⟨rfl, rfl⟩ : b = b' ∧ off = off' := by injection heq with h1; injection h1 with h2 h3; exact ⟨h2, h3⟩
                have p1 := (HB2.out.cell (p := ⟨b, off + m * 3 + 1, none⟩) hb).trans d1
                have p2 := (HB2.out.cell (p := ⟨b, off + m * 3 + 2, none⟩) hb).trans d2
                clear d0 d1 d2 heq
                have ii0 : (0 : Int) ≤ (m : Int) := by omega
                have ii1 : (m : Int) < (L.length : Int) := by omega
                have ii2 : ((m + 1 : Nat) : Int) - 1 = (m : Int) := by omega
                have ii3 : decide (((m + 1 : Nat) : Int) > 0) = true := decide_eq_true (by omega)
                have ii4 : decide ((0 : Int) < ((m + 1 : Nat) : Int)) = true := decide_eq_true (by omega)
                have e1 : decide (x.at_ < y.at_) = false := decide_eq_false (by omega)
                rcases hyx with hyx | ⟨hyx, hsx⟩
                · have e2 : (y.at_ == x.at_) = false := by simp; omega
                  clear hyx
                  go_quiet (fail)
                  go_wp2_with fail
                  go_meet
                  exact ⟨rfl, below_drewN (Below.refl _ _) _⟩
                · have e2 : (y.at_ == x.at_) = true := by simp; omega
                  have e3 : decide (x.seq ≤ y.seq) = false := decide_eq_false (by omega)
                  clear hyx hsx
                  go_quiet (fail)
                  go_wp2_with fail
                  go_meet
                  exact ⟨rfl, below_drewN (Below.refl _ _) _⟩
            case rest => as_aux_lemma =>
              obtain ⟨rfl, HB3⟩ := hcut
              have FK : Hid (∀ Q, Below W0.heap.size W0 Q → (Q.cell? ⟨g, 0, none⟩ = some (.int .i64 x.id) ∧ Q.cell? ⟨g, 1, none⟩ = some (.int .i64 x.at_) ∧ Q.cell? ⟨g, 2, none⟩ = some (.int .i64 x.seq))) := fun Q hq => ⟨(hq.cell (p := ⟨g, 0, none⟩) hgl).trans z0, (hq.cell (p := ⟨g, 1, none⟩) hgl).trans z1, (hq.cell (p := ⟨g, 2, none⟩) hgl).trans z2⟩
              have HA0 : Hid (I.A W0 (.pointer (some a)) F T1 C r 40) := I.keep HA.out HB2.out.size fun k hk _ => HB2.out.block k hk
              obtain ⟨k0, k1, k2⟩ := FK.out _ HB3.out
              have hnx := fun W => run_neq_self W x
              have hgu := entGuard
              clear z0 z1 z2
              by_cases hko : k < o.length
              · obtain ⟨hox, hle⟩ := HAT.out.out hko
                obtain ⟨b2, off2, rfl, _, hb2, d0, d1, d2⟩ := ent_cells RO.out hox
                have hb3 : b2 < W0.heap.size := Nat.lt_of_lt_of_le hb2 HB2.out.size
                have FK2 : Hid (∀ Q, Below W0.heap.size W0 Q → (Q.cell? ⟨b2, off2 + k * 3, none⟩ = some (.int .i64 x.id) ∧ Q.cell? ⟨b2, off2 + k * 3 + 1, none⟩ = some (.int .i64 x.at_) ∧ Q.cell? ⟨b2, off2 + k * 3 + 2, none⟩ = some (.int .i64 x.seq) ∧ Q.cell? ⟨g, 0, none⟩ = some (.int .i64 x.id) ∧ Q.cell? ⟨g, 1, none⟩ = some (.int .i64 x.at_) ∧ Q.cell? ⟨g, 2, none⟩ = some (.int .i64 x.seq))) := fun Q hq => ⟨(hq.cell (p := ⟨b2, off2 + k * 3, none⟩) hb3).trans ((HB2.out.cell (p := ⟨b2, off2 + k * 3, none⟩) hb2).trans d0), (hq.cell (p := ⟨b2, off2 + k * 3 + 1, none⟩) hb3).trans ((HB2.out.cell (p := ⟨b2, off2 + k * 3 + 1, none⟩) hb2).trans d1), (hq.cell (p := ⟨b2, off2 + k * 3 + 2, none⟩) hb3).trans ((HB2.out.cell (p := ⟨b2, off2 + k * 3 + 2, none⟩) hb2).trans d2), (FK.out Q hq).1, (FK.out Q hq).2.1, (FK.out Q hq).2.2⟩
                have e1 : decide ((k : Int) < (o.length : Int)) = true := decide_eq_true (by omega)
                have e2 : decide ((o.length : Int) ≤ (k : Int)) = false := decide_eq_false (by omega)
                have e4 : decide (o.length ≤ k) = false := decide_eq_false (by omega)
                have e5 : decide ((k : Int) ≥ (o.length : Int)) = false := decide_eq_false (by omega)
                have e3 : decide (T1 < x.at_) = false := decide_eq_false (by omega)
                have ii0 : (0 : Int) ≤ (k : Int) := by omega
                have ii1 : (k : Int) < (o.length : Int) := by omega
                clear d0 d1 d2 hox k0 k1 k2
                go_upto_region 23 with (fail)
                have HB5 : Hid (Below W0.heap.size W0 wc.drew) := HB3.out.drew
                go_cut [107] (fun sx wx => sx = .bool false ∧ Hid (Below W0.heap.size W0 wx))
                case first => as_aux_lemma =>
                  obtain ⟨p0, p1, p2, k0, k1, k2⟩ := FK2.out _ HB5.out
                  go_region_held3 (fun Q => Q.cell? ⟨b2, off2 + k * 3, none⟩ = some (.int .i64 x.id) ∧ Q.cell? ⟨b2, off2 + k * 3 + 1, none⟩ = some (.int .i64 x.at_) ∧ Q.cell? ⟨b2, off2 + k * 3 + 2, none⟩ = some (.int .i64 x.seq) ∧ Q.cell? ⟨g, 0, none⟩ = some (.int .i64 x.id) ∧ Q.cell? ⟨g, 1, none⟩ = some (.int .i64 x.at_) ∧ Q.cell? ⟨g, 2, none⟩ = some (.int .i64 x.seq)) (go_keep)
                    (first | (go_at_call 17; (with_reducible refine (l_now HA0.out HB5.out).mono ?_); rintro e w11 ⟨rfl, hb11⟩; have HB5 := Lib.hid hb11; obtain ⟨p0, p1, p2, k0, k1, k2⟩ := FK2.out _ hb11; clear hb11))
                  go_wp2_with fail
                  go_meet
                  exact ⟨rfl, HB5⟩
                case rest => as_aux_lemma =>
                  obtain ⟨rfl, HB6⟩ := hcut
                  clear HB5 HB3
                  go_upto_region 25 with (fail)
                  go_quiet (fail)
                  go_wp2
                  go_roundw
                  case rel => exact ⟨k + 1, by omega, by go_num, below_drewN (HB2.out.trans (HB6.out.mono HB2.out.size)) _⟩
                  case measure => simp [intOf]; omega
              · obtain ⟨hox, hle⟩ := HAT.out.left hko
                obtain ⟨q, hq⟩ : ∃ q, k - o.length = q := ⟨_, rfl⟩
                rw [hq] at hox
                obtain ⟨b2, off2, rfl, _, hb2, d0, d1, d2⟩ := ent_cells RR.out hox
                have hqr : q < r.length := (List.getElem?_eq_some_iff.1 hox).1
                have hb3 : b2 < W0.heap.size := Nat.lt_of_lt_of_le hb2 HB2.out.size
                have FK2 : Hid (∀ Q, Below W0.heap.size W0 Q → (Q.cell? ⟨b2, off2 + q * 3, none⟩ = some (.int .i64 x.id) ∧ Q.cell? ⟨b2, off2 + q * 3 + 1, none⟩ = some (.int .i64 x.at_) ∧ Q.cell? ⟨b2, off2 + q * 3 + 2, none⟩ = some (.int .i64 x.seq) ∧ Q.cell? ⟨g, 0, none⟩ = some (.int .i64 x.id) ∧ Q.cell? ⟨g, 1, none⟩ = some (.int .i64 x.at_) ∧ Q.cell? ⟨g, 2, none⟩ = some (.int .i64 x.seq))) := fun Q hq => ⟨(hq.cell (p := ⟨b2, off2 + q * 3, none⟩) hb3).trans ((HB2.out.cell (p := ⟨b2, off2 + q * 3, none⟩) hb2).trans d0), (hq.cell (p := ⟨b2, off2 + q * 3 + 1, none⟩) hb3).trans ((HB2.out.cell (p := ⟨b2, off2 + q * 3 + 1, none⟩) hb2).trans d1), (hq.cell (p := ⟨b2, off2 + q * 3 + 2, none⟩) hb3).trans ((HB2.out.cell (p := ⟨b2, off2 + q * 3 + 2, none⟩) hb2).trans d2), (FK.out Q hq).1, (FK.out Q hq).2.1, (FK.out Q hq).2.2⟩
                have e1 : decide ((k : Int) < (o.length : Int)) = false := decide_eq_false (by omega)
                have e2 : decide ((o.length : Int) ≤ (k : Int)) = true := decide_eq_true (by omega)
                have e4 : decide (o.length ≤ k) = true := decide_eq_true (by omega)
                have e3 : decide (x.at_ ≤ T1) = false := decide_eq_false (by omega)
                have ii0 : (0 : Int) ≤ (q : Int) := by omega
                have ii1 : (q : Int) < (r.length : Int) := by omega
                have ii2 : (k : Int) - (o.length : Int) = (q : Int) := by omega
                have ii3 : IntKind.i64.wrap ((k : Int) - (o.length : Int)) = (q : Int) := by rw [ii2]; exact IntWalk.i64_in _ (by omega)
                have ii4 : IntKind.i64.wrap (q : Int) = (q : Int) := IntWalk.i64_in _ (by omega)
                clear ii2
                clear d0 d1 d2 hox k0 k1 k2
                go_upto_region 23 with (fail)
                go_quiet (fail)
                go_upto_region 25 with (fail)
                have HB4 := Lib.hid (below_drewN HB3.out nq)
                clear HB3
                generalize wc.drewN nq = wd at *
                have HB5 : Hid (Below W0.heap.size W0 wd.drew) := HB4.out.drew
                go_cut [127] (fun sx wx => sx = .bool false ∧ Hid (Below W0.heap.size W0 wx))
                case first => as_aux_lemma =>
                  obtain ⟨p0, p1, p2, k0, k1, k2⟩ := FK2.out _ HB5.out
                  go_region_held3 (fun Q => Q.cell? ⟨b2, off2 + q * 3, none⟩ = some (.int .i64 x.id) ∧ Q.cell? ⟨b2, off2 + q * 3 + 1, none⟩ = some (.int .i64 x.at_) ∧ Q.cell? ⟨b2, off2 + q * 3 + 2, none⟩ = some (.int .i64 x.seq) ∧ Q.cell? ⟨g, 0, none⟩ = some (.int .i64 x.id) ∧ Q.cell? ⟨g, 1, none⟩ = some (.int .i64 x.at_) ∧ Q.cell? ⟨g, 2, none⟩ = some (.int .i64 x.seq)) (go_keep)
                    (first | (go_at_call 17; (with_reducible refine (l_now HA0.out HB5.out).mono ?_); rintro e w11 ⟨rfl, hb11⟩; have HB5 := Lib.hid hb11; obtain ⟨p0, p1, p2, k0, k1, k2⟩ := FK2.out _ hb11; clear hb11))
                  go_wp2_with fail
                  go_meet
                  exact ⟨rfl, HB5⟩
                case rest => as_aux_lemma =>
                  obtain ⟨rfl, HB6⟩ := hcut
                  clear HB5 HB4
                  go_wp2
                  go_roundw
                  case rel => exact ⟨k + 1, by omega, by go_num, HB2.out.trans (HB6.out.mono HB2.out.size)⟩
                  case measure => simp [intOf]; omega
          · go_wp2_with fail
            refine (c_to (S12.out.next HB.out) 3 rfl t HT.out KT2.out KN.out rfl).mono ?_
            rintro e w13 ⟨A13, c13, rfl, h13⟩
            have HE := Lib.hid h13.old
            clear h13
            go_wp2
            go_ret
            exact ⟨rfl, HE.out⟩
  · go_enter Try.func4, Try.ntmps4
    go_wp2_with fail
    refine (awake_any I _).mono ?_
    rintro e w1 ⟨rfl, hb1⟩
    have HB := Lib.hid hb1
    clear hb1
    go_wp2
    go_ret
    exact ⟨rfl, HB.out⟩
end Go.Proofs.Ytpoolfnfboohjaa.TimerI
