/-
  The walk of the law FlightDoes over any package that meets 'Fl'. Condition: what the arguments read as.
-/
import Derived.Test.YtbkeodjebfkkdaaFlightM
import Derived.Test.YtbkeodjebfkkdaaActs3
import Derived.Deep.DeepCutAuto
import Derived.Deep.CutBlock
namespace Go.Proofs.Ytbkeodjebfkkdaa.FlightI
open Go.ChangeShapes Go.WideShapes Go.ChangeAt Go.RowKit Mem MutP FlightP Hand RefMut RefFlight Acts3

section
variable {B : Nat → Prop} {w wk : World} {Rs : List Res} {p : Nat} {s : St}
/-- The call of a key, as the reference keeps it. -/
theorem key_at (h : Sep B w wk (rt p s :: Rs)) {k : Int} (hk : anyK s.L k = true) : ∃ (i n b z : Nat), placeI s.L (atK s.L k) = i ∧ i < n ∧ n ≤ 1000 ∧ wk.cell? ⟨p, 0, none⟩ = some (.slice (some ⟨b, 0, none⟩) n z) ∧ wk.cell? ⟨b, i * 4, none⟩ = some (.int .i64 (leaderK s.L k)) := by
  obtain ⟨A, z, ps, hs, hok, he⟩ := rt_open h
  obtain ⟨LA, c, LB, e4, hc, hA, hB⟩ := hok.split_key hk
  have hlen := len_L hok
  have hE : placeI s.L (atK s.L k) = LA.length := by unfold atK; rw [e4]; exact place_cut (by unfold isK; rw [hc.1, hc.2]; simp) hA
  have hV : leaderK s.L k = c.t := by rw [e4]; exact leader_at hc hA
  have he2 := he
  rw [e4] at he2
  obtain ⟨PA, q, PB, hps, rfl, rfl, rfl⟩ := cut_at he2
  have hq : ps[PA.length]? = some q := by rw [hps]; simp
  have hl : ps.length ≤ 1000 := by rw [← he, List.length_map] at hlen; exact hlen
  obtain ⟨b, rfl, _, _, ⟨q0, _⟩, _⟩ := rto_at hs hq
  rw [List.length_map] at hE
  exact ⟨PA.length, ps.length, b, z, hE, (List.getElem?_eq_some_iff.1 hq).1, hl, (rto_cs hs).1, by rw [hV]; exact q0⟩
/-- The call that one leads, as the reference keeps it. -/
theorem led_at (h : Sep B w wk (rt p s :: Rs)) {t : Int} (ht : leadsB s.L t = true) : ∃ (i n b z : Nat) (A : Option Addr) (c : Nat), placeI s.L (atT s.L t) = i ∧ i < n ∧ n ≤ 1000 ∧ wk.cell? ⟨p, 0, none⟩ = some (.slice (some ⟨b, 0, none⟩) n z) ∧ wk.cell? ⟨b, i * 4 + 1, none⟩ = some (.int .i64 (leadsK s.L t)) ∧ wk.cell? ⟨b, i * 4 + 3, none⟩ = some (.slice A (joinedL s.L t).length c) ∧ Rd wk (fun _ => True) (.slice A (joinedL s.L t).length c) (joinedL s.L t) := by
  obtain ⟨A, z, ps, hs, hok, he⟩ := rt_open h
  obtain ⟨LA, c, LB, e4, hc, hA, hB⟩ := hok.split_lead ht
  have hlen := len_L hok
  have hE : placeI s.L (atT s.L t) = LA.length := by unfold atT; rw [e4]; exact place_cut (by unfold isT; simpa using hc) hA
  obtain ⟨hV, hK⟩ : joinedL s.L t = c.j ∧ leadsK s.L t = c.k := by rw [e4]; exact lead_at hc hA
  have he2 := he
  rw [e4] at he2
  obtain ⟨PA, q, PB, hps, rfl, rfl, rfl⟩ := cut_at he2
  have hq : ps[PA.length]? = some q := by rw [hps]; simp
  have hl : ps.length ≤ 1000 := by rw [← he, List.length_map] at hlen; exact hlen
  obtain ⟨b, rfl, _, _, ⟨_, q1, _, q3⟩, _⟩ := rto_at hs hq
  rw [List.length_map] at hE
  rw [hV, hK]
  exact ⟨PA.length, ps.length, b, z, q.A, q.z, hE, (List.getElem?_eq_some_iff.1 hq).1, hl, (rto_cs hs).1, q1, q3, rto_rd hs hq⟩
theorem l_same2 {wq Q : World} {u u' : Value} {l : List Int} (hu : Rd wq (fun _ => True) u l) (hu' : Rd wq (fun _ => True) u' l) (hb : Below wq.heap.size wq Q) :
    Calls Try.prog 15 #[u, u'] Q fun e w' => e = .returned (.bool true) ∧ Below wq.heap.size wq w' := by
  refine (SameI.same_any (hu.below hb) (hu'.below hb)).mono ?_
  rintro e w' ⟨rfl, n, rfl⟩
  exact ⟨by simp, below_drewN hb n⟩
end

set_option maxHeartbeats 1000000 in
set_option maxRecDepth 100000 in
/-- What is too large, or no size that may be. -/
theorem does_easy (I : Fl) (n : Int) (A : Option Addr) (len cap : Nat) (w : World) (hn : In64 n) (hlen : len ≤ 9223372036854775807) (hno : ¬ (1 ≤ n ∧ n ≤ 12 ∧ len ≤ 100)) :
    Calls Try.prog 3 #[.int .i64 n, .slice A len cap] w fun e w' => e = .returned (.bool true) ∧ Below w.heap.size w w' := by
  have HN := Lib.hid hn
  clear hn
  rcases (by omega : (12 < n ∧ n ≤ 1000) ∨ ((n ≤ 12 ∨ 1000 < n) ∧ 100 < len) ∨ (n < 1 ∧ len ≤ 100) ∨ (1000 < n ∧ len ≤ 100)) with ⟨h1, h2⟩ | ⟨h1 | h1, h2⟩ | ⟨h1, h2⟩ | ⟨h1, h2⟩
  · go_enter Try.func3, Try.ntmps3
    go_wp2_with fail
    refine (awake_any I _).mono ?_
    rintro e w1 ⟨rfl, hb1⟩
    have HB := Lib.hid hb1
    clear hb1
    go_wp2
    go_ret
    exact ⟨rfl, HB.out⟩
  · go_enter Try.func3, Try.ntmps3
    go_wp2_with fail
    refine (awake_any I _).mono ?_
    rintro e w1 ⟨rfl, hb1⟩
    have HB := Lib.hid hb1
    clear hb1
    go_wp2
    go_ret
    exact ⟨rfl, HB.out⟩
  · go_enter Try.func3, Try.ntmps3
    go_wp2_with fail
    refine (awake_any I _).mono ?_
    rintro e w1 ⟨rfl, hb1⟩
    have HB := Lib.hid hb1
    clear hb1
    go_wp2
    go_ret
    exact ⟨rfl, HB.out⟩
  all_goals
    have hq : n < 1 ∨ 1000 < n := by omega
    have HQ := Lib.hid hq
    clear hq hno
    go_enter Try.func3, Try.ntmps3
    go_wp2_with fail
    refine (awake_any I _).mono ?_
    rintro e w1 ⟨rfl, hb1⟩
    have HB := Lib.hid hb1
    clear hb1
    go_wp2_with fail
    refine (I.new_no n _ HN.out HQ.out).mono ?_
    rintro e w3 ⟨rfl, hb3⟩
    have HB3 : Hid (Below w.heap.size w w3) := HB.out.trans (hb3.mono HB.out.size)
    clear hb3
    go_wp2_with fail
    refine (newG_no n _ HQ.out).mono ?_
    rintro e w4 ⟨rfl, rfl⟩
    go_wp2
    go_ret
    exact ⟨rfl, HB3.out⟩

set_option maxHeartbeats 2000000 in
set_option maxRecDepth 100000 in
theorem does_main (I : Fl) (n : Int) (A : Option Addr) (len cap : Nat) (zs : List Ac) (w : World) (hz : ZsIn w A len cap zs) (h1 : 1 ≤ n) (h2 : n ≤ 12) (h60 : len ≤ 100) :
    Calls Try.prog 3 #[.int .i64 n, .slice A len cap] w fun e w' => e = .returned (.bool true) ∧ Below w.heap.size w w' := by
  obtain ⟨hzl, hzr, hzo⟩ := hz (by omega)
  subst hzl
  have HZR := Lib.hid hzr
  have HZO := Lib.hid hzo
  clear hzr hzo hz
  go_enter Try.func3, Try.ntmps3
  go_wp2_with fail
  refine (awake_any I _).mono ?_
  rintro e w1 ⟨rfl, hb1⟩
  have S1 := Lib.hid ((Sep.nil (fun _ => False) w).next hb1)
  clear hb1
  go_wp2_with fail
  refine (m_new S1.out I n (by omega) (by omega)).mono ?_
  rintro e w2 ⟨a, rfl, h2'⟩
  have S2 := Lib.hid h2'
  clear h2' S1
  go_wp2_with fail
  refine (newG_s S2.out n (by omega) (by omega)).mono ?_
  rintro e w3 ⟨p, rfl, h3⟩
  have S3 := Lib.hid h3
  clear h3 S2
  go_wp2
  go_loopw [65] (fun u wr => ∃ j : Nat, j ≤ zs.length ∧ u = .int .i64 j ∧ Hid (∃ s : St, Sep (fun _ => False) w wr [rt p s, ob I.O (.pointer (some a)) s])) (fun u _ => zs.length - (intOf u).toNat)
  case atStart => exact ⟨0, Nat.zero_le _, rfl, _, S3.out⟩
  case round =>
    obtain ⟨j, hj, rfl, HS⟩ := hrel
    obtain ⟨s, hS⟩ := HS.out
    have SL := Lib.hid hS
    clear HS hS S3
    by_cases hlt : j < zs.length
    · have hx : zs[j]? = some zs[j] := List.getElem?_eq_getElem hlt
      generalize zs[j] = z at hx
      obtain ⟨hd64, ht64, hk64⟩ := HZO.out z (List.mem_of_getElem? hx)
      obtain ⟨bb, off, rfl, hbb, c0, c1, c2⟩ := ac_cells HZR.out hx
      have hb := SL.out.old
      have q0 := (hb.cell (p := ⟨bb, off + j * 3, none⟩) hbb).trans c0
      have q1 := (hb.cell (p := ⟨bb, off + j * 3 + 1, none⟩) hbb).trans c1
      have q2 := (hb.cell (p := ⟨bb, off + j * 3 + 2, none⟩) hbb).trans c2
      obtain ⟨d, t, k⟩ := z
      simp only at q0 q1 q2 ht64 hk64
      have S4 := Lib.hid (SL.out.new (.cells #[.int .i64 d, .int .i64 t, .int .i64 k] 32))
      have HT64 := Lib.hid ht64
      have HK64 := Lib.hid hk64
      clear hx c0 c1 c2 hb SL hd64 ht64 hk64
      obtain ⟨V, hV⟩ : ∃ V, actV s d t k = V := ⟨_, rfl⟩
      obtain ⟨E, hE⟩ : ∃ E, actE s d t = E := ⟨_, rfl⟩
      obtain ⟨Bo, hBo⟩ : ∃ Bo, actB s d t k = Bo := ⟨_, rfl⟩
      obtain ⟨L2, hL2⟩ : ∃ L2, actL s d t = L2 := ⟨_, rfl⟩
      obtain ⟨s2, hs2⟩ : ∃ s2, actS s d t k = s2 := ⟨_, rfl⟩
      have KV := Lib.hid hV
      have KE := Lib.hid hE
      have KB := Lib.hid hBo
      have KL := Lib.hid hL2
      have KS := Lib.hid hs2
      clear hV hE hBo hL2 hs2
      go_wp2_with fail
      refine (m_do S4.out 2 rfl d t k HT64.out HK64.out KV.out KB.out KL.out rfl KE.out KS.out).mono ?_
      rintro e w5 ⟨Ao, co, rfl, h5⟩
      have S6 : Hid (Sep (fun _ => False) w (w5.alloc (.cells #[] 3)) [rt p s, blk wr.heap.size (.cells #[.int .i64 d, .int .i64 t, .int .i64 k] 32), nums (.slice Ao L2.length co) L2, ob I.O (.pointer (some a)) s2]) := Sep.next (Sep.perm h5 (by exact ((List.Perm.swap ..).trans (List.Perm.cons _ (List.Perm.swap ..))).trans (List.Perm.swap ..))) (new_below0 _ _)
      have a0 : (w5.alloc (.cells #[] 3)).cell? ⟨wr.heap.size, 0, none⟩ = some (.int .i64 d) := (cell_block (S6.out.blk_at 1 rfl) 0).trans rfl
      have a1 : (w5.alloc (.cells #[] 3)).cell? ⟨wr.heap.size, 1, none⟩ = some (.int .i64 t) := (cell_block (S6.out.blk_at 1 rfl) 1).trans rfl
      have a2 : (w5.alloc (.cells #[] 3)).cell? ⟨wr.heap.size, 2, none⟩ = some (.int .i64 k) := (cell_block (S6.out.blk_at 1 rfl) 2).trans rfl
      clear h5 S4 q0 q1 q2
      go_upto_block 2 with (fail)
      go_cut [15, 16, 17, 18] (fun s15 s16 s17 s18 wx => s15 = .int .i64 V ∧ s16 = .bool Bo ∧ s18 = .int .i64 E ∧ Hid (∃ A16 c16, s17 = .slice A16 L2.length c16 ∧ Rd wx (fun _ => True) (.slice A16 L2.length c16) L2 ∧ Sep (fun _ => False) w wx [rt p s2, blk wr.heap.size (.cells #[.int .i64 d, .int .i64 t, .int .i64 k] 32), nums (.slice Ao L2.length co) L2, ob I.O (.pointer (some a)) s2]))
      case first => as_aux_lemma =>
        rcases (by omega : d = 0 ∨ d = 1 ∨ d = 2 ∨ d = 3 ∨ (d ≠ 0 ∧ d ≠ 1 ∧ d ≠ 2 ∧ d ≠ 3)) with rfl | rfl | rfl | rfl | ⟨d0, d1, d2, d3⟩
        · have hV : Hid (doV s t k = V) := KV.out
          have hE : Hid (doE s t = E) := KE.out
          have hB : Hid (false = Bo) := KB.out
          have hL : Hid ([] = L2) := KL.out
          have hS : Hid (doS s t k = s2) := KS.out
          go_wp2_with fail
          refine (do_s S6.out t k HK64.out).mono ?_
          rw [hE.out, hV.out, hS.out]
          rintro e w7 ⟨rfl, h7⟩
          have S7 := Lib.hid h7
          clear h7
          go_wp2
          go_meet
          obtain rfl := hL.out
          exact ⟨rfl, by rw [← hB.out], rfl, _, _, rfl, Rd.nil _ _ _ _, S7.out⟩
        · have hV : Hid (0 = V) := KV.out
          have hE : Hid (finE s t = E) := KE.out
          have hB : Hid (false = Bo) := KB.out
          have hL : Hid (finL s t = L2) := KL.out
          have hS : Hid (finS s t = s2) := KS.out
          go_wp2_with fail
          refine (finish_s S6.out t).mono ?_
          rw [hE.out, hL.out, hS.out]
          rintro e w7 ⟨A7, c7, rfl, hr7, h7⟩
          have R7 := Lib.hid hr7
          have S7 := Lib.hid h7
          clear h7 hr7
          go_wp2
          go_meet
          exact ⟨by rw [← hV.out], by rw [← hB.out], rfl, _, _, rfl, R7.out, S7.out⟩
        · have hV : Hid (0 = V) := KV.out
          have hE : Hid (0 = E) := KE.out
          have hB : Hid (anyK s.L k = Bo) := KB.out
          have hL : Hid ([] = L2) := KL.out
          have hS : Hid (fgS s k = s2) := KS.out
          go_wp2_with fail
          refine (forget_s S6.out k).mono ?_
          rw [hB.out, hS.out]
          rintro e w7 ⟨rfl, h7⟩
          have S7 := Lib.hid h7
          clear h7
          go_wp2
          go_meet
          obtain rfl := hL.out
          exact ⟨by rw [← hV.out], rfl, by rw [← hE.out], _, _, rfl, Rd.nil _ _ _ _, S7.out⟩
        · have hV : Hid (0 = V) := KV.out
          have hE : Hid (0 = E) := KE.out
          have hB : Hid (waitsJ s.L t = Bo) := KB.out
          have hL : Hid ([] = L2) := KL.out
          have hS : Hid (lvS s t = s2) := KS.out
          go_wp2_with fail
          refine (leave_s S6.out t).mono ?_
          rw [hB.out, hS.out]
          rintro e w7 ⟨rfl, h7⟩
          have S7 := Lib.hid h7
          clear h7
          go_wp2
          go_meet
          obtain rfl := hL.out
          exact ⟨by rw [← hV.out], rfl, by rw [← hE.out], _, _, rfl, Rd.nil _ _ _ _, S7.out⟩
        · have hR : Hid (0 = V ∧ false = Bo ∧ [] = L2 ∧ 0 = E ∧ s = s2) := by
            obtain ⟨r0, r1, r2, r3, r4⟩ := act_no (s := s) (t := t) (k := k) d0 d1 d2 d3
            exact ⟨r0.symm.trans KV.out, r1.symm.trans KB.out, r2.symm.trans KL.out, r3.symm.trans KE.out, r4.symm.trans KS.out⟩
          have e0 : (d == 0) = false := by simpa using d0
          have e1 : (d == 1) = false := by simpa using d1
          have e2 : (d == 2) = false := by simpa using d2
          have e3 : (d == 3) = false := by simpa using d3
          clear d0 d1 d2 d3
          go_wp2
          go_meet
          obtain ⟨r0, r1, r2, r3, r4⟩ := hR.out
          refine ⟨by rw [← r0], by rw [← r1], by rw [← r3], ?_⟩
          have h := S6.out
          rw [← r2, ← r4] at h ⊢
          exact ⟨_, _, rfl, Rd.nil _ _ _ _, h⟩
      case rest => as_aux_lemma =>
        obtain ⟨rfl, rfl, rfl, hcut⟩ := hcut
        obtain ⟨A14, c14, rfl, h14, h7⟩ := hcut.out
        have R14 := Lib.hid h14
        have S7 := Lib.hid h7
        clear S6 a0 a1 a2 KV KE KB KL KS hcut h14 h7
        have a2 : wc.cell? ⟨wr.heap.size, 2, none⟩ = some (.int .i64 k) := (cell_block (S7.out.blk_at 1 rfl) 2).trans rfl
        go_upto_region 26 with (fail)
        obtain ⟨pv, hpv⟩ : ∃ pv, placeI s2.L (atK s2.L k) = pv := ⟨_, rfl⟩
        obtain ⟨Bk, hBk⟩ : ∃ Bk, anyK s2.L k = Bk := ⟨_, rfl⟩
        obtain ⟨LK, hLK⟩ : ∃ LK, leaderK s2.L k = LK := ⟨_, rfl⟩
        have HO := of_s S7.out k
        rw [hpv] at HO
        have HPO := Lib.hid HO
        have dk : decide (0 ≤ pv) = Bk := by
          subst hpv
          cases Bk with
          | true =>
            obtain ⟨i, _, _, _, hi, _⟩ := key_at S7.out hBk
            rw [hi]; exact decide_eq_true (by omega)
          | false => rw [show placeI s2.L (atK s2.L k) = -1 from place_no (any_no hBk)]; rfl
        have KPV := Lib.hid hpv
        have KBK := Lib.hid hBk
        have KLK := Lib.hid hLK
        clear HO hpv hBk hLK
        go_wp2_with fail
        refine HPO.out.mono ?_
        rintro e wv ⟨rfl, rfl⟩
        go_upto_if 117 with (fail)
        go_cut [19] (fun s19 wx => s19 = .int .i64 LK ∧ wx = wc)
        case first => as_aux_lemma =>
          cases Bk with
          | false =>
            have HLK : Hid (-1 = LK) := by show _ = _; rw [← KLK.out]; exact (leader_no KBK.out).symm
            go_wp2_with fail
            go_meet
            exact ⟨by rw [← HLK.out], rfl⟩
          | true =>
            obtain ⟨i, m, b, z, hi, him, hm, x0, q0⟩ := key_at S7.out KBK.out
            have hpi : pv = i := KPV.out.symm.trans hi
            subst hpi
            rw [KLK.out] at q0
            have i0 : (0 : Int) ≤ (i : Int) := by omega
            have i1 : (i : Int) < (m : Int) := by omega
            clear hi
            go_wp2_with fail
            go_meet
            exact ⟨rfl, rfl⟩
        case rest => as_aux_lemma =>
          obtain ⟨rfl, hwc⟩ := hcut
          subst hwc
          clear dk HPO
          have hVV : (V != V) = false := by simp
          have hEE : (E != E) = false := by simp
          have hBB : (Bo != Bo) = false := by simp
          have hLL : (LK != LK) = false := by simp
          go_wp2_with fail
          refine (l_same2 (S7.out.rd 2 rfl) R14.out (Below.refl _ _)).mono ?_
          rintro e w8 ⟨rfl, hb8⟩
          have S8 := Lib.hid (S7.out.next hb8)
          have a2 : w8.cell? ⟨wr.heap.size, 2, none⟩ = some (.int .i64 k) := (cell_block (S8.out.blk_at 1 rfl) 2).trans rfl
          clear S7 hb8 R14
          go_wp2_with fail
          refine (m_leader S8.out 3 rfl k HK64.out KLK.out).mono ?_
          rintro e w9 ⟨rfl, h9, _⟩
          have S9 : Hid (Sep (fun _ => False) w w9 [rt p s2, ob I.O (.pointer (some a)) s2]) := h9.sub (.cons_cons _ (.cons _ (.cons _ (List.Sublist.refl _))))
          clear S8 h9 a2 KPV KBK KLK
          go_wp2
          go_loopw [21] (fun u wr => ∃ x : Int, -1 ≤ x ∧ x ≤ n + 1 ∧ u = .int .i64 x ∧ Hid (Sep (fun _ => False) w wr [rt p s2, ob I.O (.pointer (some a)) s2])) (fun u _ => (n + 1 - intOf u).toNat)
          case atStart => exact ⟨-1, by omega, by omega, rfl, S9⟩
          case round =>
            obtain ⟨x, x0, x1, rfl, ST⟩ := hrel
            clear S9
            by_cases hxn : x ≤ n
            · have hx64 : Hid (In64 x) := ⟨by omega, by omega⟩
              obtain ⟨lk, hlk⟩ : ∃ lk, leadsK s2.L x = lk := ⟨_, rfl⟩
              obtain ⟨lb, hlb⟩ : ∃ lb, leadsB s2.L x = lb := ⟨_, rfl⟩
              obtain ⟨jv, hjv⟩ : ∃ jv, joinsT s2.L x = jv := ⟨_, rfl⟩
              obtain ⟨jl, hjl⟩ : ∃ jl, joinedL s2.L x = jl := ⟨_, rfl⟩
              have GK := Lib.hid hlk
              have GB := Lib.hid hlb
              have GV := Lib.hid hjv
              have GL := Lib.hid hjl
              clear hlk hlb hjv hjl
              go_wp2_with fail
              refine (m_leads ST.out 1 rfl x hx64.out GK.out GB.out).mono ?_
              rintro e w12 ⟨rfl, h12, _⟩
              have S12 : Hid (Sep (fun _ => False) w (w12.alloc (.cells #[] 3)) [rt p s2, ob I.O (.pointer (some a)) s2]) := h12.next (new_below0 _ _)
              clear h12 ST
              have HLE : Hid (lb = false → lk = 0 ∧ jl = []) := fun h => by
                subst h
                obtain ⟨g1, g2⟩ := lead_no GB.out
                exact ⟨GK.out.symm.trans g2, GL.out.symm.trans g1⟩
              obtain ⟨pv, hpv⟩ : ∃ pv, placeI s2.L (atT s2.L x) = pv := ⟨_, rfl⟩
              have dk : decide (0 ≤ pv) = lb := by
                subst hpv
                cases lb with
                | true =>
                  obtain ⟨i, _, _, _, _, _, hi, _⟩ := led_at S12.out GB.out
                  rw [hi]; exact decide_eq_true (by omega)
                | false => rw [show placeI s2.L (atT s2.L x) = -1 from place_no (any_no GB.out)]; rfl
              have HO := led_s S12.out x
              rw [hpv] at HO
              have HPO := Lib.hid HO
              have KPV := Lib.hid hpv
              clear HO hpv
              go_wp2_with fail
              refine HPO.out.mono ?_
              rintro e wv ⟨rfl, rfl⟩
              go_upto_if 169 with (fail)
              go_cut [24, 25, 26] (fun s24 s25 s26 wx => s24 = .int .i64 lk ∧ s25 = .bool lb ∧ Hid (∃ A26 c26, s26 = .slice A26 jl.length c26 ∧ Rd wx (fun _ => True) (.slice A26 jl.length c26) jl ∧ Sep (fun _ => False) w wx [rt p s2, ob I.O (.pointer (some a)) s2]))
              case first => as_aux_lemma =>
                cases lb with
                | false =>
                  obtain ⟨rfl, rfl⟩ := HLE.out rfl
                  clear HPO
                  go_wp2_with fail
                  go_meet
                  exact ⟨rfl, rfl, _, _, rfl, Rd.nil _ _ _ _, S12.out⟩
                | true =>
                  obtain ⟨i, m, b, z, Aj, cj, hi, him, hm, x0, q1, q3, hr⟩ := led_at S12.out GB.out
                  have hpi : pv = i := KPV.out.symm.trans hi
                  subst hpi
                  rw [GK.out] at q1
                  rw [GL.out] at q3 hr
                  have HRJ := Lib.hid hr
                  have i0 : (0 : Int) ≤ (i : Int) := by omega
                  have i1 : (i : Int) < (m : Int) := by omega
                  clear hi hr HPO
                  go_upto_region 38 with (fail)
                  go_quiet ((fail))
                  go_wp2_with fail
                  go_meet
                  exact ⟨rfl, rfl, _, _, rfl, HRJ.out, S12.out.drewN _⟩
              case rest => as_aux_lemma =>
                obtain ⟨rfl, rfl, hc2⟩ := hcut
                obtain ⟨A26, c26, rfl, hr26, h13⟩ := hc2.out
                have R13 := Lib.hid hr26
                have S13 := Lib.hid h13
                clear hc2 hr26 h13 S12 HPO dk KPV HLE
                have hkk : (lk != lk) = false := by simp
                have hbb2 : (lb != lb) = false := by simp
                have hjj : (jv != jv) = false := by simp
                go_wp2_with fail
                refine (m_joins S13.out 1 rfl x hx64.out GV.out).mono ?_
                rintro e w14 ⟨rfl, h14, hb14⟩
                have S14 := Lib.hid h14
                have R14 := Lib.hid (R13.out.below hb14)
                have HJ14 := joins_s h14 x
                rw [GV.out] at HJ14
                have HJ := Lib.hid HJ14
                clear h14 hb14 S13 R13 HJ14
                go_wp2_with fail
                refine HJ.out.mono ?_
                rintro e w15 ⟨rfl, rfl⟩
                go_wp2_with fail
                refine (m_joined S14.out 1 rfl x hx64.out GL.out).mono ?_
                rintro e w16 ⟨A16, c16, rfl, h16, hb16⟩
                have S16 := Lib.hid h16
                have R16 := Lib.hid (R14.out.below hb16)
                clear h16 hb16 S14 R14 HJ
                go_wp2_with fail
                refine (l_same2 (S16.out.rd 0 rfl) R16.out (Below.refl _ _)).mono ?_
                rintro e w17 ⟨rfl, hb17⟩
                have S17 : Hid (Sep (fun _ => False) w w17 [rt p s2, ob I.O (.pointer (some a)) s2]) := (S16.out.next hb17).tail
                clear hb17 S16 R16
                go_wp2
                go_roundw
                case rel => exact ⟨x + 1, by omega, by omega, by go_num, S17⟩
                case measure => simp [intOf]; omega
            · have SF2 : Hid (∃ s : St, Sep (fun _ => False) w wr [rt p s, ob I.O (.pointer (some a)) s]) := ⟨s2, ST.out⟩
              clear ST
              go_wp2
              go_roundw
              case rel => exact ⟨j + 1, by omega, by go_num, SF2⟩
              case measure => simp [intOf]; omega
    · have HB := Lib.hid SL.out.old
      go_wp2
      go_ret
      exact ⟨rfl, HB.out⟩

theorem does_walk (I : Fl) (n : Int) (A : Option Addr) (len cap : Nat) (zs : List Ac) (w : World) (hn : In64 n) (hlen : len ≤ 9223372036854775807) (hz : ZsIn w A len cap zs) :
    Calls Try.prog 3 #[.int .i64 n, .slice A len cap] w fun e w' => e = .returned (.bool true) ∧ Below w.heap.size w w' := by
  by_cases hno : 1 ≤ n ∧ n ≤ 12 ∧ len ≤ 100
  · exact does_main I n A len cap zs w hz hno.1 hno.2.1 hno.2.2
  · exact does_easy I n A len cap w hn hlen hno
end Go.Proofs.Ytbkeodjebfkkdaa.FlightI
