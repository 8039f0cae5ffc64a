/-
  The walk of the law HeapTaken over any package that meets 'Heap': it returns true and leaves old memory as it was. Conditions: none but 'Heap'.
-/
import Derived.Test.YtilfjhpellmfoaaHeapMap
import Derived.Test.YtilfjhpellmfoaaHeapOrder
import Derived.Deep.DeepCutAuto
namespace Go.Proofs.Ytilfjhpellmfoaa.HeapI
open Go.ChangeShapes Go.WideShapes Go.ChangeAt Go.RowKit Mem RefHeap Hand Go.Maps

theorem put_ok {L : List Ent} {N : Int} {x : Ent} (h : putHE L N x = 0) : getB L x.id = false ∧ putH L N x = insH x L := by
  refine ⟨?_, by unfold putH; rw [if_pos h]⟩
  unfold putHE at h
  split at h
  · split at h
    · omega
    · rename_i hb; simpa using hb
  · omega
theorem put_not {L : List Ent} {N : Int} {x : Ent} (h : putHE L N x ≠ 0) : putH L N x = L := by unfold putH; rw [if_neg h]
theorem run_neq_selfP (W : World) (x : Ent) : (binOp .neq 32 (.agg #[.int .i64 x.id, .int .i64 x.at_, .int .i64 x.seq]) (.agg #[.int .i64 x.id, .int .i64 x.at_, .int .i64 x.seq])).run Try.prog W = .ok (.bool false) W := by
  have := run_neq_entP W x x
  simpa using this
theorem kept_inM {L : List Ent} {N : Int} (hok : Ok L N) {k : Ent} (hk : k ∈ L) : getB L k.id = true ∧ getE L k.id = k := by
  have hf : L.find? (fun y => y.id == k.id) = some k := by
    obtain ⟨i, hi, hx⟩ := List.getElem_of_mem hk
    refine get_hit (i := i) (by rw [List.getElem?_eq_getElem hi, hx]) rfl fun j b hj hb e => ?_
    have hjl := (List.getElem?_eq_some_iff.1 hb).1
    have hbe := (List.getElem?_eq_some_iff.1 hb).2
    have := List.pairwise_iff_getElem.1 hok.once j i (by simpa using hjl) (by simpa using hi) hj
    simp only [List.getElem_map, hbe, hx] at this
    exact this e
  unfold getB getE
  rw [hf]
  exact ⟨rfl, rfl⟩
/-- Things that were taken, and those that are left. -/
structure Parts (now : Int) (L pre L' : List Ent) : Prop where
  all : L = pre ++ L'
  early : ∀ y ∈ pre, y.at_ ≤ now
theorem Parts.count {now N : Int} {L pre L' : List Ent} (h : Parts now L pre L') (hok : Ok L' N) (ht : takeB L' now = false) : (L.filter fun y => decide (now < y.at_)).length = L'.length := by
  obtain ⟨rfl, he⟩ := h
  have hp : pre.filter (fun y => decide (now < y.at_)) = [] := List.filter_eq_nil_iff.2 fun y hy => by have := he y hy; simp; omega
  rw [List.filter_append, hp, List.nil_append]
  cases L' with
  | nil => rfl
  | cons a l =>
    refine late_rest hok ?_
    unfold takeB at ht
    simpa using ht
theorem Parts.step {now : Int} {L pre l : List Ent} {a : Ent} (h : Parts now L pre (a :: l)) (ha : a.at_ ≤ now) : Parts now L (pre ++ [a]) l := by
  obtain ⟨rfl, he⟩ := h
  refine ⟨by simp, fun y hy => ?_⟩
  rcases List.mem_append.1 hy with hy | hy
  · exact he y hy
  · simp at hy; rw [hy]; exact ha
theorem Parts.ahead {now N : Int} {L pre l : List Ent} {a e : Ent} (h : Parts now L pre (a :: l)) (hok : Ok L N) (he : pre.getLast? = some e) : RefHeap.ahead e a = true := by
  obtain ⟨rfl, _⟩ := h
  have hm : e ∈ pre := List.mem_of_getLast? he
  exact (List.pairwise_append.1 hok.order).2.2 e hm a (by simp)

theorem take_no {L : List Ent} {now : Int} (h : takeB L now = false) : takeE L now = zeroEnt ∧ takeH L now = L := by
  unfold takeE takeH
  rw [h]
  exact ⟨rfl, rfl⟩
theorem take_yes {L : List Ent} {N now : Int} (hok : Ok L N) (h : takeB L now = true) : ∃ x l, L = x :: l ∧ x.at_ ≤ now ∧ takeE L now = x ∧ takeH L now = l := by
  cases L with
  | nil => unfold takeB at h; cases h
  | cons x l =>
    have hx : x.at_ ≤ now := by unfold takeB at h; simpa using h
    refine ⟨x, l, rfl, hx, by unfold takeE; rw [if_pos h]; rfl, ?_⟩
    unfold takeH
    rw [if_pos h]
    exact drop_head hok
/-- What a round of the last loop begins with. -/
def Took (I : Heap) (a : Addr) (w wr : World) (g0 b0 n : Nat) (now : Int) (L : List Ent) (t sm : Value) : Prop :=
  ∃ pre L' e, Parts now L pre L' ∧ t = .int .i64 pre.length ∧ sm = .bool (!pre.isEmpty) ∧ (pre ≠ [] → pre.getLast? = some e) ∧
    Sep (fun _ => False) w wr [blk g0 (.cells #[.int .i64 e.id, .int .i64 e.at_, .int .i64 e.seq] 32), mp b0 n L', hp I (.pointer (some a)) L' 60]

set_option maxHeartbeats 8000000 in
set_option maxRecDepth 100000 in
theorem taken_walk (I : Heap) (A : Option Addr) (len cap : Nat) (zs : List Ent) (now : Int) (w : World) (hlen : len ≤ 9223372036854775807) (hnow : In64 now)
    (hz : len ≤ 1000000 → zs.length = len ∧ RdL entE w (fun b => b < w.heap.size) (.slice A len cap) zs ∧ ∀ z ∈ zs, EntIn z) :
    Calls Try.prog 5 #[.slice A len cap, .int .i64 now] w fun e w' => e = .returned (.bool true) ∧ Below w.heap.size w w' := by
  have HZ := Lib.hid hz
  have HT := Lib.hid hnow
  clear hz hnow
  by_cases h120 : len ≤ 120
  · obtain ⟨hzl, hzr, hzo⟩ := HZ.out (by omega)
    have HZL := Lib.hid hzl
    have HZR := Lib.hid hzr
    have HZO := Lib.hid hzo
    clear hzl hzr hzo HZ
    have hmm := @run_makeMap Try.prog
    go_enter Try.func5, Try.ntmps5
    go_wp2_with fail
    refine (awake_any I _).mono ?_
    rintro e w1 ⟨rfl, hb1⟩
    have S1 := Lib.hid ((Sep.nil (fun _ => False) w).next hb1)
    clear hb1
    go_wp2_with fail
    refine (s_new S1.out I 60 (by omega) (by omega)).mono ?_
    rintro e w2 ⟨a, rfl, h2⟩
    have S2 := Lib.hid (s_mapnew h2)
    generalize hb0 : w2.heap.size = b0 at *
    have HB0 := Lib.hid hb0
    clear h2 S1
    go_wp2
    clear hb0
    go_loopw [34, 9] (fun u _ wr => ∃ j : Nat, j ≤ len ∧ u = .int .i64 j ∧ Hid (∃ n L, n ≤ j ∧ Sep (fun _ => False) w wr [mp b0 n L, hp I (.pointer (some a)) L 60])) (fun u _ _ => len - (intOf u).toNat)
    case atStart => exact ⟨0, Nat.zero_le _, rfl, 0, [], Nat.le_refl _, S2.out⟩
    case round =>
      obtain ⟨j, hj, rfl, HS⟩ := hrel
      obtain ⟨n, L, hnj, hS⟩ := HS.out
      have SL := Lib.hid hS
      clear HS hS S2
      by_cases hlt : j < len
      · have hx : zs[j]? = some (zs[j]'(by rw [HZL.out]; exact hlt)) := List.getElem?_eq_getElem _
        generalize zs[j]'(by rw [HZL.out]; exact hlt) = x at hx
        have hze := HZO.out x (List.mem_of_getElem? hx)
        have HE := Lib.hid hze
        obtain ⟨bb, off, rfl, _, hbb, c0, c1, c2⟩ := ent_cells HZR.out hx
        have hb := SL.out.old
        have q0 := (hb.cell (p := ⟨bb, off + j * 3, none⟩) hbb).trans c0
        have q1 := (hb.cell (p := ⟨bb, off + j * 3 + 1, none⟩) hbb).trans c1
        have q2 := (hb.cell (p := ⟨bb, off + j * 3 + 2, none⟩) hbb).trans c2
        have S4 := Lib.hid (SL.out.new (.cells #[.int .i64 x.id, .int .i64 x.at_, .int .i64 x.seq] 32))
        clear hx hze c0 c1 c2 hb SL
        by_cases hE : putHE L 60 x = 0
        · obtain ⟨hg, hp⟩ := put_ok hE
          have KE := Lib.hid hE
          have KG := Lib.hid hg
          have KP := Lib.hid hp
          clear hE hg hp
          go_wp2_with fail
          refine (s_put S4.out 2 rfl x HE.out KE.out KP.out).mono ?_
          rintro e w5 ⟨rfl, h5⟩
          have S5 := Lib.hid h5
          obtain ⟨g0, g1, g2, _⟩ := box_cells h5 0 rfl
          obtain ⟨D, hown, htl⟩ := s_mapis h5 1 rfl
          have HO := Lib.hid hown
          have HTL := Lib.hid htl
          clear h5 S4 q0 q1 q2 hown htl
          go_wp2_with (at_mapUpdate; refine wpList_mapUpdate_own _ rfl _ _ _ 61 rfl 3 32 law Try.underlying61 entR b0 n D rfl HO.out (by unfold maxLen; omega) _ _ _ rfl rfl (hkey HE.out.1) _ [] (entR_mk x) ?_)
          intro w6 hown6 hgr6
          have S6 : Hid (∃ n L, n ≤ j + 1 ∧ Sep (fun _ => False) w w6 [mp b0 n L, hp I (.pointer (some a)) L 60]) := ⟨n + 1, insH x L, by omega, (s_mapput S5.out 1 rfl hown6 (tells_put HTL.out (HO.out.tidy law) KG.out) hgr6).tail⟩
          clear hown6 hgr6 S5 HO HTL g0 g1 g2
          go_wp2
          go_roundw
          case rel => exact ⟨j + 1, by omega, by go_num, S6⟩
          case measure => simp [intOf]; omega
        · have KP := Lib.hid (put_not hE)
          obtain ⟨E, hEE⟩ : ∃ E, putHE L 60 x = E := ⟨_, rfl⟩
          have KE := Lib.hid hEE
          have hne : (E == 0) = false := by rw [hEE] at hE; simpa using hE
          clear hE hEE
          go_wp2_with fail
          refine (s_put S4.out 2 rfl x HE.out KE.out KP.out).mono ?_
          rintro e w5 ⟨rfl, h5⟩
          have S6 : Hid (∃ n L, n ≤ j + 1 ∧ Sep (fun _ => False) w w5 [mp b0 n L, hp I (.pointer (some a)) L 60]) := ⟨n, L, by omega, h5.tail⟩
          clear h5 S4
          go_wp2
          go_roundw
          case rel => exact ⟨j + 1, by omega, by go_num, S6⟩
          case measure => simp [intOf]; omega
      · have hok := s_ok SL.out 1 rfl
        have HOK := Lib.hid hok
        have hl60 : L.length ≤ 60 := len60 hok
        clear hok
        have S7 := Lib.hid (SL.out.new (.cells #[.int .i64 0, .int .i64 0, .int .i64 0] 32))
        obtain ⟨D, hown, htl⟩ := s_mapis S7.out 1 rfl
        have HO := Lib.hid hown
        have HTL := Lib.hid htl
        clear SL hown htl
        go_wp2_with (at_range; refine wpList_range_own _ rfl _ 61 rfl 3 32 law Try.underlying61 entR b0 n D rfl HO.out ?_; intro w8 hrg8 hgr8 hsz8)
        go_frame
        have h8 := s_range S7.out 1 rfl hrg8 hgr8
        have S8 := Lib.hid h8
        have HST : Hid (late now (Maps.has D) L = 0) := late_start fun y hy => by rw [HTL.out.has]; exact (kept_inM HOK.out hy).1
        clear hrg8 hgr8 hsz8 h8 S7 HO
        generalize hr0 : (wr.alloc (.cells #[.int .i64 0, .int .i64 0, .int .i64 0] 32)).heap.size = r0 at *
        generalize hg0 : wr.heap.size = g0 at *
        clear hg0 hr0
        go_loopw [12, 14] (fun u _ wr => ∃ left cnt, u = .int .i64 (late now left L) ∧ Hid (Sep (fun _ => False) w wr [blk g0 (.cells #[.int .i64 0, .int .i64 0, .int .i64 0] 32), rng b0 r0 n D left cnt, hp I (.pointer (some a)) L 60])) (fun _ _ wr => wr.rangeLeft b0 r0)
        case atStart => exact ⟨Maps.has D, Maps.size D, by rw [HST.out]; rfl, S8⟩
        case round =>
          obtain ⟨left, cnt, rfl, HS⟩ := hrel
          have HR := Lib.hid (s_rng HS.out 1 rfl)
          have hll : late now left L ≤ 60 := Nat.le_trans (List.length_filter_le _ _) hl60
          clear S8 HST
          go_wp2_with (at_next; refine wp_next rfl _ rfl (L := L) (left := left) (cnt := cnt) rfl HR.out HTL.out ?_ ?_)
          · intro hl0
            have HLE : Hid (late now left L = (L.filter fun y => decide (now < y.at_)).length) := late_end hl0
            have S9 := Lib.hid (s_ranged HS.out 1 rfl HTL.out)
            clear HS HR hl0
            generalize late now left L = K0 at *
            obtain ⟨D2, hown2, htl2⟩ := s_mapis S9.out 1 rfl
            have HO2 := Lib.hid hown2
            have HTL2 := Lib.hid htl2
            clear hown2 htl2
            go_wp2_with (at_len; refine wp_len rfl _ rfl rfl HO2.out HTL2.out ?_)
            have HTK : Hid (Took I a w wr g0 b0 n now L (.int .i64 0) (.bool false)) := ⟨[], L, zeroEnt, ⟨rfl, fun y hy => by cases hy⟩, rfl, rfl, fun h => absurd rfl h, S9.out⟩
            clear HO2 HTL2 S9
            go_loopw [62, 11, 16, 17, 18, 19] (fun t sm _ _ _ _ wr => Hid (Took I a w wr g0 b0 n now L t sm)) (fun t _ _ _ _ _ _ => (121 - intOf t).toNat)
            case atStart => exact HTK
            case round =>
              obtain ⟨pre, L', e, hparts, rfl, rfl, hlast, hS⟩ := hrel.out
              have HP := Lib.hid hparts
              have SL := Lib.hid hS
              have hpl : pre.length ≤ 60 := by have := hparts.all; have := congrArg List.length this; simp at this; omega
              have hok' := s_ok hS 2 rfl
              have HOL := Lib.hid hok'
              clear hrel HTK hparts hS hok'
              generalize hk : pre.length = k at *
              have HK := Lib.hid hk
              clear hk
              cases htb : takeB L' now with
              | false =>
                have HTB := Lib.hid htb
                have HTN := Lib.hid (take_no htb)
                clear htb
                have hK : K0 = L'.length := HLE.out.trans (HP.out.count HOL.out HTB.out)
                have hLL : L'.length ≤ L.length := by have := congrArg List.length HP.out.all; simp at this; omega
                subst hK
                clear HLE hlast
                go_wp2_with fail
                refine (s_take SL.out 2 rfl now HT.out HTN.out.1 HTB.out HTN.out.2).mono ?_
                rintro ee w5 ⟨rfl, h5⟩
                have S5 := Lib.hid (h5.new (.cells #[.int .i64 0, .int .i64 0, .int .i64 0] 32))
                obtain ⟨D5, hown5, htl5⟩ := s_mapis S5.out 2 rfl
                have HO5 := Lib.hid hown5
                have HTL5 := Lib.hid htl5
                clear h5 hown5 htl5 SL
                simp only [Ent.val, zeroEnt]
                go_wp2_with (first | (at_len; refine wp_len rfl _ rfl rfl HO5.out HTL5.out ?_) | (go_at_call 17; refine (s_len S5.out 3 rfl).mono ?_; rintro ee w6 ⟨rfl, h6⟩; have S6 := Lib.hid h6; clear h6))
                go_ret
                exact ⟨rfl, S6.out.old⟩
              | true =>
                obtain ⟨x, l, rfl, hxa, hxe, hxl⟩ := take_yes HOL.out htb
                have HTB := Lib.hid htb
                have HXA := Lib.hid hxa
                have HXE := Lib.hid hxe
                have HXL := Lib.hid hxl
                have HXI : Hid (EntIn x) := HOL.out.ins x (by simp)
                have hnx := fun W => run_neq_selfP W x
                have hpi : (k : Int) < 121 := by omega
                clear htb hxe hxl HLE
                by_cases hpre : pre = []
                · subst hpre
                  clear hlast
                  go_wp2_with fail
                  refine (s_take SL.out 2 rfl now HT.out HXE.out HTB.out HXL.out).mono ?_
                  rintro ee w5 ⟨rfl, h5⟩
                  have h6 := h5.new (.cells #[.int .i64 x.id, .int .i64 x.at_, .int .i64 x.seq] 32)
                  obtain ⟨D5, hown5, htl5⟩ := s_mapis h6 2 rfl
                  have HO5 := Lib.hid hown5
                  have HTL5 := Lib.hid htl5
                  have S6 := Lib.hid (h6.new (.cells #[.int .i64 x.id, .int .i64 x.at_, .int .i64 x.seq] 32))
                  clear h5 h6 hown5 htl5 SL
                  simp only [Ent.val]
                  go_upto_region 29 with ((at_lookup; refine wp_look rfl _ _ rfl rfl HO5.out HTL5.out HXI.out.1 rfl get_head.1 get_head.2 ?_))
                  have S7 := S6
                  obtain ⟨z0, z1, z2, _⟩ := box_cells S7.out 1 rfl
                  obtain ⟨D7, hown7, htl7⟩ := s_mapis S7.out 3 rfl
                  have HO7 := Lib.hid hown7
                  have HTL7 := Lib.hid htl7
                  clear hown7 htl7
                  go_wp2_with (at_delete; refine wpList_delete_own _ rfl _ _ 61 3 rfl 32 law Try.underlying61 entR b0 n D7 rfl HO7.out _ _ rfl (hkey HXI.out.1) ?_; intro w8 hown8 hturn8; have h8 := s_mapput S7.out 3 rfl hown8 (tells_del HTL7.out (HO7.out.tidy law) HOL.out.once get_head.1) hturn8.grown; rw [drop_head HOL.out] at h8; obtain ⟨v0, v1, v2, _⟩ := box_cells h8 1 rfl; obtain ⟨t0, t1, t2, f0, f1, f2⟩ := box_cells h8 2 rfl; have S8 := Lib.hid (box_set h8 2 rfl (.int .i64 x.id) (.int .i64 x.at_) (.int .i64 x.seq)); clear h8 hown8 hturn8)
                  go_roundw
                  case rel => exact ⟨_ ++ [x], l, x, HP.out.step HXA.out, by rw [← HK.out]; simp, by simp, fun _ => by simp, S8.out.tail.tail⟩
                  case measure => simp [intOf]; omega
                · have hlast := hlast hpre
                  have hpb : (!pre.isEmpty) = true := by cases pre with | nil => exact absurd rfl hpre | cons _ _ => rfl
                  rw [hpb]
                  clear hpb hpre
                  go_wp2_with fail
                  refine (s_take SL.out 2 rfl now HT.out HXE.out HTB.out HXL.out).mono ?_
                  rintro ee w5 ⟨rfl, h5⟩
                  have h6 := h5.new (.cells #[.int .i64 x.id, .int .i64 x.at_, .int .i64 x.seq] 32)
                  obtain ⟨D5, hown5, htl5⟩ := s_mapis h6 2 rfl
                  have HO5 := Lib.hid hown5
                  have HTL5 := Lib.hid htl5
                  have S6 := Lib.hid (h6.new (.cells #[.int .i64 x.id, .int .i64 x.at_, .int .i64 x.seq] 32))
                  clear h5 h6 hown5 htl5 SL
                  simp only [Ent.val]
                  have HAh : Hid (RefHeap.ahead e x = true) := HP.out.ahead HOK.out hlast
                  have HEI : Hid (EntIn e) := HOK.out.ins e (by rw [HP.out.all]; exact List.mem_append_left _ (List.mem_of_getLast? hlast))
                  obtain ⟨y0, y1, y2, _⟩ := box_cells S6.out 2 rfl
                  go_upto_region 29 with (first | (at_lookup; refine wp_look rfl _ _ rfl rfl HO5.out HTL5.out HXI.out.1 rfl get_head.1 get_head.2 ?_) | (go_at_call 25; (with_reducible refine (ahead_i I e x _ HEI.out HXI.out HAh.out).mono ?_); rintro ee w7 ⟨rfl, hb7⟩))
                  have S7 := Lib.hid (S6.out.next hb7)
                  clear hb7
                  obtain ⟨z0, z1, z2, _⟩ := box_cells S7.out 1 rfl
                  obtain ⟨D7, hown7, htl7⟩ := s_mapis S7.out 3 rfl
                  have HO7 := Lib.hid hown7
                  have HTL7 := Lib.hid htl7
                  clear hown7 htl7
                  go_wp2_with (at_delete; refine wpList_delete_own _ rfl _ _ 61 3 rfl 32 law Try.underlying61 entR b0 n D7 rfl HO7.out _ _ rfl (hkey HXI.out.1) ?_; intro w8 hown8 hturn8; have h8 := s_mapput S7.out 3 rfl hown8 (tells_del HTL7.out (HO7.out.tidy law) HOL.out.once get_head.1) hturn8.grown; rw [drop_head HOL.out] at h8; obtain ⟨v0, v1, v2, _⟩ := box_cells h8 1 rfl; obtain ⟨t0, t1, t2, f0, f1, f2⟩ := box_cells h8 2 rfl; have S8 := Lib.hid (box_set h8 2 rfl (.int .i64 x.id) (.int .i64 x.at_) (.int .i64 x.seq)); clear h8 hown8 hturn8)
                  go_roundw
                  case rel => exact ⟨_ ++ [x], l, x, HP.out.step HXA.out, by rw [← HK.out]; simp, by simp, fun _ => by simp, S8.out.tail.tail⟩
                  case measure => simp [intOf]; omega
          · intro e w9 cnt9 hem hle hrg9 hlt9 hgr9 hen9
            have h9 := s_next HS.out 1 rfl hrg9 hgr9
            have S9 := Lib.hid (h9.new (.cells #[.int .i64 e.id, .int .i64 e.at_, .int .i64 e.seq] 32))
            have HST : Hid (late now (fun z => left z && !z.sameKey (.int .i64 e.id)) L = late now left L + if now < e.at_ then 1 else 0) := late_step HOK.out.once hem hle
            have HLT : Hid (cnt9 < cnt) := hlt9
            have HRL : Hid (wr.rangeLeft b0 r0 = cnt) := HR.out.left_eq
            clear hem hle hrg9 hlt9 hgr9 h9 HS HR
            by_cases hat : now < e.at_
            · have HST2 : Hid (late now (fun z => left z && !z.sameKey (.int .i64 e.id)) L = late now left L + 1) := by have := HST.out; rw [if_pos hat] at this; exact this
              clear HST
              generalize late now left L = K0 at *
              go_wp2
              go_roundw
              case rel => exact ⟨_, cnt9, by rw [HST2.out]; go_num, S9.out.tail⟩
              case measure => rw [(s_rng S9.out 2 rfl).left_eq, HRL.out]; exact HLT.out
            · have HST2 : Hid (late now (fun z => left z && !z.sameKey (.int .i64 e.id)) L = late now left L) := by have := HST.out; rw [if_neg hat] at this; exact this
              clear HST
              generalize late now left L = K0 at *
              have hat' : e.at_ ≤ now := by omega
              go_wp2
              go_roundw
              case rel => exact ⟨_, cnt9, by rw [HST2.out], S9.out.tail⟩
              case measure => rw [(s_rng S9.out 2 rfl).left_eq, HRL.out]; exact HLT.out
  · go_enter Try.func5, Try.ntmps5
    go_wp2_with fail
    refine (awake_any I _).mono ?_
    rintro e w1 ⟨rfl, hb1⟩
    have HB := Lib.hid hb1
    clear hb1
    go_wp2
    go_ret
    exact ⟨rfl, HB.out⟩
end Go.Proofs.Ytilfjhpellmfoaa.HeapI
