/-
  Package waits, as it landed, over its arena of one row: those who wait; the package, as the laws ask for it. No condition.
-/
import Derived.Test.YtjojpejhmengaaaArena
import Derived.Test.YtjojpejhmengaaaObjL
import Derived.Test.YtjojpejhmengaaaWaitsI
namespace Go.Proofs.Ytjojpejhmengaaa.WaitsA
open Go.ChangeShapes Go.WideShapes Go.ChangeAt Go.RowKit Mem MutP WaitsP Hand RefMut Arena

/-- A group: its own block, and its arena of one row. -/
def oa (g : Nat) (va : Value) (C : Int) (W : List Int) (N : Int) : List Res := [blk g (.cells #[.int .i64 C, va] 56 (0, 0)), ob aren va ([W], N)]

section
variable {B : Nat → Prop} {w wk : World} {Rs : List Res} {g : Nat} {va : Value} {C : Int} {W : List Int} {N : Int}
theorem oa_ptr (h : Sep B w wk (oa g va C W N ++ Rs)) : ∃ a, va = .pointer (some a) := ob_ptr (O := aren) h 1 rfl
theorem oa_c (h : Sep B w wk (oa g va C W N ++ Rs)) : wk.cell? ⟨g, 0, none⟩ = some (.int .i64 C) ∧ wk.cell? ⟨g, 1, none⟩ = some va := ⟨(cell_block (h.blk_at 0 rfl) 0).trans rfl, (cell_block (h.blk_at 0 rfl) 1).trans rfl⟩

set_option maxRecDepth 100000 in
theorem count_s (h : Sep B w wk (oa g va C W N ++ Rs)) :
    Calls Try.prog 14 #[.pointer (some ⟨g, 0, none⟩)] wk fun e wn => e = .returned (.int .i64 C) ∧ wk = wn := by
  obtain ⟨c0, _⟩ := oa_c h
  clear h
  go_enter Try.func14, Try.ntmps14
  go_wp2
  go_ret
  exact ⟨rfl, rfl⟩

set_option maxRecDepth 100000 in
theorem waiting_s (h : Sep B w wk (oa g va C W N ++ Rs)) :
    Calls Try.prog 15 #[.pointer (some ⟨g, 0, none⟩)] wk fun e wn => ∃ u, e = .returned u ∧ Says wk wn u W := by
  obtain ⟨_, c1⟩ := oa_c h
  have HA := Lib.hid (a_says h 1 rfl 0)
  rw [one_list] at HA
  obtain ⟨a, rfl⟩ := oa_ptr h
  clear h
  go_enter Try.func15, Try.ntmps15
  go_wp2_with fail
  refine HA.out.mono ?_
  rintro e w1 ⟨u, rfl, hs⟩
  obtain ⟨A, c, rfl⟩ := rd_form hs.1
  have HS := Lib.hid hs
  clear hs
  go_wp2
  go_ret
  exact ⟨_, rfl, HS.out⟩

set_option maxRecDepth 100000 in
theorem has_s (h : Sep B w wk (oa g va C W N ++ Rs)) (t : Int) :
    Calls Try.prog 24 #[.pointer (some ⟨g, 0, none⟩), .int .i64 t] wk fun e wn => e = .returned (.bool (nameM N t)) ∧ wk = wn := by
  obtain ⟨_, c1⟩ := oa_c h
  have HA := Lib.hid (a_nodes h 1 rfl)
  obtain ⟨a, rfl⟩ := oa_ptr h
  clear h
  rcases (by omega : t < 0 ∨ (0 ≤ t ∧ t < N) ∨ (0 ≤ t ∧ N ≤ t)) with h1 | ⟨h1, h2⟩ | ⟨h1, h2⟩
  · have HE : Hid (nameM N t = false) := by show _ = _; unfold nameM; exact decide_eq_false (by omega)
    have d0 : decide (t ≥ 0) = false := by simp; omega
    go_enter Try.func24, Try.ntmps24
    go_wp2
    go_ret
    exact ⟨ret_bool HE.out.symm, rfl⟩
  · have HE : Hid (nameM N t = true) := name_iff.2 ⟨h1, h2⟩
    go_enter Try.func24, Try.ntmps24
    go_wp2_with fail
    refine HA.out.mono ?_
    rintro e w1 ⟨rfl, rfl⟩
    go_wp2
    go_ret
    exact ⟨ret_bool HE.out.symm, rfl⟩
  · have HE : Hid (nameM N t = false) := by show _ = _; unfold nameM; exact decide_eq_false (by omega)
    have d1 : decide (t < N) = false := by simp; omega
    go_enter Try.func24, Try.ntmps24
    go_wp2_with fail
    refine HA.out.mono ?_
    rintro e w1 ⟨rfl, rfl⟩
    go_wp2
    go_ret
    exact ⟨ret_bool HE.out.symm, rfl⟩

theorem put_no (h : Sep B w wk (oa g va C W N ++ Rs)) (t : Int) (h0 : 0 ≤ t) (h1 : t < N) (hn : t ∈ W) : Calls Try.prog 25 #[va, .int .i64 0, .int .i64 t] wk fun e wn => e = .returned (.int .i64 6) ∧ Sep B w wn (oa g va C W N ++ Rs) := by
  have hp := a_put h 1 rfl 0 t
  have hE : RefRing.putE [W] N 0 t = 6 := by
    unfold RefRing.putE
    rw [if_pos ⟨by simp, h0, h1⟩, one_in, if_pos hn, if_pos (by omega)]
  have hL : RefRing.putL [W] N 0 t false = [W] := by
    unfold RefRing.putL
    rw [if_neg (by rw [hE]; omega)]
  rw [hE, hL] at hp
  exact hp
theorem put_yes (h : Sep B w wk (oa g va C W N ++ Rs)) (t : Int) (h0 : 0 ≤ t) (h1 : t < N) (hn : t ∉ W) : Calls Try.prog 25 #[va, .int .i64 0, .int .i64 t] wk fun e wn => e = .returned (.int .i64 0) ∧ Sep B w wn (oa g va C (W ++ [t]) N ++ Rs) := by
  have hp := a_put h 1 rfl 0 t
  rw [(one_put W N t ⟨h0, h1⟩ hn).1, (one_put W N t ⟨h0, h1⟩ hn).2] at hp
  exact hp

set_option maxRecDepth 100000 in
theorem wait_s (h : Sep B w wk (oa g va C W N ++ Rs)) (hok : WaitsP.Ok C W N) (t : Int) :
    Calls Try.prog 18 #[.pointer (some ⟨g, 0, none⟩), .int .i64 t] wk fun e wn => e = .returned (.tuple #[.bool (wtB C W N t), .int .i64 (wtE W N t)]) ∧ Sep B w wn (oa g va C (wtW C W N t) N ++ Rs) := by
  obtain ⟨c0, c1⟩ := oa_c h
  obtain ⟨a, rfl⟩ := oa_ptr h
  have HM := Lib.hid (has_s h t)
  have H := Lib.hid h
  have HC := Lib.hid (wt_cases hok t)
  have HO := Lib.hid hok
  clear h hok
  rcases HC.out with ⟨hE, g1, g2⟩ | ⟨hE, rfl, rfl, g1, g2, t0, t1⟩ | ⟨hE, hC, hni, g1, g2, t0, t1⟩
  · rw [g1, g2]
    by_cases hn : nameM N t = true
    · obtain ⟨t0, t1⟩ := name_iff.1 hn
      have hn' : ¬ nameM N t = false := by rw [hn]; simp
      have hi : inL W t = true := by
        cases hi : inL W t with
        | true => rfl
        | false => exact absurd (by unfold wtE; rw [if_neg hn', if_neg (by rw [hi]; simp)]) hE
      have HE : Hid (wtE W N t = 6) := by show _ = _; unfold wtE; rw [if_neg hn', if_pos hi]
      have hm : t ∈ W := by unfold inL at hi; simpa using hi
      have hc : (C == 0) = false := by have := (HO.out.in_name hm).2; simpa using this
      have HP := Lib.hid (put_no H.out t t0 t1 hm)
      rw [HE.out]
      rw [hn] at HM
      clear hn hn' hi hE HE hm g1 g2 HC t0 t1
      go_enter Try.func18, Try.ntmps18
      go_wp2_with fail
      refine HM.out.mono ?_
      rintro e w1 ⟨rfl, rfl⟩
      go_wp2_with fail
      refine HP.out.mono ?_
      rintro e w2 ⟨rfl, h2⟩
      have H2 := Lib.hid h2
      clear h2 HP H HM
      go_wp2
      go_ret2
      exact ⟨rfl, H2.out⟩
    · have hn' : nameM N t = false := by simpa using hn
      have HE : Hid (wtE W N t = 3) := by show _ = _; unfold wtE; rw [if_pos hn']
      rw [HE.out]
      rw [hn'] at HM
      clear hn hn' hE HE g1 g2 HC
      go_enter Try.func18, Try.ntmps18
      go_wp2_with fail
      refine HM.out.mono ?_
      rintro e w1 ⟨rfl, rfl⟩
      go_wp2
      go_ret2
      exact ⟨rfl, H.out⟩
  · rw [g1, g2, hE]
    rw [name_iff.2 ⟨t0, t1⟩] at HM
    clear hE g1 g2 HC t0 t1
    go_enter Try.func18, Try.ntmps18
    go_wp2_with fail
    refine HM.out.mono ?_
    rintro e w1 ⟨rfl, rfl⟩
    go_wp2
    go_ret2
    exact ⟨rfl, H.out⟩
  · rw [g1, g2, hE]
    rw [name_iff.2 ⟨t0, t1⟩] at HM
    have hc : (C == 0) = false := by simp; omega
    have HP := Lib.hid (put_yes H.out t t0 t1 hni)
    clear hE g1 g2 HC t0 t1 hni hC
    go_enter Try.func18, Try.ntmps18
    go_wp2_with fail
    refine HM.out.mono ?_
    rintro e w1 ⟨rfl, rfl⟩
    go_wp2_with fail
    refine HP.out.mono ?_
    rintro e w2 ⟨rfl, h2⟩
    have H2 := Lib.hid h2
    clear h2 HP H HM
    go_wp2
    go_ret2
    exact ⟨rfl, H2.out⟩

set_option maxRecDepth 100000 in
theorem leave_s (h : Sep B w wk (oa g va C W N ++ Rs)) (t : Int) :
    Calls Try.prog 20 #[.pointer (some ⟨g, 0, none⟩), .int .i64 t] wk fun e wn => e = .returned (.bool (inL W t)) ∧ Sep B w wn (oa g va C (withoutL W t) N ++ Rs) := by
  obtain ⟨c0, c1⟩ := oa_c h
  obtain ⟨a, rfl⟩ := oa_ptr h
  have hd := a_drop h 1 rfl t
  have hb : decide (0 ≤ RefRing.inL [W] t) = inL W t := by
    rw [one_in]
    unfold inL
    by_cases hm : t ∈ W
    · rw [if_pos hm, decide_eq_true hm]; rfl
    · rw [if_neg hm, decide_eq_false hm]; rfl
  rw [one_drop, hb] at hd
  have HD : Hid (Calls Try.prog 28 #[.pointer (some a), .int .i64 t] wk fun e wn => e = .returned (.bool (inL W t)) ∧ Sep B w wn (oa g (.pointer (some a)) C (withoutL W t) N ++ Rs)) := hd
  clear h hd hb
  generalize inL W t = bo at *
  go_enter Try.func20, Try.ntmps20
  go_wp2_with fail
  refine HD.out.mono ?_
  rintro e w1 ⟨rfl, h1⟩
  have H1 := Lib.hid h1
  clear h1 HD
  go_wp2
  go_ret
  exact ⟨rfl, H1.out⟩

set_option maxRecDepth 100000 in
theorem may_s (h : Sep B w wk (oa g va C W N ++ Rs)) (hok : WaitsP.Ok C W N) (n : Int) (hn : In64 n) :
    Calls Try.prog 26 #[.pointer (some ⟨g, 0, none⟩), .int .i64 n] wk fun e wn => e = .returned (.int .i64 (addE C n)) ∧ wk = wn := by
  obtain ⟨c0, c1⟩ := oa_c h
  have C0 := hok.c0
  have C1 := hok.c1
  obtain ⟨n0, n1⟩ := hn
  clear h hok c1
  rcases (by omega : n < -C ∨ (-C ≤ n ∧ 9223372036854775807 - C < n) ∨ (-C ≤ n ∧ n ≤ 9223372036854775807 - C)) with h1 | ⟨h1, h2⟩ | ⟨h1, h2⟩
  · have HE : Hid (addE C n = 1) := by show _ = _; unfold addE; rw [if_pos (by omega)]
    rw [HE.out]
    clear HE
    go_enter Try.func26, Try.ntmps26
    go_wp2
    go_ret
    exact ⟨rfl, rfl⟩
  · have HE : Hid (addE C n = 2) := by show _ = _; unfold addE; rw [if_neg (by omega), if_pos (by omega)]
    rw [HE.out]
    clear HE
    go_enter Try.func26, Try.ntmps26
    go_wp2
    go_ret
    exact ⟨rfl, rfl⟩
  · have HE : Hid (addE C n = 0) := by show _ = _; unfold addE; rw [if_neg (by omega), if_neg (by omega)]
    rw [HE.out]
    clear HE
    go_enter Try.func26, Try.ntmps26
    go_wp2
    go_ret
    exact ⟨rfl, rfl⟩

/-- While the row is made empty: what was taken out, and what is left. -/
theorem take_r {L : List Int} {u : Value} {x : Int} {R : List Int} (h : Sep B w wk (grow intE 3 u L :: (oa g va C (x :: R) N ++ Rs))) (hn : (x :: R).Nodup) (h0 : ∀ y ∈ x :: R, 0 ≤ y) : Calls Try.prog 37 #[va, .int .i64 0] wk fun e wn => (∃ b, e = .returned (.tuple #[.int .i64 x, .bool b])) ∧ Sep B w wn (grow intE 3 u L :: (oa g va C R N ++ Rs)) := by
  have ht := a_take h 2 rfl 0
  rw [one_take _ hn h0] at ht
  refine ht.mono ?_
  rintro e wn ⟨rfl, h⟩
  rw [one_first]
  exact ⟨⟨_, rfl⟩, h⟩

set_option maxHeartbeats 1000000 in
set_option maxRecDepth 100000 in
theorem all_s (h : Sep B w wk (oa g va C W N ++ Rs)) (hn : W.Nodup) (h0 : ∀ y ∈ W, 0 ≤ y) (hl : W.length ≤ 1000) :
    Calls Try.prog 27 #[.pointer (some ⟨g, 0, none⟩)] wk fun e wn => ∃ A c, e = .returned (.slice A W.length c) ∧ Sep B w wn (nums (.slice A W.length c) W :: (oa g va C [] N ++ Rs)) := by
  obtain ⟨_, c1⟩ := oa_c h
  obtain ⟨a, rfl⟩ := oa_ptr h
  have HA := Lib.hid (a_len h 1 rfl 0)
  rw [one_list] at HA
  have H := Lib.hid h
  have HN := Lib.hid hn
  have H0 := Lib.hid h0
  clear h hn h0
  go_enter Try.func27, Try.ntmps27
  go_wp2_with fail
  refine HA.out.mono ?_
  rintro e w1 ⟨rfl, n, rfl⟩
  have H1 := Lib.hid ((H.out.drewN n).growN0 intE 3)
  clear H HA c1
  go_wp2
  go_loopw [3, 11] (fun u3 u11 wr => ∃ (j : Nat) (L R : List Int) (A : Option Addr) (c : Nat), j ≤ W.length ∧ u11 = .int .i64 j ∧ u3 = .slice A L.length c ∧ Hid (j = L.length ∧ L ++ R = W) ∧ Hid (Sep B w wr (grow intE 3 (.slice A L.length c) L :: (oa g (.pointer (some a)) C R N ++ Rs)))) (fun _ u _ => W.length - (intOf u).toNat)
  case atStart => exact ⟨0, [], W, _, 0, Nat.zero_le _, rfl, rfl, ⟨rfl, rfl⟩, H1.out⟩
  case round =>
    obtain ⟨j, L, R, A, c, hj, rfl, rfl, HL, HS⟩ := hrel
    clear H1
    by_cases hlt : j < W.length
    · cases R with
      | nil =>
        have h1 := HL.out.1
        have h2 := HL.out.2
        rw [List.append_nil] at h2
        subst h2
        omega
      | cons x R =>
        have hNR : Hid ((x :: R).Nodup) := by
          have h1 := HN.out
          rw [← HL.out.2, List.nodup_append] at h1
          exact h1.2.1
        have h0R : Hid (∀ y ∈ x :: R, 0 ≤ y) := fun y hy => H0.out y (by rw [← HL.out.2]; exact List.mem_append_right _ hy)
        have c1 : wr.cell? ⟨g, 1, none⟩ = some (.pointer (some a)) := (cell_block (HS.out.blk_at 1 rfl) 1).trans rfl
        have hLl : L.length + 1 ≤ 1000000 := by have := HL.out.1; omega
        go_wp2_with fail
        refine (take_r HS.out hNR.out h0R.out).mono ?_
        rintro e w5 ⟨⟨b, rfl⟩, h5⟩
        have HX : Hid (RdL intE (w5.alloc (.cells #[.int .i64 x] 3)) (fun _ => True) (.slice (some ⟨w5.heap.size, 0, none⟩) 1 1) [x]) := RdL.lit1 (E := intE) w5 3 x (cs := #[.int .i64 x]) rfl (fun _ => True) trivial
        have H5 := Lib.hid (Sep.next h5 (new_below0 w5 (.cells #[.int .i64 x] 3)))
        clear h5 HS c1
        go_wp2_with (at_builtin; refine wpList_appS rfl _ _ intElemL rfl rfl rfl H5.out 0 rfl HX.out (by show L.length + 1 ≤ _; omega) ?_; intro A3 c3 w6 l3 HL3 h6)
        have hl3 : l3 = L ++ [x] := HL3.out
        have H6 := Lib.hid h6
        clear h6 H5 HX HL3
        subst hl3
        go_wp2
        go_roundw
        case rel => exact ⟨j + 1, L ++ [x], R, A3, c3, by omega, by go_num, rfl, ⟨by have := HL.out.1; simp; omega, by rw [← HL.out.2]; simp⟩, H6.out⟩
        case measure => simp [intOf]; omega
    · have hR : R = [] ∧ L = W := by
        obtain ⟨h1, h2⟩ := HL.out
        have h3 := congrArg List.length h2
        rw [List.length_append] at h3
        have h4 : R = [] := List.eq_nil_of_length_eq_zero (by omega)
        subst h4
        exact ⟨rfl, by rw [← h2, List.append_nil]⟩
      obtain ⟨rfl, rfl⟩ := hR
      have HF := Lib.hid (grow_nums HS.out (by omega))
      clear HS HL
      go_wp2
      go_ret
      exact ⟨_, _, rfl, HF.out⟩

set_option maxRecDepth 100000 in
theorem add_s (h : Sep B w wk (oa g va C W N ++ Rs)) (hok : WaitsP.Ok C W N) (n : Int) (hn : In64 n) :
    Calls Try.prog 19 #[.pointer (some ⟨g, 0, none⟩), .int .i64 n] wk fun e wn => ∃ A c, e = .returned (.tuple #[.slice A (addL C W n).length c, .int .i64 (addE C n)]) ∧ Sep B w wn (nums (.slice A (addL C W n).length c) (addL C W n) :: (oa g va (addC C n) (addW C W n) N ++ Rs)) := by
  obtain ⟨c0, c1⟩ := oa_c h
  obtain ⟨a, rfl⟩ := oa_ptr h
  have hgl := lt_of_block (h.blk_at 0 rfl)
  have f0 := frozen_block (h.blk_at 0 rfl) 0
  have HM := Lib.hid (may_s h hok n hn)
  have H := Lib.hid h
  have HC := Lib.hid (add_cases hok n)
  have HO := Lib.hid hok
  clear h hok hn
  rcases HC.out with ⟨_, he, g1, g2, g3⟩ | ⟨_, he, g1, g2, g3⟩ | ⟨h0, h1, he, g1, g2, g3⟩ | ⟨h0, he, g1, g2, g3⟩
  · rw [g1, g2, g3, he]
    rw [he] at HM
    have HS := Lib.hid H.out.nil_nums
    clear g1 g2 g3 he HC
    go_enter Try.func19, Try.ntmps19
    go_wp2_with fail
    refine HM.out.mono ?_
    rintro e w1 ⟨rfl, rfl⟩
    go_wp2
    go_ret2
    exact ⟨_, _, rfl, HS.out⟩
  · rw [g1, g2, g3, he]
    rw [he] at HM
    have HS := Lib.hid H.out.nil_nums
    clear g1 g2 g3 he HC
    go_enter Try.func19, Try.ntmps19
    go_wp2_with fail
    refine HM.out.mono ?_
    rintro e w1 ⟨rfl, rfl⟩
    go_wp2
    go_ret2
    exact ⟨_, _, rfl, HS.out⟩
  · rw [g1, g2, g3, he]
    rw [he] at HM
    obtain ⟨z, hz⟩ : ∃ z, z = C + n := ⟨_, rfl⟩
    rw [← hz] at h0 h1 ⊢
    have hw1 : IntKind.i64.wrap (C + n) = z := by rw [hz]; exact IntWalk.i64_in _ (by omega)
    have HS : Hid (Sep B w (wk.setCell ⟨g, 0, none⟩ (.int .i64 z)) (nums (.slice none 0 0) [] :: (oa g (.pointer (some a)) z W N ++ Rs))) := (H.out.set 0 rfl 0 (.int .i64 z)).nil_nums
    clear g1 g2 g3 he HC hz
    go_enter Try.func19, Try.ntmps19
    go_wp2_with fail
    refine HM.out.mono ?_
    rintro e w1 ⟨rfl, rfl⟩
    go_wp2
    go_ret2
    exact ⟨_, _, rfl, HS.out⟩
  · rw [g1, g2, g3, he]
    rw [he] at HM
    have hw1 : IntKind.i64.wrap (C + n) = 0 := by rw [h0]; rfl
    have HS : Hid (Sep B w (wk.setCell ⟨g, 0, none⟩ (.int .i64 0)) (oa g (.pointer (some a)) 0 W N ++ Rs)) := H.out.set 0 rfl 0 (.int .i64 0)
    have HT := Lib.hid (all_s HS.out HO.out.once (fun y hy => (HO.out.ws y hy).1) HO.out.wlen)
    clear g1 g2 g3 he HC h0
    go_enter Try.func19, Try.ntmps19
    go_wp2_with fail
    refine HM.out.mono ?_
    rintro e w1 ⟨rfl, rfl⟩
    go_wp2_with fail
    refine HT.out.mono ?_
    rintro e w2 ⟨A2, c2, rfl, h2⟩
    have H2 := Lib.hid h2
    clear h2 HT HS H c0 c1
    go_wp2
    go_ret2
    exact ⟨_, _, rfl, H2.out⟩

set_option maxRecDepth 100000 in
theorem dec_s (h : Sep B w wk (oa g va C W N ++ Rs)) (hok : WaitsP.Ok C W N) :
    Calls Try.prog 21 #[.pointer (some ⟨g, 0, none⟩)] wk fun e wn => ∃ A c, e = .returned (.tuple #[.slice A (addL C W (-1)).length c, .int .i64 (addE C (-1))]) ∧ Sep B w wn (nums (.slice A (addL C W (-1)).length c) (addL C W (-1)) :: (oa g va (addC C (-1)) (addW C W (-1)) N ++ Rs)) := by
  have HA := Lib.hid (add_s h hok (-1) ⟨by omega, by omega⟩)
  clear h hok
  generalize addL C W (-1) = L at *
  generalize addE C (-1) = E at *
  go_enter Try.func21, Try.ntmps21
  go_wp2_with fail
  refine HA.out.mono ?_
  rintro e w1 ⟨A, c, rfl, h1⟩
  have H1 := Lib.hid h1
  clear h1 HA
  go_wp2
  go_ret2
  exact ⟨_, _, rfl, H1.out⟩
end

theorem new_no_c (n : Int) (w : World) (h : n < 1 ∨ 1000 < n) : Calls Try.prog 7 #[.int .i64 n] w fun e w' => e = .returned (.tuple #[.pointer none, .int .i64 1]) ∧ Below w.heap.size w w' := by
  have HA := Lib.hid (RingN.new_no 1 n w (by omega))
  clear h
  go_enter Try.func7, Try.ntmps7
  go_wp2_with fail
  refine HA.out.mono ?_
  rintro e w1 ⟨rfl, h1⟩
  have H1 := Lib.hid h1
  clear h1 HA
  go_wp2
  go_ret2
  exact ⟨rfl, H1.out⟩
theorem new_yes_c {B : Nat → Prop} {w wk : World} {Rs : List Res} (h : Sep B w wk Rs) (n : Int) (h1 : 1 ≤ n) (h2 : n ≤ 1000) : Calls Try.prog 7 #[.int .i64 n] wk fun e wn => ∃ g va, e = .returned (.tuple #[.pointer (some ⟨g, 0, none⟩), .int .i64 0]) ∧ Sep B w wn (oa g va 0 [] n ++ Rs) := by
  have HA := Lib.hid (a_new h 1 n (by omega) (by omega) h1 h2)
  clear h
  go_enter Try.func7, Try.ntmps7
  go_wp2_with fail
  refine HA.out.mono ?_
  rintro e w1 ⟨a, rfl, h1⟩
  have H1 := Lib.hid h1
  have H2 : Hid (Sep B w _ (oa w1.heap.size (.pointer (some a)) 0 [] n ++ Rs)) := h1.new (.cells #[.int .i64 0, .pointer (some a)] 56)
  clear h1 HA H1
  go_wp2
  go_ret2
  exact ⟨_, _, rfl, H2.out⟩

/-- A group behind a pointer, in blocks of F. -/
def OA : Ob WaitsI.St where
  A w v F s := WaitsP.Ok s.1 s.2.1 s.2.2 ∧ ∃ g va, v = .pointer (some ⟨g, 0, none⟩) ∧ (pack (oa g va s.1 s.2.1 s.2.2)).holds w F
  ptr := fun ⟨_, _, _, e, _⟩ => ⟨_, e⟩
  keep := fun ⟨o, g, va, e, h⟩ hs hk => ⟨o, g, va, e, (pack (oa g va _ _ _)).keep h hs hk⟩
  lt := fun ⟨_, g, va, _, h⟩ => (pack (oa g va _ _ _)).lt h
section
variable {w wn : World} {F : Nat → Prop} {g : Nat} {va : Value} {C : Int} {W : List Int} {N : Int}
theorem oa_sep (h : (pack (oa g va C W N)).holds w F) : Sep F w w (oa g va C W N ++ []) := (Sep.of h).unpack
theorem oa_stays (hok : WaitsP.Ok C W N) (h : Sep F w wn (oa g va C W N ++ [])) : Stays (ob OA (.pointer (some ⟨g, 0, none⟩)) (C, W, N)) F w wn := by
  obtain ⟨F', hR, ho, hF⟩ := h.packed.left 0 rfl
  exact ⟨F', ⟨hok, g, va, rfl, hR⟩, ho, hF⟩
theorem oa_tells {u : Value} {l : List Int} (hok : WaitsP.Ok C W N) (h : Sep F w wn (nums u l :: (oa g va C W N ++ []))) : Tells (ob OA (.pointer (some ⟨g, 0, none⟩)) (C, W, N)) F w wn u l := by
  have h1 : Sep F w wn (oa g va C W N ++ [nums u l]) := h.perm (by rw [List.append_nil]; exact List.perm_append_comm (l₁ := [_]))
  obtain ⟨ho, F1, F2, ha, hb, s1, s2, d⟩ := h1.packed.swap
  obtain ⟨F3, F4, hc, hd, s3, s4, e⟩ := hb
  exact ⟨F3, F1, ⟨hok, g, va, rfl, hc⟩, ha.1, ho, fun k hk => s2 k (s3 k hk), s1, fun k a b => d k a (s3 k b)⟩
end

/-- Package waits, as the laws ask for it. -/
def theWg : WaitsI.Wg where
  O := OA
  ok := fun h => h.1
  new_no := fun n w _ h => new_no_c n w h
  new_yes := fun n w h1 h2 => by
    refine (new_yes_c (Sep.nil (fun _ => False) w) n h1 h2).mono ?_
    rintro e wn ⟨g, va, rfl, hs⟩
    have hb := hs.old
    obtain ⟨_, F1, _, h3, _, s1, _, _⟩ := hs.packed
    exact ⟨_, F1, rfl, ⟨WaitsP.Ok.new h1 h2, g, va, rfl, h3⟩, hb, fun k hk => (s1 k hk).resolve_left id⟩
  add := fun {w v F C W N} h n hn => by
    obtain ⟨hok, g, va, rfl, h⟩ := h
    refine (add_s (oa_sep h) hok n hn).mono ?_
    rintro e wn ⟨A, c, rfl, hs⟩
    exact ⟨_, rfl, oa_tells (hok.add n) hs⟩
  dec := fun {w v F C W N} h => by
    obtain ⟨hok, g, va, rfl, h⟩ := h
    refine (dec_s (oa_sep h) hok).mono ?_
    rintro e wn ⟨A, c, rfl, hs⟩
    exact ⟨_, rfl, oa_tells (hok.add (-1)) hs⟩
  wait := fun {w v F C W N} h t _ => by
    obtain ⟨hok, g, va, rfl, h⟩ := h
    refine (wait_s (oa_sep h) hok t).mono ?_
    rintro e wn ⟨rfl, hs⟩
    exact ⟨rfl, oa_stays (hok.wait t) hs⟩
  leave := fun {w v F C W N} h t _ => by
    obtain ⟨hok, g, va, rfl, h⟩ := h
    refine (leave_s (oa_sep h) t).mono ?_
    rintro e wn ⟨rfl, hs⟩
    exact ⟨rfl, oa_stays (hok.leave t) hs⟩
  count := fun {w v F C W N} h => by
    obtain ⟨hok, g, va, rfl, h⟩ := h
    refine (count_s (oa_sep h)).mono ?_
    rintro e wn ⟨rfl, rfl⟩
    exact ⟨rfl, Below.refl _ _⟩
  waiting := fun {w v F C W N} h => by
    obtain ⟨hok, g, va, rfl, h⟩ := h
    exact waiting_s (oa_sep h)
end Go.Proofs.Ytjojpejhmengaaa.WaitsA
