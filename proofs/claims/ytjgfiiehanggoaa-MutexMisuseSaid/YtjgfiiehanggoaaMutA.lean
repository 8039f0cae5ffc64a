/-
  Package mutex, as it landed, over its arena, and that it meets what the laws of layer 8 ask of it: 'theMu'. No condition.
-/
import Derived.Test.YtjgfiiehanggoaaArena
import Derived.Test.YtjgfiiehanggoaaMutI
namespace Go.Proofs.Ytjgfiiehanggoaa.MutA
open Go.ChangeShapes Go.WideShapes Go.ChangeAt Go.RowKit Mem MutP Hand RefMut Arena

/-- A lock: its own block, and its arena of one row. -/
def lk (g : Nat) (va : Value) (H : Int) (W : List Int) (N : Int) : List Res := [blk g (.cells #[va, .int .i64 H] 55 (0, 0)), ob aren va ([W], N)]

section
variable {B : Nat → Prop} {w wk : World} {Rs : List Res} {g : Nat} {va : Value} {H : Int} {W : List Int} {N : Int}
theorem lk_ptr (h : Sep B w wk (lk g va H W N ++ Rs)) : ∃ a, va = .pointer (some a) := ob_ptr (O := aren) h 1 rfl
set_option maxRecDepth 100000 in
theorem has_s (h : Sep B w wk (lk g va H W N ++ Rs)) (t : Int) :
    Calls Try.prog 25 #[.pointer (some ⟨g, 0, none⟩), .int .i64 t] wk fun e wn => e = .returned (.bool (nameM N t)) ∧ wk = wn := by
  have c0 := (cell_block (h.blk_at 0 rfl) 0).trans rfl
  have HA := Lib.hid (a_nodes h 1 rfl)
  obtain ⟨a, rfl⟩ := lk_ptr h
  clear h
  unfold nameM
  by_cases h0 : 0 ≤ t
  · have hE : decide (0 ≤ t ∧ t < N) = decide (t < N) := by rw [Bool.eq_iff_iff]; simp [h0]
    rw [hE]
    clear hE
    go_enter Try.func25, Try.ntmps25
    go_wp2_with fail
    refine HA.out.mono ?_
    rintro e w1 ⟨rfl, rfl⟩
    go_wp2
    go_ret
    exact ⟨rfl, rfl⟩
  · have hE : decide (0 ≤ t ∧ t < N) = false := by simp [h0]
    rw [hE]
    clear hE
    go_enter Try.func25, Try.ntmps25
    go_wp2
    go_ret
    exact ⟨rfl, rfl⟩
theorem holder_s (h : Sep B w wk (lk g va H W N ++ Rs)) :
    Calls Try.prog 13 #[.pointer (some ⟨g, 0, none⟩)] wk fun e wn => e = .returned (.int .i64 H) ∧ wk = wn := by
  have c1 := (cell_block (h.blk_at 0 rfl) 1).trans rfl
  clear h
  go_enter Try.func13, Try.ntmps13
  go_wp2
  go_ret
  exact ⟨rfl, rfl⟩
theorem waiting_s (h : Sep B w wk (lk g va H W N ++ Rs)) :
    Calls Try.prog 15 #[.pointer (some ⟨g, 0, none⟩)] wk fun e wn => ∃ u, e = .returned u ∧ Says wk wn u W := by
  have c0 := (cell_block (h.blk_at 0 rfl) 0).trans rfl
  have HA := Lib.hid (a_says h 1 rfl 0)
  rw [one_list] at HA
  obtain ⟨a, rfl⟩ := lk_ptr h
  clear h
  go_enter Try.func15, Try.ntmps15
  go_wp2_with fail
  refine HA.out.mono ?_
  rintro e w1 ⟨u, rfl, hu⟩
  have HU := Lib.hid hu
  clear hu HA
  go_wp2
  go_ret
  exact ⟨_, rfl, HU.out⟩
theorem leave_s (h : Sep B w wk (lk g va H W N ++ Rs)) (t : Int) :
    Calls Try.prog 19 #[.pointer (some ⟨g, 0, none⟩), .int .i64 t] wk fun e wn => e = .returned (.bool (MutP.inL W t)) ∧ Sep B w wn (lk g va H (withoutL W t) N ++ Rs) := by
  have c0 := (cell_block (h.blk_at 0 rfl) 0).trans rfl
  have hd := a_drop h 1 rfl t
  have hE : decide (0 ≤ RefRing.inL [W] t) = MutP.inL W t := by
    rw [one_in]
    unfold MutP.inL
    by_cases hm : t ∈ W
    · simp [hm]
    · simp [hm]
  rw [hE, one_drop] at hd
  have HA : Hid (Calls Try.prog 27 #[va, .int .i64 t] wk fun e wn => e = .returned (.bool (MutP.inL W t)) ∧ Sep B w wn (lk g va H (withoutL W t) N ++ Rs)) := hd
  obtain ⟨a, rfl⟩ := lk_ptr h
  clear h hd hE
  go_enter Try.func19, Try.ntmps19
  go_wp2_with fail
  refine HA.out.mono ?_
  rintro e w1 ⟨rfl, hu⟩
  have HU := Lib.hid hu
  clear hu HA
  go_wp2
  go_ret
  exact ⟨rfl, HU.out⟩
/-- Another one holds it. -/
theorem lk_set (h : Sep B w wk (lk g va H W N ++ Rs)) (t : Int) : Sep B w (wk.setCell ⟨g, 1, none⟩ (.int .i64 t)) (lk g va t W N ++ Rs) := h.set 0 rfl 1 _
set_option maxRecDepth 100000 in
theorem try_s (h : Sep B w wk (lk g va H W N ++ Rs)) (hk : Ok H W N) (t : Int) :
    Calls Try.prog 18 #[.pointer (some ⟨g, 0, none⟩), .int .i64 t] wk fun e wn => e = .returned (.tuple #[.bool (lockB H W N t), .int .i64 (lockE W N t)]) ∧ Sep B w wn (lk g va (lockH H W N t) W N ++ Rs) := by
  have HS := Lib.hid h
  have HH := Lib.hid (has_s h t)
  have HI := Lib.hid (a_in h 1 rfl t)
  have c0 := (cell_block (h.blk_at 0 rfl) 0).trans rfl
  have c1 := (cell_block (h.blk_at 0 rfl) 1).trans rfl
  have f1 := frozen_block (h.blk_at 0 rfl) 1
  rw [one_in] at HI
  have hH := hk.h0
  obtain ⟨a, rfl⟩ := lk_ptr h
  clear h hk
  unfold lockH lockB lockE
  cases hn : nameM N t with
  | false =>
    rw [hn] at HH
    simp only [Bool.false_and, Bool.false_eq_true, if_false, if_true]
    clear hn
    go_enter Try.func18, Try.ntmps18
    go_wp2_with fail
    refine HH.out.mono ?_
    rintro e w1 ⟨rfl, rfl⟩
    go_wp2
    go_ret2
    exact ⟨rfl, HS.out⟩
  | true =>
    rw [hn] at HH
    by_cases hm : t ∈ W
    · have hi : MutP.inL W t = true := by unfold MutP.inL; simpa using hm
      rw [if_pos hm] at HI
      rw [hi]
      simp only [Bool.true_and, Bool.not_true, Bool.false_and, Bool.false_eq_true, if_false, if_true, Bool.true_eq_false]
      clear hn hm hi
      go_enter Try.func18, Try.ntmps18
      go_wp2_with fail
      refine HH.out.mono ?_
      rintro e w1 ⟨rfl, rfl⟩
      go_wp2_with fail
      refine HI.out.mono ?_
      rintro e w1 ⟨rfl, rfl⟩
      go_wp2
      go_ret2
      exact ⟨rfl, HS.out⟩
    · have hi : MutP.inL W t = false := by unfold MutP.inL; simpa using hm
      rw [if_neg hm] at HI
      rw [hi]
      by_cases hH0 : H < 0
      · obtain rfl : H = -1 := by omega
        simp only [Bool.true_and, Bool.not_false, Bool.false_eq_true, if_false, if_true, Bool.true_eq_false, Int.reduceLT, decide_true, Int.reduceNeg]
        have HN := Lib.hid (lk_set HS.out t)
        clear hn hm hi HS
        go_enter Try.func18, Try.ntmps18
        go_wp2_with fail
        refine HH.out.mono ?_
        rintro e w1 ⟨rfl, rfl⟩
        go_wp2_with fail
        refine HI.out.mono ?_
        rintro e w1 ⟨rfl, rfl⟩
        go_wp2
        go_ret2
        exact ⟨rfl, HN.out⟩
      · have hd : decide (H < 0) = false := decide_eq_false hH0
        have he : (H != -1) = true := by rw [bne_iff_ne]; omega
        rw [hd]
        simp only [Bool.true_and, Bool.not_false, Bool.and_false, Bool.false_eq_true, if_false, Bool.true_eq_false]
        clear hn hm hi hH0 hH hd
        go_enter Try.func18, Try.ntmps18
        go_wp2_with fail
        refine HH.out.mono ?_
        rintro e w1 ⟨rfl, rfl⟩
        go_wp2_with fail
        refine HI.out.mono ?_
        rintro e w1 ⟨rfl, rfl⟩
        go_wp2
        go_ret2
        exact ⟨rfl, HS.out⟩
set_option maxRecDepth 100000 in
theorem lock_s (h : Sep B w wk (lk g va H W N ++ Rs)) (hk : Ok H W N) (t : Int) :
    Calls Try.prog 17 #[.pointer (some ⟨g, 0, none⟩), .int .i64 t] wk fun e wn => e = .returned (.tuple #[.bool (lockB H W N t), .int .i64 (lockE W N t)]) ∧ Sep B w wn (lk g va (lockH H W N t) (lockW H W N t true) N ++ Rs) := by
  have HT := Lib.hid (try_s h hk t)
  obtain ⟨a, rfl⟩ := lk_ptr h
  clear h
  by_cases hb : lockB H W N t = true
  · have hE : lockE W N t = 0 := by
      unfold lockB at hb
      simp only [Bool.and_eq_true, Bool.not_eq_true'] at hb
      unfold lockE
      rw [hb.1.1, hb.1.2]
      rfl
    have hW : lockW H W N t true = W := by
      unfold lockW
      rw [if_neg]
      unfold lockB at hb
      unfold waitsB
      simp only [Bool.and_eq_true, Bool.not_eq_true', decide_eq_true_eq] at hb
      simp [hb.2]
    rw [hE, hb] at HT
    rw [hE, hb, hW]
    clear hE hb hW
    go_enter Try.func17, Try.ntmps17
    go_wp2_with fail
    refine HT.out.mono ?_
    rintro e w1 ⟨rfl, h1⟩
    have H1 := Lib.hid h1
    clear h1 HT
    go_wp2
    go_ret2
    exact ⟨rfl, H1.out⟩
  · have hb' : lockB H W N t = false := by simpa using hb
    by_cases hE : lockE W N t = 0
    · have hn : nameM N t = true ∧ MutP.inL W t = false := by
        unfold lockE at hE
        cases h1 : nameM N t <;> cases h2 : MutP.inL W t <;> simp_all
      have hw : waitsB H W N t true = true := by
        unfold lockB at hb'
        unfold waitsB
        rw [hn.1, hn.2] at hb' ⊢
        simpa using hb'
      have hW : lockW H W N t true = W ++ [t] := by unfold lockW; rw [if_pos hw]
      have hH : lockH H W N t = H := by unfold lockH; rw [if_neg hb]
      obtain ⟨p1, p2⟩ := one_put W N t (name_iff.1 hn.1) (by have := hn.2; unfold MutP.inL at this; simpa using this)
      rw [hE, hb', hH] at HT
      rw [hE, hb', hW, hH]
      have HP1 := Lib.hid p1
      have HP2 := Lib.hid p2
      clear hE hb hb' hW hH hn hw p1 p2 hk
      go_enter Try.func17, Try.ntmps17
      go_wp2_with fail
      refine HT.out.mono ?_
      rintro e w1 ⟨rfl, h1⟩
      have c0 := (cell_block (h1.blk_at 0 rfl) 0).trans rfl
      have h2 := a_put h1 1 rfl 0 t
      rw [HP1.out, HP2.out] at h2
      have H2 : Hid (Calls Try.prog 24 #[.pointer (some a), .int .i64 0, .int .i64 t] w1 fun e wn => e = .returned (.int .i64 0) ∧ Sep B w wn (lk g (.pointer (some a)) H (W ++ [t]) N ++ Rs)) := h2
      clear h1 h2 HT
      go_wp2_with fail
      refine H2.out.mono ?_
      rintro e w2 ⟨rfl, h3⟩
      have H3 := Lib.hid h3
      clear h3 H2
      go_wp2
      go_ret2
      exact ⟨rfl, H3.out⟩
    · have hW : lockW H W N t true = W := by
        unfold lockW
        rw [if_neg]
        intro hw
        unfold waitsB at hw
        simp only [Bool.and_eq_true, Bool.not_eq_true'] at hw
        apply hE
        unfold lockE
        rw [hw.1.1.1, hw.1.1.2]
        rfl
      have he : (lockE W N t != 0) = true := by rw [bne_iff_ne]; exact hE
      rw [hb'] at HT
      rw [hb', hW]
      generalize lockE W N t = E at *
      clear hE hb hb' hW
      go_enter Try.func17, Try.ntmps17
      go_wp2_with fail
      refine HT.out.mono ?_
      rintro e w1 ⟨rfl, h1⟩
      have H1 := Lib.hid h1
      clear h1 HT
      go_wp2
      go_ret2
      exact ⟨rfl, H1.out⟩
set_option maxRecDepth 100000 in
theorem unlock_s (h : Sep B w wk (lk g va H W N ++ Rs)) (hk : Ok H W N) (t : Int) :
    Calls Try.prog 20 #[.pointer (some ⟨g, 0, none⟩), .int .i64 t] wk fun e wn => e = .returned (.tuple #[.int .i64 (unlV H W N t), .int .i64 (unlE H N t)]) ∧ Sep B w wn (lk g va (unlH H W N t) (unlW H W N t) N ++ Rs) := by
  have HS := Lib.hid h
  have HH := Lib.hid (has_s h t)
  have ht := a_take h 1 rfl 0
  rw [one_take W hk.once fun y hy => (hk.ws y hy).1] at ht
  rw [one_first, one_in] at ht
  generalize hb : decide (0 ≤ if W.headD (-1) ∈ W then (0 : Int) else -1) = b at ht
  have HT : Hid (Calls Try.prog 28 #[va, .int .i64 0] wk fun e wn => e = .returned (.tuple #[.int .i64 (W.headD (-1)), .bool b]) ∧ Sep B w wn (lk g va H W.tail N ++ Rs)) := ht
  have c0 := (cell_block (h.blk_at 0 rfl) 0).trans rfl
  have c1 := (cell_block (h.blk_at 0 rfl) 1).trans rfl
  obtain ⟨a, rfl⟩ := lk_ptr h
  clear h hk ht hb
  unfold unlV unlE unlH unlW
  cases hn : nameM N t with
  | false =>
    rw [hn] at HH
    simp only [Bool.false_eq_true, false_and, if_false, if_true]
    clear hn HT
    go_enter Try.func20, Try.ntmps20
    go_wp2_with fail
    refine HH.out.mono ?_
    rintro e w1 ⟨rfl, rfl⟩
    go_wp2
    go_ret2
    exact ⟨rfl, HS.out⟩
  | true =>
    rw [hn] at HH
    by_cases hm : H = t
    · subst hm
      simp only [Bool.true_eq_false, and_self, if_false, if_true]
      have he : (H != H) = false := by simp
      generalize W.headD (-1) = y at *
      clear hn HS
      go_enter Try.func20, Try.ntmps20
      go_wp2_with fail
      refine HH.out.mono ?_
      rintro e w1 ⟨rfl, rfl⟩
      go_wp2_with fail
      refine HT.out.mono ?_
      rintro e w1 ⟨rfl, h1⟩
      have c1 := (cell_block (h1.blk_at 0 rfl) 1).trans rfl
      have f1 := frozen_block (h1.blk_at 0 rfl) 1
      have HN := Lib.hid (lk_set h1 y)
      clear h1 HT
      go_wp2
      go_ret2
      exact ⟨rfl, HN.out⟩
    · simp only [Bool.true_eq_false, hm, and_false, if_false]
      have he : (H != t) = true := by rw [bne_iff_ne]; exact hm
      clear hn HT hm
      go_enter Try.func20, Try.ntmps20
      go_wp2_with fail
      refine HH.out.mono ?_
      rintro e w1 ⟨rfl, rfl⟩
      go_wp2
      go_ret2
      exact ⟨rfl, HS.out⟩
end
theorem new_no_c (n : Int) (w : World) (h : n < 1 ∨ 1000 < n) : Calls Try.prog 7 #[.int .i64 n] w fun e w' => e = .returned (.tuple #[.pointer none, .int .i64 1]) ∧ Below w.heap.size w w' := by
  have HA := Lib.hid (RingN.new_no 1 n w (by omega))
  clear h
  go_enter Try.func7, Try.ntmps7
  go_wp2_with fail
  refine HA.out.mono ?_
  rintro e w1 ⟨rfl, h1⟩
  have H1 := Lib.hid h1
  clear h1 HA
  go_wp2
  go_ret2
  exact ⟨rfl, H1.out⟩
theorem new_yes_c {B : Nat → Prop} {w wk : World} {Rs : List Res} (h : Sep B w wk Rs) (n : Int) (h1 : 1 ≤ n) (h2 : n ≤ 1000) : Calls Try.prog 7 #[.int .i64 n] wk fun e wn => ∃ g va, e = .returned (.tuple #[.pointer (some ⟨g, 0, none⟩), .int .i64 0]) ∧ Sep B w wn (lk g va (-1) [] n ++ Rs) := by
  have HA := Lib.hid (a_new h 1 n (by omega) (by omega) h1 h2)
  clear h
  go_enter Try.func7, Try.ntmps7
  go_wp2_with fail
  refine HA.out.mono ?_
  rintro e w1 ⟨a, rfl, h1⟩
  have H1 := Lib.hid (h1.new (.cells #[.pointer (some a), .int .i64 (-1)] 55))
  clear h1 HA
  go_wp2
  go_ret2
  exact ⟨_, _, rfl, H1.out⟩

/-- A lock behind a pointer, in blocks of F. -/
def MA : Ob MutI.St where
  A w v F s := Ok s.1 s.2.1 s.2.2 ∧ ∃ g va, v = .pointer (some ⟨g, 0, none⟩) ∧ (pack (lk g va s.1 s.2.1 s.2.2)).holds w F
  ptr := fun ⟨_, _, _, e, _⟩ => ⟨_, e⟩
  keep := fun ⟨o, g, va, e, h⟩ hs hk => ⟨o, g, va, e, (pack (lk g va _ _ _)).keep h hs hk⟩
  lt := fun ⟨_, g, va, _, h⟩ => (pack (lk g va _ _ _)).lt h
section
variable {w wn : World} {F : Nat → Prop} {g : Nat} {va : Value} {H H' : Int} {W W' : List Int} {N : Int}
theorem ma_sep (h : (pack (lk g va H W N)).holds w F) : Sep F w w (lk g va H W N ++ []) := (Sep.of h).unpack
theorem ma_stays (hk : Ok H' W' N) (h : Sep F w wn (lk g va H' W' N ++ [])) : Stays (ob MA (.pointer (some ⟨g, 0, none⟩)) (H', W', N)) F w wn := by
  obtain ⟨F', hR, ho, hF⟩ := h.packed.left 0 rfl
  exact ⟨F', ⟨hk, g, va, rfl, hR⟩, ho, hF⟩
end
def theMu : MutI.Mu where
  O := MA
  ok := fun h => h.1
  new_no := fun n w _ h => new_no_c n w h
  new_yes := fun n w h1 h2 => by
    refine (new_yes_c (Sep.nil (fun _ => False) w) n h1 h2).mono ?_
    rintro e wn ⟨g, va, rfl, hs⟩
    have hb := hs.old
    obtain ⟨_, F1, _, h3, _, s1, _, _⟩ := hs.packed
    exact ⟨_, F1, rfl, ⟨Ok.new h1 h2, g, va, rfl, h3⟩, hb, fun k hk => (s1 k hk).resolve_left id⟩
  lock := fun {w v F H W N} h t _ => by
    obtain ⟨hk, g, va, rfl, h⟩ := h
    refine (lock_s (ma_sep h) hk t).mono ?_
    rintro e wn ⟨rfl, hs⟩
    exact ⟨rfl, ma_stays (Ok.lock hk t true) hs⟩
  try_ := fun {w v F H W N} h t _ => by
    obtain ⟨hk, g, va, rfl, h⟩ := h
    refine (try_s (ma_sep h) hk t).mono ?_
    rintro e wn ⟨rfl, hs⟩
    exact ⟨rfl, ma_stays (by have := Ok.lock hk t false; rw [MutI.lockW_no] at this; exact this) hs⟩
  unlock := fun {w v F H W N} h t _ => by
    obtain ⟨hk, g, va, rfl, h⟩ := h
    refine (unlock_s (ma_sep h) hk t).mono ?_
    rintro e wn ⟨rfl, hs⟩
    exact ⟨rfl, ma_stays (Ok.unlock hk t) hs⟩
  leave := fun {w v F H W N} h t _ => by
    obtain ⟨hk, g, va, rfl, h⟩ := h
    refine (leave_s (ma_sep h) t).mono ?_
    rintro e wn ⟨rfl, hs⟩
    exact ⟨rfl, ma_stays (Ok.leave hk t) hs⟩
  holder := fun {w v F H W N} h => by
    obtain ⟨hk, g, va, rfl, h⟩ := h
    refine (holder_s (ma_sep h)).mono ?_
    rintro e wn ⟨rfl, rfl⟩
    exact ⟨rfl, Below.refl _ _⟩
  waiting := fun {w v F H W N} h => by
    obtain ⟨hk, g, va, rfl, h⟩ := h
    exact waiting_s (ma_sep h)
end Go.Proofs.Ytjgfiiehanggoaa.MutA
