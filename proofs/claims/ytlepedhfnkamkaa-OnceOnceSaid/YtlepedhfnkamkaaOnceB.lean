/-
  Package once, as it landed: Begin, End, New; the package, as the laws ask for it. No condition.
-/
import Derived.Test.YtlepedhfnkamkaaOnceA
namespace Go.Proofs.Ytlepedhfnkamkaa.OnceA
open Go.ChangeShapes Go.WideShapes Go.ChangeAt Go.RowKit Mem MutP OnceP Hand RefMut Arena

section
variable {B : Nat → Prop} {w wk : World} {Rs : List Res} {g : Nat} {va : Value} {S D : Int} {W : List Int} {N : Int}
theorem put_first (h : Sep B w wk (oa g va 1 (-1) [] N ++ Rs)) (t : Int) (h0 : 0 ≤ t) (h1 : t < N) : Calls Try.prog 31 #[va, .int .i64 0, .int .i64 t] wk fun e wn => (∃ u, e = .returned (.int .i64 u)) ∧ Sep B w wn (oa g va 1 t [] N ++ Rs) := by
  have hp := a_put h 1 rfl 0 t
  rw [row_no, (one_put [] N t ⟨h0, h1⟩ (by simp)).1, (one_put [] N t ⟨h0, h1⟩ (by simp)).2] at hp
  refine hp.mono ?_
  rintro e wn ⟨rfl, h⟩
  refine ⟨⟨_, rfl⟩, ?_⟩
  have : Sep B w wn (oa g va 1 t [] N ++ Rs) := by unfold oa; rw [row_yes h0]; exact h
  exact this
theorem put_more (h : Sep B w wk (oa g va S D W N ++ Rs)) (t : Int) (hD : 0 ≤ D) (h0 : 0 ≤ t) (h1 : t < N) (hne : D ≠ t) (hn : t ∉ W) : Calls Try.prog 31 #[va, .int .i64 0, .int .i64 t] wk fun e wn => (∃ u, e = .returned (.int .i64 u)) ∧ Sep B w wn (oa g va S D (W ++ [t]) N ++ Rs) := by
  have hp := a_put h 1 rfl 0 t
  have hq : t ∉ D :: W := fun hm => by
    rcases List.mem_cons.1 hm with hm | hm
    · exact hne hm.symm
    · exact hn hm
  rw [row_yes hD, (one_put (D :: W) N t ⟨h0, h1⟩ hq).1, (one_put (D :: W) N t ⟨h0, h1⟩ hq).2] at hp
  refine hp.mono ?_
  rintro e wn ⟨rfl, h⟩
  refine ⟨⟨_, rfl⟩, ?_⟩
  have : Sep B w wn (oa g va S D (W ++ [t]) N ++ Rs) := by unfold oa; rw [row_yes hD]; exact h
  exact this

set_option maxRecDepth 100000 in
theorem beg_s (h : Sep B w wk (oa g va S D W N ++ Rs)) (hok : OnceP.Ok S D W N) (t : Int) :
    Calls Try.prog 21 #[.pointer (some ⟨g, 0, none⟩), .int .i64 t] wk fun e wn => e = .returned (.tuple #[.int .i64 (begK S D W N t), .int .i64 (begE D W N t)]) ∧ Sep B w wn (oa g va (begS S D W N t) (begD S D W N t) (begW S D W N t) N ++ Rs) := by
  obtain ⟨a, rfl⟩ := oa_ptr h
  have HM := Lib.hid (may_s h hok t)
  have hgl := lt_of_block (h.blk_at 0 rfl)
  have H := Lib.hid h
  have HC := Lib.hid (beg_cases hok t)
  clear h hok
  rcases HC.out with ⟨he, g0, g1, g2, g3⟩ | ⟨he, rfl, rfl, rfl, g0, g1, g2, g3, t0, t1⟩ | ⟨he, rfl, hD, hne, hn, g0, g1, g2, g3, t0, t1⟩ | ⟨he, rfl, rfl, rfl, g0, g1, g2, g3⟩
  · rw [g0, g1, g2, g3]
    generalize begE D W N t = E at *
    have e0 : (E != 0) = true := by simpa using he
    clear he g0 g1 g2 g3 HC
    go_enter Try.func21, Try.ntmps21
    go_wp2_with fail
    refine HM.out.mono ?_
    rintro e w1 ⟨rfl, n, rfl⟩
    have H2 := Lib.hid (H.out.drewN n)
    clear H HM
    go_wp2
    go_ret2
    exact ⟨rfl, H2.out⟩
  · rw [g0, g1, g2, g3, he]
    rw [he] at HM
    have T0 := Lib.hid t0
    have T1 := Lib.hid t1
    clear he g0 g1 g2 g3 HC t0 t1
    go_enter Try.func21, Try.ntmps21
    go_wp2_with fail
    refine HM.out.mono ?_
    rintro e w1 ⟨rfl, n, rfl⟩
    have h2 := H.out.drewN n
    obtain ⟨c0, c1⟩ := oa_c h2
    have f0 := frozen_block (h2.blk_at 0 rfl) 0
    have h3 := h2.set 0 rfl 0 (.int .i64 1)
    have k1 := (oa_c (g := g) (va := .pointer (some a)) (S := 1) (D := -1) (W := []) (N := N) (Rs := Rs) h3).2
    have H3 : Hid (Sep B w _ (oa g (.pointer (some a)) 1 (-1) [] N ++ Rs)) := h3
    clear h2 h3 H HM
    go_wp2_with fail
    refine (put_first H3.out t T0.out T1.out).mono ?_
    rintro e w2 ⟨⟨u, rfl⟩, h4⟩
    have H4 := Lib.hid h4
    clear h4 H3 c0 c1 f0 k1
    go_wp2
    go_ret2
    exact ⟨rfl, H4.out⟩
  · rw [g0, g1, g2, g3, he]
    rw [he] at HM
    have T := Lib.hid (And.intro hD (And.intro t0 (And.intro t1 (And.intro hne hn))))
    clear he g0 g1 g2 g3 HC t0 t1 hD hne hn
    go_enter Try.func21, Try.ntmps21
    go_wp2_with fail
    refine HM.out.mono ?_
    rintro e w1 ⟨rfl, n, rfl⟩
    have h2 := H.out.drewN n
    obtain ⟨c0, c1⟩ := oa_c h2
    have H3 := Lib.hid h2
    clear h2 H HM
    go_wp2_with fail
    refine (put_more H3.out t T.out.1 T.out.2.1 T.out.2.2.1 T.out.2.2.2.1 T.out.2.2.2.2).mono ?_
    rintro e w2 ⟨⟨u, rfl⟩, h4⟩
    have H4 := Lib.hid h4
    clear h4 H3 c0 c1
    go_wp2
    go_ret2
    exact ⟨rfl, H4.out⟩
  · rw [g0, g1, g2, g3, he]
    rw [he] at HM
    clear he g0 g1 g2 g3 HC
    go_enter Try.func21, Try.ntmps21
    go_wp2_with fail
    refine HM.out.mono ?_
    rintro e w1 ⟨rfl, n, rfl⟩
    have h2 := H.out.drewN n
    obtain ⟨c0, c1⟩ := oa_c h2
    have H3 := Lib.hid h2
    clear h2 H HM
    go_wp2
    go_ret2
    exact ⟨rfl, H3.out⟩

/-- What was told lies beside. -/
theorem h_says {w2 : World} {u : Value} {l : List Int} (h : Sep B w wk (oa g va S D W N ++ Rs)) (hr : Rd w2 (fun k => wk.heap.size ≤ k) u l) (hb : Below wk.heap.size wk w2) : Sep B w w2 (oa g va S D W N ++ (nums u l :: Rs)) := by
  have h1 : Sep B w w2 (nums u l :: (oa g va S D W N ++ Rs)) := h.add hb (R := nums u l) (F := fun k => wk.heap.size ≤ k ∧ k < w2.heap.size) ⟨hr.mono fun k hk hg => ⟨hg, hk⟩, fun k hk => hk.2⟩ fun k hk => hk.1
  have h2 : Sep B w w2 (([nums u l] ++ oa g va S D W N) ++ Rs) := h1
  have h3 := h2.perm (List.perm_append_comm.append_right Rs)
  exact h3
/-- While the row is made empty: the block, and what is left of the row. -/
def ob2 (g : Nat) (va : Value) (R : List Int) (N : Int) : List Res := [blk g (.cells #[.int .i64 2, va] 56 (0, 0)), ob aren va ([R], N)]
set_option maxRecDepth 100000 in
theorem by_r {R : List Int} (h : Sep B w wk (ob2 g va R N ++ Rs)) :
    Calls Try.prog 15 #[.pointer (some ⟨g, 0, none⟩)] wk fun e wn => e = .returned (.int .i64 (R.headD (-1))) ∧ Sep B w wn (ob2 g va R N ++ Rs) := by
  have c1 : wk.cell? ⟨g, 1, none⟩ = some va := (cell_block (h.blk_at 0 rfl) 1).trans rfl
  have HA := Lib.hid (a_first h 1 rfl 0)
  obtain ⟨a, rfl⟩ := ob_ptr (O := aren) h 1 rfl
  rw [one_first] at HA
  have H := Lib.hid h
  clear h
  generalize R.headD (-1) = q at *
  go_enter Try.func15, Try.ntmps15
  go_wp2_with fail
  refine HA.out.mono ?_
  rintro e w1 ⟨rfl, n, rfl⟩
  have H2 := Lib.hid (H.out.drewN n)
  clear H HA
  go_wp2
  go_ret
  exact ⟨rfl, H2.out⟩
theorem take_r {x : Int} {R : List Int} (h : Sep B w wk (ob2 g va (x :: R) N ++ Rs)) (hn : (x :: R).Nodup) (h0 : ∀ y ∈ x :: R, 0 ≤ y) : Calls Try.prog 29 #[va, .int .i64 0] wk fun e wn => (∃ u, e = .returned u) ∧ Sep B w wn (ob2 g va R N ++ Rs) := by
  have ht := a_take h 1 rfl 0
  rw [one_take _ hn h0] at ht
  refine ht.mono ?_
  rintro e wn ⟨rfl, h⟩
  exact ⟨⟨_, rfl⟩, h⟩

set_option maxRecDepth 100000 in
theorem end_s (h : Sep B w wk (oa g va S D W N ++ Rs)) (hok : OnceP.Ok S D W N) (t : Int) :
    Calls Try.prog 20 #[.pointer (some ⟨g, 0, none⟩), .int .i64 t] wk fun e wn => ∃ u, e = .returned (.tuple #[u, .int .i64 (endE D N t)]) ∧ Sep B w wn (nums u (endL D W N t) :: (oa g va (endS S D N t) (endD D N t) (endW D W N t) N ++ Rs)) := by
  obtain ⟨a, rfl⟩ := oa_ptr h
  have hgl := lt_of_block (h.blk_at 0 rfl)
  have H := Lib.hid h
  have HO := Lib.hid hok
  have HC := Lib.hid (end_cases hok t)
  clear h hok
  rcases HC.out with ⟨he, g0, g1, g2, g3⟩ | ⟨he, rfl, rfl, t0, t1, g0, g1, g2, g3⟩
  · rw [g0, g1, g2, g3]
    by_cases hn : nameM N t = true
    · have hn' : ¬ nameM N t = false := by rw [hn]; simp
      have hD : D ≠ t := fun hD => he (by unfold endE; rw [if_neg hn', if_pos hD])
      have HE : Hid (endE D N t = 4) := by show _ = _; unfold endE; rw [if_neg hn', if_neg hD]
      have HD : Hid (doesB D t = false) := by show _ = _; unfold doesB; exact decide_eq_false fun e => hD e.2
      have hN := Lib.hid hn
      rw [HE.out]
      clear hn hn' he g0 g1 g2 g3 HC hD
      go_enter Try.func20, Try.ntmps20
      go_wp2_with fail
      refine (has_s H.out t).mono ?_
      rw [hN.out]
      rintro e w1 ⟨rfl, rfl⟩
      go_wp2_with fail
      refine (does_s H.out HO.out t).mono ?_
      rw [HD.out]
      rintro e w1 ⟨rfl, n, rfl⟩
      have H2 := Lib.hid (H.out.drewN n).nil_nums
      clear H
      go_wp2
      go_ret2
      exact ⟨_, rfl, H2.out⟩
    · have hn' : nameM N t = false := by simpa using hn
      have HE : Hid (endE D N t = 3) := by show _ = _; unfold endE; rw [if_pos hn']
      have hN := Lib.hid hn'
      have H2 := Lib.hid H.out.nil_nums
      rw [HE.out]
      clear hn hn' he g0 g1 g2 g3 HC
      go_enter Try.func20, Try.ntmps20
      go_wp2_with fail
      refine (has_s H.out t).mono ?_
      rw [hN.out]
      rintro e w1 ⟨rfl, rfl⟩
      go_wp2
      go_ret2
      exact ⟨_, rfl, H2.out⟩
  · rw [g0, g1, g2, g3, he]
    have hN := Lib.hid (name_iff.2 ⟨t0, t1⟩ : nameM N D = true)
    have HD : Hid (doesB D D = true) := by show _ = _; unfold doesB; exact decide_eq_true ⟨t0, rfl⟩
    have HR := Lib.hid (row_yes (W := W) t0)
    clear he g0 g1 g2 g3 HC t0 t1
    go_enter Try.func20, Try.ntmps20
    go_wp2_with fail
    refine (has_s H.out D).mono ?_
    rw [hN.out]
    rintro e w1 ⟨rfl, rfl⟩
    go_wp2_with fail
    refine (does_s H.out HO.out D).mono ?_
    rw [HD.out]
    rintro e w1 ⟨rfl, n, rfl⟩
    have H1 := Lib.hid (H.out.drewN n)
    clear H
    go_wp2_with fail
    refine (waiting_s H1.out HO.out).mono ?_
    rintro e w2 ⟨u, rfl, hr, hb⟩
    have h2 := h_says H1.out hr hb
    obtain ⟨A2, c2, rfl⟩ := rd_form hr
    have HT := Lib.hid (h2.set 0 rfl 0 (.int .i64 2))
    have f0 := frozen_block (h2.blk_at 0 rfl) 0
    have H3 : Hid (Sep B w (w2.setCell ⟨g, 0, none⟩ (.int .i64 2)) (ob2 g (.pointer (some a)) (rowO D W) N ++ (nums (.slice A2 W.length c2) W :: Rs))) := HT.out
    have hg2 := lt_of_block (h2.blk_at 0 rfl)
    have k0 := (oa_c h2).1
    clear h2 hr hb H1 HT
    go_wp2
    go_loopg [] (W.length + 1) (fun k wr => ∃ R : List Int, Hid (k = R.length ∧ R.Nodup ∧ (∀ y ∈ R, 0 ≤ y) ∧ Sep B w wr (ob2 g (.pointer (some a)) R N ++ (nums (.slice A2 W.length c2) W :: Rs))))
    case atStart => exact ⟨rowO D W, by rw [HR.out]; rfl, HO.out.once, fun y hy => (HO.out.ws y hy).1, H3.out⟩
    case round =>
      obtain ⟨R, HRR⟩ := hrel
      have c1 : wr.cell? ⟨g, 1, none⟩ = some (.pointer (some a)) := (cell_block (HRR.out.2.2.2.blk_at 0 rfl) 1).trans rfl
      clear H3
      cases R with
      | nil =>
        go_wp2_with fail
        refine (by_r HRR.out.2.2.2).mono ?_
        rintro e w4 ⟨rfl, h4⟩
        have H4 : Hid (Sep B w w4 (nums (.slice A2 W.length c2) W :: (oa g (.pointer (some a)) 2 (-1) [] N ++ Rs))) := by
          have : Sep B w w4 ((ob2 g (.pointer (some a)) [] N ++ [nums (.slice A2 W.length c2) W]) ++ Rs) := h4
          have h5 := this.perm (List.perm_append_comm.append_right Rs)
          show Sep B w w4 (nums (.slice A2 W.length c2) W :: (oa g (.pointer (some a)) 2 (-1) [] N ++ Rs))
          unfold oa
          rw [row_no]
          exact h5
        clear h4 HRR c1
        go_wp2
        go_ret2
        exact ⟨_, rfl, H4.out⟩
      | cons x R =>
        have hx : (x != -1) = true := by have := HRR.out.2.2.1 x (List.mem_cons_self ..); simp; omega
        go_wp2_with fail
        refine (by_r HRR.out.2.2.2).mono ?_
        rintro e w4 ⟨rfl, h4⟩
        have k1 : w4.cell? ⟨g, 1, none⟩ = some (.pointer (some a)) := (cell_block (h4.blk_at 0 rfl) 1).trans rfl
        have H4 := Lib.hid h4
        simp only [List.headD_cons]
        clear h4 c1
        go_wp2_with fail
        refine (take_r H4.out HRR.out.2.1 HRR.out.2.2.1).mono ?_
        rintro e w5 ⟨⟨u, rfl⟩, h5⟩
        have H5 := Lib.hid h5
        have HL := Lib.hid HRR.out.1
        have HNN := Lib.hid (List.nodup_cons.1 HRR.out.2.1).2
        have H00 : Hid (∀ y ∈ R, 0 ≤ y) := fun y hy => HRR.out.2.2.1 y (List.mem_cons_of_mem _ hy)
        clear h5 H4 k1 HRR
        go_wp2
        go_roundg (R.length)
        case measure => have := HL.out; simp at this; omega
        case rel => exact ⟨R, rfl, HNN.out, H00.out, H5.out⟩
end

theorem new_no_c (n : Int) (w : World) (h : n < 1 ∨ 1000 < n) : Calls Try.prog 7 #[.int .i64 n] w fun e w' => e = .returned (.tuple #[.pointer none, .int .i64 1]) ∧ Below w.heap.size w w' := by
  have HA := Lib.hid (RingN.new_no 1 n w (by omega))
  clear h
  go_enter Try.func7, Try.ntmps7
  go_wp2_with fail
  refine HA.out.mono ?_
  rintro e w1 ⟨rfl, h1⟩
  have H1 := Lib.hid h1
  clear h1 HA
  go_wp2
  go_ret2
  exact ⟨rfl, H1.out⟩
theorem new_yes_c {B : Nat → Prop} {w wk : World} {Rs : List Res} (h : Sep B w wk Rs) (n : Int) (h1 : 1 ≤ n) (h2 : n ≤ 1000) : Calls Try.prog 7 #[.int .i64 n] wk fun e wn => ∃ g va, e = .returned (.tuple #[.pointer (some ⟨g, 0, none⟩), .int .i64 0]) ∧ Sep B w wn (oa g va 0 (-1) [] n ++ Rs) := by
  have HA := Lib.hid (a_new h 1 n (by omega) (by omega) h1 h2)
  clear h
  go_enter Try.func7, Try.ntmps7
  go_wp2_with fail
  refine HA.out.mono ?_
  rintro e w1 ⟨a, rfl, h1⟩
  have H1 := Lib.hid h1
  have H2 : Hid (Sep B w _ (oa w1.heap.size (.pointer (some a)) 0 (-1) [] n ++ Rs)) := h1.new (.cells #[.int .i64 0, .pointer (some a)] 56)
  clear h1 HA H1
  go_wp2
  go_ret2
  exact ⟨_, _, rfl, H2.out⟩

/-- A thing behind a pointer, in blocks of F. -/
def OA : Ob OnceI.St where
  A w v F s := OnceP.Ok s.1 s.2.1 s.2.2.1 s.2.2.2 ∧ ∃ g va, v = .pointer (some ⟨g, 0, none⟩) ∧ (pack (oa g va s.1 s.2.1 s.2.2.1 s.2.2.2)).holds w F
  ptr := fun ⟨_, _, _, e, _⟩ => ⟨_, e⟩
  keep := fun ⟨o, g, va, e, h⟩ hs hk => ⟨o, g, va, e, (pack (oa g va _ _ _ _)).keep h hs hk⟩
  lt := fun ⟨_, g, va, _, h⟩ => (pack (oa g va _ _ _ _)).lt h
section
variable {w wn : World} {F : Nat → Prop} {g : Nat} {va : Value} {S D : Int} {W : List Int} {N : Int}
theorem oa_sep (h : (pack (oa g va S D W N)).holds w F) : Sep F w w (oa g va S D W N ++ []) := (Sep.of h).unpack
theorem oa_stays (hok : OnceP.Ok S D W N) (h : Sep F w wn (oa g va S D W N ++ [])) : Stays (ob OA (.pointer (some ⟨g, 0, none⟩)) (S, D, W, N)) F w wn := by
  obtain ⟨F', hR, ho, hF⟩ := h.packed.left 0 rfl
  exact ⟨F', ⟨hok, g, va, rfl, hR⟩, ho, hF⟩
theorem oa_tells {u : Value} {l : List Int} (hok : OnceP.Ok S D W N) (h : Sep F w wn (nums u l :: (oa g va S D W N ++ []))) : Tells (ob OA (.pointer (some ⟨g, 0, none⟩)) (S, D, W, N)) F w wn u l := by
  have h1 : Sep F w wn (oa g va S D W N ++ [nums u l]) := h.perm (by rw [List.append_nil]; exact List.perm_append_comm (l₁ := [_]))
  obtain ⟨ho, F1, F2, ha, hb, s1, s2, d⟩ := h1.packed.swap
  obtain ⟨F3, F4, hc, hd, s3, s4, e⟩ := hb
  exact ⟨F3, F1, ⟨hok, g, va, rfl, hc⟩, ha.1, ho, fun k hk => s2 k (s3 k hk), s1, fun k a b => d k a (s3 k b)⟩
end

/-- Package once, as the laws ask for it. -/
def theOn : OnceI.On where
  O := OA
  ok := fun h => h.1
  new_no := fun n w _ h => new_no_c n w h
  new_yes := fun n w h1 h2 => by
    refine (new_yes_c (Sep.nil (fun _ => False) w) n h1 h2).mono ?_
    rintro e wn ⟨g, va, rfl, hs⟩
    have hb := hs.old
    obtain ⟨_, F1, _, h3, _, s1, _, _⟩ := hs.packed
    exact ⟨_, F1, rfl, ⟨OnceP.Ok.new h1 h2, g, va, rfl, h3⟩, hb, fun k hk => (s1 k hk).resolve_left id⟩
  beg := fun {w v F S D W N} h t _ => by
    obtain ⟨hok, g, va, rfl, h⟩ := h
    refine (beg_s (oa_sep h) hok t).mono ?_
    rintro e wn ⟨rfl, hs⟩
    exact ⟨rfl, oa_stays (hok.beg t) hs⟩
  fin := fun {w v F S D W N} h t _ => by
    obtain ⟨hok, g, va, rfl, h⟩ := h
    refine (end_s (oa_sep h) hok t).mono ?_
    rintro e wn ⟨u, rfl, hs⟩
    exact ⟨u, rfl, oa_tells (hok.fin t) hs⟩
  leave := fun {w v F S D W N} h t _ => by
    obtain ⟨hok, g, va, rfl, h⟩ := h
    refine (leave_s (oa_sep h) hok t).mono ?_
    rintro e wn ⟨rfl, hs⟩
    exact ⟨rfl, oa_stays (hok.leave t) hs⟩
  state := fun {w v F S D W N} h => by
    obtain ⟨hok, g, va, rfl, h⟩ := h
    refine (state_s (oa_sep h)).mono ?_
    rintro e wn ⟨rfl, rfl⟩
    exact ⟨rfl, Below.refl _ _⟩
  by_ := fun {w v F S D W N} h => by
    obtain ⟨hok, g, va, rfl, h⟩ := h
    refine (by_s (oa_sep h) hok).mono ?_
    rintro e wn ⟨rfl, n, rfl⟩
    exact ⟨rfl, below_drewN (Below.refl _ _) n⟩
  waiting := fun {w v F S D W N} h => by
    obtain ⟨hok, g, va, rfl, h⟩ := h
    exact waiting_s (oa_sep h) hok
end Go.Proofs.Ytlepedhfnkamkaa.OnceA
