/-
  Package team, as it landed, fourth part: what ends; and that the package meets what the laws of layer 14 ask of it: 'theTm'. No condition.
-/
import Derived.Test.YtkgmcifianhogaaTeamC
namespace Go.Proofs.Ytkgmcifianhogaa.TeamA
open Go.ChangeShapes Go.WideShapes Go.ChangeAt Go.RowKit Mem MutP TeamP Hand RefMut Arena

/-- The team behind an end, step by step. -/
def midS (s : St) (k : Int) : St := { s with A := s.A - 1, E := errOf s k }
theorem end_mid {s : St} (hok : TeamP.Ok s) (h : s.A ≠ 0) (k : Int) :
    (endR s k).c = topC s.C ∧ (endR s k).l = outW (nextS (midS s k)) ∧ (endR s k).f = decide (k ≠ 0 ∧ s.E = 0) ∧ endE s = 0 ∧ endS s k = allS (nextS (midS s k)) := by
  have ha := hok.a0
  obtain ⟨L, A, E, C, W, N⟩ := s
  simp only at h ha
  unfold outW allS nextS midS endE
  cases C with
  | cons x l =>
    unfold endR endS
    simp only [if_neg h]
    have e : A - 1 + 1 = A := by omega
    rw [e, if_neg h, if_neg h]
    exact ⟨rfl, rfl, trivial, trivial, rfl⟩
  | nil =>
    unfold endR endS
    simp only [if_neg h]
    by_cases h1 : A = 1
    · subst h1
      simp only [if_true]
      exact ⟨rfl, rfl, trivial, trivial, rfl⟩
    · rw [if_neg h1, if_neg (by omega : ¬ A - 1 = 0), if_neg h1, if_neg (by omega : ¬ A - 1 = 0)]
      exact ⟨rfl, rfl, trivial, trivial, rfl⟩
section
variable {B : Nat → Prop} {w wk : World} {Rs : List Res} {g : Nat} {va : Value} {s : St}
set_option maxRecDepth 100000 in
set_option maxHeartbeats 1000000 in
theorem end_s (h : Sep B w wk (oa g va s ++ Rs)) (hok : TeamP.Ok s) (hA : s.A ≤ 1000000) (k : Int) :
    Calls Try.prog 26 #[.pointer (some ⟨g, 0, none⟩), .int .i64 k] wk fun e wn => ∃ A c, e = .returned (.tuple #[.agg #[.int .i64 (endR s k).c, .slice A (endR s k).l.length c, .bool (endR s k).f], .int .i64 (endE s)]) ∧ Sep B w wn (nums (.slice A (endR s k).l.length c) (endR s k).l :: (oa g va (endS s k) ++ Rs)) := by
  have hnw := h.new (.cells #[.int .i64 0, .slice none 0 0, .bool false] 35)
  have hpm : Sep B w (wk.alloc (.cells #[.int .i64 0, .slice none 0 0, .bool false] 35)) (oa g va s ++ (blk wk.heap.size (.cells #[.int .i64 0, .slice none 0 0, .bool false] 35) :: Rs)) := hnw.perm (by exact List.perm_middle.symm)
  have hgl := lt_of_block (h.blk_at 0 rfl)
  by_cases h0 : s.A = 0
  · have HD := Lib.hid (idle_s hpm (b := true) (by simpa using h0))
    have hh : endE s = 4 ∧ endR s k = noEn ∧ endS s k = s := by
      rcases end_cases s k with ⟨_, g⟩ | ⟨h, _⟩ | ⟨h, _⟩ | ⟨h, _⟩
      · exact g
      · exact absurd h0 h
      · omega
      · exact absurd h0 h
    rw [hh.1, hh.2.1, hh.2.2]
    have H3 := Lib.hid hnw
    have F3 := Lib.hid (cells3 (hnw.blk_at 0 rfl))
    clear hh hok hA hpm hnw h h0
    go_enter Try.func26, Try.ntmps26
    go_wp2_with fail
    refine HD.out.mono ?_
    rintro e w1 ⟨rfl, rfl⟩
    go_wp2
    exact bodyPost_ret (v := .tuple #[.agg #[.int .i64 0, .slice none 0 0, .bool false], .int .i64 4]) (by simp [results, Try.results26, go_sem]) rfl ⟨none, 0, rfl, H3.out.tail.nil_nums⟩
  · have HD := Lib.hid (idle_s hpm (b := false) (by simpa using h0))
    obtain ⟨q1, q2, q3, q4, q5⟩ := end_mid hok h0 k
    have a0 := hok.a0
    obtain ⟨z, hz⟩ : ∃ z, z = s.A - 1 := ⟨_, rfl⟩
    have hw1 : IntKind.i64.wrap (s.A - 1) = z := by rw [hz]; exact IntWalk.i64_in _ (by omega)
    obtain ⟨c0, c1, _, _⟩ := oa_c h
    obtain ⟨_, f1, _⟩ := oa_f h
    have h1 : Sep B w ((wk.setCell ⟨g, 1, none⟩ (.int .i64 z)).alloc (.cells #[.int .i64 0, .slice none 0 0, .bool false] 35)) (oa g va { s with A := z } ++ (blk wk.heap.size (.cells #[.int .i64 0, .slice none 0 0, .bool false] 35) :: Rs)) := by
      have hq : Sep B w (wk.setCell ⟨g, 1, none⟩ (.int .i64 z)) (oa g va { s with A := z } ++ Rs) := h.set 0 rfl 1 (.int .i64 z)
      have hr := hq.new (.cells #[.int .i64 0, .slice none 0 0, .bool false] 35)
      rw [show (wk.setCell ⟨g, 1, none⟩ (.int .i64 z)).heap.size = wk.heap.size by simp [World.setCell]] at hr
      exact hr.perm (by exact List.perm_middle.symm)
    have hmid : midS s k = { s with A := z, E := errOf s k } := by unfold midS; rw [hz]
    have HK : Hid (Calls Try.prog 35 #[.pointer (some ⟨g, 0, none⟩), .int .i64 k] ((wk.setCell ⟨g, 1, none⟩ (.int .i64 z)).alloc (.cells #[.int .i64 0, .slice none 0 0, .bool false] 35)) fun e wn => e = .returned (.bool (endR s k).f) ∧ Sep B w wn (oa g va (midS s k) ++ (blk wk.heap.size (.cells #[.int .i64 0, .slice none 0 0, .bool false] 35) :: Rs))) := by
      show Calls _ _ _ _ _
      rw [q3, hmid]
      exact keep_s h1 k
    have HB : Hid (∀ w2, Sep B w w2 (oa g va (midS s k) ++ (blk wk.heap.size (.cells #[.int .i64 0, .slice none 0 0, .bool false] 35) :: Rs)) → Calls Try.prog 36 #[.pointer (some ⟨g, 0, none⟩)] w2 fun e wn => e = .returned (.int .i64 (endR s k).c) ∧ Sep B w wn (oa g va (nextS (midS s k)) ++ (blk wk.heap.size (.cells #[.int .i64 0, .slice none 0 0, .bool false] 35) :: Rs))) := fun w2 h2 => by
      rw [q1]
      exact begin_s h2 hok.once (fun x hx => (hok.cs x hx).1) (fun x hx => (hok.ws x hx).1) (by show 0 ≤ s.A - 1; omega) (by show s.A - 1 ≤ _; omega)
    have hnx : ((nextS (midS s k)).C ++ (nextS (midS s k)).W).Nodup ∧ (nextS (midS s k)).W.length ≤ 1000 := by
      have hn := hok.once
      have hl := hok.len
      have hm : (midS s k).C = s.C ∧ (midS s k).W = s.W := ⟨rfl, rfl⟩
      unfold nextS
      cases hC : s.C with
      | nil =>
        rw [hm.1, hC]
        simp only [hm.1, hm.2]
        exact ⟨hn, by omega⟩
      | cons x l =>
        rw [hm.1, hC]
        rw [hC] at hn
        exact ⟨(List.nodup_cons.1 hn).2, by show s.W.length ≤ _; omega⟩
    have HT : Hid (∀ w3, Sep B w w3 (oa g va (nextS (midS s k)) ++ (blk wk.heap.size (.cells #[.int .i64 0, .slice none 0 0, .bool false] 35) :: Rs)) → Calls Try.prog 37 #[.pointer (some ⟨g, 0, none⟩)] w3 fun e wn => ∃ A c, e = .returned (.slice A (endR s k).l.length c) ∧ Sep B w wn (nums (.slice A (endR s k).l.length c) (endR s k).l :: (oa g va (endS s k) ++ (blk wk.heap.size (.cells #[.int .i64 0, .slice none 0 0, .bool false] 35) :: Rs)))) := fun w3 h3 => by
      rw [q2, q5]
      exact takeW_s h3 hnx.1 hnx.2
    rw [q4]
    obtain ⟨y, hy⟩ : ∃ y, y = s.A := ⟨_, rfl⟩
    rw [← hy] at c1 hw1
    generalize (endR s k).c = x at *
    generalize (endR s k).l = l at *
    generalize (endR s k).f = f at *
    generalize endS s k = s' at *
    clear q1 q2 q3 q4 q5 hok hA hpm hnw h h0 h1 hmid hnx hz a0 hy
    go_enter Try.func26, Try.ntmps26
    go_wp2_with fail
    refine HD.out.mono ?_
    rintro e w1 ⟨rfl, rfl⟩
    go_wp2_with fail
    refine HK.out.mono ?_
    rintro e w2 ⟨rfl, h2⟩
    have HB2 := Lib.hid (HB.out w2 h2)
    clear h2 HB HK HD c0 c1 f1
    go_wp2_with fail
    refine HB2.out.mono ?_
    rintro e w3 ⟨rfl, h3⟩
    have HT3 := Lib.hid (HT.out w3 h3)
    clear h3 HT HB2
    go_wp2_with fail
    refine HT3.out.mono ?_
    rintro e w4 ⟨A, c, rfl, h4⟩
    have h5 : Sep B w w4 (blk wk.heap.size (.cells #[.int .i64 0, .slice none 0 0, .bool false] 35) :: nums (.slice A l.length c) l :: (oa g va s' ++ Rs)) := h4.perm ((List.perm_middle.cons _).trans (List.Perm.swap _ _ _))
    obtain ⟨⟨y0, y1, y2⟩, z0, z1, z2⟩ := cells3 (h5.blk_at 0 rfl)
    have h6 := h5.put3 (.int .i64 x) (.slice A l.length c) (.bool f)
    obtain ⟨wz, hwz⟩ : ∃ wz : World, wz = ((w4.setCell ⟨wk.heap.size, 0, none⟩ (.int .i64 x)).setCell ⟨wk.heap.size, 1, none⟩ (.slice A l.length c)).setCell ⟨wk.heap.size, 2, none⟩ (.bool f) := ⟨_, rfl⟩
    rw [← hwz] at h6
    have S1 := Lib.hid h6
    have HWZ := Lib.hid hwz
    clear h4 h5 h6 hwz HT3
    go_wp2
    rw [← HWZ.out]
    obtain ⟨⟨r0, r1, r2⟩, _⟩ := cells3 (S1.out.blk_at 0 rfl)
    refine bodyPost_ret (v := .tuple #[.agg #[.int .i64 x, .slice A l.length c, .bool f], .int .i64 0]) (by simp [results, Try.results26, go_sem, r0, r1, r2]) rfl ?_
    exact ⟨A, c, rfl, S1.out.tail⟩

theorem says_at {v : Value} {L : List (List Int)} {N : Int} (h : Sep B w wk Rs) (i : Nat) (hi : Rs[i]? = some (ob aren v (L, N))) (k : Int) {l : List Int} (hl : RefRing.listL L k = l) (Q : World) (hb : Below wk.heap.size wk Q) :
    Calls Try.prog 31 #[v, .int .i64 k] Q fun e wn => ∃ u, e = .returned u ∧ Rd wn (fun b => wk.heap.size ≤ b) u l ∧ Below Q.heap.size Q wn := by
  subst hl
  refine (a_says (h.next hb) i hi k).mono ?_
  rintro e wn ⟨u, rfl, hr, hb'⟩
  exact ⟨u, rfl, hr.mono fun b _ hk => Nat.le_trans hb.size hk, hb'⟩
set_option maxRecDepth 100000 in
theorem waiting_s (h : Sep B w wk (oa g va s ++ Rs)) :
    Calls Try.prog 16 #[.pointer (some ⟨g, 0, none⟩)] wk fun e wn => ∃ u u', e = .returned (.tuple #[u, u']) ∧ Says2 wk wn u u' s.C s.W := by
  have k0 := (cell_block (h.blk_at 0 rfl) 3).trans rfl
  have hg : g < wk.heap.size := lt_of_block (h.blk_at 0 rfl)
  obtain ⟨l0, l1⟩ := two_list (C := s.C) (W := s.W)
  have H0 := Lib.hid (says_at h 1 rfl 0 l0)
  have H1 := Lib.hid (says_at h 1 rfl 1 l1)
  obtain ⟨a, rfl⟩ := oa_ptr h
  have HB : Hid (Below wk.heap.size wk wk.drew) := (Below.refl _ _).drew
  have HK : Hid (∀ Q, Below wk.heap.size wk Q → Q.cell? ⟨g, 3, none⟩ = some (.pointer (some a))) := fun Q hb => (hb.cell (p := ⟨g, 3, none⟩) hg).trans k0
  clear h l0 l1 hg
  go_enter Try.func16, Try.ntmps16
  go_upto_region 1 with (fail)
  go_region_held3 (fun Q => Q.cell? ⟨g, 3, none⟩ = some (.pointer (some a))) (go_keep)
    (first
      | (go_at_call 31; (with_reducible refine (H0.out _ HB.out).mono ?_); rintro e w11 ⟨u0, rfl, r0, hb11⟩; have R0 := Lib.hid r0; have k0 := HK.out _ (HB.out.trans (hb11.mono HB.out.size)); have HB := Lib.hid (HB.out.trans (hb11.mono HB.out.size)); (first | (have R1 := Lib.hid (R1.out.below hb11)) | skip); clear r0 hb11)
      | (go_at_call 31; (with_reducible refine (H1.out _ HB.out).mono ?_); rintro e w11 ⟨u1, rfl, r1, hb11⟩; have R1 := Lib.hid r1; have k0 := HK.out _ (HB.out.trans (hb11.mono HB.out.size)); have HB := Lib.hid (HB.out.trans (hb11.mono HB.out.size)); (first | (have R0 := Lib.hid (R0.out.below hb11)) | skip); clear r1 hb11))
  all_goals
    go_wp2_with fail
    go_ret2
    exact ⟨_, _, rfl, R0.out, R1.out, HB.out⟩
end

theorem new_no_c (n : Int) (w : World) (h : n < 1 ∨ 1000 < n) : Calls Try.prog 7 #[.int .i64 n] w fun e w' => e = .returned (.tuple #[.pointer none, .int .i64 1]) ∧ Below w.heap.size w w' := by
  have HA := Lib.hid (RingN.new_no 2 n w (by omega))
  clear h
  go_enter Try.func7, Try.ntmps7
  go_wp2_with fail
  refine HA.out.mono ?_
  rintro e w1 ⟨rfl, h1⟩
  have H1 := Lib.hid h1
  clear h1 HA
  go_wp2
  go_ret2
  exact ⟨rfl, H1.out⟩
theorem new_yes_c {B : Nat → Prop} {w wk : World} {Rs : List Res} (h : Sep B w wk Rs) (n : Int) (h1 : 1 ≤ n) (h2 : n ≤ 1000) : Calls Try.prog 7 #[.int .i64 n] wk fun e wn => ∃ g va, e = .returned (.tuple #[.pointer (some ⟨g, 0, none⟩), .int .i64 0]) ∧ Sep B w wn (oa g va (newS n) ++ Rs) := by
  have HA := Lib.hid (a_new h 2 n (by omega) (by omega) h1 h2)
  clear h
  go_enter Try.func7, Try.ntmps7
  go_wp2_with fail
  refine HA.out.mono ?_
  rintro e w1 ⟨a, rfl, h1⟩
  have H2 : Hid (Sep B w (w1.alloc (.cells #[.int .i64 (-1), .int .i64 0, .int .i64 0, .pointer (some a)] 62)) (oa w1.heap.size (.pointer (some a)) (newS n) ++ Rs)) := h1.new (.cells #[.int .i64 (-1), .int .i64 0, .int .i64 0, .pointer (some a)] 62)
  clear h1 HA
  go_wp2
  go_ret2
  exact ⟨_, _, rfl, H2.out⟩

/-- A team behind a pointer, in blocks of F. -/
def OA : Ob St where
  A w v F s := TeamP.Ok s ∧ ∃ g va, v = .pointer (some ⟨g, 0, none⟩) ∧ (pack (oa g va s)).holds w F
  ptr := fun ⟨_, _, _, e, _⟩ => ⟨_, e⟩
  keep := fun ⟨o, g, va, e, h⟩ hs hk => ⟨o, g, va, e, (pack (oa g va _)).keep h hs hk⟩
  lt := fun ⟨_, g, va, _, h⟩ => (pack (oa g va _)).lt h
section
variable {w wn : World} {F : Nat → Prop} {g : Nat} {va : Value} {s : St}
theorem oa_sep (h : (pack (oa g va s)).holds w F) : Sep F w w (oa g va s ++ []) := (Sep.of h).unpack
theorem oa_stays (hok : TeamP.Ok s) (h : Sep F w wn (oa g va s ++ [])) : Stays (ob OA (.pointer (some ⟨g, 0, none⟩)) s) F w wn := by
  obtain ⟨F', hR, ho, hF⟩ := h.packed.left 0 rfl
  exact ⟨F', ⟨hok, g, va, rfl, hR⟩, ho, hF⟩
theorem oa_tells {u : Value} {l : List Int} (hok : TeamP.Ok s) (h : Sep F w wn (nums u l :: (oa g va s ++ []))) : Tells (ob OA (.pointer (some ⟨g, 0, none⟩)) s) F w wn u l := by
  have h1 : Sep F w wn (oa g va s ++ [nums u l]) := h.perm (by rw [List.append_nil]; exact List.perm_append_comm (l₁ := [_]))
  obtain ⟨ho, F1, F2, ha, hb, s1, s2, d⟩ := h1.packed.swap
  obtain ⟨F3, F4, hc, hd, s3, s4, e⟩ := hb
  exact ⟨F3, F1, ⟨hok, g, va, rfl, hc⟩, ha.1, ho, fun k hk => s2 k (s3 k hk), s1, fun k a b => d k a (s3 k b)⟩
end

/-- Package team, as the laws ask for it. -/
def theTm : TeamI.Tm where
  O := OA
  ok := fun h => h.1
  new_no := fun n w _ h => new_no_c n w h
  new_yes := fun n w h1 h2 => by
    refine (new_yes_c (Sep.nil (fun _ => False) w) n h1 h2).mono ?_
    rintro e wn ⟨g, va, rfl, hs⟩
    have hb := hs.old
    obtain ⟨_, F1, _, h5, _, s1, _, _⟩ := hs.packed
    exact ⟨_, F1, rfl, ⟨TeamP.Ok.new h1 h2, g, va, rfl, h5⟩, hb, fun k hk => (s1 k hk).resolve_left id⟩
  goes := fun {w v F s} h hA t _ => by
    obtain ⟨hok, g, va, rfl, h⟩ := h
    refine (go_s (oa_sep h) hok hA t).mono ?_
    rintro e wn ⟨rfl, hs⟩
    exact ⟨rfl, oa_stays (hok.goes t) hs⟩
  tries := fun {w v F s} h hA => by
    obtain ⟨hok, g, va, rfl, h⟩ := h
    refine (try_s (oa_sep h) hok hA rfl rfl).mono ?_
    rintro e wn ⟨rfl, hs⟩
    exact ⟨rfl, oa_stays hok.tries hs⟩
  ends := fun {w v F s} h hA k hk => by
    obtain ⟨hok, g, va, rfl, h⟩ := h
    refine (end_s (oa_sep h) hok hA k).mono ?_
    rintro e wn ⟨A, c, rfl, hs⟩
    exact ⟨_, rfl, oa_tells (hok.ends hk) hs⟩
  wait := fun {w v F s} h t _ => by
    obtain ⟨hok, g, va, rfl, h⟩ := h
    refine (wait_s (oa_sep h) hok t).mono ?_
    rintro e wn ⟨rfl, hs⟩
    exact ⟨rfl, oa_stays (hok.wait t) hs⟩
  leave := fun {w v F s} h t _ => by
    obtain ⟨hok, g, va, rfl, h⟩ := h
    refine (leave_s (oa_sep h) hok t).mono ?_
    rintro e wn ⟨rfl, hs⟩
    exact ⟨rfl, oa_stays (hok.leave t) hs⟩
  limit := fun {w v F s} h n hn => by
    obtain ⟨hok, g, va, rfl, h⟩ := h
    refine (limit_s (oa_sep h) hok n).mono ?_
    rintro e wn ⟨rfl, hs⟩
    exact ⟨rfl, oa_stays (hok.limit hn) hs⟩
  lim := fun {w v F s} h => by
    obtain ⟨hok, g, va, rfl, h⟩ := h
    refine (lim_s (oa_sep h)).mono ?_
    rintro e wn ⟨rfl, rfl⟩
    exact ⟨rfl, Below.refl _ _⟩
  active := fun {w v F s} h => by
    obtain ⟨hok, g, va, rfl, h⟩ := h
    refine (active_s (oa_sep h)).mono ?_
    rintro e wn ⟨rfl, rfl⟩
    exact ⟨rfl, Below.refl _ _⟩
  first := fun {w v F s} h => by
    obtain ⟨hok, g, va, rfl, h⟩ := h
    refine (first_s (oa_sep h)).mono ?_
    rintro e wn ⟨rfl, rfl⟩
    exact ⟨rfl, Below.refl _ _⟩
  waiting := fun {w v F s} h => by
    obtain ⟨hok, g, va, rfl, h⟩ := h
    exact waiting_s (oa_sep h)
end Go.Proofs.Ytkgmcifianhogaa.TeamA
