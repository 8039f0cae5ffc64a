/-
  Package flight, as it landed, third part: Finish, New; the package, as the laws ask for it. No condition.
-/
import Derived.Test.YtbkeodjebfkkdaaFlyB
namespace Go.Proofs.Ytbkeodjebfkkdaa.FlyC
open Go.ChangeShapes Go.WideShapes Go.ChangeAt Go.RowKit Mem MutP FlightP Hand RefMut Arena

section
variable {B : Nat → Prop} {w wk : World} {Rs : List Res} {p ml mk n1 n2 : Nat} {va : Value} {s : St} {m1 m2 : Int → Option Int} {N : Int}
theorem joined_s (h : Sep B w wk (fog p va ml n1 m1 mk n2 m2 (rowsF s) s.N ++ Rs)) (hok : FlightP.Ok s) (t : Int) :
    Calls Try.prog 21 #[.pointer (some ⟨p, 0, none⟩), .int .i64 t] wk fun e wn => ∃ u, e = .returned u ∧ Says wk wn u (joinedL s.L t) := by
  have h1 := joined_g h t
  rw [hok.rows_list] at h1
  exact h1
theorem drop_l (h : Sep B w wk (fog p va ml n1 m1 mk n2 m2 (rowsF s) N ++ Rs)) (hN : s.N = N) (hok : FlightP.Ok s) (t : Int) :
    Calls Try.prog 35 #[va, .int .i64 t] wk fun e wn => e = .returned (.bool (waitsJ s.L t)) ∧ Sep B w wn (fog p va ml n1 m1 mk n2 m2 (rowsF (lvS s t)) N ++ Rs) := by
  subst hN
  exact drop_g h hok t

set_option maxRecDepth 100000 in
set_option maxHeartbeats 1000000 in
theorem take_s (h : Sep B w wk (fog p va ml n1 m1 mk n2 m2 (rowsF s) s.N ++ Rs)) (hok : FlightP.Ok s) (t : Int) :
    Calls Try.prog 34 #[.pointer (some ⟨p, 0, none⟩), .int .i64 t] wk fun e wn => ∃ A c, e = .returned (.slice A (joinedL s.L t).length c) ∧ Sep B w wn (nums (.slice A (joinedL s.L t).length c) (joinedL s.L t) :: (fog p va ml n1 m1 mk n2 m2 (rowsF ((joinedL s.L t).foldl lvS s)) s.N ++ Rs)) := by
  have HJ := Lib.hid (joined_s h hok t)
  have H := Lib.hid h
  have HOK := Lib.hid hok
  have hl := FlightI.joined_len hok t
  obtain ⟨a, rfl⟩ := fo_ptr h
  clear h hok
  generalize joinedL s.L t = l at *
  go_enter Try.func34, Try.ntmps34
  go_wp2_with fail
  refine HJ.out.mono ?_
  rintro e w1 ⟨u, rfl, hs⟩
  obtain ⟨A, c, rfl⟩ := rd_form hs.1
  have H1 : Hid (Sep B w w1 (nums (.slice A l.length c) l :: (fog p (.pointer (some a)) ml n1 m1 mk n2 m2 (rowsF ((l.take 0).foldl lvS s)) s.N ++ Rs))) :=
    H.out.add hs.2 (R := nums _ l) (F := fun k => wk.heap.size ≤ k ∧ k < w1.heap.size) ⟨hs.1.mono fun k hk hg => ⟨hg, hk⟩, fun k hk => hk.2⟩ fun k hk => hk.1
  clear hs H HJ
  go_wp2
  go_loopw [13] (fun u wr => ∃ j : Nat, j ≤ l.length ∧ u = .int .i64 j ∧ Hid (Sep B w wr (nums (.slice A l.length c) l :: (fog p (.pointer (some a)) ml n1 m1 mk n2 m2 (rowsF ((l.take j).foldl lvS s)) s.N ++ Rs)))) (fun u _ => l.length - (intOf u).toNat)
  case atStart => exact ⟨0, Nat.zero_le _, rfl, H1.out⟩
  case round =>
    obtain ⟨j, hj, rfl, HS⟩ := hrel
    clear H1
    by_cases hlt : j < l.length
    · obtain ⟨b, off, rfl, _, q0, hg⟩ := rd_at (HS.out.rd 0 rfl) hlt
      have HT : Hid ((l.take (j + 1)).foldl lvS s = lvS ((l.take j).foldl lvS s) (l.getD j 0)) := by
        show _ = _
        rw [List.take_add_one, hg, Option.toList_some, List.foldl_append]
        rfl
      have c2 : wr.cell? ⟨p, 2, none⟩ = some (.pointer (some a)) := (cell_block (HS.out.blk_at 1 rfl) 2).trans rfl
      have i0 : (0 : Int) ≤ (j : Int) := by omega
      have i1 : (j : Int) < (l.length : Int) := by omega
      have h1 : Sep B w wr (fog p (.pointer (some a)) ml n1 m1 mk n2 m2 (rowsF ((l.take j).foldl lvS s)) s.N ++ (nums (.slice (some ⟨b, off, none⟩) l.length c) l :: Rs)) := HS.out.perm (by exact (List.perm_append_comm (l₁ := [_]) (l₂ := [_, _, _, _])).append_right Rs)
      have HD := Lib.hid (drop_l h1 (lvs_N _ _) (lvs_ok _ HOK.out) (l.getD j 0))
      rw [← HT.out] at HD
      clear h1 hg HS HT
      generalize l.getD j 0 = x at *
      generalize waitsJ ((l.take j).foldl lvS s).L x = bo at *
      go_wp2_with fail
      refine HD.out.mono ?_
      rintro e w5 ⟨rfl, h5⟩
      have H5 : Hid (Sep B w w5 (nums (.slice (some ⟨b, off, none⟩) l.length c) l :: (fog p (.pointer (some a)) ml n1 m1 mk n2 m2 (rowsF ((l.take (j + 1)).foldl lvS s)) s.N ++ Rs))) := Sep.perm h5 (by exact (List.perm_append_comm (l₁ := [_, _, _, _]) (l₂ := [_])).append_right Rs)
      clear h5 HD c2 q0
      go_wp2
      go_roundw
      case rel => exact ⟨j + 1, by omega, by go_num, H5⟩
      case measure => simp [intOf]; omega
    · have hE : l.take j = l := List.take_of_length_le (by omega)
      rw [hE] at HS
      go_wp2
      go_ret
      exact ⟨_, _, rfl, HS.out⟩

theorem fo_fin {p : Nat} {va : Value} {ml mk : Nat} {s : St} (hok : FlightP.Ok s) {t : Int} {n1 n2 : Nat} {m1 : Int → Option Int} (h1 : nL { s with L := s.L.filter fun c => !isT t c } = n1) (h2 : (s.L.filter fun c => !isT t c).length = n2) (h3 : leadF { s with L := s.L.filter fun c => !isT t c } = m1) : fo p va ml mk { s with L := s.L.filter fun c => !isT t c } = fog p va ml n1 m1 mk n2 (updM (keyF s) t none) (rowsF ((joinedL s.L t).foldl lvS s)) s.N := by
  unfold fo
  rw [fin_key, hok.rows_fin, h1, h3]
  show fog _ _ _ _ _ _ (s.L.filter _).length _ _ _ = _
  rw [h2]

set_option maxRecDepth 100000 in
set_option maxHeartbeats 1000000 in
theorem finish_s (h : Sep B w wk (fo p va ml mk s ++ Rs)) (hok : FlightP.Ok s) (t : Int) (ht : In64 t) :
    Calls Try.prog 26 #[.pointer (some ⟨p, 0, none⟩), .int .i64 t] wk fun e wn => ∃ A c, e = .returned (.tuple #[.slice A (finL s t).length c, .int .i64 (finE s t)]) ∧ Sep B w wn (nums (.slice A (finL s t).length c) (finL s t) :: (fo p va ml mk (finS s t) ++ Rs)) := by
  obtain ⟨c0, c1, c2⟩ := fo_c h
  have HN := Lib.hid (has_s h t)
  have HL := Lib.hid (leads_s h t ht)
  have HT := Lib.hid ht
  have HVS : Hid (finE s t ≠ 0 → finL s t = [] ∧ finS s t = s) := fun h0 => ⟨by unfold finL; rw [if_neg h0], by unfold finS; rw [if_neg h0]⟩
  rcases fin_errs s t with ⟨e0, e1⟩ | ⟨e0, e1, e2⟩ | ⟨e0, e1, e2⟩
  · obtain ⟨g1, g2⟩ := HVS.out (by omega)
    rw [e0, g1, g2]
    rw [e1] at HN
    have H := Lib.hid h.nil_nums
    clear h hok HL HVS e0 e1 g1 g2
    go_enter Try.func26, Try.ntmps26
    go_wp2_with fail
    refine HN.out.mono ?_
    rintro e w1 ⟨rfl, rfl⟩
    go_wp2
    go_ret2
    exact ⟨_, _, rfl, H.out⟩
  · obtain ⟨g1, g2⟩ := HVS.out (by omega)
    rw [e0, g1, g2]
    rw [e1] at HN
    rw [e2] at HL
    have H := Lib.hid h.nil_nums
    clear h hok HVS e0 e1 e2 g1 g2
    generalize leadsK s.L t = lk at *
    go_enter Try.func26, Try.ntmps26
    go_wp2_with fail
    refine HN.out.mono ?_
    rintro e w1 ⟨rfl, rfl⟩
    go_wp2_with fail
    refine HL.out.mono ?_
    rintro e w1 ⟨rfl, rfl⟩
    go_wp2
    go_ret2
    exact ⟨_, _, rfl, H.out⟩
  · rw [e0, (fin_eq e0).1, (fin_eq e0).2]
    obtain ⟨q1, q2⟩ := hok.fin_nL e2
    have q3 := hok.fin_lead e2
    have hk64 : In64 (leadsK s.L t) := by
      obtain ⟨A, c, Bq, e, hc, hA, hB⟩ := hok.split_lead e2
      have : leadsK s.L t = c.k := by rw [e]; exact (lead_at hc hA).2
      rw [this]
      exact hok.ks c (by rw [e]; simp)
    have HK := Lib.hid hk64
    have HLD := Lib.hid (leader_s h (leadsK s.L t) hk64)
    have HKS : Hid ((keyF s t).isSome = true) := by show _ = _; rw [(keyF_get s t).2, e2]
    have HOK := Lib.hid hok
    have Q1 := Lib.hid q1
    rw [e1] at HN
    rw [e2] at HL
    by_cases hq : leaderK s.L (leadsK s.L t) = t
    · rw [if_pos hq] at q2 q3
      have Q2 := Lib.hid q2
      have HFO := Lib.hid (fo_fin (p := p) (va := va) (ml := ml) (mk := mk) hok rfl rfl q3)
      have HIS : Hid ((leadF s (leadsK s.L t)).isSome = true) := by
        show _ = _
        rw [(leadF_get s _).2]
        cases hany : anyK s.L (leadsK s.L t) with
        | true => rfl
        | false =>
          have h5 := leader_no hany
          have h6 := (name_iff.1 e1).1
          omega
      have h' : Sep B w wk (fog p va ml (nL { s with L := s.L.filter fun c => !isT t c } + 1) (leadF s) mk ((s.L.filter fun c => !isT t c).length + 1) (keyF s) (rowsF s) s.N ++ Rs) := by
        rw [← q1, ← q2]; exact h
      have HD := Lib.hid h'
      rw [hq] at HLD
      have e4 : (t == t) = true := by simp
      clear h h' hok HVS e0 e1 e2 q1 q2 q3 hk64 Q1 Q2 hq
      generalize leadsK s.L t = lk at *
      generalize nL { s with L := s.L.filter fun c => !isT t c } = nn1 at *
      generalize (s.L.filter fun c => !isT t c).length = nn2 at *
      go_enter Try.func26, Try.ntmps26
      go_wp2_with fail
      refine HN.out.mono ?_
      rintro e w1 ⟨rfl, rfl⟩
      go_wp2_with fail
      refine HL.out.mono ?_
      rintro e w1 ⟨rfl, rfl⟩
      go_wp2_with fail
      refine HLD.out.mono ?_
      rintro e w1 ⟨rfl, rfl⟩
      go_wp2_with (at_delete; refine MapK.wp_mdel rfl _ _ rfl rfl rfl HD.out 1 rfl HK.out HIS.out ?_)
      intro w2 h2
      have d1 : w2.cell? ⟨p, 1, none⟩ = some (.map (some mk)) := (cell_block (Sep.blk_at h2 0 rfl) 1).trans rfl
      have H2 := Lib.hid h2
      clear h2 HD HN HL HLD c0 c1 c2
      go_wp2_with (at_delete; refine wp_mdel rfl _ _ rfl rfl rfl H2.out 2 rfl HT.out HKS.out ?_)
      intro w3 h3
      have H3 : Hid (Sep B w w3 (fog p va ml nn1 (updM (leadF s) lk none) mk nn2 (updM (keyF s) t none) (rowsF s) s.N ++ Rs)) := h3
      clear h3 H2 d1
      have HTK := Lib.hid (take_s H3.out HOK.out t)
      go_wp2_with fail
      refine HTK.out.mono ?_
      rintro e w4 ⟨A4, c4, rfl, h4⟩
      rw [← HFO.out] at h4
      have H4 := Lib.hid h4
      clear h4 H3 HTK
      go_wp2
      go_ret2
      exact ⟨_, _, rfl, H4.out⟩
    · rw [if_neg hq] at q2 q3
      rw [Nat.add_zero] at q2
      have Q2 := Lib.hid q2
      have HFO := Lib.hid (fo_fin (p := p) (va := va) (ml := ml) (mk := mk) hok q2.symm rfl q3)
      have h' : Sep B w wk (fog p va ml (nL s) (leadF s) mk ((s.L.filter fun c => !isT t c).length + 1) (keyF s) (rowsF s) s.N ++ Rs) := by
        rw [← q1]; exact h
      have HD := Lib.hid h'
      have e4 : (leaderK s.L (leadsK s.L t) == t) = false := by simpa using hq
      clear h h' hok HVS e0 e1 e2 q1 q2 q3 hk64 Q1 Q2 hq
      generalize leadsK s.L t = lk at *
      generalize leaderK s.L lk = lv at *
      generalize (s.L.filter fun c => !isT t c).length = nn2 at *
      generalize nL s = nn1 at *
      go_enter Try.func26, Try.ntmps26
      go_wp2_with fail
      refine HN.out.mono ?_
      rintro e w1 ⟨rfl, rfl⟩
      go_wp2_with fail
      refine HL.out.mono ?_
      rintro e w1 ⟨rfl, rfl⟩
      go_wp2_with fail
      refine HLD.out.mono ?_
      rintro e w1 ⟨rfl, rfl⟩
      go_wp2_with (at_delete; refine wp_mdel rfl _ _ rfl rfl rfl HD.out 2 rfl HT.out HKS.out ?_)
      intro w3 h3
      have H3 : Hid (Sep B w w3 (fog p va ml nn1 (leadF s) mk nn2 (updM (keyF s) t none) (rowsF s) s.N ++ Rs)) := h3
      clear h3 HD HN HL HLD c0 c1 c2
      have HTK := Lib.hid (take_s H3.out HOK.out t)
      go_wp2_with fail
      refine HTK.out.mono ?_
      rintro e w4 ⟨A4, c4, rfl, h4⟩
      rw [← HFO.out] at h4
      have H4 := Lib.hid h4
      clear h4 H3 HTK
      go_wp2
      go_ret2
      exact ⟨_, _, rfl, H4.out⟩
end

theorem new_no_c (n : Int) (w : World) (h : n < 1 ∨ 1000 < n) : Calls Try.prog 7 #[.int .i64 n] w fun e w' => e = .returned (.tuple #[.pointer none, .int .i64 1]) ∧ Below w.heap.size w w' := by
  have HA := Lib.hid (RingN.new_no n n w (by omega))
  clear h
  go_enter Try.func7, Try.ntmps7
  go_wp2_with fail
  refine HA.out.mono ?_
  rintro e w1 ⟨rfl, h1⟩
  have H1 := Lib.hid h1
  clear h1 HA
  go_wp2
  go_ret2
  exact ⟨rfl, H1.out⟩
theorem new_yes_c {B : Nat → Prop} {w wk : World} {Rs : List Res} (h : Sep B w wk Rs) (n : Int) (h1 : 1 ≤ n) (h2 : n ≤ 1000) : Calls Try.prog 7 #[.int .i64 n] wk fun e wn => ∃ p va ml mk, e = .returned (.tuple #[.pointer (some ⟨p, 0, none⟩), .int .i64 0]) ∧ Sep B w wn (fo p va ml mk (newS n) ++ Rs) := by
  have HA := Lib.hid (a_new h n n h1 h2 h1 h2)
  have hrw : List.replicate n.toNat [] = rowsF (newS n) := by
    refine rows_ext (s := newS n) (by rw [List.length_replicate]; rfl) fun r hr => ?_
    have hr : r < n.toNat := hr
    rw [List.getD_eq_getElem?_getD, List.getElem?_replicate, if_pos hr]
    rfl
  rw [hrw] at HA
  clear h hrw
  go_enter Try.func7, Try.ntmps7
  go_wp2_with fail
  refine HA.out.mono ?_
  rintro e w1 ⟨a, rfl, h1⟩
  have H2 : Hid (Sep B w (((w1.alloc (.map #[] 0)).alloc (.map #[] 0)).alloc (.cells #[.map (some w1.heap.size), .map (some (w1.heap.size + 1)), .pointer (some a)] 66)) (fo (w1.heap.size + 1 + 1) (.pointer (some a)) w1.heap.size (w1.heap.size + 1) (newS n) ++ Rs)) := by
    have h2 := MapK.mapf_new h1
    have h3 := mapf_new h2
    have s1 : (w1.alloc (.map #[] 0)).heap.size = w1.heap.size + 1 := by simp
    have s2 : ((w1.alloc (.map #[] 0)).alloc (.map #[] 0)).heap.size = w1.heap.size + 1 + 1 := by simp
    rw [s1] at h3
    have h4 := h3.new (.cells #[.map (some w1.heap.size), .map (some (w1.heap.size + 1)), .pointer (some a)] 66)
    rw [s2] at h4
    exact h4.perm (by exact (List.Perm.swap ..).cons _)
  have hmm := @run_makeMap Try.prog
  clear h1 HA
  go_wp2
  go_ret2
  exact ⟨_, _, _, _, rfl, H2.out⟩

/-- A flight behind a pointer, in blocks of F. -/
def OA : Ob St where
  A w v F s := FlightP.Ok s ∧ ∃ p va ml mk, v = .pointer (some ⟨p, 0, none⟩) ∧ (pack (fo p va ml mk s)).holds w F
  ptr := fun ⟨_, _, _, _, _, e, _⟩ => ⟨_, e⟩
  keep := fun ⟨o, p, va, ml, mk, e, h⟩ hs hk => ⟨o, p, va, ml, mk, e, (pack (fo p va ml mk _)).keep h hs hk⟩
  lt := fun ⟨_, p, va, ml, mk, _, h⟩ => (pack (fo p va ml mk _)).lt h
section
variable {w wn : World} {F : Nat → Prop} {p ml mk : Nat} {va : Value} {s : St}
theorem fo_sep (h : (pack (fo p va ml mk s)).holds w F) : Sep F w w (fo p va ml mk s ++ []) := (Sep.of h).unpack
theorem fo_stays (hok : FlightP.Ok s) (h : Sep F w wn (fo p va ml mk s ++ [])) : Stays (ob OA (.pointer (some ⟨p, 0, none⟩)) s) F w wn := by
  obtain ⟨F', hR, ho, hF⟩ := h.packed.left 0 rfl
  exact ⟨F', ⟨hok, p, va, ml, mk, rfl, hR⟩, ho, hF⟩
theorem fo_tells {u : Value} {l : List Int} (hok : FlightP.Ok s) (h : Sep F w wn (nums u l :: (fo p va ml mk s ++ []))) : Tells (ob OA (.pointer (some ⟨p, 0, none⟩)) s) F w wn u l := by
  have h1 : Sep F w wn (fo p va ml mk s ++ [nums u l]) := h.perm (by rw [List.append_nil]; exact List.perm_append_comm (l₁ := [_]))
  obtain ⟨ho, F1, F2, ha, hb, s1, s2, d⟩ := h1.packed.swap
  obtain ⟨F3, F4, hc, hd, s3, s4, e⟩ := hb
  exact ⟨F3, F1, ⟨hok, p, va, ml, mk, rfl, hc⟩, ha.1, ho, fun k hk => s2 k (s3 k hk), s1, fun k a b => d k a (s3 k b)⟩
end

/-- Package flight, as the laws ask for it. -/
def theFl : FlightI.Fl where
  O := OA
  ok := fun h => h.1
  new_no := fun n w _ h => new_no_c n w h
  new_yes := fun n w h1 h2 => by
    refine (new_yes_c (Sep.nil (fun _ => False) w) n h1 h2).mono ?_
    rintro e wn ⟨p, va, ml, mk, rfl, hs⟩
    have hb := hs.old
    obtain ⟨_, F1, _, h5, _, s1, _, _⟩ := hs.packed
    exact ⟨_, F1, rfl, ⟨FlightP.Ok.new h1 h2, p, va, ml, mk, rfl, h5⟩, hb, fun k hk => (s1 k hk).resolve_left id⟩
  doit := fun {w v F s} h t k ht hk => by
    obtain ⟨hok, p, va, ml, mk, rfl, h⟩ := h
    refine (doit_s (fo_sep h) hok t k ht hk).mono ?_
    rintro e wn ⟨rfl, hs⟩
    exact ⟨rfl, fo_stays (hok.doit t hk) hs⟩
  finish := fun {w v F s} h t ht => by
    obtain ⟨hok, p, va, ml, mk, rfl, h⟩ := h
    refine (finish_s (fo_sep h) hok t ht).mono ?_
    rintro e wn ⟨A, c, rfl, hs⟩
    exact ⟨_, rfl, fo_tells (hok.fin t) hs⟩
  forget := fun {w v F s} h k hk => by
    obtain ⟨hok, p, va, ml, mk, rfl, h⟩ := h
    refine (forget_s (fo_sep h) hok k hk).mono ?_
    rintro e wn ⟨rfl, hs⟩
    exact ⟨rfl, fo_stays (hok.forget k) hs⟩
  leave := fun {w v F s} h t _ => by
    obtain ⟨hok, p, va, ml, mk, rfl, h⟩ := h
    refine (leave_s (fo_sep h) hok t).mono ?_
    rintro e wn ⟨rfl, hs⟩
    exact ⟨rfl, fo_stays (hok.leave t) hs⟩
  leader := fun {w v F s} h k hk => by
    obtain ⟨hok, p, va, ml, mk, rfl, h⟩ := h
    refine (leader_s (fo_sep h) k hk).mono ?_
    rintro e wn ⟨rfl, rfl⟩
    exact ⟨rfl, Below.refl _ _⟩
  leads := fun {w v F s} h t ht => by
    obtain ⟨hok, p, va, ml, mk, rfl, h⟩ := h
    refine (leads_s (fo_sep h) t ht).mono ?_
    rintro e wn ⟨rfl, rfl⟩
    exact ⟨rfl, Below.refl _ _⟩
  joins := fun {w v F s} h t _ => by
    obtain ⟨hok, p, va, ml, mk, rfl, h⟩ := h
    refine (joins_s (fo_sep h) hok t).mono ?_
    rintro e wn ⟨rfl, rfl⟩
    exact ⟨rfl, Below.refl _ _⟩
  joined := fun {w v F s} h t _ => by
    obtain ⟨hok, p, va, ml, mk, rfl, h⟩ := h
    exact joined_s (fo_sep h) hok t
end Go.Proofs.Ytbkeodjebfkkdaa.FlyC
