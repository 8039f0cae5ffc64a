/-
  Contracts of the functions of package countermandref14 (the document's answer for layer 14), third part: what ends. Condition: the team is at hand.
-/
import Derived.Test.YtkgmcifianhogaaRefTeamB
namespace Go.Proofs.Ytkgmcifianhogaa.RefTeam
open Go.ChangeShapes Go.WideShapes Go.ChangeAt Go.RowKit Mem MutP TeamP Hand RefMut

theorem err_cases (s : St) (k : Int) : (k ≠ 0 ∧ s.E = 0 ∧ decide (k ≠ 0 ∧ s.E = 0) = true ∧ errOf s k = k) ∨ (k ≠ 0 ∧ s.E ≠ 0 ∧ decide (k ≠ 0 ∧ s.E = 0) = false ∧ errOf s k = s.E) ∨ (k = 0 ∧ decide (k ≠ 0 ∧ s.E = 0) = false ∧ errOf s k = s.E) := by
  unfold errOf
  by_cases h : k = 0
  · exact .inr (.inr ⟨h, decide_eq_false fun x => x.1 h, if_neg fun x => x.1 h⟩)
  · by_cases h2 : s.E = 0
    · exact .inl ⟨h, h2, decide_eq_true ⟨h, h2⟩, if_pos ⟨h, h2⟩⟩
    · exact .inr (.inl ⟨h, h2, decide_eq_false fun x => h2 x.2, if_neg fun x => h2 x.2⟩)

section
variable {B : Nat → Prop} {w wk : World} {Rs : List Res} {p : Nat} {s : St}
set_option maxRecDepth 100000 in
set_option maxHeartbeats 1000000 in
theorem end_s (h : Sep B w wk (rt p s :: Rs)) (k : Int) (hk : In64 k) (hAB : s.A ≤ 9223372036854775807) :
    Calls Try.prog 12 #[.pointer (some ⟨p, 0, none⟩), .int .i64 k] wk fun e wn => ∃ A c, e = .returned (.tuple #[.agg #[.int .i64 (endR s k).c, .slice A (endR s k).l.length c, .bool (endR s k).f], .int .i64 (endE s)]) ∧ Sep B w wn (nums (.slice A (endR s k).l.length c) (endR s k).l :: rt p (endS s k) :: Rs) := by
  have HO := Lib.hid ((rt_ok h).ends hk)
  have HAB := Lib.hid hAB
  obtain ⟨A1, c1, A2, c2, hs, hok, hcap⟩ := rt_open h
  have HC := Lib.hid (end_cases s k)
  have HEC := Lib.hid (err_cases s k)
  have HCAP := Lib.hid hcap
  have H0 := Lib.hid h
  have hpl : p < wk.heap.size := (rto_cs hs).2.2
  have ha := hok.a0
  have S0 := Lib.hid ((hs.new (.cells #[.int .i64 0, .slice none 0 0, .bool false] 38)).new (.cells #[.int .i64 (-1), .slice none 0 0, .bool false] 38))
  have hsz : (wk.alloc (.cells #[.int .i64 0, .slice none 0 0, .bool false] 38)).heap.size = wk.heap.size + 1 := World.size_alloc ..
  rw [hsz] at S0
  clear hsz
  by_cases h1 : s.A = 0
  · have hh : endE s = 4 ∧ endR s k = noEn ∧ endS s k = s := by
      rcases HC.out with ⟨_, g⟩ | ⟨h, _⟩ | ⟨h, _⟩ | ⟨h, _⟩
      · exact g
      · exact absurd h1 h
      · omega
      · exact absurd h1 h
    have x1 : wk.cell? ⟨p, 1, none⟩ = some (.int .i64 0) := by have := (rto_cs hs).1.2.1; rw [h1] at this; exact this
    have HS := Lib.hid (H0.out.new (.cells #[.int .i64 0, .slice none 0 0, .bool false] 38))
    rw [hh.1, hh.2.1, hh.2.2]
    clear HC HEC HCAP S0 HO hok hcap hs h hh h1 ha
    go_enter Try.func12, Try.ntmps12
    go_wp2
    exact bodyPost_ret (v := .tuple #[.agg #[.int .i64 0, .slice none 0 0, .bool false], .int .i64 4]) (by simp [results, Try.results12, go_sem]) rfl ⟨none, 0, rfl, HS.out.tail.nil_nums⟩
  · obtain ⟨f, hf⟩ : ∃ f, decide (k ≠ 0 ∧ s.E = 0) = f := ⟨_, rfl⟩
    obtain ⟨E', hE'⟩ : ∃ E', errOf s k = E' := ⟨_, rfl⟩
    have e1 : (s.A == 0) = false := by simpa using h1
    have HN := Lib.hid h1
    simp only [hf, hE'] at HC HEC
    have x1 := (rto_cs hs).1.2.1
    obtain ⟨a, hA⟩ : ∃ a, a = s.A := ⟨_, rfl⟩
    have HA := Lib.hid hA
    rw [← hA] at x1 e1
    clear hs hok hcap hf hE' h ha h1 hA
    go_enter Try.func12, Try.ntmps12
    go_upto_region 4 with (fail)
    go_cut [22] (fun s22 wx => s22 = .bool f ∧ Hid (Sep B w wx (blk (wk.heap.size + 1) (.cells #[.int .i64 (-1), .slice none 0 0, .bool false] 38) :: blk wk.heap.size (.cells #[.int .i64 0, .slice none 0 0, .bool false] 38) :: (rto p s A1 c1 A2 c2 ++ Rs))))
    case first => as_aux_lemma =>
      have x2 : ((wk.alloc (.cells #[.int .i64 0, .slice none 0 0, .bool false] 38)).alloc (.cells #[.int .i64 (-1), .slice none 0 0, .bool false] 38)).cell? ⟨p, 2, none⟩ = some (.int .i64 s.E) := (cell_block (S0.out.blk_at 2 rfl) 2).trans rfl
      rcases HEC.out with ⟨h2, h3, rfl, _⟩ | ⟨h2, h3, rfl, _⟩ | ⟨rfl, rfl, _⟩
      · have e2 : (k != 0) = true := by simpa using h2
        rw [h3] at x2
        clear HC HEC h2 h3 HO
        go_wp2
        go_meet
        exact ⟨rfl, S0⟩
      · have e2 : (k != 0) = true := by simpa using h2
        have e3 : (s.E == 0) = false := by simpa using h3
        clear HC HEC h2 h3 HO
        generalize s.E = E at x2 e3
        go_wp2
        go_meet
        exact ⟨rfl, S0⟩
      · clear HC HEC HO
        go_wp2
        go_meet
        exact ⟨rfl, S0⟩
    case rest => as_aux_lemma =>
    obtain ⟨rfl, S1⟩ := hcut
    clear S0 x1 e1
    go_upto_if 22 with (fail)
    go_cut [] (fun wx => Hid (Sep B w wx (blk (wk.heap.size + 1) (.cells #[.int .i64 (-1), .slice none 0 0, .bool f] 38) :: blk wk.heap.size (.cells #[.int .i64 0, .slice none 0 0, .bool false] 38) :: (rto p { s with E := E' } A1 c1 A2 c2 ++ Rs))))
    case first => as_aux_lemma =>
      have hS : f = false → E' = s.E := fun e => by
        rcases HEC.out with ⟨_, _, e2, _⟩ | ⟨_, _, _, e2⟩ | ⟨_, _, e2⟩
        · rw [e2] at e; cases e
        · exact e2
        · exact e2
      have hT : f = true → E' = k := fun e => by
        rcases HEC.out with ⟨_, _, _, e2⟩ | ⟨_, _, e2, _⟩ | ⟨_, e2, _⟩
        · exact e2
        · rw [e2] at e; cases e
        · rw [e2] at e; cases e
      clear HC HEC HO
      cases f with
      | false =>
        obtain rfl := hS rfl
        clear hS hT
        go_wp2
        go_meet
        exact S1
      | true =>
        obtain rfl := hT rfl
        have f2 := frozen_block (S1.out.blk_at 2 rfl) 2
        have c2' : wc.cell? ⟨p, 2, none⟩ = some (.int .i64 s.E) := (cell_block (S1.out.blk_at 2 rfl) 2).trans rfl
        have c0' : wc.cell? ⟨wk.heap.size + 1, 2, none⟩ = some (.bool false) := (cell_block (S1.out.blk_at 0 rfl) 2).trans rfl
        have n2 : p ≠ wk.heap.size + 1 := by omega
        generalize s.E = E0 at c2'
        have f0 : wc.frozen? ⟨wk.heap.size + 1, 2, none⟩ = false := frozen_block (S1.out.blk_at 0 rfl) 2
        have S2 := Lib.hid ((S1.out.set 2 rfl 2 (.int .i64 E')).set 0 rfl 2 (.bool true))
        clear hS hT S1
        go_wp2
        go_meet
        exact S2
    case rest => as_aux_lemma =>
    have S2 := hcut
    clear S1 hcut HEC
    have n1 : p ≠ wk.heap.size := by omega
    have n2 : p ≠ wk.heap.size + 1 := by omega
    have y1 : wc.cell? ⟨p, 1, none⟩ = some (.int .i64 a) := by have := (cell_block (S2.out.blk_at 2 rfl) 1).trans rfl; rw [HA.out]; exact this
    have y3 : wc.cell? ⟨p, 3, none⟩ = some (.slice A1 s.C.length c1) := (cell_block (S2.out.blk_at 2 rfl) 3).trans rfl
    have y4 : wc.cell? ⟨p, 4, none⟩ = some (.slice A2 s.W.length c2) := (cell_block (S2.out.blk_at 2 rfl) 4).trans rfl
    have z0 : wc.cell? ⟨wk.heap.size + 1, 0, none⟩ = some (.int .i64 (-1)) := (cell_block (S2.out.blk_at 0 rfl) 0).trans rfl
    have z1 : wc.cell? ⟨wk.heap.size + 1, 1, none⟩ = some (.slice none 0 0) := (cell_block (S2.out.blk_at 0 rfl) 1).trans rfl
    have z2 : wc.cell? ⟨wk.heap.size + 1, 2, none⟩ = some (.bool f) := (cell_block (S2.out.blk_at 0 rfl) 2).trans rfl
    have v0 : wc.cell? ⟨wk.heap.size, 0, none⟩ = some (.int .i64 0) := (cell_block (S2.out.blk_at 1 rfl) 0).trans rfl
    have v1 : wc.cell? ⟨wk.heap.size, 1, none⟩ = some (.slice none 0 0) := (cell_block (S2.out.blk_at 1 rfl) 1).trans rfl
    have v2 : wc.cell? ⟨wk.heap.size, 2, none⟩ = some (.bool false) := (cell_block (S2.out.blk_at 1 rfl) 2).trans rfl
    have g0 : wc.frozen? ⟨wk.heap.size, 0, none⟩ = false := frozen_block (S2.out.blk_at 1 rfl) 0
    have g1 : wc.frozen? ⟨wk.heap.size, 1, none⟩ = false := frozen_block (S2.out.blk_at 1 rfl) 1
    have g2 : wc.frozen? ⟨wk.heap.size, 2, none⟩ = false := frozen_block (S2.out.blk_at 1 rfl) 2
    have g3 : wc.frozen? ⟨wk.heap.size + 1, 0, none⟩ = false := frozen_block (S2.out.blk_at 0 rfl) 0
    have g4 : wc.frozen? ⟨wk.heap.size + 1, 1, none⟩ = false := frozen_block (S2.out.blk_at 0 rfl) 1
    have p1 := frozen_block (S2.out.blk_at 2 rfl) 1
    have p3 := frozen_block (S2.out.blk_at 2 rfl) 3
    have p4 := frozen_block (S2.out.blk_at 2 rfl) 4
    rcases HC.out with ⟨h, _⟩ | ⟨h, q1, x, l, hC, q2, q3⟩ | ⟨h, q1, hC, q2, q3⟩ | ⟨h, h2, q1, hC, q2, q3⟩
    · exact absurd h HN.out
    · have HO2 := HO.out
      rw [q3] at HO2
      have HOK := Lib.hid HO2
      have HQ : Hid (endE s = 0 ∧ endR s k = ⟨x, [], f⟩ ∧ endS s k = { s with E := E', C := l }) := ⟨q1, q2, q3⟩
      clear HO2 HO
      have S3 : Hid (Sep B w wc (blk (wk.heap.size + 1) (.cells #[.int .i64 (-1), .slice none 0 0, .bool f] 38) :: blk wk.heap.size (.cells #[.int .i64 0, .slice none 0 0, .bool false] 38) :: blk p (.cells #[.int .i64 s.L, .int .i64 s.A, .int .i64 E', .slice A1 (l.length + 1) c1, .slice A2 s.W.length c2, .int .i64 s.N] 50) :: nums (.slice A1 (l.length + 1) c1) (x :: l) :: nums (.slice A2 s.W.length c2) s.W :: Rs)) := by
        have h := S2.out
        unfold rto at h
        simp only [hC, List.length_cons] at h
        exact h
      have hr := S3.out.rd 3 rfl
      obtain ⟨b, off, rfl, hbl, hx, _⟩ := rd_at hr (i := 0) (by simp)
      have hx0 : wc.cell? ⟨b, off, none⟩ = some (.int .i64 x) := hx
      have hcl : l.length + 1 ≤ c1 := by have := HCAP.out; rw [hC] at this; exact this
      obtain ⟨B', hB', hr1, hr1'⟩ := run_next und1 size1 (some ⟨b, off, none⟩) l.length c1 hcl
      have HB' := Lib.hid hB'
      have HCL := Lib.hid hcl
      rw [hC, List.length_cons] at y3
      have T1 : Sep B w _ (blk (wk.heap.size + 1) (.cells #[.int .i64 x, .slice none 0 0, .bool f] 38) :: blk wk.heap.size (.cells #[.int .i64 0, .slice none 0 0, .bool false] 38) :: blk p (.cells #[.int .i64 s.L, .int .i64 s.A, .int .i64 E', .slice B' l.length (c1 - 1), .slice A2 s.W.length c2, .int .i64 s.N] 50) :: nums (.slice (some ⟨b, off, none⟩) (l.length + 1) c1) (x :: l) :: nums (.slice A2 s.W.length c2) s.W :: Rs) := (S3.out.set 0 rfl 0 (.int .i64 x)).set 2 rfl 3 (.slice B' l.length (c1 - 1))
      have T2 : Sep B w _ (blk (wk.heap.size + 1) (.cells #[.int .i64 x, .slice none 0 0, .bool f] 38) :: blk wk.heap.size (.cells #[.int .i64 x, .slice none 0 0, .bool f] 38) :: blk p (.cells #[.int .i64 s.L, .int .i64 s.A, .int .i64 E', .slice B' l.length (c1 - 1), .slice A2 s.W.length c2, .int .i64 s.N] 50) :: nums (.slice (some ⟨b, off, none⟩) (l.length + 1) c1) (x :: l) :: nums (.slice A2 s.W.length c2) s.W :: Rs) := ((T1.set 1 rfl 0 (.int .i64 x)).set 1 rfl 1 (.slice none 0 0)).set 1 rfl 2 (.bool f)
      obtain ⟨wz, hwz⟩ : ∃ wz : World, wz = (((((wc.setCell ⟨wk.heap.size + 1, 0, none⟩ (.int .i64 x)).setCell ⟨p, 3, none⟩ (.slice B' l.length (c1 - 1))).setCell ⟨wk.heap.size, 0, none⟩ (.int .i64 x)).setCell ⟨wk.heap.size, 1, none⟩ (.slice none 0 0)).setCell ⟨wk.heap.size, 2, none⟩ (.bool f)) := ⟨_, rfl⟩
      rw [← hwz] at T2
      have S4 := Lib.hid T2
      have HWZ := Lib.hid hwz
      clear T1 T2 hwz
      clear q1 q2 q3 hr hx hC HC hbl HCAP h HN HA S2 hB' hcl S3
      go_wp2
      rw [← HWZ.out]
      have r0 := (cell_block (S4.out.blk_at 1 rfl) 0).trans rfl
      have r1 := (cell_block (S4.out.blk_at 1 rfl) 1).trans rfl
      have r2 := (cell_block (S4.out.blk_at 1 rfl) 2).trans rfl
      refine bodyPost_ret (v := .tuple #[.agg #[.int .i64 x, .slice none 0 0, .bool f], .int .i64 0]) (by simp [results, Try.results12, go_sem, r0, r1, r2]) rfl ?_
      have h5 := Sep.next_at (c' := c1 - 1) S4.out.tail.tail 1 rfl fun b off e => HB'.out b off e
      obtain ⟨q1, q2, q3⟩ := HQ.out
      rw [q1, q2, q3]
      have h6 : Sep B w _ (rto p { s with E := E', C := l } B' (c1 - 1) A2 c2 ++ Rs) := h5
      have h7 := (rt_close h6 HOK.out (by have := HCL.out; show l.length ≤ c1 - 1; omega)).nil_nums
      exact ⟨none, 0, rfl, h7⟩
    · have HO2 := HO.out
      rw [q3] at HO2
      have HOK := Lib.hid HO2
      have HQ : Hid (endE s = 0 ∧ endR s k = ⟨-1, s.W, f⟩ ∧ endS s k = { s with A := 0, E := E', W := [] }) := ⟨q1, q2, q3⟩
      obtain rfl : a = 1 := by rw [HA.out]; exact h
      rw [hC, List.length_nil] at y3
      have T1 : Sep B w _ (blk (wk.heap.size + 1) (.cells #[.int .i64 (-1), .slice A2 s.W.length c2, .bool f] 38) :: blk wk.heap.size (.cells #[.int .i64 0, .slice none 0 0, .bool false] 38) :: blk p (.cells #[.int .i64 s.L, .int .i64 0, .int .i64 E', .slice A1 s.C.length c1, .slice none 0 0, .int .i64 s.N] 50) :: nums (.slice A1 s.C.length c1) s.C :: nums (.slice A2 s.W.length c2) s.W :: Rs) := ((S2.out.set 2 rfl 1 (.int .i64 0)).set 0 rfl 1 (.slice A2 s.W.length c2)).set 2 rfl 4 (.slice none 0 0)
      have T2 : Sep B w _ (blk (wk.heap.size + 1) (.cells #[.int .i64 (-1), .slice A2 s.W.length c2, .bool f] 38) :: blk wk.heap.size (.cells #[.int .i64 (-1), .slice A2 s.W.length c2, .bool f] 38) :: blk p (.cells #[.int .i64 s.L, .int .i64 0, .int .i64 E', .slice A1 s.C.length c1, .slice none 0 0, .int .i64 s.N] 50) :: nums (.slice A1 s.C.length c1) s.C :: nums (.slice A2 s.W.length c2) s.W :: Rs) := ((T1.set 1 rfl 0 (.int .i64 (-1))).set 1 rfl 1 (.slice A2 s.W.length c2)).set 1 rfl 2 (.bool f)
      obtain ⟨wz, hwz⟩ : ∃ wz : World, wz = ((((((wc.setCell ⟨p, 1, none⟩ (.int .i64 0)).setCell ⟨wk.heap.size + 1, 1, none⟩ (.slice A2 s.W.length c2)).setCell ⟨p, 4, none⟩ (.slice none 0 0)).setCell ⟨wk.heap.size, 0, none⟩ (.int .i64 (-1))).setCell ⟨wk.heap.size, 1, none⟩ (.slice A2 s.W.length c2)).setCell ⟨wk.heap.size, 2, none⟩ (.bool f)) := ⟨_, rfl⟩
      rw [← hwz] at T2
      have S4 := Lib.hid T2
      have HWZ := Lib.hid hwz
      clear T1 T2 hwz
      clear q1 q2 q3 hC HC h HN HA S2 HO2 HO
      go_wp2
      rw [← HWZ.out]
      have r0 := (cell_block (S4.out.blk_at 1 rfl) 0).trans rfl
      have r1 := (cell_block (S4.out.blk_at 1 rfl) 1).trans rfl
      have r2 := (cell_block (S4.out.blk_at 1 rfl) 2).trans rfl
      refine bodyPost_ret (v := .tuple #[.agg #[.int .i64 (-1), .slice A2 s.W.length c2, .bool f], .int .i64 0]) (by simp [results, Try.results12, go_sem, r0, r1, r2]) rfl ?_
      obtain ⟨q1, q2, q3⟩ := HQ.out
      rw [q1, q2, q3]
      have h4 : Sep B w _ (blk p (.cells #[.int .i64 s.L, .int .i64 0, .int .i64 E', .slice A1 s.C.length c1, .slice none 0 0, .int .i64 s.N] 50) :: nums (.slice A1 s.C.length c1) s.C :: nums (.slice A2 s.W.length c2) s.W :: Rs) := S4.out.tail.tail
      have h5 : Sep B w _ (blk p (.cells #[.int .i64 s.L, .int .i64 0, .int .i64 E', .slice A1 s.C.length c1, .slice none 0 0, .int .i64 s.N] 50) :: nums (.slice A1 s.C.length c1) s.C :: nums (.slice none 0 0) [] :: nums (.slice A2 s.W.length c2) s.W :: Rs) := h4.nil_nums.perm ((List.Perm.swap _ _ _).trans ((List.Perm.swap _ _ _).cons _))
      have h6 : Sep B w _ (rto p { s with A := 0, E := E', W := [] } A1 c1 none 0 ++ (nums (.slice A2 s.W.length c2) s.W :: Rs)) := h5
      have h7 := (rt_close h6 HOK.out HCAP.out).swap
      exact ⟨A2, c2, rfl, h7⟩
    · have HO2 := HO.out
      rw [q3] at HO2
      have HOK := Lib.hid HO2
      have HQ : Hid (endE s = 0 ∧ endR s k = ⟨-1, [], f⟩ ∧ endS s k = { s with A := s.A - 1, E := E' }) := ⟨q1, q2, q3⟩
      rw [hC, List.length_nil] at y3
      obtain ⟨z, hz⟩ : ∃ z, z = s.A - 1 := ⟨_, rfl⟩
      rw [← hz] at HOK HQ
      have hb := HOK.out.a0
      have hb2 : 0 ≤ z := hb
      have hbig : s.A ≤ 9223372036854775807 := HAB.out
      have hw1 : IntKind.i64.wrap (a - 1) = z := by rw [hz, HA.out]; exact IntWalk.i64_in _ (by omega)
      have e2 : (z == 0) = false := by simp; omega
      have T1 : Sep B w _ (blk (wk.heap.size + 1) (.cells #[.int .i64 (-1), .slice none 0 0, .bool f] 38) :: blk wk.heap.size (.cells #[.int .i64 0, .slice none 0 0, .bool false] 38) :: (rto p { s with A := z, E := E' } A1 c1 A2 c2 ++ Rs)) := S2.out.set 2 rfl 1 (.int .i64 z)
      have T2 : Sep B w _ (blk (wk.heap.size + 1) (.cells #[.int .i64 (-1), .slice none 0 0, .bool f] 38) :: blk wk.heap.size (.cells #[.int .i64 (-1), .slice none 0 0, .bool f] 38) :: (rto p { s with A := z, E := E' } A1 c1 A2 c2 ++ Rs)) := ((T1.set 1 rfl 0 (.int .i64 (-1))).set 1 rfl 1 (.slice none 0 0)).set 1 rfl 2 (.bool f)
      obtain ⟨wz, hwz⟩ : ∃ wz : World, wz = ((((wc.setCell ⟨p, 1, none⟩ (.int .i64 z)).setCell ⟨wk.heap.size, 0, none⟩ (.int .i64 (-1))).setCell ⟨wk.heap.size, 1, none⟩ (.slice none 0 0)).setCell ⟨wk.heap.size, 2, none⟩ (.bool f)) := ⟨_, rfl⟩
      rw [← hwz] at T2
      have S4 := Lib.hid T2
      have HWZ := Lib.hid hwz
      clear T1 T2 hwz
      clear q1 q2 q3 hC HC h HN HA S2 HO2 HO hz hb hb2 hbig h2
      go_wp2
      rw [← HWZ.out]
      have r0 := (cell_block (S4.out.blk_at 1 rfl) 0).trans rfl
      have r1 := (cell_block (S4.out.blk_at 1 rfl) 1).trans rfl
      have r2 := (cell_block (S4.out.blk_at 1 rfl) 2).trans rfl
      refine bodyPost_ret (v := .tuple #[.agg #[.int .i64 (-1), .slice none 0 0, .bool f], .int .i64 0]) (by simp [results, Try.results12, go_sem, r0, r1, r2]) rfl ?_
      obtain ⟨q1, q2, q3⟩ := HQ.out
      rw [q1, q2, q3]
      have h7 := (rt_close S4.out.tail.tail HOK.out HCAP.out).nil_nums
      exact ⟨none, 0, rfl, h7⟩
end
end Go.Proofs.Ytkgmcifianhogaa.RefTeam
