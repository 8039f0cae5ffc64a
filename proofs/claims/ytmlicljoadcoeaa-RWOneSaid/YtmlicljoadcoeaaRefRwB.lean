/-
  Contracts of the functions of package countermandref09 (the document's answer for layer 9), second part: Ask, Unlock, Leave. Condition: the lock is at hand.
-/
import Derived.Test.YtmlicljoadcoeaaRefRw
namespace Go.Proofs.Ytmlicljoadcoeaa.RefRw
open Go.ChangeShapes Go.WideShapes Go.ChangeAt Go.RowKit Mem MutP RwP Hand RefMut

section
variable {B : Nat → Prop} {w wk : World} {Rs : List Res} {g : Nat} {s : St}
theorem name_no {n t : Int} (h : nameM n t = false) : decide (t < 0) = true ∨ (decide (t < 0) = false ∧ decide (n ≤ t) = true) := by
  have h1 : ¬ (0 ≤ t ∧ t < n) := fun hh => by rw [name_iff.2 hh] at h; cases h
  by_cases h0 : t < 0
  · exact .inl (decide_eq_true h0)
  · exact .inr ⟨decide_eq_false h0, decide_eq_true (by omega)⟩
theorem name_yes {n t : Int} (h : nameM n t = true) : decide (t < 0) = false ∧ decide (n ≤ t) = false := by
  have h1 := name_iff.1 h
  exact ⟨decide_eq_false (by omega), decide_eq_false (by omega)⟩

set_option maxRecDepth 100000 in
set_option maxHeartbeats 2000000 in
theorem ask_no (h : Sep B w wk (rr g s :: Rs)) (t : Int) (wr : Bool) (hE : askE s t ≠ 0) :
    Calls Try.prog 11 #[.pointer (some ⟨g, 0, none⟩), .int .i64 t, .bool wr] wk fun e wn => e = .returned (.tuple #[.bool false, .int .i64 (askE s t)]) ∧ Sep B w wn (rr g s :: Rs) := by
  have H := Lib.hid h
  obtain ⟨Ar, cr, Ap, cp, Aq, cq, hs, hcap⟩ := rr_open h
  have hb := hs.blk_at 0 rfl
  have c0 : wk.cell? ⟨g, 0, none⟩ = some (.int .i64 s.w) := (cell_block hb 0).trans rfl
  have c1 : wk.cell? ⟨g, 1, none⟩ = some (.int .i64 s.n) := (cell_block hb 1).trans rfl
  have c2 : wk.cell? ⟨g, 2, none⟩ = some (.slice Ar s.r.length cr) := (cell_block hb 2).trans rfl
  have c3 : wk.cell? ⟨g, 3, none⟩ = some (.slice Ap s.p.length cp) := (cell_block hb 3).trans rfl
  have c4 : wk.cell? ⟨g, 4, none⟩ = some (.slice Aq s.q.length cq) := (cell_block hb 4).trans rfl
  have Ir := Lib.hid (in_any (hs.rd 1 rfl) t)
  have Ip := Lib.hid (in_any (hs.rd 2 rfl) t)
  have Iq := Lib.hid (in_any (hs.rd 3 rfl) t)
  clear hs hb h hcap
  cases hn : nameM s.n t with
  | false =>
    have hE3 : askE s t = 3 := by unfold askE; rw [if_pos hn]
    rw [hE3]
    clear hE Ir Ip Iq
    rcases name_no hn with d0 | ⟨d0, d1⟩
    all_goals
      clear hn
      go_enter Try.func11, Try.ntmps11
      go_wp2
      go_ret2
      exact ⟨rfl, H.out⟩
  | true =>
    obtain ⟨d0, d1⟩ := name_yes hn
    cases hp : inL s.p t with
    | true =>
      have hE3 : askE s t = 6 := by unfold askE waitsR; rw [if_neg (by rw [hn]; simp), hp]; rfl
      rw [hE3]
      rw [hp] at Ip
      clear hE hn hp
      go_enter Try.func11, Try.ntmps11
      go_wp2_with fail
      refine Ip.out.mono ?_
      rintro e w1 ⟨rfl, rfl⟩
      go_wp2
      go_ret2
      exact ⟨rfl, H.out⟩
    | false =>
      rw [hp] at Ip
      cases hq : inL s.q t with
      | true =>
        have hE3 : askE s t = 6 := by unfold askE waitsR; rw [if_neg (by rw [hn]; simp), hp, hq]; rfl
        rw [hE3]
        rw [hq] at Iq
        clear hE hn hp hq
        go_enter Try.func11, Try.ntmps11
        go_wp2_with fail
        refine Ip.out.mono ?_
        rintro e w1 ⟨rfl, rfl⟩
        go_wp2_with fail
        refine Iq.out.mono ?_
        rintro e w1 ⟨rfl, rfl⟩
        go_wp2
        go_ret2
        exact ⟨rfl, H.out⟩
      | false =>
        rw [hq] at Iq
        have hh : holdsB s t = true := by
          unfold askE waitsR at hE
          rw [hn, hp, hq] at hE
          cases hh : holdsB s t
          · rw [hh] at hE; exact (hE rfl).elim
          · rfl
        have hE3 : askE s t = 4 := by unfold askE waitsR; rw [if_neg (by rw [hn]; simp), hp, hq, hh]; rfl
        rw [hE3]
        unfold holdsB at hh
        by_cases hw : s.w = t
        · have e1 : (s.w == t) = true := by simpa using hw
          clear hE hn hp hq hw hh
          go_enter Try.func11, Try.ntmps11
          go_wp2_with fail
          refine Ip.out.mono ?_
          rintro e w1 ⟨rfl, rfl⟩
          go_wp2_with fail
          refine Iq.out.mono ?_
          rintro e w1 ⟨rfl, rfl⟩
          go_wp2
          go_ret2
          exact ⟨rfl, H.out⟩
        · have e1 : (s.w == t) = false := by simpa using hw
          have hr : inL s.r t = true := by simpa [hw] using hh
          rw [hr] at Ir
          clear hE hn hp hq hw hh
          go_enter Try.func11, Try.ntmps11
          go_wp2_with fail
          refine Ip.out.mono ?_
          rintro e w1 ⟨rfl, rfl⟩
          go_wp2_with fail
          refine Iq.out.mono ?_
          rintro e w1 ⟨rfl, rfl⟩
          go_wp2_with fail
          refine Ir.out.mono ?_
          rintro e w1 ⟨rfl, rfl⟩
          go_wp2
          go_ret2
          exact ⟨rfl, H.out⟩

/-- Who asks, as it stands in its row. -/
theorem rr_putq {A : Option Addr} {c : Nat} {t : Int} {l : List Int} {Ar Ap Aq : Value} (h : Sep B w wk (grow intE 3 (.slice A l.length c) l :: blk g (.cells #[.int .i64 s.w, .int .i64 s.n, Ar, Ap, .slice A l.length c] 47) :: nums Ar s.r :: nums Ap s.p :: nums Aq s.q :: Rs)) (hl : l = s.q ++ [t]) (hlen : s.q.length ≤ 1000) : Sep B w wk (rr g (putS s t true) :: Rs) := by
  subst hl
  have hf := fits_own (h.own 0 rfl)
  have h6 := grow_nums h (by simp; omega)
  have h7 := ((h6.front 3 rfl).front 3 rfl).front 3 rfl
  have h8 : Sep B w wk (blk g (.cells #[.int .i64 s.w, .int .i64 s.n, Ar, Ap, .slice A (s.q ++ [t]).length c] 47) :: nums Ar s.r :: nums Ap s.p :: nums (.slice A (s.q ++ [t]).length c) (s.q ++ [t]) :: nums Aq s.q :: Rs) := h7
  have h9 := rr_close (s := putS s t true) h8 hf
  exact h9.sub (.cons_cons _ (.cons _ (List.Sublist.refl Rs)))
theorem rr_putp {A : Option Addr} {c : Nat} {t : Int} {l : List Int} {Ar Ap Aq : Value} (h : Sep B w wk (grow intE 3 (.slice A l.length c) l :: blk g (.cells #[.int .i64 s.w, .int .i64 s.n, Ar, .slice A l.length c, Aq] 47) :: nums Ar s.r :: nums Ap s.p :: nums Aq s.q :: Rs)) (hl : l = s.p ++ [t]) (hlen : s.p.length ≤ 1000) (hf : Fits Aq) : Sep B w wk (rr g (putS s t false) :: Rs) := by
  subst hl
  have h6 := grow_nums h (by simp; omega)
  have h7 := (((h6.front 4 rfl).front 1 rfl).front 3 rfl).front 3 rfl
  exact (rr_close (s := putS s t false) h7 hf).sub (.cons_cons _ (.cons _ (List.Sublist.refl Rs)))

set_option maxRecDepth 100000 in
set_option maxHeartbeats 4000000 in
theorem ask_yes (h : Sep B w wk (rr g s :: Rs)) (hok : Ok s) (t : Int) (wr : Bool) (hE : askE s t = 0) :
    Calls Try.prog 11 #[.pointer (some ⟨g, 0, none⟩), .int .i64 t, .bool wr] wk fun e wn => e = .returned (.tuple #[.bool (holdsB (giveS (putS s t wr)) t), .int .i64 0]) ∧ Sep B w wn (rr g (giveS (putS s t wr)) :: Rs) := by
  obtain ⟨Ar, cr, Ap, cp, Aq, cq, hs, hcap⟩ := rr_open h
  obtain ⟨lr, lp, lq⟩ := hok.toOk0.lens
  have HOK := Lib.hid (hok.toOk0.put hE wr)
  have hb := hs.blk_at 0 rfl
  have c0 : wk.cell? ⟨g, 0, none⟩ = some (.int .i64 s.w) := (cell_block hb 0).trans rfl
  have c1 : wk.cell? ⟨g, 1, none⟩ = some (.int .i64 s.n) := (cell_block hb 1).trans rfl
  have c2 : wk.cell? ⟨g, 2, none⟩ = some (.slice Ar s.r.length cr) := (cell_block hb 2).trans rfl
  have c3 : wk.cell? ⟨g, 3, none⟩ = some (.slice Ap s.p.length cp) := (cell_block hb 3).trans rfl
  have c4 : wk.cell? ⟨g, 4, none⟩ = some (.slice Aq s.q.length cq) := (cell_block hb 4).trans rfl
  have hpl := lt_of_block hb
  obtain ⟨hn, h1, h2, h3, h4⟩ := ask0 hE
  have Ir := Lib.hid (in_any (hs.rd 1 rfl) t)
  have Ip := Lib.hid (in_any (hs.rd 2 rfl) t)
  have Iq := Lib.hid (in_any (hs.rd 3 rfl) t)
  rw [show inL s.r t = false from decide_eq_false h4] at Ir
  rw [show inL s.p t = false from decide_eq_false h1] at Ip
  rw [show inL s.q t = false from decide_eq_false h2] at Iq
  obtain ⟨d0, d1⟩ := name_yes (name_iff.2 hn)
  have e1 : (s.w == t) = false := by simpa using h3
  have S1 := Lib.hid (hs.grow0 intE 3)
  have HFq : Hid (Fits (.slice Aq s.q.length cq)) := fun _ _ _ e => by injection e with _ e2 e3; omega
  have HRp : Hid (RdL intE (wk.alloc (.cells #[] 3)) (fun _ => True) (.slice Ap s.p.length cp) s.p) := rdL_of (S1.out.rd 3 rfl)
  have HRq : Hid (RdL intE (wk.alloc (.cells #[] 3)) (fun _ => True) (.slice Aq s.q.length cq) s.q) := rdL_of (S1.out.rd 4 rfl)
  clear hs hb h hcap hok hE hn h1 h2 h3 h4
  cases wr with
  | true =>
    clear HRp HFq
    obtain ⟨s7, hs7⟩ : ∃ s7, giveS (putS s t true) = s7 := ⟨_, rfl⟩
    obtain ⟨bo, hbo⟩ : ∃ bo, holdsB s7 t = bo := ⟨_, rfl⟩
    have HS7 := Lib.hid hs7
    have HB := Lib.hid hbo
    rw [hs7, hbo]
    clear hs7 hbo
    go_enter Try.func11, Try.ntmps11
    go_wp2_with fail
    refine Ip.out.mono ?_
    rintro e w1 ⟨rfl, rfl⟩
    go_wp2_with fail
    refine Iq.out.mono ?_
    rintro e w1 ⟨rfl, rfl⟩
    go_wp2_with fail
    refine Ir.out.mono ?_
    rintro e w1 ⟨rfl, rfl⟩
    go_wp2_with (first
      | (at_builtin; (with_reducible refine wpList_appS rfl _ _ intElemL rfl rfl rfl S1.out 0 rfl HRq.out (by simp; omega) ?_); intro A3 d3 w3 l3 HL3 h3; have HX1 : Hid (RdL intE (w3.alloc (.cells #[.int .i64 t] 3)) (fun _ => True) (.slice (some ⟨w3.heap.size, 0, none⟩) 1 1) [t]) := RdL.lit1 (E := intE) w3 3 t (cs := #[.int .i64 t]) rfl (fun _ => True) trivial; have S3 := Lib.hid (Sep.next h3 (new_below0 w3 (.cells #[.int .i64 t] 3))); have hl3 : Hid (l3.length = s.q.length) := congrArg List.length HL3.out; clear h3)
      | (at_builtin; (with_reducible refine wpList_appS rfl _ _ intElemL rfl rfl rfl S3.out 0 rfl HX1.out (by rw [hl3.out]; simp; omega) ?_); intro A5 d5 w5 l5 HL5 h5; have k5 := (cell_block (Sep.blk_at h5 1 rfl) 4).trans rfl; have f5 := frozen_block (Sep.blk_at h5 1 rfl) 4; have S5 := Lib.hid h5; clear h5))
    have hl5 : l5 = s.q ++ [t] := by rw [HL5.out, HL3.out]; rfl
    refine (give_s (rr_putq (S5.out.set 1 rfl 4 (.slice A5 l5.length d5)) hl5 lq) HOK.out).mono ?_
    rintro e w6 ⟨A6, d6, rfl, h6⟩
    rw [HS7.out] at h6
    have h7 := h6.tail
    have H7 := Lib.hid h7
    obtain ⟨B1, b1, B2, b2, B3, b3, h8, _⟩ := rr_open h7
    have k0 := (cell_block (h8.blk_at 0 rfl) 0).trans rfl
    have k2 := (cell_block (h8.blk_at 0 rfl) 2).trans rfl
    have Ir7 := Lib.hid (in_any (h8.rd 1 rfl) t)
    clear h6 h7 h8 S5 S1 HOK Ip Iq Ir c0 c1 c2 c3 c4
    by_cases hw : s7.w = t
    · have e2 : (s7.w == t) = true := by simpa using hw
      have hbo : bo = true := by rw [← HB.out]; unfold holdsB; rw [decide_eq_true hw]; rfl
      subst hbo
      clear hw
      go_wp2
      go_ret2
      exact ⟨rfl, H7.out⟩
    · have e2 : (s7.w == t) = false := by simpa using hw
      have hbo : inL s7.r t = bo := by rw [← HB.out]; unfold holdsB; rw [decide_eq_false hw]; rfl
      rw [hbo] at Ir7
      clear hw hbo
      go_wp2_with fail
      refine Ir7.out.mono ?_
      rintro e w1 ⟨rfl, rfl⟩
      go_wp2
      go_ret2
      exact ⟨rfl, H7.out⟩
  | false =>
    clear HRq
    obtain ⟨s7, hs7⟩ : ∃ s7, giveS (putS s t false) = s7 := ⟨_, rfl⟩
    obtain ⟨bo, hbo⟩ : ∃ bo, holdsB s7 t = bo := ⟨_, rfl⟩
    have HS7 := Lib.hid hs7
    have HB := Lib.hid hbo
    rw [hs7, hbo]
    clear hs7 hbo
    go_enter Try.func11, Try.ntmps11
    go_wp2_with fail
    refine Ip.out.mono ?_
    rintro e w1 ⟨rfl, rfl⟩
    go_wp2_with fail
    refine Iq.out.mono ?_
    rintro e w1 ⟨rfl, rfl⟩
    go_wp2_with fail
    refine Ir.out.mono ?_
    rintro e w1 ⟨rfl, rfl⟩
    go_wp2_with (first
      | (at_builtin; (with_reducible refine wpList_appS rfl _ _ intElemL rfl rfl rfl S1.out 0 rfl HRp.out (by simp; omega) ?_); intro A3 d3 w3 l3 HL3 h3; have HX1 : Hid (RdL intE (w3.alloc (.cells #[.int .i64 t] 3)) (fun _ => True) (.slice (some ⟨w3.heap.size, 0, none⟩) 1 1) [t]) := RdL.lit1 (E := intE) w3 3 t (cs := #[.int .i64 t]) rfl (fun _ => True) trivial; have S3 := Lib.hid (Sep.next h3 (new_below0 w3 (.cells #[.int .i64 t] 3))); have hl3 : Hid (l3.length = s.p.length) := congrArg List.length HL3.out; clear h3)
      | (at_builtin; (with_reducible refine wpList_appS rfl _ _ intElemL rfl rfl rfl S3.out 0 rfl HX1.out (by rw [hl3.out]; simp; omega) ?_); intro A5 d5 w5 l5 HL5 h5; have k5 := (cell_block (Sep.blk_at h5 1 rfl) 3).trans rfl; have f5 := frozen_block (Sep.blk_at h5 1 rfl) 3; have S5 := Lib.hid h5; clear h5))
    have hl5 : l5 = s.p ++ [t] := by rw [HL5.out, HL3.out]; rfl
    refine (give_s (rr_putp (S5.out.set 1 rfl 3 (.slice A5 l5.length d5)) hl5 lp HFq.out) HOK.out).mono ?_
    rintro e w6 ⟨A6, d6, rfl, h6⟩
    rw [HS7.out] at h6
    have h7 := h6.tail
    have H7 := Lib.hid h7
    obtain ⟨B1, b1, B2, b2, B3, b3, h8, _⟩ := rr_open h7
    have k0 := (cell_block (h8.blk_at 0 rfl) 0).trans rfl
    have k2 := (cell_block (h8.blk_at 0 rfl) 2).trans rfl
    have Ir7 := Lib.hid (in_any (h8.rd 1 rfl) t)
    clear h6 h7 h8 S5 S1 HOK Ip Iq Ir c0 c1 c2 c3 c4
    by_cases hw : s7.w = t
    · have e2 : (s7.w == t) = true := by simpa using hw
      have hbo : bo = true := by rw [← HB.out]; unfold holdsB; rw [decide_eq_true hw]; rfl
      subst hbo
      clear hw
      go_wp2
      go_ret2
      exact ⟨rfl, H7.out⟩
    · have e2 : (s7.w == t) = false := by simpa using hw
      have hbo : inL s7.r t = bo := by rw [← HB.out]; unfold holdsB; rw [decide_eq_false hw]; rfl
      rw [hbo] at Ir7
      clear hw hbo
      go_wp2_with fail
      refine Ir7.out.mono ?_
      rintro e w1 ⟨rfl, rfl⟩
      go_wp2
      go_ret2
      exact ⟨rfl, H7.out⟩

theorem ask_s (h : Sep B w wk (rr g s :: Rs)) (hok : Ok s) (t : Int) (wr : Bool) :
    Calls Try.prog 11 #[.pointer (some ⟨g, 0, none⟩), .int .i64 t, .bool wr] wk fun e wn => e = .returned (.tuple #[.bool (askB s t wr), .int .i64 (askE s t)]) ∧ Sep B w wn (rr g (askS s t wr) :: Rs) := by
  unfold askB askS
  by_cases hE : askE s t = 0
  · rw [if_pos hE, if_pos hE, hE]
    exact ask_yes h hok t wr hE
  · rw [if_neg hE, if_neg hE]
    exact ask_no h t wr hE

set_option maxRecDepth 100000 in
set_option maxHeartbeats 4000000 in
theorem unlock_s (h : Sep B w wk (rr g s :: Rs)) (hok : Ok s) (t : Int) :
    Calls Try.prog 12 #[.pointer (some ⟨g, 0, none⟩), .int .i64 t] wk fun e wn => ∃ A c, e = .returned (.tuple #[.slice A (relV s t).length c, .int .i64 (relE s t)]) ∧ Sep B w wn (nums (.slice A (relV s t).length c) (relV s t) :: rr g (unlS s t) :: Rs) := by
  have H := Lib.hid h.nil_nums
  obtain ⟨Ar, cr, Ap, cp, Aq, cq, hs, hcap⟩ := rr_open h
  have HOK := Lib.hid (hok.toOk0.out t)
  have hb := hs.blk_at 0 rfl
  have c0 : wk.cell? ⟨g, 0, none⟩ = some (.int .i64 s.w) := (cell_block hb 0).trans rfl
  have c1 : wk.cell? ⟨g, 1, none⟩ = some (.int .i64 s.n) := (cell_block hb 1).trans rfl
  have c2 : wk.cell? ⟨g, 2, none⟩ = some (.slice Ar s.r.length cr) := (cell_block hb 2).trans rfl
  have f0 := frozen_block hb 0
  have hpl := lt_of_block hb
  have Ir := Lib.hid (in_any (hs.rd 1 rfl) t)
  have HFq : Hid (Fits (.slice Aq s.q.length cq)) := fun _ _ _ e => by injection e with _ e2 e3; omega
  clear hb h hcap hok
  cases hn : nameM s.n t with
  | false =>
    have hE : relE s t = 3 := by unfold relE; rw [if_pos hn]
    have hV : relV s t = [] := by unfold relV; rw [hE]; rfl
    have hS : unlS s t = s := by unfold unlS; rw [hE]; rfl
    rw [hE, hV, hS]
    clear hE hV hS Ir hs
    rcases name_no hn with d0 | ⟨d0, d1⟩
    all_goals
      clear hn
      go_enter Try.func12, Try.ntmps12
      go_wp2
      go_ret2
      exact ⟨_, _, rfl, H.out⟩
  | true =>
    obtain ⟨d0, d1⟩ := name_yes hn
    cases hh : holdsB s t with
    | false =>
      have hE : relE s t = 4 := by unfold relE; rw [if_neg (by rw [hn]; simp), if_neg (by rw [hh]; simp)]
      have hV : relV s t = [] := by unfold relV; rw [hE]; rfl
      have hS : unlS s t = s := by unfold unlS; rw [hE]; rfl
      rw [hE, hV, hS]
      unfold holdsB at hh
      rw [Bool.or_eq_false_iff] at hh
      have e1 : (s.w != t) = true := by have := of_decide_eq_false hh.1; simpa using this
      rw [hh.2] at Ir
      clear hE hV hS hs hn hh
      go_enter Try.func12, Try.ntmps12
      go_wp2_with fail
      refine Ir.out.mono ?_
      rintro e w1 ⟨rfl, rfl⟩
      go_wp2
      go_ret2
      exact ⟨_, _, rfl, H.out⟩
    | true =>
      have hE : relE s t = 0 := by unfold relE; rw [if_neg (by rw [hn]; simp), if_pos hh]
      have hV : relV s t = giveV (outS s t) := by unfold relV; rw [if_pos hE]
      have hS : unlS s t = giveS (outS s t) := by unfold unlS; rw [if_pos hE]
      rw [hE, hV, hS]
      clear hE hV hS H
      unfold holdsB at hh
      by_cases hw : s.w = t
      · have e1 : (s.w != t) = false := by simpa using hw
        have e2 : (s.w == t) = true := by simpa using hw
        have hO : Hid (outS s t = ⟨-1, withoutL s.r t, s.p, s.q, s.n⟩) := by show _ = _; unfold outS; rw [if_pos hw]
        have hs1 := hs.set 0 rfl 0 (.int .i64 (-1))
        have HWO := Lib.hid (without_s hs1 (hs1.rd 1 rfl) t)
        clear hn hh hw Ir hs hs1
        go_enter Try.func12, Try.ntmps12
        go_wp2_with fail
        refine HWO.out.mono ?_
        rintro e w1 ⟨A1, b1, rfl, h1, _, _⟩
        have k2 := (cell_block (h1.blk_at 1 rfl) 2).trans rfl
        have f2 := frozen_block (h1.blk_at 1 rfl) 2
        have S1 := Lib.hid (h1.set 1 rfl 2 (.slice A1 (withoutL s.r t).length b1))
        clear h1 HWO
        go_wp2_with fail
        have h3 := (rr_close (s := ⟨-1, withoutL s.r t, s.p, s.q, s.n⟩) ((((S1.out.front 4 rfl).front 4 rfl).front 2 rfl).front 3 rfl) HFq.out).sub (.cons_cons _ (.cons _ (List.Sublist.refl Rs)))
        rw [← hO.out] at h3
        refine (give_s h3 HOK.out).mono ?_
        rintro e w2 ⟨A2, b2, rfl, h4⟩
        have S4 := Lib.hid h4
        clear h4 h3
        go_wp2
        go_ret2
        exact ⟨_, _, rfl, S4.out⟩
      · have e1 : (s.w != t) = true := by simpa using hw
        have e2 : (s.w == t) = false := by simpa using hw
        have hr : inL s.r t = true := by simpa [hw] using hh
        rw [hr] at Ir
        have hO : Hid (outS s t = ⟨s.w, withoutL s.r t, s.p, s.q, s.n⟩) := by show _ = _; unfold outS; rw [if_neg hw]
        have HWO := Lib.hid (without_s hs (hs.rd 1 rfl) t)
        clear hn hh hw hr hs
        go_enter Try.func12, Try.ntmps12
        go_wp2_with fail
        refine Ir.out.mono ?_
        rintro e w1 ⟨rfl, rfl⟩
        go_wp2_with fail
        refine HWO.out.mono ?_
        rintro e w1 ⟨A1, b1, rfl, h1, _, _⟩
        have k2 := (cell_block (h1.blk_at 1 rfl) 2).trans rfl
        have f2 := frozen_block (h1.blk_at 1 rfl) 2
        have S1 := Lib.hid (h1.set 1 rfl 2 (.slice A1 (withoutL s.r t).length b1))
        clear h1 HWO
        go_wp2_with fail
        have h3 := (rr_close (s := ⟨s.w, withoutL s.r t, s.p, s.q, s.n⟩) ((((S1.out.front 4 rfl).front 4 rfl).front 2 rfl).front 3 rfl) HFq.out).sub (.cons_cons _ (.cons _ (List.Sublist.refl Rs)))
        rw [← hO.out] at h3
        refine (give_s h3 HOK.out).mono ?_
        rintro e w2 ⟨A2, b2, rfl, h4⟩
        have S4 := Lib.hid h4
        clear h4 h3
        go_wp2
        go_ret2
        exact ⟨_, _, rfl, S4.out⟩

set_option maxRecDepth 100000 in
set_option maxHeartbeats 4000000 in
theorem leave_s (h : Sep B w wk (rr g s :: Rs)) (hok : Ok s) (t : Int) :
    Calls Try.prog 13 #[.pointer (some ⟨g, 0, none⟩), .int .i64 t] wk fun e wn => ∃ A c, e = .returned (.tuple #[.slice A (leaveV s t).length c, .bool (waitsR s t)]) ∧ Sep B w wn (nums (.slice A (leaveV s t).length c) (leaveV s t) :: rr g (leaveS s t) :: Rs) := by
  have H := Lib.hid h.nil_nums
  obtain ⟨Ar, cr, Ap, cp, Aq, cq, hs, hcap⟩ := rr_open h
  have HOK := Lib.hid (hok.toOk0.go t)
  have hb := hs.blk_at 0 rfl
  have c3 : wk.cell? ⟨g, 3, none⟩ = some (.slice Ap s.p.length cp) := (cell_block hb 3).trans rfl
  have c4 : wk.cell? ⟨g, 4, none⟩ = some (.slice Aq s.q.length cq) := (cell_block hb 4).trans rfl
  have Ip := Lib.hid (in_any (hs.rd 2 rfl) t)
  have Iq := Lib.hid (in_any (hs.rd 3 rfl) t)
  have HWO := Lib.hid (without_s hs (hs.rd 2 rfl) t)
  clear hb h hcap hok hs
  cases hh : waitsR s t with
  | false =>
    have hV : leaveV s t = [] := by unfold leaveV; rw [hh]; rfl
    have hS : leaveS s t = s := by unfold leaveS; rw [hh]; rfl
    rw [hV, hS]
    unfold waitsR at hh
    rw [Bool.or_eq_false_iff] at hh
    rw [hh.1] at Ip
    rw [hh.2] at Iq
    clear hV hS hh HWO
    go_enter Try.func13, Try.ntmps13
    go_wp2_with fail
    refine Ip.out.mono ?_
    rintro e w1 ⟨rfl, rfl⟩
    go_wp2_with fail
    refine Iq.out.mono ?_
    rintro e w1 ⟨rfl, rfl⟩
    go_wp2
    go_ret2
    exact ⟨_, _, rfl, H.out⟩
  | true =>
    have hV : leaveV s t = giveV (goS s t) := by unfold leaveV; rw [if_pos hh]
    have hS : leaveS s t = giveS (goS s t) := by unfold leaveS; rw [if_pos hh]
    rw [hV, hS]
    clear hV hS H
    unfold waitsR at hh
    have hz : inL s.p t = true ∨ (inL s.p t = false ∧ inL s.q t = true) := by
      cases hp : inL s.p t
      · rw [hp] at hh; exact .inr ⟨rfl, hh⟩
      · exact .inl rfl
    clear hh
    rcases hz with hz | ⟨hz, hz2⟩
    · rw [hz] at Ip
      clear hz Iq
      go_enter Try.func13, Try.ntmps13
      go_wp2_with fail
      refine Ip.out.mono ?_
      rintro e w1 ⟨rfl, rfl⟩
      go_wp2_with fail
      refine HWO.out.mono ?_
      rintro e w1 ⟨A1, b1, rfl, h1, _, _⟩
      have k3 := (cell_block (h1.blk_at 1 rfl) 3).trans rfl
      have f3 := frozen_block (h1.blk_at 1 rfl) 3
      have k4 := (cell_block (h1.blk_at 1 rfl) 4).trans rfl
      have hs2 := h1.set 1 rfl 3 (.slice A1 (withoutL s.p t).length b1)
      have S1 := Lib.hid hs2
      have HWQ := Lib.hid (without_s hs2 (hs2.rd 4 rfl) t)
      clear h1 hs2 HWO
      go_wp2_with fail
      refine HWQ.out.mono ?_
      rintro e w2 ⟨A2, b2, rfl, h2, _, hfq⟩
      have k5 := (cell_block (h2.blk_at 2 rfl) 4).trans rfl
      have f5 := frozen_block (h2.blk_at 2 rfl) 4
      have S2 := Lib.hid (h2.set 2 rfl 4 (.slice A2 (withoutL s.q t).length b2))
      have HFq := Lib.hid hfq
      clear h2 hfq S1 HWQ
      go_wp2_with fail
      have h3 := (rr_close (s := goS s t) (((S2.out.front 1 rfl).front 3 rfl).front 3 rfl) HFq.out).sub (.cons_cons _ (.cons _ (.cons _ (List.Sublist.refl Rs))))
      refine (give_s h3 HOK.out).mono ?_
      rintro e w3 ⟨A3, b3, rfl, h4⟩
      have S4 := Lib.hid h4
      clear h4 h3
      go_wp2
      go_ret2
      exact ⟨_, _, rfl, S4.out⟩
    · rw [hz] at Ip
      rw [hz2] at Iq
      clear hz hz2
      go_enter Try.func13, Try.ntmps13
      go_wp2_with fail
      refine Ip.out.mono ?_
      rintro e w1 ⟨rfl, rfl⟩
      go_wp2_with fail
      refine Iq.out.mono ?_
      rintro e w1 ⟨rfl, rfl⟩
      go_wp2_with fail
      refine HWO.out.mono ?_
      rintro e w1 ⟨A1, b1, rfl, h1, _, _⟩
      have k3 := (cell_block (h1.blk_at 1 rfl) 3).trans rfl
      have f3 := frozen_block (h1.blk_at 1 rfl) 3
      have k4 := (cell_block (h1.blk_at 1 rfl) 4).trans rfl
      have hs2 := h1.set 1 rfl 3 (.slice A1 (withoutL s.p t).length b1)
      have S1 := Lib.hid hs2
      have HWQ := Lib.hid (without_s hs2 (hs2.rd 4 rfl) t)
      clear h1 hs2 HWO
      go_wp2_with fail
      refine HWQ.out.mono ?_
      rintro e w2 ⟨A2, b2, rfl, h2, _, hfq⟩
      have k5 := (cell_block (h2.blk_at 2 rfl) 4).trans rfl
      have f5 := frozen_block (h2.blk_at 2 rfl) 4
      have S2 := Lib.hid (h2.set 2 rfl 4 (.slice A2 (withoutL s.q t).length b2))
      have HFq := Lib.hid hfq
      clear h2 hfq S1 HWQ
      go_wp2_with fail
      have h3 := (rr_close (s := goS s t) (((S2.out.front 1 rfl).front 3 rfl).front 3 rfl) HFq.out).sub (.cons_cons _ (.cons _ (.cons _ (List.Sublist.refl Rs))))
      refine (give_s h3 HOK.out).mono ?_
      rintro e w3 ⟨A3, b3, rfl, h4⟩
      have S4 := Lib.hid h4
      clear h4 h3
      go_wp2
      go_ret2
      exact ⟨_, _, rfl, S4.out⟩
end
end Go.Proofs.Ytmlicljoadcoeaa.RefRw
