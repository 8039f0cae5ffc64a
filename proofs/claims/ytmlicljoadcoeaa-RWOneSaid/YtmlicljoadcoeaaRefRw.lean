/-
  Contracts of the functions of package countermandref09 (the document's answer for layer 9): New, Give. Condition: the lock is at hand.
-/
import Derived.Test.YtmlicljoadcoeaaRwP
import Derived.Test.YtmlicljoadcoeaaRefMut
namespace Go.Proofs.Ytmlicljoadcoeaa.Hand
open Go.ChangeShapes Go.WideShapes Go.ChangeAt Go.RowKit Mem
section
variable {B : Nat → Prop} {w wk : World} {Rs : List Res}
/-- One of them, put first. -/
theorem Sep.front (h : Sep B w wk Rs) (i : Nat) {R : Res} (hi : Rs[i]? = some R) : Sep B w wk (R :: Rs.eraseIdx i) := h.perm (perm_erase Rs i hi)
/-- A slice of one number that the call makes. -/
theorem Sep.lit1 (h : Sep B w wk Rs) (e : TypeId) (x : Int) {m : Nat} (hm : m = wk.heap.size) : Sep B w (wk.alloc (.cells #[.int .i64 x] e)) (nums (.slice (some ⟨m, 0, none⟩) 1 1) [x] :: Rs) := by
  subst hm
  exact h.add (new_below0 wk _) (R := nums _ [x]) (F := fun k => k = wk.heap.size) ⟨Rd.lit1 wk e x _ rfl, fun k hk => by rw [hk]; simp⟩ fun k hk => by rw [hk]; exact Nat.le_refl _
end
end Go.Proofs.Ytmlicljoadcoeaa.Hand
namespace Go.Proofs.Ytmlicljoadcoeaa.RefRw
open Go.ChangeShapes Go.WideShapes Go.ChangeAt Go.RowKit Mem MutP RwP Hand RefMut

/-- The reference's lock behind the pointer to block g. -/
def rrs (g : Nat) (s : St) (u : Value × Value × Value) : List Res := [blk g (.cells #[.int .i64 s.w, .int .i64 s.n, u.1, u.2.1, u.2.2] 47), nums u.1 s.r, nums u.2.1 s.p, nums u.2.2 s.q]
def rr (g : Nat) (s : St) : Res := someR (fun u : Value × Value × Value => Fits u.2.2) fun u => pack (rrs g s u)

section
variable {B : Nat → Prop} {w wk : World} {Rs : List Res} {g : Nat} {s : St}
theorem rr_open (h : Sep B w wk (rr g s :: Rs)) : ∃ Ar cr Ap cp Aq cq, Sep B w wk (blk g (.cells #[.int .i64 s.w, .int .i64 s.n, .slice Ar s.r.length cr, .slice Ap s.p.length cp, .slice Aq s.q.length cq] 47) :: nums (.slice Ar s.r.length cr) s.r :: nums (.slice Ap s.p.length cp) s.p :: nums (.slice Aq s.q.length cq) s.q :: Rs) ∧ s.q.length ≤ cq := by
  obtain ⟨⟨u1, u2, u3⟩, hf, h1⟩ := h.ex
  have h2 : Sep B w wk (blk g (.cells #[.int .i64 s.w, .int .i64 s.n, u1, u2, u3] 47) :: nums u1 s.r :: nums u2 s.p :: nums u3 s.q :: Rs) := h1.unpack
  obtain ⟨A1, c1, rfl⟩ := rd_form (h2.rd 1 rfl)
  obtain ⟨A2, c2, rfl⟩ := rd_form (h2.rd 2 rfl)
  obtain ⟨A3, c3, rfl⟩ := rd_form (h2.rd 3 rfl)
  exact ⟨_, _, _, _, _, _, h2, hf _ _ _ rfl⟩
theorem rr_close {u1 u2 u3 : Value} (h : Sep B w wk (blk g (.cells #[.int .i64 s.w, .int .i64 s.n, u1, u2, u3] 47) :: nums u1 s.r :: nums u2 s.p :: nums u3 s.q :: Rs)) (hf : Fits u3) : Sep B w wk (rr g s :: Rs) :=
  Sep.hide (R := fun u : Value × Value × Value => pack (rrs g s u)) (a := (u1, u2, u3)) hf (Sep.packed (Ss := rrs g s (u1, u2, u3)) h)

theorem newR_no (n : Int) (w : World) (h : n < 1 ∨ 1000 < n) : Calls Try.prog 9 #[.int .i64 n] w fun e w' => e = .returned (.tuple #[.pointer none, .int .i64 1]) ∧ w = w' := by
  rcases (by omega : n < 1 ∨ (1 ≤ n ∧ 1000 < n)) with h1 | ⟨h1, h2⟩
  all_goals
    clear h
    go_enter Try.func9, Try.ntmps9
    go_wp2
    go_ret2
    exact ⟨rfl, rfl⟩
theorem newR_s (h : Sep B w wk Rs) (n : Int) (h1 : 1 ≤ n) (h2 : n ≤ 1000) :
    Calls Try.prog 9 #[.int .i64 n] wk fun e wn => ∃ p, e = .returned (.tuple #[.pointer (some ⟨p, 0, none⟩), .int .i64 0]) ∧ Sep B w wn (rr p (newS n) :: Rs) := by
  have hs := h.new (.cells #[.int .i64 (-1), .int .i64 n, .slice none 0 0, .slice none 0 0, .slice none 0 0] 47)
  have HS := Lib.hid (rr_close (s := newS n) (hs.nil_nums.nil_nums.nil_nums.front 3 rfl) fits_nil)
  clear h hs
  go_enter Try.func9, Try.ntmps9
  go_wp2
  go_ret2
  exact ⟨_, rfl, HS.out⟩

theorem apart {b off n c : Nat} {o : Obj} {xs : List Int} (h : Sep B w wk (blk g o :: nums (.slice (some ⟨b, off, none⟩) n c) xs :: Rs)) (hx : 0 < xs.length) : b ≠ g := by
  obtain ⟨_, F1, F2, ⟨_, rfl⟩, ⟨F3, F4, ⟨⟨A', c', e, _, hx'⟩, _⟩, _, s3, _, _⟩, _, _, d⟩ := h
  injection e with e1 e2 e3
  obtain ⟨b', off', e, hF, _⟩ := hx' hx
  rw [← e1] at e
  injection e with e
  injection e with e
  subst e
  rintro rfl
  exact d b rfl (s3 b hF)

/-- All of a told list but its first. -/
theorem nums_tail (h : Sep B w wk Rs) (i : Nat) {b off c c' : Nat} {x : Int} {W : List Int} {A' : Option Addr} (hi : Rs[i]? = some (nums (.slice (some ⟨b, off, none⟩) (W.length + 1) c) (x :: W))) (hA : 0 < W.length → A' = some ⟨b, off + 1, none⟩) : Sep B w wk (Rs.set i (nums (.slice A' W.length c') W)) := by
  obtain ⟨F, ⟨⟨A1, c1, e, hm, hx⟩, hlt⟩, _, hn⟩ := h.upd i hi
  injection e with e1 e2 e3
  subst e1
  obtain ⟨b1, off1, e, hF, hb, hc⟩ := hx (by simp)
  injection e with e
  injection e with e e'
  subst e e'
  have hm : W.length + 1 ≤ 1000000 := hm
  refine hn (nums (.slice A' W.length c') W) (F' := F) ⟨⟨A', c', rfl, by omega, fun h0 => ⟨b, off + 1, hA h0, hF, hb, fun j hj => ?_⟩⟩, hlt⟩ (.refl _ _) fun k hk => .inl hk
  have h1 := hc (j + 1) (by simp; omega)
  rw [show off + 1 + j = off + (j + 1) by omega]
  exact h1

set_option maxRecDepth 100000 in
set_option maxHeartbeats 2000000 in
/-- What can be given is given to one who waits to write. -/
theorem give_w {W : Int} {p q : List Int} {x n : Int} (h : Sep B w wk (rr g ⟨W, [], p, x :: q, n⟩ :: Rs)) (hW : W < 0) (lq : q.length + 1 ≤ 1000) :
    Calls Try.prog 25 #[.pointer (some ⟨g, 0, none⟩)] wk fun e wn => ∃ A c, e = .returned (.slice A [x].length c) ∧ Sep B w wn (nums (.slice A [x].length c) [x] :: rr g ⟨x, [], p, q, n⟩ :: Rs) := by
  obtain ⟨Ar, cr, Ap, cp, Aq, cq, hs, hcap⟩ := rr_open h
  clear h
  simp only at hs hcap
  have S0 := Lib.hid hs
  have hb := hs.blk_at 0 rfl
  have c0 : wk.cell? ⟨g, 0, none⟩ = some (.int .i64 W) := (cell_block hb 0).trans rfl
  have c2 : wk.cell? ⟨g, 2, none⟩ = some (.slice Ar 0 cr) := (cell_block hb 2).trans rfl
  have c4 : wk.cell? ⟨g, 4, none⟩ = some (.slice Aq (x :: q).length cq) := (cell_block hb 4).trans rfl
  have f0 := frozen_block hb 0
  have f4 := frozen_block hb 4
  have hpl := lt_of_block hb
  clear hs hb
  have dW : decide (W < 0) = true := by simpa using hW
  obtain ⟨b, off, rfl, hbl, q0, _⟩ := rd_at (S0.out.rd 3 rfl) (i := 0) (by simp)
  have q0 : wk.cell? ⟨b, off, none⟩ = some (.int .i64 x) := q0
  have S1 := Lib.hid (S0.out.set 0 rfl 0 (.int .i64 x))
  clear hW
  simp only [List.length_cons, List.length_nil] at *
  go_enter Try.func25, Try.ntmps25
  go_wp2
  all_goals
    go_ret
    refine ⟨_, _, rfl, Sep.lit1 (rr_close (s := ⟨x, [], p, q, n⟩) (nums_tail (S1.out.set 0 rfl 4 _) 3 rfl ?_) ?_) _ _ ?_⟩
    · intro h0
      have h0' : 0 < q.length := h0
      first | omega | rfl
    · intro A n c' e
      have e2 : q.length = n := by injection e
      have e3 : cq - 1 = c' ∨ (cq = 1 ∧ 0 = c') := by injection e; omega
      omega
    · simp [World.setCell]

set_option maxRecDepth 100000 in
set_option maxHeartbeats 2000000 in
/-- What can be given is given to all who wait to read. -/
theorem give_r {W : Int} {r p : List Int} {n : Int} (h : Sep B w wk (rr g ⟨W, r, p, [], n⟩ :: Rs)) (hW : W < 0) (lr : r.length ≤ 1000) (lp : p.length ≤ 1000) :
    Calls Try.prog 25 #[.pointer (some ⟨g, 0, none⟩)] wk fun e wn => ∃ A c, e = .returned (.slice A p.length c) ∧ Sep B w wn (nums (.slice A p.length c) p :: rr g ⟨W, r ++ p, [], [], n⟩ :: Rs) := by
  obtain ⟨Ar, cr, Ap, cp, Aq, cq, hs, hcap⟩ := rr_open h
  clear h
  simp only at hs hcap
  have hb := hs.blk_at 0 rfl
  have c0 : wk.cell? ⟨g, 0, none⟩ = some (.int .i64 W) := (cell_block hb 0).trans rfl
  have c2 : wk.cell? ⟨g, 2, none⟩ = some (.slice Ar r.length cr) := (cell_block hb 2).trans rfl
  have c3 : wk.cell? ⟨g, 3, none⟩ = some (.slice Ap p.length cp) := (cell_block hb 3).trans rfl
  have c4 : wk.cell? ⟨g, 4, none⟩ = some (.slice Aq 0 cq) := (cell_block hb 4).trans rfl
  have hpl := lt_of_block hb
  have S1 := Lib.hid (hs.grow0 intE 3)
  have HRr : Hid (RdL intE (wk.alloc (.cells #[] 3)) (fun _ => True) (.slice Ar r.length cr) r) := rdL_of (S1.out.rd 2 rfl)
  clear hs hb
  have dW : decide (W < 0) = true := by simpa using hW
  clear hW
  go_enter Try.func25, Try.ntmps25
  rcases (by cases ((r.length : Int) == 0) <;> simp : ((r.length : Int) == 0) = true ∨ ((r.length : Int) == 0) = false) with e1 | e1
  all_goals
    go_wp2_with (first
      | (at_builtin; (with_reducible refine wpList_appS rfl _ _ intElemL rfl rfl rfl S1.out 0 rfl HRr.out (by simp; omega) ?_); intro A3 d3 w3 l3 HL3 h3; have HX1 : Hid (RdL intE w3 (fun _ => True) (.slice Ap p.length cp) p) := rdL_of (Sep.rd h3 3 rfl); have S3 := Lib.hid h3; have hl3 : Hid (l3.length = r.length) := congrArg List.length HL3.out; clear h3)
      | (at_builtin; (with_reducible refine wpList_appS rfl _ _ intElemL rfl rfl rfl S3.out 0 rfl HX1.out (by rw [hl3.out]; omega) ?_); intro A5 d5 w5 l5 HL5 h5; have k5 := (cell_block (Sep.blk_at h5 1 rfl) 2).trans rfl; have f5 := frozen_block (Sep.blk_at h5 1 rfl) 2; have f6 := frozen_block (Sep.blk_at h5 1 rfl) 3; have k6 := (cell_block (Sep.blk_at h5 1 rfl) 3).trans rfl; have S5 := Lib.hid h5; clear h5))
    go_ret
    have hl5 : l5 = r ++ p := by rw [HL5.out, HL3.out]; rfl
    subst hl5
    have h6 := grow_nums ((S5.out.set 1 rfl 2 (.slice A5 (r ++ p).length d5)).set 1 rfl 3 (.slice none 0 0)) (by simp; omega)
    have h7 := ((((h6.nil_nums.front 4 rfl).front 5 rfl).front 2 rfl).front 3 rfl).front 4 rfl
    have h8 := rr_close (s := ⟨W, r ++ p, [], [], n⟩) h7 (fun _ _ _ e => by injection e with _ e2 e3; have e2' : 0 = _ := e2; omega)
    exact ⟨_, _, rfl, h8.swap.sub (.cons_cons _ (.cons_cons _ (.cons _ (List.Sublist.refl Rs))))⟩

set_option maxRecDepth 100000 in
set_option maxHeartbeats 2000000 in
/-- Nothing can be given. -/
theorem give_no {s : St} (h : Sep B w wk (rr g s :: Rs)) (hn : ¬ (s.w < 0 ∧ s.r = [] ∧ s.q ≠ [])) (hn2 : ¬ (s.w < 0 ∧ s.q = [])) :
    Calls Try.prog 25 #[.pointer (some ⟨g, 0, none⟩)] wk fun e wn => e = .returned (.slice none 0 0) ∧ Sep B w wn (rr g s :: Rs) := by
  have H := Lib.hid h
  obtain ⟨Ar, cr, Ap, cp, Aq, cq, hs, hcap⟩ := rr_open h
  have hb := hs.blk_at 0 rfl
  have c0 : wk.cell? ⟨g, 0, none⟩ = some (.int .i64 s.w) := (cell_block hb 0).trans rfl
  have c2 : wk.cell? ⟨g, 2, none⟩ = some (.slice Ar s.r.length cr) := (cell_block hb 2).trans rfl
  have c4 : wk.cell? ⟨g, 4, none⟩ = some (.slice Aq s.q.length cq) := (cell_block hb 4).trans rfl
  clear hs hb h hcap
  have hz : decide (s.w < 0) = false ∨ (decide (s.w < 0) = true ∧ ((s.r.length : Int) == 0) = false ∧ ((s.q.length : Int) == 0) = false) := by
    by_cases h1 : s.w < 0
    · have h2 : s.q ≠ [] := fun h => hn2 ⟨h1, h⟩
      have h3 : s.r ≠ [] := fun h => hn ⟨h1, h, h2⟩
      refine .inr ⟨decide_eq_true h1, ?_, ?_⟩
      · have := List.length_pos_iff.2 h3; rw [beq_eq_false_iff_ne]; omega
      · have := List.length_pos_iff.2 h2; rw [beq_eq_false_iff_ne]; omega
    · exact .inl (decide_eq_false h1)
  clear hn hn2
  rcases hz with d0 | ⟨d0, d1, d2⟩
  all_goals
    go_enter Try.func25, Try.ntmps25
    go_wp2
    go_ret
    exact ⟨rfl, H.out⟩

theorem give_s (h : Sep B w wk (rr g s :: Rs)) (hok : Ok0 s) :
    Calls Try.prog 25 #[.pointer (some ⟨g, 0, none⟩)] wk fun e wn => ∃ A c, e = .returned (.slice A (giveV s).length c) ∧ Sep B w wn (nums (.slice A (giveV s).length c) (giveV s) :: rr g (giveS s) :: Rs) := by
  obtain ⟨lr, lp, lq⟩ := hok.lens
  clear hok
  by_cases k1 : s.w < 0 ∧ s.r = [] ∧ s.q ≠ []
  · have HV : giveV s = [s.q.headD (-1)] := if_pos k1
    have HS : giveS s = ⟨s.q.headD (-1), s.r, s.p, s.q.tail, s.n⟩ := if_pos k1
    rw [HV, HS]
    obtain ⟨W, r, p, q, n⟩ := s
    obtain ⟨k1, k2, k3⟩ := k1
    obtain rfl : r = [] := k2
    cases q with
    | nil => exact (k3 rfl).elim
    | cons x q => exact give_w h k1 lq
  · by_cases k2 : s.w < 0 ∧ s.q = []
    · have HV : giveV s = s.p := (if_neg k1).trans (if_pos k2)
      have HS : giveS s = ⟨s.w, s.r ++ s.p, [], s.q, s.n⟩ := (if_neg k1).trans (if_pos k2)
      rw [HV, HS]
      obtain ⟨W, r, p, q, n⟩ := s
      obtain ⟨k2, k3⟩ := k2
      obtain rfl : q = [] := k3
      exact give_r h k2 lr lp
    · have HV : giveV s = [] := (if_neg k1).trans (if_neg k2)
      have HS : giveS s = s := (if_neg k1).trans (if_neg k2)
      rw [HV, HS]
      refine (give_no h k1 k2).mono ?_
      rintro e wn ⟨rfl, h⟩
      exact ⟨none, 0, rfl, h.nil_nums⟩
end
end Go.Proofs.Ytmlicljoadcoeaa.RefRw
