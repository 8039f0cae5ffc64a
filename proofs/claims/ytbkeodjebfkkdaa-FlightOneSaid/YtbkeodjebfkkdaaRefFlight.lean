/-
  Contracts of the functions of package countermandref15 (the document's answer for layer 15), first part: New, Of, Led, Joins, Forget. Condition: the flight is at hand.
-/
import Derived.Test.YtbkeodjebfkkdaaFlightP
import Derived.Test.YtbkeodjebfkkdaaRefMut
import Derived.Test.YtbkeodjebfkkdaaGrow
import Derived.Test.YtbkeodjebfkkdaaObjL
import Derived.BigRegion
import Derived.Deep.QuietTactic
import Derived.BigQuiet
import Derived.Deep.DeepCutAuto
import Derived.Deep.CutBlock
namespace Go.Proofs.Ytbkeodjebfkkdaa.Hand
open Go.ChangeShapes Go.WideShapes Go.ChangeAt Go.RowKit Mem
/-- Lists that can be read, wherever they lie. -/
def reads (L : List (Value × List Int)) : Res where
  holds w F := (∀ x ∈ L, Rd w F x.1 x.2) ∧ ∀ k, F k → k < w.heap.size
  keep := fun ⟨h, e⟩ hs hk => ⟨fun x hx => (h x hx).keep hs hk, fun k hF => Nat.lt_of_lt_of_le (e k hF) hs⟩
  lt := fun ⟨_, e⟩ => e
section
variable {B : Nat → Prop} {w wk : World} {Rs : List Res} {L L' : List (Value × List Int)}
theorem Sep.reads_nil (h : Sep B w wk Rs) : Sep B w wk (reads [] :: Rs) := by
  obtain ⟨ho, ha⟩ := h
  exact ⟨ho, fun _ => False, _, ⟨fun x hx => (by cases hx), fun _ h => h.elim⟩, ha, fun _ h => h.elim, fun _ h => h, fun _ h => h.elim⟩
theorem Sep.reads_add {v : Value} {l : List Int} (h : Sep B w wk (nums v l :: reads L :: Rs)) : Sep B w wk (reads ((v, l) :: L) :: Rs) := by
  obtain ⟨ho, F1, F2, ⟨h1, e1⟩, ⟨F3, F4, ⟨h3, e3⟩, h4, s3, s4, d3⟩, s1, s2, d1⟩ := h
  refine ⟨ho, fun k => F1 k ∨ F3 k, F4, ⟨fun x hx => ?_, fun k hk => hk.elim (e1 k) (e3 k)⟩, h4, fun k hk => hk.elim (s1 k) fun hk => s2 k (s3 k hk), fun k hk => s2 k (s4 k hk), fun k a b => a.elim (fun a => d1 k a (s4 k b)) fun a => d3 k a b⟩
  rcases List.mem_cons.1 hx with rfl | hx
  · exact h1.mono fun k _ hk => .inl hk
  · exact (h3 x hx).mono fun k _ hk => .inr hk
theorem Sep.reads_sub (h : Sep B w wk (reads L :: Rs)) (hs : ∀ x ∈ L', x ∈ L) : Sep B w wk (reads L' :: Rs) := by
  obtain ⟨ho, F1, F2, ⟨h1, e1⟩, h2, s1, s2, d⟩ := h
  exact ⟨ho, F1, F2, ⟨fun x hx => h1 x (hs x hx), e1⟩, h2, s1, s2, d⟩
theorem Sep.reads_at (h : Sep B w wk Rs) (i : Nat) (hi : Rs[i]? = some (reads L)) {x : Value × List Int} (hx : x ∈ L) : Rd wk (fun _ => True) x.1 x.2 := by
  obtain ⟨F, h1, _⟩ := h.get i hi
  exact (h1 x hx).mono fun _ _ _ => trivial
end
end Go.Proofs.Ytbkeodjebfkkdaa.Hand
namespace Go.Proofs.Ytbkeodjebfkkdaa.RefFlight
open Go.ChangeShapes Go.WideShapes Go.ChangeAt Go.RowKit Mem MutP FlightP Hand RefMut

/-- A call, and where the list of those who join it lies. -/
structure Pc where
  c : FlightP.Call
  A : Option Addr
  z : Nat
def Pc.v (q : Pc) : Value := .slice q.A q.c.j.length q.z
def pcE : Enc Pc := ⟨4, fun q => [.int .i64 q.c.t, .int .i64 q.c.k, .bool q.c.g, q.v], fun _ => rfl, by intro a u hu; simp at hu; rcases hu with rfl | rfl | rfl | rfl <;> rfl, by omega⟩
theorem pcElem : Elem pcE Try.prog 45 44 := elem_of (z := .agg #[.int .i64 0, .int .i64 0, .bool false, .slice none 0 0]) (bytes := 48) Try.underlying45 (by kernel_rfl) rfl (by omega)

/-! ### the first one of a kind -/
theorem place_at {p : FlightP.Call → Bool} {L : List FlightP.Call} {i : Nat} {c : FlightP.Call} (hi : L[i]? = some c) (hc : p c = true) (hn : ∀ a ∈ L.take i, p a = false) : placeI L (L.findIdx p) = i := by
  obtain ⟨hl, e⟩ := List.getElem?_eq_some_iff.1 hi
  have hf : L.findIdx p = i := by
    rw [List.findIdx_eq hl]
    refine ⟨by rw [e]; exact hc, fun j hj => ?_⟩
    refine hn _ (List.mem_iff_getElem?.2 ⟨j, ?_⟩)
    rw [List.getElem?_take, if_pos hj, List.getElem?_eq_getElem]
  unfold placeI
  rw [hf, if_pos hl]
theorem place_no {p : FlightP.Call → Bool} {L : List FlightP.Call} (hn : ∀ a ∈ L, p a = false) : placeI L (L.findIdx p) = -1 := by
  unfold placeI
  rw [List.findIdx_eq_length.2 hn, if_neg (by omega)]
theorem place_cut {p : FlightP.Call → Bool} {A B : List FlightP.Call} {c : FlightP.Call} (hc : p c = true) (hA : ∀ a ∈ A, p a = false) : placeI (A ++ c :: B) ((A ++ c :: B).findIdx p) = A.length :=
  place_at (i := A.length) (c := c) (by simp) hc fun a ha => hA a (by simpa using ha)
theorem any_no {p : FlightP.Call → Bool} {L : List FlightP.Call} (h : L.any p = false) : ∀ a ∈ L, p a = false := by
  rw [List.any_eq_false] at h
  intro a ha
  simpa using h a ha
theorem cut_at {ps : List Pc} {A B : List FlightP.Call} {c : FlightP.Call} (he : ps.map Pc.c = A ++ c :: B) : ∃ PA q PB, ps = PA ++ q :: PB ∧ PA.map Pc.c = A ∧ q.c = c ∧ PB.map Pc.c = B := by
  obtain ⟨PA, l2, rfl, h1, h2⟩ := List.map_eq_append_iff.1 he
  obtain ⟨q, PB, rfl, h3, h4⟩ := List.map_eq_cons_iff.1 h2
  exact ⟨PA, q, PB, rfl, h1, h3, h4⟩
theorem take_snocP (ps : List Pc) (i : Nat) (q : Pc) (h : ps[i]? = some q) : ps.take (i + 1) = ps.take i ++ [q] := by rw [List.take_add_one, h]; rfl
theorem take_none {ps : List Pc} {p : FlightP.Call → Bool} {i : Nat} {q : Pc} (hq : ps[i]? = some q) (hp : p q.c = false) (hn : ∀ a ∈ ps.take i, p a.c = false) : ∀ a ∈ ps.take (i + 1), p a.c = false := by
  intro a ha
  rw [take_snocP ps i q hq] at ha
  rcases List.mem_append.1 ha with ha | ha
  · exact hn a ha
  · rw [List.mem_singleton] at ha; subst ha; exact hp
theorem place_ps {ps : List Pc} {p : FlightP.Call → Bool} {i : Nat} {q : Pc} (hq : ps[i]? = some q) (hp : p q.c = true) (hn : ∀ a ∈ ps.take i, p a.c = false) : placeI (ps.map Pc.c) ((ps.map Pc.c).findIdx p) = i := by
  refine place_at (c := q.c) (by rw [List.getElem?_map, hq]; rfl) hp fun a ha => ?_
  rw [← List.map_take] at ha
  obtain ⟨b, hb, rfl⟩ := List.mem_map.1 ha
  exact hn b hb
theorem find_ps {ps : List Pc} {p : FlightP.Call → Bool} {i : Nat} {q : Pc} (hq : ps[i]? = some q) (hp : p q.c = true) (hn : ∀ a ∈ ps.take i, p a.c = false) : (ps.map Pc.c).find? p = some q.c := by
  have hs : ps = ps.take i ++ q :: ps.drop (i + 1) := by
    obtain ⟨hl, e⟩ := List.getElem?_eq_some_iff.1 hq
    rw [← e, ← List.drop_eq_getElem_cons hl, List.take_append_drop]
  rw [hs, List.map_append, List.map_cons]
  refine find_at hp fun a ha => ?_
  obtain ⟨b, hb, rfl⟩ := List.mem_map.1 ha
  exact hn b hb
theorem none_ps {ps : List Pc} {p : FlightP.Call → Bool} (hn : ∀ a ∈ ps, p a.c = false) : ∀ a ∈ ps.map Pc.c, p a = false := by
  intro a ha
  obtain ⟨b, hb, rfl⟩ := List.mem_map.1 ha
  exact hn b hb

/-! ### the reference's flight -/
def rto (p : Nat) (N : Int) (A : Option Addr) (z : Nat) (ps : List Pc) : List Res :=
  [blk p (.cells #[.slice A ps.length z, .int .i64 N] 47), grow pcE 44 (.slice A ps.length z) ps, reads (ps.map fun q => (q.v, q.c.j))]
structure Pl where
  A : Option Addr
  z : Nat
  ps : List Pc
def rt (p : Nat) (s : St) : Res := someR (fun x : Pl => FlightP.Ok s ∧ x.ps.map Pc.c = s.L) fun x : Pl => pack (rto p s.N x.A x.z x.ps)

section
variable {B : Nat → Prop} {w wk : World} {Rs : List Res} {p : Nat} {s : St}
theorem rt_open (h : Sep B w wk (rt p s :: Rs)) : ∃ A z ps, Sep B w wk (rto p s.N A z ps ++ Rs) ∧ FlightP.Ok s ∧ ps.map Pc.c = s.L := by
  obtain ⟨x, ⟨hok, h1⟩, hs⟩ := h.ex
  exact ⟨x.A, x.z, x.ps, hs.unpack, hok, h1⟩
theorem rt_close {A : Option Addr} {z : Nat} {ps : List Pc} (h : Sep B w wk (rto p s.N A z ps ++ Rs)) (hok : FlightP.Ok s) (he : ps.map Pc.c = s.L) : Sep B w wk (rt p s :: Rs) :=
  Sep.hide (R := fun x : Pl => pack (rto p s.N x.A x.z x.ps)) (a := ⟨A, z, ps⟩) ⟨hok, he⟩ (Sep.packed (Ss := rto p s.N A z ps) h)
theorem rt_ok (h : Sep B w wk (rt p s :: Rs)) : FlightP.Ok s := by obtain ⟨_, _, _, _, hok, _⟩ := rt_open h; exact hok
theorem len_L (hok : FlightP.Ok s) : s.L.length ≤ 1000 := by
  have h1 := hok.len
  unfold allT at h1
  rw [List.length_append, List.length_map] at h1
  omega
theorem rto_cs {N : Int} {A : Option Addr} {z : Nat} {ps : List Pc} (h : Sep B w wk (rto p N A z ps ++ Rs)) :
    wk.cell? ⟨p, 0, none⟩ = some (.slice A ps.length z) ∧ wk.cell? ⟨p, 1, none⟩ = some (.int .i64 N) ∧ wk.frozen? ⟨p, 0, none⟩ = false ∧ p < wk.heap.size := by
  have hb := h.blk_at 0 rfl
  exact ⟨(cell_block hb 0).trans rfl, (cell_block hb 1).trans rfl, frozen_block hb 0, lt_of_block hb⟩
/-- One of the calls: where it lies. -/
theorem rto_at {N : Int} {A : Option Addr} {z : Nat} {ps : List Pc} (h : Sep B w wk (rto p N A z ps ++ Rs)) {i : Nat} {q : Pc} (hq : ps[i]? = some q) :
    ∃ b, A = some ⟨b, 0, none⟩ ∧ b < wk.heap.size ∧ b ≠ p ∧ (wk.cell? ⟨b, i * 4, none⟩ = some (.int .i64 q.c.t) ∧ wk.cell? ⟨b, i * 4 + 1, none⟩ = some (.int .i64 q.c.k) ∧ wk.cell? ⟨b, i * 4 + 2, none⟩ = some (.bool q.c.g) ∧ wk.cell? ⟨b, i * 4 + 3, none⟩ = some q.v) ∧ ∀ j, wk.frozen? ⟨b, j, none⟩ = false := by
  obtain ⟨b, c, e, hb, hc, hf⟩ := h.elem 1 rfl hq
  injection e with e1 _ e3
  subst e1 e3
  refine ⟨b, rfl, hb, ?_, ⟨hc 0 _ rfl, hc 1 _ rfl, hc 2 _ rfl, hc 3 _ rfl⟩, hf⟩
  rintro rfl
  obtain ⟨_, F1, F2, ⟨_, rfl⟩, ⟨F3, F4, ⟨_, rfl⟩, _, s3, _, _⟩, _, _, d⟩ := h
  exact d b rfl (s3 b rfl)
theorem rto_rd {N : Int} {A : Option Addr} {z : Nat} {ps : List Pc} (h : Sep B w wk (rto p N A z ps ++ Rs)) {i : Nat} {q : Pc} (hq : ps[i]? = some q) : Rd wk (fun _ => True) q.v q.c.j :=
  h.reads_at 2 rfl (x := (q.v, q.c.j)) (List.mem_map.2 ⟨q, List.mem_of_getElem? hq, rfl⟩)
end

theorem newG_no (n : Int) (w : World) (h : n < 1 ∨ 1000 < n) : Calls Try.prog 8 #[.int .i64 n] w fun e w' => e = .returned (.tuple #[.pointer none, .int .i64 1]) ∧ w = w' := by
  rcases (by omega : n < 1 ∨ (1 ≤ n ∧ 1000 < n)) with h1 | ⟨h1, h2⟩
  all_goals
    clear h
    go_enter Try.func8, Try.ntmps8
    go_wp2
    go_ret2
    exact ⟨rfl, rfl⟩
theorem newG_s {B : Nat → Prop} {w wk : World} {Rs : List Res} (h : Sep B w wk Rs) (n : Int) (h1 : 1 ≤ n) (h2 : n ≤ 1000) :
    Calls Try.prog 8 #[.int .i64 n] wk fun e wn => ∃ p, e = .returned (.tuple #[.pointer (some ⟨p, 0, none⟩), .int .i64 0]) ∧ Sep B w wn (rt p (newS n) :: Rs) := by
  obtain ⟨o, ho⟩ : ∃ o : Obj, o = .cells #[.slice none 0 0, .int .i64 n] 47 := ⟨_, rfl⟩
  have hb := h.new o
  have hq : Sep B w (wk.alloc o) (rto wk.heap.size n none 0 [] ++ Rs) := by
    have h5 := ((hb.reads_nil).growN0 pcE 44).perm (by exact (List.perm_append_comm (l₁ := [_, _]) (l₂ := [_])).append_right Rs)
    rw [ho] at h5 ⊢
    exact h5
  have HS : Hid (Sep B w (wk.alloc o) (rt wk.heap.size (newS n) :: Rs)) := rt_close (s := newS n) hq (.new h1 h2) rfl
  subst ho
  clear h hb hq
  go_enter Try.func8, Try.ntmps8
  go_wp2
  go_ret2
  exact ⟨_, rfl, HS.out⟩

section
variable {B : Nat → Prop} {w wk : World} {Rs : List Res} {p : Nat} {s : St}
set_option maxRecDepth 100000 in
set_option maxHeartbeats 1000000 in
theorem of_o {N : Int} {A : Option Addr} {z : Nat} {ps : List Pc} (h : Sep B w wk (rto p N A z ps ++ Rs)) (hl : ps.length ≤ 1000) (k : Int) :
    Calls Try.prog 14 #[.pointer (some ⟨p, 0, none⟩), .int .i64 k] wk fun e wn => e = .returned (.int .i64 (placeI (ps.map Pc.c) (atK (ps.map Pc.c) k))) ∧ wk = wn := by
  have S0 := Lib.hid h
  obtain ⟨x0, _, _, _⟩ := rto_cs h
  clear h
  go_enter Try.func14, Try.ntmps14
  go_wp2
  go_loopw [5] (fun u wr => ∃ i : Nat, i ≤ ps.length ∧ u = .int .i64 i ∧ Hid (∀ a ∈ ps.take i, isK k a.c = false) ∧ wr = wk) (fun u _ => ps.length - (intOf u).toNat)
  case atStart => exact ⟨0, Nat.zero_le _, rfl, by show ∀ a ∈ _, _; simp, rfl⟩
  case round =>
    obtain ⟨i, hi, rfl, HN, rfl⟩ := hrel
    by_cases hlt : i < ps.length
    · have hx : ps[i]? = some ps[i] := List.getElem?_eq_getElem hlt
      generalize ps[i] = q at hx
      obtain ⟨b, rfl, hbl, _, ⟨_, q1, q2, _⟩, _⟩ := rto_at S0.out hx
      have HX := Lib.hid hx
      have i0 : (0 : Int) ≤ (i : Int) := by omega
      have i1 : (i : Int) < (ps.length : Int) := by omega
      clear hx
      by_cases hk : q.c.k = k
      · have e1 : (q.c.k == k) = true := by simpa using hk
        cases hg : q.c.g with
        | false =>
          have HE : Hid (placeI (ps.map Pc.c) (atK (ps.map Pc.c) k) = i) := place_ps HX.out (by unfold isK; rw [hg, e1]; rfl) HN.out
          rw [hg] at q2
          clear hg hk
          generalize q.c.k = kk at *
          go_wp2
          go_ret
          exact ⟨ret_int HE.out.symm, rfl⟩
        | true =>
          have HN2 : Hid (∀ a ∈ ps.take (i + 1), isK k a.c = false) := take_none HX.out (by unfold isK; rw [hg]; simp) HN.out
          rw [hg] at q2
          clear hg hk
          generalize q.c.k = kk at *
          go_wp2
          go_roundw
          case rel => exact ⟨i + 1, by omega, by go_num, HN2, trivial⟩
          case measure => simp [intOf]; omega
      · have e1 : (q.c.k == k) = false := by simpa using hk
        have HN2 : Hid (∀ a ∈ ps.take (i + 1), isK k a.c = false) := take_none HX.out (by unfold isK; rw [e1]; rfl) HN.out
        clear hk
        generalize q.c.k = kk at *
        go_wp2
        go_roundw
        case rel => exact ⟨i + 1, by omega, by go_num, HN2, trivial⟩
        case measure => simp [intOf]; omega
    · have HE : Hid (placeI (ps.map Pc.c) (atK (ps.map Pc.c) k) = -1) := by
        have := HN.out
        rw [List.take_of_length_le (by omega)] at this
        exact place_no (none_ps this)
      go_wp2
      go_ret
      exact ⟨ret_int HE.out.symm, rfl⟩
set_option maxRecDepth 100000 in
set_option maxHeartbeats 1000000 in
theorem led_o {N : Int} {A : Option Addr} {z : Nat} {ps : List Pc} (h : Sep B w wk (rto p N A z ps ++ Rs)) (hl : ps.length ≤ 1000) (t : Int) :
    Calls Try.prog 18 #[.pointer (some ⟨p, 0, none⟩), .int .i64 t] wk fun e wn => e = .returned (.int .i64 (placeI (ps.map Pc.c) (atT (ps.map Pc.c) t))) ∧ wk = wn := by
  have S0 := Lib.hid h
  obtain ⟨x0, _, _, _⟩ := rto_cs h
  clear h
  go_enter Try.func18, Try.ntmps18
  go_wp2
  go_loopw [5] (fun u wr => ∃ i : Nat, i ≤ ps.length ∧ u = .int .i64 i ∧ Hid (∀ a ∈ ps.take i, isT t a.c = false) ∧ wr = wk) (fun u _ => ps.length - (intOf u).toNat)
  case atStart => exact ⟨0, Nat.zero_le _, rfl, by show ∀ a ∈ _, _; simp, rfl⟩
  case round =>
    obtain ⟨i, hi, rfl, HN, rfl⟩ := hrel
    by_cases hlt : i < ps.length
    · have hx : ps[i]? = some ps[i] := List.getElem?_eq_getElem hlt
      generalize ps[i] = q at hx
      obtain ⟨b, rfl, hbl, _, ⟨q0, _, _, _⟩, _⟩ := rto_at S0.out hx
      have HX := Lib.hid hx
      have i0 : (0 : Int) ≤ (i : Int) := by omega
      have i1 : (i : Int) < (ps.length : Int) := by omega
      clear hx
      by_cases hk : q.c.t = t
      · have e1 : (q.c.t == t) = true := by simpa using hk
        have HE : Hid (placeI (ps.map Pc.c) (atT (ps.map Pc.c) t) = i) := place_ps HX.out e1 HN.out
        clear hk
        generalize q.c.t = kk at *
        go_wp2
        go_ret
        exact ⟨ret_int HE.out.symm, rfl⟩
      · have e1 : (q.c.t == t) = false := by simpa using hk
        have HN2 : Hid (∀ a ∈ ps.take (i + 1), isT t a.c = false) := take_none HX.out e1 HN.out
        clear hk
        generalize q.c.t = kk at *
        go_wp2
        go_roundw
        case rel => exact ⟨i + 1, by omega, by go_num, HN2, trivial⟩
        case measure => simp [intOf]; omega
    · have HE : Hid (placeI (ps.map Pc.c) (atT (ps.map Pc.c) t) = -1) := by
        have := HN.out
        rw [List.take_of_length_le (by omega)] at this
        exact place_no (none_ps this)
      go_wp2
      go_ret
      exact ⟨ret_int HE.out.symm, rfl⟩
set_option maxRecDepth 100000 in
set_option maxHeartbeats 1000000 in
theorem joins_o {N : Int} {A : Option Addr} {z : Nat} {ps : List Pc} (h : Sep B w wk (rto p N A z ps ++ Rs)) (hl : ps.length ≤ 1000) (t : Int) :
    Calls Try.prog 20 #[.pointer (some ⟨p, 0, none⟩), .int .i64 t] wk fun e wn => e = .returned (.int .i64 (joinsT (ps.map Pc.c) t)) ∧ wk = wn := by
  have S0 := Lib.hid h
  obtain ⟨x0, _, _, _⟩ := rto_cs h
  clear h
  go_enter Try.func20, Try.ntmps20
  go_wp2
  go_loopw [5] (fun u wr => ∃ i : Nat, i ≤ ps.length ∧ u = .int .i64 i ∧ Hid (∀ a ∈ ps.take i, hasJ t a.c = false) ∧ wr = wk) (fun u _ => ps.length - (intOf u).toNat)
  case atStart => exact ⟨0, Nat.zero_le _, rfl, by show ∀ a ∈ _, _; simp, rfl⟩
  case round =>
    obtain ⟨i, hi, rfl, HN, rfl⟩ := hrel
    by_cases hlt : i < ps.length
    · have hx : ps[i]? = some ps[i] := List.getElem?_eq_getElem hlt
      generalize ps[i] = q at hx
      obtain ⟨b, rfl, hbl, _, ⟨q0, _, _, q3'⟩, _⟩ := rto_at S0.out hx
      have HI := Lib.hid (in_any (rto_rd S0.out hx) t)
      have HX := Lib.hid hx
      have i0 : (0 : Int) ≤ (i : Int) := by omega
      have i1 : (i : Int) < (ps.length : Int) := by omega
      have q3 : wr.cell? ⟨b, i * 4 + 3, none⟩ = some (.slice q.A q.c.j.length q.z) := q3'
      clear hx q3'
      cases hk : inL q.c.j t with
      | true =>
        have HE : Hid (joinsT (ps.map Pc.c) t = q.c.t) := by show _ = _; unfold joinsT; rw [find_ps HX.out hk HN.out]; rfl
        rw [hk] at HI
        clear hk
        generalize q.c.t = kk at *
        generalize q.c.j.length = jl at *
        generalize q.A = qA at *
        generalize q.z = qz at *
        go_wp2_with fail
        refine HI.out.mono ?_
        rintro e w1 ⟨rfl, rfl⟩
        go_wp2
        go_ret
        exact ⟨ret_int HE.out.symm, rfl⟩
      | false =>
        have HN2 : Hid (∀ a ∈ ps.take (i + 1), hasJ t a.c = false) := take_none HX.out hk HN.out
        rw [hk] at HI
        clear hk
        generalize q.c.t = kk at *
        generalize q.c.j.length = jl at *
        generalize q.A = qA at *
        generalize q.z = qz at *
        go_wp2_with fail
        refine HI.out.mono ?_
        rintro e w1 ⟨rfl, rfl⟩
        go_wp2
        go_roundw
        case rel => exact ⟨i + 1, by omega, by go_num, HN2, trivial⟩
        case measure => simp [intOf]; omega
    · have HE : Hid (joinsT (ps.map Pc.c) t = -1) := by
        have := HN.out
        rw [List.take_of_length_le (by omega)] at this
        show _ = _
        unfold joinsT
        rw [List.find?_eq_none.2 fun a ha => by rw [none_ps this a ha]; simp]
        rfl
      go_wp2
      go_ret
      exact ⟨ret_int HE.out.symm, rfl⟩
theorem of_s (h : Sep B w wk (rt p s :: Rs)) (k : Int) :
    Calls Try.prog 14 #[.pointer (some ⟨p, 0, none⟩), .int .i64 k] wk fun e wn => e = .returned (.int .i64 (placeI s.L (atK s.L k))) ∧ wk = wn := by
  obtain ⟨A, z, ps, hs, hok, he⟩ := rt_open h
  have h1 := of_o hs (by have := len_L hok; rw [← he, List.length_map] at this; exact this) k
  rw [he] at h1
  exact h1
theorem led_s (h : Sep B w wk (rt p s :: Rs)) (t : Int) :
    Calls Try.prog 18 #[.pointer (some ⟨p, 0, none⟩), .int .i64 t] wk fun e wn => e = .returned (.int .i64 (placeI s.L (atT s.L t))) ∧ wk = wn := by
  obtain ⟨A, z, ps, hs, hok, he⟩ := rt_open h
  have h1 := led_o hs (by have := len_L hok; rw [← he, List.length_map] at this; exact this) t
  rw [he] at h1
  exact h1
theorem joins_s (h : Sep B w wk (rt p s :: Rs)) (t : Int) :
    Calls Try.prog 20 #[.pointer (some ⟨p, 0, none⟩), .int .i64 t] wk fun e wn => e = .returned (.int .i64 (joinsT s.L t)) ∧ wk = wn := by
  obtain ⟨A, z, ps, hs, hok, he⟩ := rt_open h
  have h1 := joins_o hs (by have := len_L hok; rw [← he, List.length_map] at this; exact this) t
  rw [he] at h1
  exact h1

set_option maxRecDepth 100000 in
set_option maxHeartbeats 1000000 in
theorem forget_s (h : Sep B w wk (rt p s :: Rs)) (k : Int) :
    Calls Try.prog 12 #[.pointer (some ⟨p, 0, none⟩), .int .i64 k] wk fun e wn => e = .returned (.bool (anyK s.L k)) ∧ Sep B w wn (rt p (fgS s k) :: Rs) := by
  have HO := Lib.hid (of_s h k)
  cases hany : anyK s.L k with
  | false =>
    have hE : placeI s.L (atK s.L k) = -1 := place_no (any_no hany)
    rw [hE] at HO
    rw [gone_no hany]
    have H0 := Lib.hid h
    clear h hE hany
    go_enter Try.func12, Try.ntmps12
    go_wp2_with fail
    refine HO.out.mono ?_
    rintro e w1 ⟨rfl, rfl⟩
    go_wp2
    go_ret
    exact ⟨rfl, H0.out⟩
  | true =>
    obtain ⟨A, z, ps, hs, hok, he⟩ := rt_open h
    obtain ⟨LA, c, LB, e1, hc, hA, hB⟩ := hok.split_key hany
    have HOK := Lib.hid (hok.forget k)
    have hlen := len_L hok
    have hE : placeI s.L (atK s.L k) = LA.length := by unfold atK; rw [e1]; exact place_cut (by unfold isK; rw [hc.1, hc.2]; simp) hA
    have hG : (fgS s k).L = LA ++ { c with g := true } :: LB := by unfold fgS; rw [e1]; exact gone_at hc hA hB
    rw [e1] at he
    obtain ⟨PA, q, PB, rfl, rfl, rfl, rfl⟩ := cut_at he
    rw [hE, List.length_map] at HO
    obtain ⟨i, hi⟩ : ∃ i, i = PA.length := ⟨_, rfl⟩
    obtain ⟨ps, hps⟩ : ∃ ps, ps = PA ++ q :: PB := ⟨_, rfl⟩
    have hq : ps[i]? = some q := by rw [hps, hi]; simp
    have hset : ps.set i { q with c := { q.c with g := true } } = PA ++ { q with c := { q.c with g := true } } :: PB := by rw [hps, hi]; simp
    rw [← hps] at hs
    rw [← hi] at HO
    have hpl : ps.length ≤ 1000 := by rw [e1] at hlen; rw [hps]; simpa using hlen
    obtain ⟨b, rfl, hbl, hbp, ⟨_, _, q2, _⟩, hf⟩ := rto_at hs hq
    obtain ⟨x0, _, _, hpw⟩ := rto_cs hs
    have fz := hf (i * 4 + 2)
    have hil := (List.getElem?_eq_some_iff.1 hq).1
    have HS : Hid (Sep B w (wk.setCell ⟨b, i * 4 + 2, none⟩ (.bool true)) (rt p (fgS s k) :: Rs)) := by
      refine rt_close (ps := ps.set i { q with c := { q.c with g := true } }) (A := some ⟨b, 0, none⟩) (z := z) ?_ HOK.out ?_
      · have h1 := hs.setc 1 rfl (x' := { q with c := { q.c with g := true } }) (j := 2) (u := .bool true) hq (by show 2 < 4; omega) rfl
        have hm : (ps.set i { q with c := { q.c with g := true } }).map (fun q => (q.v, q.c.j)) = ps.map fun q => (q.v, q.c.j) := by
          rw [hset, hps]; simp [Pc.v]
        unfold rto
        rw [hm, List.length_set]
        exact h1
      · rw [hset, hG]; simp
    have i0 : (0 : Int) ≤ (i : Int) := by omega
    have i1 : (i : Int) < (ps.length : Int) := by omega
    clear h hs hok hE hG hA hB hc he e1 hany HOK hq hset hf hps hi hlen
    generalize q.c.g = qg at *
    go_enter Try.func12, Try.ntmps12
    go_wp2_with fail
    refine HO.out.mono ?_
    rintro e w1 ⟨rfl, rfl⟩
    go_wp2
    go_ret
    exact ⟨rfl, HS.out⟩
end
end Go.Proofs.Ytbkeodjebfkkdaa.RefFlight
