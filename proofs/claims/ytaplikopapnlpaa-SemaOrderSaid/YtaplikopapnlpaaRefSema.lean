/-
  Contracts of the functions of package countermandref13 (the document's answer for layer 13), first part: New, drop, Wants, Give. Condition: the semaphore is at hand.
-/
import Derived.Test.YtaplikopapnlpaaSemaP
import Derived.Test.YtaplikopapnlpaaRefMut
import Derived.Deep.QuietTactic
import Derived.BigQuiet
import Derived.BigRegion
import Derived.Deep.RegionHeld3
import Derived.Deep.DeepCutAuto
import Derived.StillTailTactics
namespace Go.Proofs.Ytaplikopapnlpaa.Hand
open Go.ChangeShapes Go.WideShapes Go.ChangeAt Go.RowKit Mem
/-- What a call made of its own, beside what was at hand. -/
theorem Sep.beside {B : Nat → Prop} {w wk wn : World} {Rs Ss : List Res} (h : Sep B w wk Rs) (hs : Sep (fun _ => False) wk wn Ss) : Sep B w wn (Ss ++ Rs) := by
  have hb := hs.old
  refine ⟨h.1.trans (Only.of_below (F := fun _ => False) hb) fun _ _ f => f.elim, ?_⟩
  have h2 : All wn (fun k => (B k ∨ w.heap.size ≤ k) ∧ k < wk.heap.size) Rs := (h.2.mono (F' := fun k => (B k ∨ w.heap.size ≤ k) ∧ k < wk.heap.size) fun k a b => ⟨b, a⟩).keep hb.size fun k a _ => hb.block k a
  refine (All.append hs.2 h2 fun k a b => ?_).mono fun k _ hk => ?_
  · rcases a with a | a
    · exact a
    · omega
  · rcases hk with (hk | hk) | hk
    · exact hk.elim
    · exact .inr (Nat.le_trans h.1.size hk)
    · exact hk.1
/-- All of a list that was told but its first. -/
theorem Sep.next_at {B : Nat → Prop} {w wk : World} {Rs : List Res} (h : Sep B w wk Rs) (i : Nat) {A A' : Option Addr} {n c c' : Nat} {x : Int} {W : List Int} (hi : Rs[i]? = some (nums (.slice A n c) (x :: W))) (hA : ∀ b off, A = some ⟨b, off, none⟩ → 0 < W.length → A' = some ⟨b, off + 1, none⟩) : Sep B w wk (Rs.set i (nums (.slice A' W.length c') W)) := by
  obtain ⟨F, ⟨⟨A1, c1, e, hm, hx⟩, hlt⟩, _, hn⟩ := h.upd i hi
  injection e with e1 e2 e3
  subst e1
  obtain ⟨b1, off1, rfl, hF, hb, hc⟩ := hx (by simp)
  have hm : W.length + 1 ≤ 1000000 := hm
  refine hn (nums (.slice A' W.length c') W) (F' := F) ⟨⟨A', c', rfl, by omega, fun h0 => ⟨b1, off1 + 1, hA b1 off1 rfl h0, hF, hb, fun j hj => ?_⟩⟩, hlt⟩ (.refl _ _) fun k hk => .inl hk
  have h1 := hc (j + 1) (by simp; omega)
  rw [show off1 + 1 + j = off1 + (j + 1) by omega]
  exact h1
/-- Where the first of a list that was told lies: in no block beside. -/
theorem Sep.head_at {B : Nat → Prop} {w wk : World} {Rs : List Res} {o : Obj} {p : Nat} (h : Sep B w wk (blk p o :: Rs)) (i : Nat) {A : Option Addr} {n c : Nat} {x : Int} {W : List Int} (hi : Rs[i]? = some (nums (.slice A n c) (x :: W))) :
    ∃ b off, A = some ⟨b, off, none⟩ ∧ b ≠ p ∧ b < wk.heap.size ∧ wk.cell? ⟨b, off, none⟩ = some (.int .i64 x) := by
  obtain ⟨_, F1, F2, ⟨_, rfl⟩, h2, _, _, d⟩ := h
  obtain ⟨F3, ⟨⟨A1, c1, e, _, hx⟩, _⟩, s3, _⟩ := h2.at_ hi
  injection e with e1 e2 e3
  subst e1
  obtain ⟨b, off, rfl, hF, hb, hc⟩ := hx (by simp)
  have h0 := hc 0 (by simp)
  refine ⟨b, off, rfl, ?_, hb, h0⟩
  rintro rfl
  exact d b rfl (s3 b hF)
end Go.Proofs.Ytaplikopapnlpaa.Hand
namespace Go.Proofs.Ytaplikopapnlpaa.RefSema
open Go.ChangeShapes Go.WideShapes Go.ChangeAt Go.RowKit Mem MutP SemaP Hand RefMut FitsC

theorem int64ElemL : Elem intE Try.prog 46 2 := elem_of (z := .int .i64 0) (bytes := 8) Try.underlying46 (by kernel_rfl) rfl (by omega)
theorem size1 (w : World) : (sizeOf (Try.prog.elem 33)).run Try.prog w = .ok 1 w := by kernel_rfl
theorem size2 (w : World) : (sizeOf (Try.prog.elem 46)).run Try.prog w = .ok 1 w := by kernel_rfl
theorem und1 : Try.prog.underlying 33 = some (.slice (Try.prog.elem 33)) := by kernel_rfl
theorem und2 : Try.prog.underlying 46 = some (.slice (Try.prog.elem 46)) := by kernel_rfl
/-- l[1:]. -/
theorem run_next {t : TypeId} (ht : Try.prog.underlying t = some (.slice (Try.prog.elem t))) (hz : ∀ w, (sizeOf (Try.prog.elem t)).run Try.prog w = .ok 1 w) (A : Option Addr) (m c : Nat) (hc : m + 1 ≤ c) :
    ∃ A', (∀ b off, A = some ⟨b, off, none⟩ → 0 < m → A' = some ⟨b, off + 1, none⟩) ∧ (∀ w, (Instr.sliceAt t (.slice A (m + 1) c) (some (.int .i64 1)) none none).run Try.prog w = .ok (.slice A' m (c - 1)) w) ∧ ∀ w, (Instr.slice t (.slice A (m + 1) c) (some (.int .i64 1)) none none).run Try.prog w = .ok (.slice A' m (c - 1)) w := by
  refine ⟨if c = 1 then A else A.map (·.add (1 * 1)), ?_, fun w => ?_, fun w => ?_⟩
  · rintro b off rfl h0
    rw [if_neg (by omega)]
    rfl
  · rw [run_sliceAt_slice (h := ht), run_slice_l (ht := ht) (h0 := by omega) (h1 := by omega), hz]
    rfl
  · rw [run_slice_l (ht := ht) (h0 := by omega) (h1 := by omega), hz]
    rfl

/-- The reference's semaphore behind the pointer to block p, taken apart. -/
def rgo (p : Nat) (H C : Int) (W D : List Int) (g : Int → Int) (N : Int) (A1 : Option Addr) (c1 : Nat) (A2 : Option Addr) (c2 : Nat) (A3 : Option Addr) (c3 : Nat) (A4 : Option Addr) (c4 : Nat) : List Res :=
  [blk p (.cells #[.int .i64 H, .int .i64 C, .slice A1 W.length c1, .slice A2 D.length c2, .slice A3 W.length c3, .slice A4 D.length c4, .int .i64 N] 48), nums (.slice A1 W.length c1) W, nums (.slice A2 D.length c2) D, nums (.slice A3 W.length c3) (W.map g), nums (.slice A4 D.length c4) (D.map g)]
structure Pl where
  A1 : Option Addr
  c1 : Nat
  A2 : Option Addr
  c2 : Nat
  A3 : Option Addr
  c3 : Nat
  A4 : Option Addr
  c4 : Nat
def rg (p : Nat) (s : St) : Res := someR (fun x : Pl => Fine s ∧ s.W.length ≤ x.c1 ∧ s.W.length ≤ x.c3) fun x : Pl => pack (rgo p s.H s.C s.W s.D s.g s.N x.A1 x.c1 x.A2 x.c2 x.A3 x.c3 x.A4 x.c4)

section
variable {B : Nat → Prop} {w wk : World} {Rs : List Res} {p : Nat} {s : St}
theorem rg_open (h : Sep B w wk (rg p s :: Rs)) : ∃ A1 c1 A2 c2 A3 c3 A4 c4, Sep B w wk (rgo p s.H s.C s.W s.D s.g s.N A1 c1 A2 c2 A3 c3 A4 c4 ++ Rs) ∧ Fine s ∧ s.W.length ≤ c1 ∧ s.W.length ≤ c3 := by
  obtain ⟨x, ⟨hok, h1, h3⟩, hs⟩ := h.ex
  exact ⟨x.A1, x.c1, x.A2, x.c2, x.A3, x.c3, x.A4, x.c4, hs.unpack, hok, h1, h3⟩
theorem rg_close {A1 : Option Addr} {c1 : Nat} {A2 : Option Addr} {c2 : Nat} {A3 : Option Addr} {c3 : Nat} {A4 : Option Addr} {c4 : Nat} (h : Sep B w wk (rgo p s.H s.C s.W s.D s.g s.N A1 c1 A2 c2 A3 c3 A4 c4 ++ Rs)) (hok : Fine s) (h1 : s.W.length ≤ c1) (h3 : s.W.length ≤ c3) : Sep B w wk (rg p s :: Rs) :=
  Sep.hide (R := fun x : Pl => pack (rgo p s.H s.C s.W s.D s.g s.N x.A1 x.c1 x.A2 x.c2 x.A3 x.c3 x.A4 x.c4)) (a := ⟨A1, c1, A2, c2, A3, c3, A4, c4⟩) ⟨hok, h1, h3⟩ (Sep.packed (Ss := rgo p s.H s.C s.W s.D s.g s.N A1 c1 A2 c2 A3 c3 A4 c4) h)
theorem rg_good (h : Sep B w wk (rg p s :: Rs)) : Fine s := by obtain ⟨_, _, _, _, _, _, _, _, _, hok, _⟩ := rg_open h; exact hok
end

theorem newG_no (n c : Int) (w : World) (h : n < 1 ∨ 1000 < n ∨ c < 0) : Calls Try.prog 9 #[.int .i64 n, .int .i64 c] w fun e w' => e = .returned (.tuple #[.pointer none, .int .i64 1]) ∧ w = w' := by
  rcases (by omega : n < 1 ∨ (1 ≤ n ∧ 1000 < n) ∨ (1 ≤ n ∧ n ≤ 1000 ∧ c < 0)) with h1 | ⟨h1, h2⟩ | ⟨h1, h2, h3⟩
  all_goals
    clear h
    go_enter Try.func9, Try.ntmps9
    go_wp2
    go_ret2
    exact ⟨rfl, rfl⟩
theorem newG_s {B : Nat → Prop} {w wk : World} {Rs : List Res} (h : Sep B w wk Rs) (n c : Int) (h1 : 1 ≤ n) (h2 : n ≤ 1000) (h3 : 0 ≤ c) (h4 : c ≤ 9223372036854775807) :
    Calls Try.prog 9 #[.int .i64 n, .int .i64 c] wk fun e wn => ∃ p, e = .returned (.tuple #[.pointer (some ⟨p, 0, none⟩), .int .i64 0]) ∧ Sep B w wn (rg p (newS c n) :: Rs) := by
  obtain ⟨o, ho⟩ : ∃ o : Obj, o = .cells #[.int .i64 0, .int .i64 c, .slice none 0 0, .slice none 0 0, .slice none 0 0, .slice none 0 0, .int .i64 n] 48 := ⟨_, rfl⟩
  have hb := h.new o
  have hq : Sep B w (wk.alloc o) (rgo wk.heap.size 0 c [] [] (fun _ => 0) n none 0 none 0 none 0 none 0 ++ Rs) := by
    have h5 := hb.nil_nums.nil_nums.nil_nums.nil_nums.perm (by exact (List.perm_append_comm (l₁ := [_, _, _, _]) (l₂ := [_])).append_right Rs)
    rw [ho] at h5 ⊢
    exact h5
  have HS : Hid (Sep B w (wk.alloc o) (rg wk.heap.size (newS c n) :: Rs)) := rg_close (s := newS c n) hq (.new h1 h2 h3 h4) (Nat.le_refl 0) (Nat.le_refl 0)
  subst ho
  clear h hb hq
  go_enter Try.func9, Try.ntmps9
  go_wp2
  go_ret2
  exact ⟨_, rfl, HS.out⟩

theorem wo_le (W : List Int) (t : Int) : (withoutL W t).length ≤ W.length := List.length_filter_le _ _
theorem map_getD {W : List Int} (g : Int → Int) {i : Nat} (h : i < W.length) : (W.map g).getD i 0 = g (W.getD i 0) := by
  rw [List.getD_eq_getElem?_getD, List.getD_eq_getElem?_getD, List.getElem?_map, List.getElem?_eq_getElem h]; rfl

set_option maxHeartbeats 1000000 in
set_option maxRecDepth 100000 in
/-- drop(l, n, t): two lists side by side, without one. -/
theorem drop_s {B : Nat → Prop} {w wk : World} {Rs : List Res} (h : Sep B w wk Rs) {G G' : Nat → Prop} {A A' : Option Addr} {c c' : Nat} {W : List Int} {g : Int → Int} (hr : Rd wk G (.slice A W.length c) W) (hr' : Rd wk G' (.slice A' W.length c') (W.map g)) (t : Int) (hm : W.length ≤ 1000) :
    Calls Try.prog 30 #[.slice A W.length c, .slice A' W.length c', .int .i64 t] wk fun e wn => ∃ A1 c1 A2 c2, e = .returned (.tuple #[.slice A1 (withoutL W t).length c1, .slice A2 (withoutL W t).length c2]) ∧ Sep B w wn (nums (.slice A1 (withoutL W t).length c1) (withoutL W t) :: nums (.slice A2 (withoutL W t).length c2) ((withoutL W t).map g) :: Rs) ∧ Below wk.heap.size wk wn ∧ (withoutL W t).length ≤ c1 ∧ (withoutL W t).length ≤ c2 := by
  have HR := Lib.hid hr
  have HR' := Lib.hid hr'
  have H0 := Lib.hid h
  have S0 : Hid (Sep (fun _ => False) wk ((wk.alloc (.cells #[] 3)).alloc (.cells #[] 2)) [grow intE 2 (.slice (some ⟨wk.heap.size + 1, 0, none⟩) 0 0) [], grow intE 3 (.slice (some ⟨wk.heap.size, 0, none⟩) 0 0) []]) := by
    have h1 := ((Sep.nil (fun _ => False) wk).grow0 intE 3).grow0 intE 2
    rw [show (wk.alloc (.cells #[] 3)).heap.size = wk.heap.size + 1 by simp] at h1
    exact h1
  clear h hr hr'
  go_enter Try.func30, Try.ntmps30
  go_wp2
  go_loopw [8, 9, 10] (fun o o' u wr => ∃ i : Nat, i ≤ W.length ∧ u = .int .i64 i ∧ Hid (∃ A c A' c', o = .slice A (withoutL (W.take i) t).length c ∧ o' = .slice A' (withoutL (W.take i) t).length c' ∧ Sep (fun _ => False) wk wr [grow intE 2 (.slice A' (withoutL (W.take i) t).length c') ((withoutL (W.take i) t).map g), grow intE 3 (.slice A (withoutL (W.take i) t).length c) (withoutL (W.take i) t)])) (fun _ _ u _ => W.length - (intOf u).toNat)
  case atStart => exact ⟨0, Nat.zero_le _, rfl, _, _, _, _, rfl, rfl, S0.out⟩
  case round =>
    obtain ⟨i, hi, rfl, HS⟩ := hrel
    obtain ⟨A1, c1, A2, c2, rfl, rfl, hs⟩ := HS.out
    have S1 := Lib.hid hs
    have hul : (withoutL (W.take i) t).length ≤ i := Nat.le_trans (wo_le _ _) (List.length_take_le _ _)
    clear HS S0 hs
    by_cases hlt : i < W.length
    · obtain ⟨b, off, rfl, hb, q, hg⟩ := rd_at HR.out hlt
      obtain ⟨b', off', rfl, hb', q', _⟩ := rd_at HR'.out (i := i) (by rw [List.length_map]; exact hlt)
      rw [map_getD g hlt] at q'
      have q0 := (S1.out.old.cell (p := ⟨b, off + i, none⟩) hb).trans q
      have q1 := (S1.out.old.cell (p := ⟨b', off' + i, none⟩) hb').trans q'
      have HTk : Hid (W.take (i + 1) = W.take i ++ [W.getD i 0]) := by show _ = _; rw [List.take_add_one, hg]; rfl
      have i0 : (0 : Int) ≤ (i : Int) := by omega
      have i1 : (i : Int) < (W.length : Int) := by omega
      have HQ1 : Hid (∀ v, Below wk.heap.size wk v → v.cell? ⟨b', off' + i, none⟩ = some (.int .i64 (g (W.getD i 0)))) := fun v hv => (hv.cell (p := ⟨b', off' + i, none⟩) hb').trans q'
      clear hg q q'
      generalize W.getD i 0 = x at *
      by_cases hx : x = t
      · have e1 : (x != t) = false := by simpa using hx
        have HU : Hid (withoutL (W.take (i + 1)) t = withoutL (W.take i) t) := by show _ = _; rw [HTk.out]; unfold withoutL; rw [List.filter_append]; simp [hx]
        clear hx
        go_wp2
        go_roundw
        case rel => exact ⟨i + 1, by omega, by go_num, by rw [HU.out]; exact ⟨_, _, _, _, rfl, rfl, S1.out⟩⟩
        case measure => simp [intOf]; omega
      · have e1 : (x != t) = true := by simpa using hx
        have HU : Hid (withoutL (W.take (i + 1)) t = withoutL (W.take i) t ++ [x]) := by show _ = _; rw [HTk.out]; unfold withoutL; rw [List.filter_append]; simp [hx]
        have HX1 : Hid (RdL intE (wr.alloc (.cells #[.int .i64 x] 3)) (fun _ => True) (.slice (some ⟨wr.heap.size, 0, none⟩) 1 1) [x]) := RdL.lit1 (E := intE) wr 3 x (cs := #[.int .i64 x]) rfl (fun _ => True) trivial
        obtain ⟨y, hy⟩ : ∃ y, y = g x := ⟨_, rfl⟩
        rw [← hy] at q1 HQ1
        have HY := Lib.hid hy
        clear hx hy
        generalize hwn : withoutL (W.take i) t = U at *
        have hum : ∀ l : List Int, Hid (l = U ++ [x]) → Hid (l.length = U.length + 1) := fun l hl => by show _ = _; rw [hl.out]; simp
        have hun : (U.map g).length + 1 ≤ 1000000 := by rw [List.length_map]; omega
        have HX2 : Hid (∀ v : World, RdL intE (v.alloc (.cells #[.int .i64 y] 2)) (fun _ => True) (.slice (some ⟨v.heap.size, 0, none⟩) 1 1) [y]) := fun v => RdL.lit1 (E := intE) v 2 y (cs := #[.int .i64 y]) rfl (fun _ => True) trivial
        go_wp2_with (first
          | (at_builtin; refine wpList_appS rfl _ _ intElemL rfl rfl rfl (S1.out.next (new_below0 _ _)) 1 rfl HX1.out (by simp; omega) ?_; intro A3 c3 w5 l3 HL3 h3; have q5 := HQ1.out w5 (Sep.old h3); have S4 := Lib.hid h3; have hm3 := hum l3 HL3; clear h3 hum)
          | (at_builtin; refine wpList_appS rfl _ _ int64ElemL rfl rfl rfl (S4.out.next (new_below0 _ _)) 0 rfl (HX2.out w5) hun ?_; intro A6 c6 w6 l6 HL6 h6))
        obtain rfl : l3 = U ++ [x] := HL3.out
        have hl6 : l6 = (U ++ [x]).map g := by rw [HL6.out, HY.out, List.map_append]; rfl
        have hl7 : l6.length = (U ++ [x]).length := by rw [hl6, List.length_map]
        rw [hl7, hl6] at h6
        have S6 := Lib.hid h6
        have HN7 := Lib.hid hl7
        clear h6 S4 HX2 hl6 hl7 HL6 q5
        rw [HN7.out]
        go_wp2
        go_roundw
        case rel => exact ⟨i + 1, by omega, by go_num, by rw [HU.out]; exact ⟨_, _, _, _, rfl, rfl, S6.out⟩⟩
        case measure => simp [intOf]; omega
    · have hE : W.take i = W := List.take_of_length_le (by omega)
      have hs := S1.out
      rw [hE] at hs hul
      have hs2 := grow_nums (hs.swap) (by omega)
      have hs3 := grow_nums hs2.swap (by rw [List.length_map]; omega)
      have S9 := Lib.hid (H0.out.beside hs3.swap)
      have HB := Lib.hid hs.old
      have HF := Lib.hid (fits_own (hs.own 1 rfl))
      have HF' := Lib.hid (fits_own (hs.own 0 rfl))
      clear hs hs2 hs3 S1
      rw [hE]
      go_wp2
      go_ret2
      exact ⟨_, _, _, _, rfl, S9.out, HB.out, HF.out _ _ _ rfl, HF'.out _ _ _ rfl⟩
end Go.Proofs.Ytaplikopapnlpaa.RefSema
