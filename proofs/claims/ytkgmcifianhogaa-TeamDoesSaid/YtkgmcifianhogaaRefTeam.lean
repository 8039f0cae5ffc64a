/-
  Contracts of the functions of package countermandref14 (the document's answer for layer 14). Condition: the team is at hand.
-/
import Derived.Test.YtkgmcifianhogaaTeamP
import Derived.Test.YtkgmcifianhogaaRefMut
import Derived.BigRegion
import Derived.Deep.QuietTactic
import Derived.BigQuiet
import Derived.Deep.DeepCutAuto
import Derived.Deep.CutBlock
namespace Go.Proofs.Ytkgmcifianhogaa.RefTeam
open Go.ChangeShapes Go.WideShapes Go.ChangeAt Go.RowKit Mem MutP TeamP Hand RefMut

theorem size1 (w : World) : (sizeOf (Try.prog.elem 33)).run Try.prog w = .ok 1 w := by kernel_rfl
theorem und1 : Try.prog.underlying 33 = some (.slice (Try.prog.elem 33)) := by kernel_rfl
/-- l[1:]. -/
theorem run_next {t : TypeId} (ht : Try.prog.underlying t = some (.slice (Try.prog.elem t))) (hz : ∀ w, (sizeOf (Try.prog.elem t)).run Try.prog w = .ok 1 w) (A : Option Addr) (m c : Nat) (hc : m + 1 ≤ c) :
    ∃ A', (∀ b off, A = some ⟨b, off, none⟩ → 0 < m → A' = some ⟨b, off + 1, none⟩) ∧ (∀ w, (Instr.sliceAt t (.slice A (m + 1) c) (some (.int .i64 1)) none none).run Try.prog w = .ok (.slice A' m (c - 1)) w) ∧ ∀ w, (Instr.slice t (.slice A (m + 1) c) (some (.int .i64 1)) none none).run Try.prog w = .ok (.slice A' m (c - 1)) w := by
  refine ⟨if c = 1 then A else A.map (·.add (1 * 1)), ?_, fun w => ?_, fun w => ?_⟩
  · rintro b off rfl h0
    rw [if_neg (by omega)]
    rfl
  · rw [run_sliceAt_slice (h := ht), run_slice_l (ht := ht) (h0 := by omega) (h1 := by omega), hz]
    rfl
  · rw [run_slice_l (ht := ht) (h0 := by omega) (h1 := by omega), hz]
    rfl

/-- The reference's team behind the pointer to block p, taken apart. -/
def rto (p : Nat) (s : St) (A1 : Option Addr) (c1 : Nat) (A2 : Option Addr) (c2 : Nat) : List Res :=
  [blk p (.cells #[.int .i64 s.L, .int .i64 s.A, .int .i64 s.E, .slice A1 s.C.length c1, .slice A2 s.W.length c2, .int .i64 s.N] 50), nums (.slice A1 s.C.length c1) s.C, nums (.slice A2 s.W.length c2) s.W]
structure Pl where
  A1 : Option Addr
  c1 : Nat
  A2 : Option Addr
  c2 : Nat
def rt (p : Nat) (s : St) : Res := someR (fun x : Pl => TeamP.Ok s ∧ s.C.length ≤ x.c1) fun x : Pl => pack (rto p s x.A1 x.c1 x.A2 x.c2)

section
variable {B : Nat → Prop} {w wk : World} {Rs : List Res} {p : Nat} {s : St}
theorem rt_open (h : Sep B w wk (rt p s :: Rs)) : ∃ A1 c1 A2 c2, Sep B w wk (rto p s A1 c1 A2 c2 ++ Rs) ∧ TeamP.Ok s ∧ s.C.length ≤ c1 := by
  obtain ⟨x, ⟨hok, h1⟩, hs⟩ := h.ex
  exact ⟨x.A1, x.c1, x.A2, x.c2, hs.unpack, hok, h1⟩
theorem rt_close {A1 : Option Addr} {c1 : Nat} {A2 : Option Addr} {c2 : Nat} (h : Sep B w wk (rto p s A1 c1 A2 c2 ++ Rs)) (hok : TeamP.Ok s) (h1 : s.C.length ≤ c1) : Sep B w wk (rt p s :: Rs) :=
  Sep.hide (R := fun x : Pl => pack (rto p s x.A1 x.c1 x.A2 x.c2)) (a := ⟨A1, c1, A2, c2⟩) ⟨hok, h1⟩ (Sep.packed (Ss := rto p s A1 c1 A2 c2) h)
theorem rt_ok (h : Sep B w wk (rt p s :: Rs)) : TeamP.Ok s := by obtain ⟨_, _, _, _, _, hok, _⟩ := rt_open h; exact hok
theorem rto_cs {A1 : Option Addr} {c1 : Nat} {A2 : Option Addr} {c2 : Nat} (h : Sep B w wk (rto p s A1 c1 A2 c2 ++ Rs)) :
    (wk.cell? ⟨p, 0, none⟩ = some (.int .i64 s.L) ∧ wk.cell? ⟨p, 1, none⟩ = some (.int .i64 s.A) ∧ wk.cell? ⟨p, 2, none⟩ = some (.int .i64 s.E) ∧ wk.cell? ⟨p, 3, none⟩ = some (.slice A1 s.C.length c1) ∧ wk.cell? ⟨p, 4, none⟩ = some (.slice A2 s.W.length c2) ∧ wk.cell? ⟨p, 5, none⟩ = some (.int .i64 s.N)) ∧
    (wk.frozen? ⟨p, 0, none⟩ = false ∧ wk.frozen? ⟨p, 1, none⟩ = false ∧ wk.frozen? ⟨p, 2, none⟩ = false ∧ wk.frozen? ⟨p, 3, none⟩ = false ∧ wk.frozen? ⟨p, 4, none⟩ = false) ∧ p < wk.heap.size := by
  have hb := h.blk_at 0 rfl
  exact ⟨⟨(cell_block hb 0).trans rfl, (cell_block hb 1).trans rfl, (cell_block hb 2).trans rfl, (cell_block hb 3).trans rfl, (cell_block hb 4).trans rfl, (cell_block hb 5).trans rfl⟩, ⟨frozen_block hb 0, frozen_block hb 1, frozen_block hb 2, frozen_block hb 3, frozen_block hb 4⟩, lt_of_block hb⟩
end

theorem newG_no (n : Int) (w : World) (h : n < 1 ∨ 1000 < n) : Calls Try.prog 8 #[.int .i64 n] w fun e w' => e = .returned (.tuple #[.pointer none, .int .i64 1]) ∧ w = w' := by
  rcases (by omega : n < 1 ∨ (1 ≤ n ∧ 1000 < n)) with h1 | ⟨h1, h2⟩
  all_goals
    clear h
    go_enter Try.func8, Try.ntmps8
    go_wp2
    go_ret2
    exact ⟨rfl, rfl⟩
theorem newG_s {B : Nat → Prop} {w wk : World} {Rs : List Res} (h : Sep B w wk Rs) (n : Int) (h1 : 1 ≤ n) (h2 : n ≤ 1000) :
    Calls Try.prog 8 #[.int .i64 n] wk fun e wn => ∃ p, e = .returned (.tuple #[.pointer (some ⟨p, 0, none⟩), .int .i64 0]) ∧ Sep B w wn (rt p (newS n) :: Rs) := by
  obtain ⟨o, ho⟩ : ∃ o : Obj, o = .cells #[.int .i64 (-1), .int .i64 0, .int .i64 0, .slice none 0 0, .slice none 0 0, .int .i64 n] 50 := ⟨_, rfl⟩
  have hb := h.new o
  have hq : Sep B w (wk.alloc o) (rto wk.heap.size (newS n) none 0 none 0 ++ Rs) := by
    have h5 := hb.nil_nums.nil_nums.perm (by exact (List.perm_append_comm (l₁ := [_, _]) (l₂ := [_])).append_right Rs)
    rw [ho] at h5 ⊢
    exact h5
  have HS : Hid (Sep B w (wk.alloc o) (rt wk.heap.size (newS n) :: Rs)) := rt_close (s := newS n) hq (.new h1 h2) (Nat.le_refl 0)
  subst ho
  clear h hb hq
  go_enter Try.func8, Try.ntmps8
  go_wp2
  go_ret2
  exact ⟨_, rfl, HS.out⟩

section
variable {B : Nat → Prop} {w wk : World} {Rs : List Res} {p : Nat} {s : St}
set_option maxRecDepth 100000 in
set_option maxHeartbeats 1000000 in
theorem limit_s (h : Sep B w wk (rt p s :: Rs)) (n : Int) (hn : In64 n) :
    Calls Try.prog 15 #[.pointer (some ⟨p, 0, none⟩), .int .i64 n] wk fun e wn => e = .returned (.int .i64 (limE s)) ∧ Sep B w wn (rt p (limS s n) :: Rs) := by
  obtain ⟨A1, c1, A2, c2, hs, hok, hcap⟩ := rt_open h
  have HOK := Lib.hid (hok.limit hn)
  have S0 := Lib.hid hs
  have HC := Lib.hid (lim_cases s n)
  have ha := hok.a0
  have hlen := hok.len
  have HCAP := Lib.hid hcap
  obtain ⟨⟨x0, x1, _, x3, _, _⟩, ⟨f0, _, _, _, _⟩, hpl⟩ := rto_cs hs
  clear h hs hok hn
  rcases HC.out with ⟨h1, g1, g2⟩ | ⟨h1, h2, g1, g2⟩
  · have HO2 := HOK.out
    rw [g2] at HO2 ⊢
    rw [g1]
    have HS := Lib.hid (rt_close S0.out HO2 HCAP.out)
    by_cases hA : s.A = 0
    · have hl : 0 < s.C.length := by
        rcases h1 with h | h
        · exact absurd hA h
        · exact List.length_pos_iff.2 h
      rw [hA] at x1
      clear HC HOK HO2 g1 g2 h1 hcap hA ha
      generalize s.C.length = cl at *
      have d1 : decide (0 < cl) = true := decide_eq_true hl
      go_enter Try.func15, Try.ntmps15
      go_wp2
      go_ret
      exact ⟨rfl, HS.out⟩
    · have hA2 : 0 < s.A := by omega
      clear HC HOK HO2 g1 g2 h1 hcap hA ha
      generalize s.A = a at *
      go_enter Try.func15, Try.ntmps15
      go_wp2
      go_ret
      exact ⟨rfl, HS.out⟩
  · have HO2 := HOK.out
    rw [g2] at HO2 ⊢
    rw [g1]
    rw [h1] at x1
    rw [h2, List.length_nil] at x3
    have HO3 := Lib.hid HO2
    clear HC HOK HO2 g1 g2 h1 h2 ha hlen hcap
    by_cases hneg : n < 0
    · have HS : Hid (Sep B w ((wk.setCell ⟨p, 0, none⟩ (.int .i64 n)).setCell ⟨p, 0, none⟩ (.int .i64 (-1))) (rt p { s with L := if n < 0 then -1 else n } :: Rs)) := by
        refine rt_close (A1 := A1) (c1 := c1) (A2 := A2) (c2 := c2) ?_ HO3.out HCAP.out
        have h2 := (S0.out.set 0 rfl 0 (.int .i64 n)).set 0 rfl 0 (.int .i64 (-1))
        show Sep B w _ (blk p (.cells #[.int .i64 (if n < 0 then -1 else n), .int .i64 s.A, .int .i64 s.E, .slice A1 s.C.length c1, .slice A2 s.W.length c2, .int .i64 s.N] _) :: _)
        rw [if_pos hneg]
        exact h2
      simp only [if_pos hneg] at HS ⊢
      clear HO3 S0
      go_enter Try.func15, Try.ntmps15
      go_wp2
      go_ret
      exact ⟨rfl, HS.out⟩
    · have HS : Hid (Sep B w (wk.setCell ⟨p, 0, none⟩ (.int .i64 n)) (rt p { s with L := if n < 0 then -1 else n } :: Rs)) := by
        refine rt_close (A1 := A1) (c1 := c1) (A2 := A2) (c2 := c2) ?_ HO3.out HCAP.out
        have h2 := S0.out.set 0 rfl 0 (.int .i64 n)
        show Sep B w _ (blk p (.cells #[.int .i64 (if n < 0 then -1 else n), .int .i64 s.A, .int .i64 s.E, .slice A1 s.C.length c1, .slice A2 s.W.length c2, .int .i64 s.N] _) :: _)
        rw [if_neg hneg]
        exact h2
      simp only [if_neg hneg] at HS ⊢
      clear HO3 S0
      go_enter Try.func15, Try.ntmps15
      go_wp2
      go_ret
      exact ⟨rfl, HS.out⟩

set_option maxRecDepth 100000 in
set_option maxHeartbeats 1000000 in
theorem try_s (h : Sep B w wk (rt p s :: Rs)) (hA : s.A ≤ 1000000) :
    Calls Try.prog 11 #[.pointer (some ⟨p, 0, none⟩)] wk fun e wn => e = .returned (.bool (tryB s)) ∧ Sep B w wn (rt p (tryS s) :: Rs) := by
  obtain ⟨A1, c1, A2, c2, hs, hok, hcap⟩ := rt_open h
  have HOK := Lib.hid hok.tries
  have S0 := Lib.hid hs
  have HC := Lib.hid (try_cases s)
  have ha := hok.a0
  have HCAP := Lib.hid hcap
  obtain ⟨⟨x0, x1, _, _, _, _⟩, ⟨_, f1, _, _, _⟩, hpl⟩ := rto_cs hs
  clear h hs hok hcap
  rcases HC.out with ⟨h1, g1, g2⟩ | ⟨⟨h1, h2⟩, g1, g2⟩
  · have HO2 := HOK.out
    rw [g2] at HO2 ⊢
    rw [g1]
    obtain ⟨z, hz⟩ : ∃ z, z = s.A + 1 := ⟨_, rfl⟩
    have hw1 : IntKind.i64.wrap (s.A + 1) = z := by rw [hz]; exact IntWalk.i64_in _ (by omega)
    rw [← hz] at HO2 ⊢
    have HS : Hid (∀ k, Sep B w ((wk.drewN k).setCell ⟨p, 1, none⟩ (.int .i64 z)) (rt p { s with A := z } :: Rs)) := fun k => rt_close ((S0.out.drewN k).set 0 rfl 1 (.int .i64 z)) HO2 HCAP.out
    clear HC HOK HO2 g1 g2 hz S0 HCAP
    have F1 : Hid (∀ k, (wk.drewN k).frozen? ⟨p, 1, none⟩ = false ∧ (wk.drewN k).cell? ⟨p, 1, none⟩ = some (.int .i64 s.A)) := fun k => ⟨f1, x1⟩
    rcases (by omega : s.L < 0 ∨ (0 ≤ s.L ∧ s.A < s.L)) with h | ⟨h, h3⟩
    · have d1 : decide (0 ≤ s.L) = false := decide_eq_false (by omega)
      clear h1
      generalize s.L = l at *
      generalize s.A = a at *
      go_enter Try.func11, Try.ntmps11
      go_upto_region 1 with (fail)
      go_quiet ((fail))
      go_wp2
      go_ret
      exact ⟨rfl, HS.out _⟩
    · have d1 : decide (0 ≤ s.L) = true := decide_eq_true h
      have d2 : decide (s.L ≤ s.A) = false := decide_eq_false (by omega)
      clear h1
      generalize s.L = l at *
      generalize s.A = a at *
      go_enter Try.func11, Try.ntmps11
      go_upto_region 1 with (fail)
      go_quiet ((fail))
      go_wp2
      go_ret
      exact ⟨rfl, HS.out _⟩
  · have HO2 := HOK.out
    rw [g2] at HO2 ⊢
    rw [g1]
    have HS : Hid (∀ k, Sep B w (wk.drewN k) (rt p s :: Rs)) := fun k => rt_close (S0.out.drewN k) HO2 HCAP.out
    have d1 : decide (0 ≤ s.L) = true := decide_eq_true h1
    have d2 : decide (s.L ≤ s.A) = true := decide_eq_true h2
    clear HC HOK HO2 g1 g2 S0 HCAP
    generalize s.L = l at *
    generalize s.A = a at *
    go_enter Try.func11, Try.ntmps11
    go_upto_region 1 with (fail)
    go_quiet ((fail))
    go_wp2
    go_ret
    exact ⟨rfl, HS.out _⟩
end
end Go.Proofs.Ytkgmcifianhogaa.RefTeam
