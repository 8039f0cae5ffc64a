/-
  Contracts of the functions of package countermandref12 (the document's answer for layer 12). Condition: the group is at hand.
-/
import Derived.Test.YtjojpejhmengaaaWaitsP
import Derived.Test.YtjojpejhmengaaaRefMut
namespace Go.Proofs.Ytjojpejhmengaaa.RefWaits
open Go.ChangeShapes Go.WideShapes Go.ChangeAt Go.RowKit Mem MutP WaitsP Hand RefMut

/-- The reference's group behind the pointer to block p. -/
def rgp (p : Nat) (C : Int) (W : List Int) (N : Int) (u : Value) : List Res := [blk p (.cells #[.int .i64 C, u, .int .i64 N] 44), nums u W]
def rg (p : Nat) (C : Int) (W : List Int) (N : Int) : Res := someR (fun u => WaitsP.Ok C W N ∧ Fits u) fun u : Value => pack (rgp p C W N u)

section
variable {B : Nat → Prop} {w wk : World} {Rs : List Res} {p : Nat} {C : Int} {W : List Int} {N : Int}
theorem rg_open (h : Sep B w wk (rg p C W N :: Rs)) : ∃ A c, Sep B w wk (blk p (.cells #[.int .i64 C, .slice A W.length c, .int .i64 N] 44) :: nums (.slice A W.length c) W :: Rs) ∧ WaitsP.Ok C W N ∧ W.length ≤ c := by
  obtain ⟨u, hok, h1⟩ := h.ex
  have h2 : Sep B w wk (blk p (.cells #[.int .i64 C, u, .int .i64 N] 44) :: nums u W :: Rs) := h1.unpack
  obtain ⟨A, c, rfl⟩ := rd_form (h2.rd 1 rfl)
  exact ⟨A, c, h2, hok.1, hok.2 _ _ _ rfl⟩
theorem rg_close {u : Value} (h : Sep B w wk (blk p (.cells #[.int .i64 C, u, .int .i64 N] 44) :: nums u W :: Rs)) (hok : WaitsP.Ok C W N) (hf : Fits u) : Sep B w wk (rg p C W N :: Rs) :=
  Sep.hide (R := fun u : Value => pack (rgp p C W N u)) (a := u) ⟨hok, hf⟩ (Sep.packed (Ss := rgp p C W N u) h)
theorem rg_ok (h : Sep B w wk (rg p C W N :: Rs)) : WaitsP.Ok C W N := by obtain ⟨_, _, _, hok, _⟩ := rg_open h; exact hok
end

theorem newG_no (n : Int) (w : World) (h : n < 1 ∨ 1000 < n) : Calls Try.prog 8 #[.int .i64 n] w fun e w' => e = .returned (.tuple #[.pointer none, .int .i64 1]) ∧ w = w' := by
  rcases (by omega : n < 1 ∨ (1 ≤ n ∧ 1000 < n)) with h1 | ⟨h1, h2⟩
  all_goals
    clear h
    go_enter Try.func8, Try.ntmps8
    go_wp2
    go_ret2
    exact ⟨rfl, rfl⟩
theorem newG_s {B : Nat → Prop} {w wk : World} {Rs : List Res} (h : Sep B w wk Rs) (n : Int) (h1 : 1 ≤ n) (h2 : n ≤ 1000) :
    Calls Try.prog 8 #[.int .i64 n] wk fun e wn => ∃ p, e = .returned (.tuple #[.pointer (some ⟨p, 0, none⟩), .int .i64 0]) ∧ Sep B w wn (rg p 0 [] n :: Rs) := by
  have HS := Lib.hid (rg_close ((Sep.nil_nums (h.new (.cells #[.int .i64 0, .slice none 0 0, .int .i64 n] 44))).swap) (WaitsP.Ok.new h1 h2) fits_nil)
  clear h
  go_enter Try.func8, Try.ntmps8
  go_wp2
  go_ret2
  exact ⟨_, rfl, HS.out⟩

section
variable {B : Nat → Prop} {w wk : World} {Rs : List Res} {p : Nat} {C : Int} {W : List Int} {N : Int}

set_option maxRecDepth 100000 in
set_option maxHeartbeats 1000000 in
theorem add_s (h : Sep B w wk (rg p C W N :: Rs)) (n : Int) (hn : In64 n) :
    Calls Try.prog 10 #[.pointer (some ⟨p, 0, none⟩), .int .i64 n] wk fun e wn => ∃ A c, e = .returned (.tuple #[.slice A (addL C W n).length c, .int .i64 (addE C n)]) ∧ Sep B w wn (nums (.slice A (addL C W n).length c) (addL C W n) :: rg p (addC C n) (addW C W n) N :: Rs) := by
  obtain ⟨A, c, hs, hok, hcap⟩ := rg_open h
  have HOK := Lib.hid (hok.add n)
  have HF : Hid (Fits (.slice A W.length c)) := fun _ _ _ e => by injection e with _ e2 e3; omega
  have S0 := Lib.hid hs
  have hb := hs.blk_at 0 rfl
  have x0 : wk.cell? ⟨p, 0, none⟩ = some (.int .i64 C) := (cell_block hb 0).trans rfl
  have x1 : wk.cell? ⟨p, 1, none⟩ = some (.slice A W.length c) := (cell_block hb 1).trans rfl
  have f0 := frozen_block hb 0
  have f1 := frozen_block hb 1
  have hpl := lt_of_block hb
  have HC := Lib.hid (add_cases hok n)
  have HN : Hid (WaitsP.Ok 0 [] N) := .new hok.n0 hok.n1
  have C0 := hok.c0
  have C1 := hok.c1
  obtain ⟨n0, n1⟩ := hn
  clear h hs hok hb hcap
  rcases HC.out with ⟨h0, he, g1, g2, g3⟩ | ⟨h0, he, g1, g2, g3⟩ | ⟨h0, h1, he, g1, g2, g3⟩ | ⟨h0, he, g1, g2, g3⟩
  · have HO2 := HOK.out
    rw [g1, g3] at HO2 ⊢
    rw [g2, he]
    have HS := Lib.hid (rg_close S0.out HO2 HF.out).nil_nums
    have hneg : n < 0 := by omega
    clear HC HOK HO2 g1 g2 g3 he
    go_enter Try.func10, Try.ntmps10
    go_wp2
    go_ret2
    exact ⟨_, _, rfl, HS.out⟩
  · have HO2 := HOK.out
    rw [g1, g3] at HO2 ⊢
    rw [g2, he]
    have HS := Lib.hid (rg_close S0.out HO2 HF.out).nil_nums
    have hneg : 0 ≤ n := by omega
    have hpos : 0 < n := by omega
    have hgt : 9223372036854775807 - n < C := by omega
    clear HC HOK HO2 g1 g2 g3 he h0
    go_enter Try.func10, Try.ntmps10
    go_wp2
    go_ret2
    exact ⟨_, _, rfl, HS.out⟩
  · have HO2 := HOK.out
    rw [g1, g3] at HO2 ⊢
    rw [g2, he]
    have HZ := Lib.hid HO2
    clear HC HOK HO2 g1 g2 g3 he
    obtain ⟨z, hz⟩ : ∃ z, z = C + n := ⟨_, rfl⟩
    rw [← hz] at h0 h1 HZ ⊢
    have hw1 : IntKind.i64.wrap (C + n) = z := by rw [hz]; exact IntWalk.i64_in _ (by omega)
    have HS := Lib.hid (rg_close (S0.out.set 0 rfl 0 (.int .i64 z)) HZ.out HF.out).nil_nums
    have hz0 : 0 ≤ z := by omega
    rcases (by omega : n < 0 ∨ (0 ≤ n ∧ n ≤ 0) ∨ (0 ≤ n ∧ 0 < n ∧ C ≤ 9223372036854775807 - n)) with h3 | ⟨h3, h4⟩ | ⟨h3, h4, h5⟩
    all_goals
      clear hz
      go_enter Try.func10, Try.ntmps10
      go_wp2
      go_ret2
      exact ⟨_, _, rfl, HS.out⟩
  · have HO2 := HOK.out
    rw [g1, g3] at HO2 ⊢
    rw [g2, he]
    clear HC HOK HO2 g1 g2 g3 he
    have hw1 : IntKind.i64.wrap (C + n) = 0 := by rw [h0]; rfl
    have S1 := Lib.hid ((S0.out.set 0 rfl 0 (.int .i64 0)).set 0 rfl 1 (.slice none 0 0))
    have S2 : Hid (Sep B w _ (nums (.slice A W.length c) W :: rg p 0 [] N :: Rs)) := (rg_close S1.out.nil_nums.swap HN.out fits_nil).swap
    clear S1
    rcases (by omega : n < 0 ∨ (0 ≤ n ∧ n ≤ 0)) with h3 | ⟨h3, h4⟩
    all_goals
      clear h0
      go_enter Try.func10, Try.ntmps10
      go_wp2
      go_ret2
      exact ⟨_, _, rfl, S2.out⟩

set_option maxRecDepth 100000 in
set_option maxHeartbeats 1000000 in
theorem wait_s (h : Sep B w wk (rg p C W N :: Rs)) (t : Int) :
    Calls Try.prog 11 #[.pointer (some ⟨p, 0, none⟩), .int .i64 t] wk fun e wn => e = .returned (.tuple #[.bool (wtB C W N t), .int .i64 (wtE W N t)]) ∧ Sep B w wn (rg p C (wtW C W N t) N :: Rs) := by
  obtain ⟨A, c, hs, hok, hcap⟩ := rg_open h
  have HOK := Lib.hid (hok.wait t)
  have HF : Hid (Fits (.slice A W.length c)) := fun _ _ _ e => by injection e with _ e2 e3; omega
  have S0 := Lib.hid hs
  have hwl := hok.wlen
  have hb := hs.blk_at 0 rfl
  have x0 : wk.cell? ⟨p, 0, none⟩ = some (.int .i64 C) := (cell_block hb 0).trans rfl
  have x1 : wk.cell? ⟨p, 1, none⟩ = some (.slice A W.length c) := (cell_block hb 1).trans rfl
  have x2 : wk.cell? ⟨p, 2, none⟩ = some (.int .i64 N) := (cell_block hb 2).trans rfl
  have f1 := frozen_block hb 1
  have hpl := lt_of_block hb
  have HI := Lib.hid (in_any (hs.rd 1 rfl) t)
  have HC := Lib.hid (wt_cases hok t)
  have C0 := hok.c0
  clear h hs hok hb hcap
  rcases HC.out with ⟨hE, g1, g2⟩ | ⟨hE, rfl, rfl, g1, g2, t0, t1⟩ | ⟨hE, hC, hni, g1, g2, t0, t1⟩
  · have HO2 := HOK.out
    rw [g2] at HO2 ⊢
    rw [g1]
    have HS := Lib.hid (rg_close S0.out HO2 HF.out)
    clear HC HOK HO2 g1 g2
    by_cases hn : nameM N t = true
    · obtain ⟨t0, t1⟩ := name_iff.1 hn
      have d0 : decide (t < 0) = false := by simp; omega
      have d1 : decide (N ≤ t) = false := by simp; omega
      have hn' : ¬ nameM N t = false := by rw [hn]; simp
      have hi : inL W t = true := by
        cases hi : inL W t with
        | true => rfl
        | false => exact absurd (by unfold wtE; rw [if_neg hn', if_neg (by rw [hi]; simp)]) hE
      have HE : Hid (wtE W N t = 6) := by show _ = _; unfold wtE; rw [if_neg hn', if_pos hi]
      rw [HE.out]
      rw [hi] at HI
      clear hn hn' hi hE HE
      go_enter Try.func11, Try.ntmps11
      go_wp2_with fail
      refine HI.out.mono ?_
      rintro e w1 ⟨rfl, rfl⟩
      go_wp2
      go_ret2
      exact ⟨rfl, HS.out⟩
    · have hn' : nameM N t = false := by simpa using hn
      have HE : Hid (wtE W N t = 3) := by show _ = _; unfold wtE; rw [if_pos hn']
      rw [HE.out]
      have hlt : t < 0 ∨ (0 ≤ t ∧ N ≤ t) := by
        rw [name_iff] at hn
        omega
      clear hn hn' hE HE HI
      rcases hlt with h1 | ⟨h1, h2⟩
      all_goals
        go_enter Try.func11, Try.ntmps11
        go_wp2
        go_ret2
        exact ⟨rfl, HS.out⟩
  · have HO2 := HOK.out
    rw [g2] at HO2 ⊢
    rw [g1, hE]
    have HS := Lib.hid (rg_close S0.out HO2 HF.out)
    have d0 : decide (t < 0) = false := by simp; omega
    have d1 : decide (N ≤ t) = false := by simp; omega
    rw [(wt_zero hE).2] at HI
    clear HC HOK HO2 g1 g2 hE
    go_enter Try.func11, Try.ntmps11
    go_wp2_with fail
    refine HI.out.mono ?_
    rintro e w1 ⟨rfl, rfl⟩
    go_wp2
    go_ret2
    exact ⟨rfl, HS.out⟩
  · have HO2 := HOK.out
    rw [g2] at HO2 ⊢
    rw [g1, hE]
    have HO3 := Lib.hid HO2
    have d0 : decide (t < 0) = false := by simp; omega
    have d1 : decide (N ≤ t) = false := by simp; omega
    have d2 : (C == 0) = false := by simp; omega
    have S1 := Lib.hid (S0.out.grow0 intE 3)
    have HRW : Hid (RdL intE (wk.alloc (.cells #[] 3)) (fun _ => True) (.slice A W.length c) W) := rdL_of (S1.out.rd 2 rfl)
    rw [(wt_zero hE).2] at HI
    clear HC HOK HO2 g1 g2 hE hni
    go_enter Try.func11, Try.ntmps11
    go_wp2_with fail
    refine HI.out.mono ?_
    rintro e w1 ⟨rfl, rfl⟩
    go_wp2_with (first
      | (at_builtin; refine wpList_appS rfl _ _ intElemL rfl rfl rfl S1.out 0 rfl HRW.out (by show 0 + W.length ≤ _; omega) ?_; intro A3 c3' w3 l3 HL3 h3; have HX1 : Hid (RdL intE (w3.alloc (.cells #[.int .i64 t] 3)) (fun _ => True) (.slice (some ⟨w3.heap.size, 0, none⟩) 1 1) [t]) := RdL.lit1 (E := intE) w3 3 t (cs := #[.int .i64 t]) rfl (fun _ => True) trivial; have S3 := Lib.hid (Sep.next h3 (new_below0 w3 (.cells #[.int .i64 t] 3))); have hl3 : Hid (l3.length = W.length) := congrArg List.length HL3.out; clear h3)
      | (at_builtin; refine wpList_appS rfl _ _ intElemL rfl rfl rfl S3.out 0 rfl HX1.out (by rw [hl3.out]; show W.length + 1 ≤ _; omega) ?_; intro A5 c5 w5 l5 HL5 h5; have k0 := (cell_block (Sep.blk_at h5 1 rfl) 0).trans rfl; have k5 := (cell_block (Sep.blk_at h5 1 rfl) 1).trans rfl; have f5 := frozen_block (Sep.blk_at h5 1 rfl) 1; have S5 := Lib.hid h5; clear h5))
    go_wp2
    go_ret2
    have hl5 : l5 = W ++ [t] := by rw [HL5.out, HL3.out]; rfl
    subst hl5
    have h6 := grow_nums ((S5.out.set 1 rfl 1 (.slice A5 (W ++ [t]).length c5))) (by simp; omega)
    have h7 := h6.swap.sub (.cons_cons _ (.cons_cons _ (.cons _ (List.Sublist.refl Rs))))
    exact ⟨rfl, rg_close h7 HO3.out (fits_own (S5.out.own 0 rfl))⟩

set_option maxRecDepth 100000 in
theorem leave_s (h : Sep B w wk (rg p C W N :: Rs)) (t : Int) :
    Calls Try.prog 12 #[.pointer (some ⟨p, 0, none⟩), .int .i64 t] wk fun e wn => e = .returned (.bool (inL W t)) ∧ Sep B w wn (rg p C (withoutL W t) N :: Rs) := by
  obtain ⟨A, c, hs, hok, hcap⟩ := rg_open h
  have HOK := Lib.hid (hok.leave t)
  have S0 := Lib.hid hs
  have hb := hs.blk_at 0 rfl
  have x1 : wk.cell? ⟨p, 1, none⟩ = some (.slice A W.length c) := (cell_block hb 1).trans rfl
  have HI := Lib.hid (in_any (hs.rd 1 rfl) t)
  have HWO := Lib.hid (without_s hs (hs.rd 1 rfl) t)
  clear h hs hok hb hcap
  generalize inL W t = bo at *
  go_enter Try.func12, Try.ntmps12
  go_wp2_with fail
  refine HI.out.mono ?_
  rintro e w1 ⟨rfl, rfl⟩
  go_wp2_with fail
  refine HWO.out.mono ?_
  rintro e w1 ⟨A1, c1, rfl, h1, _, hf⟩
  have k1 := (cell_block (h1.blk_at 1 rfl) 1).trans rfl
  have f1 := frozen_block (h1.blk_at 1 rfl) 1
  have S1 := Lib.hid (h1.set 1 rfl 1 (.slice A1 (withoutL W t).length c1))
  have HF := Lib.hid hf
  clear h1 hf HI HWO x1 S0
  go_wp2
  go_ret
  have h7 := S1.out.swap.sub (.cons_cons _ (.cons_cons _ (.cons _ (List.Sublist.refl Rs))))
  exact ⟨rfl, rg_close h7 HOK.out HF.out⟩
end
end Go.Proofs.Ytjojpejhmengaaa.RefWaits
