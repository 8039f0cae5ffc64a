/-
  Contracts of the functions of package countermandref11 (the document's answer for layer 11). Condition: the thing is at hand.
-/
import Derived.Test.YtlepedhfnkamkaaOnceP
import Derived.Test.YtlepedhfnkamkaaRefMut
namespace Go.Proofs.Ytlepedhfnkamkaa.RefOnce
open Go.ChangeShapes Go.WideShapes Go.ChangeAt Go.RowKit Mem MutP OnceP Hand RefMut

/-- The reference's thing behind the pointer to block p. -/
def rop (p : Nat) (S D : Int) (W : List Int) (N : Int) (u : Value) : List Res := [blk p (.cells #[.int .i64 S, .int .i64 D, .int .i64 N, u] 44), nums u W]
def ro (p : Nat) (S D : Int) (W : List Int) (N : Int) : Res := someR (fun u => OnceP.Ok S D W N ∧ Fits u) fun u : Value => pack (rop p S D W N u)

section
variable {B : Nat → Prop} {w wk : World} {Rs : List Res} {p : Nat} {S D : Int} {W : List Int} {N : Int}
theorem ro_open (h : Sep B w wk (ro p S D W N :: Rs)) : ∃ A c, Sep B w wk (blk p (.cells #[.int .i64 S, .int .i64 D, .int .i64 N, .slice A W.length c] 44) :: nums (.slice A W.length c) W :: Rs) ∧ OnceP.Ok S D W N ∧ W.length ≤ c := by
  obtain ⟨u, hok, h1⟩ := h.ex
  have h2 : Sep B w wk (blk p (.cells #[.int .i64 S, .int .i64 D, .int .i64 N, u] 44) :: nums u W :: Rs) := h1.unpack
  obtain ⟨A, c, rfl⟩ := rd_form (h2.rd 1 rfl)
  exact ⟨A, c, h2, hok.1, hok.2 _ _ _ rfl⟩
theorem ro_close {u : Value} (h : Sep B w wk (blk p (.cells #[.int .i64 S, .int .i64 D, .int .i64 N, u] 44) :: nums u W :: Rs)) (hok : OnceP.Ok S D W N) (hf : Fits u) : Sep B w wk (ro p S D W N :: Rs) :=
  Sep.hide (R := fun u : Value => pack (rop p S D W N u)) (a := u) ⟨hok, hf⟩ (Sep.packed (Ss := rop p S D W N u) h)
theorem ro_ok (h : Sep B w wk (ro p S D W N :: Rs)) : OnceP.Ok S D W N := by obtain ⟨_, _, _, hok, _⟩ := ro_open h; exact hok
end

theorem newO_no (n : Int) (w : World) (h : n < 1 ∨ 1000 < n) : Calls Try.prog 8 #[.int .i64 n] w fun e w' => e = .returned (.tuple #[.pointer none, .int .i64 1]) ∧ w = w' := by
  rcases (by omega : n < 1 ∨ (1 ≤ n ∧ 1000 < n)) with h1 | ⟨h1, h2⟩
  all_goals
    clear h
    go_enter Try.func8, Try.ntmps8
    go_wp2
    go_ret2
    exact ⟨rfl, rfl⟩
theorem newO_s {B : Nat → Prop} {w wk : World} {Rs : List Res} (h : Sep B w wk Rs) (n : Int) (h1 : 1 ≤ n) (h2 : n ≤ 1000) :
    Calls Try.prog 8 #[.int .i64 n] wk fun e wn => ∃ p, e = .returned (.tuple #[.pointer (some ⟨p, 0, none⟩), .int .i64 0]) ∧ Sep B w wn (ro p 0 (-1) [] n :: Rs) := by
  have HS := Lib.hid (ro_close ((Sep.nil_nums (h.new (.cells #[.int .i64 0, .int .i64 (-1), .int .i64 n, .slice none 0 0] 44))).swap) (OnceP.Ok.new h1 h2) fits_nil)
  clear h
  go_enter Try.func8, Try.ntmps8
  go_wp2
  go_ret2
  exact ⟨_, rfl, HS.out⟩

section
variable {B : Nat → Prop} {w wk : World} {Rs : List Res} {p : Nat} {S D : Int} {W : List Int} {N : Int}

set_option maxRecDepth 100000 in
set_option maxHeartbeats 1000000 in
theorem beg_s (h : Sep B w wk (ro p S D W N :: Rs)) (t : Int) :
    Calls Try.prog 10 #[.pointer (some ⟨p, 0, none⟩), .int .i64 t] wk fun e wn => e = .returned (.tuple #[.int .i64 (begK S D W N t), .int .i64 (begE D W N t)]) ∧ Sep B w wn (ro p (begS S D W N t) (begD S D W N t) (begW S D W N t) N :: Rs) := by
  obtain ⟨A, c, hs, hok, hcap⟩ := ro_open h
  have HOK := Lib.hid (hok.beg t)
  have HF : Hid (Fits (.slice A W.length c)) := fun _ _ _ e => by injection e with _ e2 e3; omega
  have S0 := Lib.hid hs
  have hwl := hok.wlen
  have hb := hs.blk_at 0 rfl
  have c0 : wk.cell? ⟨p, 0, none⟩ = some (.int .i64 S) := (cell_block hb 0).trans rfl
  have c1 : wk.cell? ⟨p, 1, none⟩ = some (.int .i64 D) := (cell_block hb 1).trans rfl
  have c2 : wk.cell? ⟨p, 2, none⟩ = some (.int .i64 N) := (cell_block hb 2).trans rfl
  have c3 : wk.cell? ⟨p, 3, none⟩ = some (.slice A W.length c) := (cell_block hb 3).trans rfl
  have f0 := frozen_block hb 0
  have f1 := frozen_block hb 1
  have f3 := frozen_block hb 3
  have hpl := lt_of_block hb
  have HI := Lib.hid (in_any (hs.rd 1 rfl) t)
  have HC := Lib.hid (beg_cases hok t)
  clear h hs hok hb hcap
  have HNo : Hid (begE D W N t ≠ 0 → Sep B w wk (ro p (begS S D W N t) (begD S D W N t) (begW S D W N t) N :: Rs) ∧ begK S D W N t = 0) := by
    intro hne
    rcases HC.out with ⟨_, e0, e1, e2, e3⟩ | ⟨he, _⟩ | ⟨he, _⟩ | ⟨he, _⟩
    · have ho := HOK.out
      rw [e1, e2, e3] at ho ⊢
      exact ⟨ro_close S0.out ho HF.out, e0⟩
    all_goals exact absurd he hne
  by_cases hn : nameM N t = true
  · obtain ⟨t0, t1⟩ := name_iff.1 hn
    have d0 : decide (t < 0) = false := by simp; omega
    have d1 : decide (N ≤ t) = false := by simp; omega
    have hn' : ¬ nameM N t = false := by rw [hn]; simp
    cases hi : inL W t with
    | true =>
      have HE : Hid (begE D W N t = 6) := by show _ = _; unfold begE; rw [if_neg hn', if_pos hi]
      have HR := HNo.out (by rw [HE.out]; omega)
      rw [HE.out, HR.2]
      have HS := Lib.hid HR.1
      rw [hi] at HI
      clear hn hn' hi HC HNo HR
      go_enter Try.func10, Try.ntmps10
      go_wp2_with fail
      refine HI.out.mono ?_
      rintro e w1 ⟨rfl, rfl⟩
      go_wp2
      go_ret2
      exact ⟨rfl, HS.out⟩
    | false =>
      have hi' : ¬ inL W t = true := by rw [hi]; simp
      rw [hi] at HI
      by_cases hD : D = t
      · have HE : Hid (begE D W N t = 4) := by show _ = _; unfold begE; rw [if_neg hn', if_neg hi', if_pos hD]
        have HR := HNo.out (by rw [HE.out]; omega)
        rw [HE.out, HR.2]
        have HS := Lib.hid HR.1
        subst hD
        clear hn hn' hi hi' HC HNo HR
        go_enter Try.func10, Try.ntmps10
        go_wp2_with fail
        refine HI.out.mono ?_
        rintro e w1 ⟨rfl, rfl⟩
        go_wp2
        go_ret2
        exact ⟨rfl, HS.out⟩
      · have hE : begE D W N t = 0 := by unfold begE; rw [if_neg hn', if_neg hi', if_neg hD]
        have e1 : (D == t) = false := by simpa using hD
        have HO2 := HOK.out
        rw [hE]
        rcases HC.out with ⟨he, _⟩ | ⟨_, rfl, rfl, rfl, g0, g1, g2, g3, _⟩ | ⟨_, rfl, _, _, _, g0, g1, g2, g3, _⟩ | ⟨_, rfl, rfl, rfl, g0, g1, g2, g3⟩
        · exact absurd hE he
        all_goals rw [g1, g2, g3] at HO2 ⊢; rw [g0]
        · have HO3 := Lib.hid HO2
          have S1 := Lib.hid ((S0.out.set 0 rfl 0 (.int .i64 1)).set 0 rfl 1 (.int .i64 t))
          clear hn hn' hi hi' HC HNo hE hD g0 g1 g2 g3 HO2 HOK
          go_enter Try.func10, Try.ntmps10
          go_wp2_with fail
          refine HI.out.mono ?_
          rintro e w1 ⟨rfl, rfl⟩
          go_wp2
          go_ret2
          exact ⟨rfl, ro_close S1.out HO3.out HF.out⟩
        · have HO3 := Lib.hid HO2
          have S1 := Lib.hid (S0.out.grow0 intE 3)
          have HRW : Hid (RdL intE (wk.alloc (.cells #[] 3)) (fun _ => True) (.slice A W.length c) W) := rdL_of (S1.out.rd 2 rfl)
          clear hn hn' hi hi' HC HNo hE hD g0 g1 g2 g3 HO2 HOK
          go_enter Try.func10, Try.ntmps10
          go_wp2_with fail
          refine HI.out.mono ?_
          rintro e w1 ⟨rfl, rfl⟩
          go_wp2_with (first
            | (at_builtin; refine wpList_appS rfl _ _ intElemL rfl rfl rfl S1.out 0 rfl HRW.out (by show 0 + W.length ≤ _; omega) ?_; intro A3 c3' w3 l3 HL3 h3; have HX1 : Hid (RdL intE (w3.alloc (.cells #[.int .i64 t] 3)) (fun _ => True) (.slice (some ⟨w3.heap.size, 0, none⟩) 1 1) [t]) := RdL.lit1 (E := intE) w3 3 t (cs := #[.int .i64 t]) rfl (fun _ => True) trivial; have S3 := Lib.hid (Sep.next h3 (new_below0 w3 (.cells #[.int .i64 t] 3))); have hl3 : Hid (l3.length = W.length) := congrArg List.length HL3.out; clear h3)
            | (at_builtin; refine wpList_appS rfl _ _ intElemL rfl rfl rfl S3.out 0 rfl HX1.out (by rw [hl3.out]; show W.length + 1 ≤ _; omega) ?_; intro A5 c5 w5 l5 HL5 h5; have k5 := (cell_block (Sep.blk_at h5 1 rfl) 3).trans rfl; have f5 := frozen_block (Sep.blk_at h5 1 rfl) 3; have S5 := Lib.hid h5; clear h5))
          go_wp2
          go_ret2
          have hl5 : l5 = W ++ [t] := by rw [HL5.out, HL3.out]; rfl
          subst hl5
          have h6 := grow_nums ((S5.out.set 1 rfl 3 (.slice A5 (W ++ [t]).length c5))) (by simp; omega)
          have h7 := h6.swap.sub (.cons_cons _ (.cons_cons _ (.cons _ (List.Sublist.refl Rs))))
          exact ⟨rfl, ro_close h7 HO3.out (fits_own (S5.out.own 0 rfl))⟩
        · have HO3 := Lib.hid HO2
          clear hn hn' hi hi' HC HNo hE hD g0 g1 g2 g3 HO2 HOK
          go_enter Try.func10, Try.ntmps10
          go_wp2_with fail
          refine HI.out.mono ?_
          rintro e w1 ⟨rfl, rfl⟩
          go_wp2
          go_ret2
          exact ⟨rfl, ro_close S0.out HO3.out HF.out⟩
  · have hn' : nameM N t = false := by simpa using hn
    have HE : Hid (begE D W N t = 3) := by show _ = _; unfold begE; rw [if_pos hn']
    have HR := HNo.out (by rw [HE.out]; omega)
    rw [HE.out, HR.2]
    have HS := Lib.hid HR.1
    have hlt : t < 0 ∨ (0 ≤ t ∧ N ≤ t) := by
      rw [name_iff] at hn
      omega
    clear hn hn' HI HC HNo HR
    rcases hlt with h1 | ⟨h1, h2⟩
    all_goals
      go_enter Try.func10, Try.ntmps10
      go_wp2
      go_ret2
      exact ⟨rfl, HS.out⟩

set_option maxRecDepth 100000 in
set_option maxHeartbeats 1000000 in
theorem end_s (h : Sep B w wk (ro p S D W N :: Rs)) (t : Int) :
    Calls Try.prog 11 #[.pointer (some ⟨p, 0, none⟩), .int .i64 t] wk fun e wn => ∃ A c, e = .returned (.tuple #[.slice A (endL D W N t).length c, .int .i64 (endE D N t)]) ∧ Sep B w wn (nums (.slice A (endL D W N t).length c) (endL D W N t) :: ro p (endS S D N t) (endD D N t) (endW D W N t) N :: Rs) := by
  obtain ⟨A, c, hs, hok, hcap⟩ := ro_open h
  have HOK := Lib.hid (hok.fin t)
  have HF : Hid (Fits (.slice A W.length c)) := fun _ _ _ e => by injection e with _ e2 e3; omega
  have S0 := Lib.hid hs
  have hwl := hok.wlen
  have hb := hs.blk_at 0 rfl
  have c0 : wk.cell? ⟨p, 0, none⟩ = some (.int .i64 S) := (cell_block hb 0).trans rfl
  have c1 : wk.cell? ⟨p, 1, none⟩ = some (.int .i64 D) := (cell_block hb 1).trans rfl
  have c2 : wk.cell? ⟨p, 2, none⟩ = some (.int .i64 N) := (cell_block hb 2).trans rfl
  have c3 : wk.cell? ⟨p, 3, none⟩ = some (.slice A W.length c) := (cell_block hb 3).trans rfl
  have f0 := frozen_block hb 0
  have f1 := frozen_block hb 1
  have f3 := frozen_block hb 3
  have hpl := lt_of_block hb
  have HC := Lib.hid (end_cases hok t)
  have HD := Lib.hid hok.done
  clear h hs hok hb hcap
  rcases HC.out with ⟨he, g1, g2, g3, g4⟩ | ⟨he, hD, rfl, t0, t1, g1, g2, g3, g4⟩
  · have HO2 := HOK.out
    rw [g2, g3, g4] at HO2 ⊢
    rw [g1]
    have HS := Lib.hid (ro_close S0.out HO2 HF.out).nil_nums
    by_cases hn : nameM N t = true
    · obtain ⟨t0, t1⟩ := name_iff.1 hn
      have d0 : decide (t < 0) = false := by simp; omega
      have d1 : decide (N ≤ t) = false := by simp; omega
      have hn' : ¬ nameM N t = false := by rw [hn]; simp
      have hD : D ≠ t := fun hD => he (by unfold endE; rw [if_neg hn', if_pos hD])
      have HE : Hid (endE D N t = 4) := by show _ = _; unfold endE; rw [if_neg hn', if_neg hD]
      have e1 : (D != t) = true := by simpa using hD
      rw [HE.out]
      clear hn hn' he g1 g2 g3 g4 HC HOK HO2 hD
      go_enter Try.func11, Try.ntmps11
      go_wp2
      go_ret2
      exact ⟨_, _, rfl, HS.out⟩
    · have hn' : nameM N t = false := by simpa using hn
      have HE : Hid (endE D N t = 3) := by show _ = _; unfold endE; rw [if_pos hn']
      rw [HE.out]
      have hlt : t < 0 ∨ (0 ≤ t ∧ N ≤ t) := by
        rw [name_iff] at hn
        omega
      clear hn hn' he g1 g2 g3 g4 HC HOK HO2
      rcases hlt with h1 | ⟨h1, h2⟩
      all_goals
        go_enter Try.func11, Try.ntmps11
        go_wp2
        go_ret2
        exact ⟨_, _, rfl, HS.out⟩
  · rw [he, g1, g2, g3, g4]
    subst hD
    have d0 : decide (D < 0) = false := by simp; omega
    have d1 : decide (N ≤ D) = false := by simp; omega
    have S1 := Lib.hid (((S0.out.set 0 rfl 0 (.int .i64 2)).set 0 rfl 1 (.int .i64 (-1))).set 0 rfl 3 (.slice none 0 0))
    have S2 : Hid (Sep B w _ (nums (.slice A W.length c) W :: ro p 2 (-1) [] N :: Rs)) := (ro_close S1.out.nil_nums.swap HD.out fits_nil).swap
    clear HC HOK g1 g2 g3 g4 he
    go_enter Try.func11, Try.ntmps11
    go_wp2
    go_ret2
    exact ⟨_, _, rfl, S2.out⟩

set_option maxRecDepth 100000 in
theorem leave_s (h : Sep B w wk (ro p S D W N :: Rs)) (t : Int) :
    Calls Try.prog 12 #[.pointer (some ⟨p, 0, none⟩), .int .i64 t] wk fun e wn => e = .returned (.bool (inL W t)) ∧ Sep B w wn (ro p S D (withoutL W t) N :: Rs) := by
  obtain ⟨A, c, hs, hok, hcap⟩ := ro_open h
  have HOK := Lib.hid (hok.leave t)
  have S0 := Lib.hid hs
  have hb := hs.blk_at 0 rfl
  have c3 : wk.cell? ⟨p, 3, none⟩ = some (.slice A W.length c) := (cell_block hb 3).trans rfl
  have HI := Lib.hid (in_any (hs.rd 1 rfl) t)
  have HWO := Lib.hid (without_s hs (hs.rd 1 rfl) t)
  clear h hs hok hb hcap
  generalize inL W t = bo at *
  go_enter Try.func12, Try.ntmps12
  go_wp2_with fail
  refine HI.out.mono ?_
  rintro e w1 ⟨rfl, rfl⟩
  go_wp2_with fail
  refine HWO.out.mono ?_
  rintro e w1 ⟨A1, c1, rfl, h1, _, hf⟩
  have k3 := (cell_block (h1.blk_at 1 rfl) 3).trans rfl
  have f3 := frozen_block (h1.blk_at 1 rfl) 3
  have S1 := Lib.hid (h1.set 1 rfl 3 (.slice A1 (withoutL W t).length c1))
  have HF := Lib.hid hf
  clear h1 hf HI HWO c3 S0
  go_wp2
  go_ret
  have h7 := S1.out.swap.sub (.cons_cons _ (.cons_cons _ (.cons _ (List.Sublist.refl Rs))))
  exact ⟨rfl, ro_close h7 HOK.out HF.out⟩
end
end Go.Proofs.Ytlepedhfnkamkaa.RefOnce
