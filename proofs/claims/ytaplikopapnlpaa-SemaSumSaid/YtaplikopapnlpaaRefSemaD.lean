/-
  Contracts of the functions of package countermandref13 (the document's answer for layer 13), fourth part: Release, Leave. Condition: the semaphore is at hand.
-/
import Derived.Test.YtaplikopapnlpaaRefSemaC
import Derived.Test.YtaplikopapnlpaaHeldB
namespace Go.Proofs.Ytaplikopapnlpaa.RefSema
open Go.ChangeShapes Go.WideShapes Go.ChangeAt Go.RowKit Mem MutP SemaP Hand RefMut FitsC

section
variable {B : Nat → Prop} {w wk : World} {Rs : List Res} {p : Nat}
set_option maxRecDepth 100000 in
theorem release_s {s : St} (h : Sep B w wk (rg p s :: Rs)) (n : Int) :
    Calls Try.prog 12 #[.pointer (some ⟨p, 0, none⟩), .int .i64 n] wk fun e wn => ∃ A c, e = .returned (.tuple #[.slice A (relL s n).length c, .int .i64 (relE s n)]) ∧ Sep B w wn (nums (.slice A (relL s n).length c) (relL s n) :: rg p (relS s n) :: Rs) := by
  have HSK := Lib.hid h
  have HQ := Lib.hid ((rg_good h).rel n)
  obtain ⟨A1, c1, A2, c2, A3, c3, A4, c4, hs, hok, f1, f3⟩ := rg_open h
  have hlen := hok.1.len
  have H0 := hok.1.h0
  have H1 := hok.1.h1
  have C1 := hok.1.c1
  have HGW := Lib.hid hok.1.gw
  have HR := Lib.hid (rel_errs s n)
  have HL : Hid ((relE s n ≠ 0 → relL s n = [] ∧ relS s n = s) ∧ (relE s n = 0 → relL s n = outS (backS s n) ∧ relS s n = givS (backS s n))) := by
    unfold relL relS
    exact ⟨fun h => by rw [if_neg h, if_neg h]; exact ⟨rfl, rfl⟩, fun h => by rw [if_pos h, if_pos h]; exact ⟨rfl, rfl⟩⟩
  obtain ⟨E, hE⟩ : ∃ E, relE s n = E := ⟨_, rfl⟩
  obtain ⟨L2, hL2⟩ : ∃ L2, relL s n = L2 := ⟨_, rfl⟩
  obtain ⟨S2, hS2⟩ : ∃ S2, relS s n = S2 := ⟨_, rfl⟩
  simp only [hE, hL2, hS2] at HQ HR HL ⊢
  clear hE hL2 hS2 h hok
  obtain ⟨H, C, W, D, g, N⟩ := s
  simp only at *
  have S0 := Lib.hid hs
  obtain ⟨x0, x1, x2, x3, x4, x5, x6, fr, hpl⟩ := rgo_cs hs
  clear hs
  rcases HR.out with ⟨rfl, h1⟩ | ⟨rfl, h1, h2⟩ | ⟨rfl, h1, h2⟩
  · obtain ⟨rfl, rfl⟩ := HL.out.1 (by omega)
    have HS := Lib.hid HSK.out.nil_nums
    clear HL HR S0 HSK
    go_enter Try.func12, Try.ntmps12
    go_wp2
    go_ret2
    exact ⟨_, _, rfl, HS.out⟩
  · obtain ⟨rfl, rfl⟩ := HL.out.1 (by omega)
    have HS := Lib.hid HSK.out.nil_nums
    clear HL HR S0 HSK
    go_enter Try.func12, Try.ntmps12
    go_wp2
    go_ret2
    exact ⟨_, _, rfl, HS.out⟩
  · obtain ⟨rfl, rfl⟩ := HL.out.2 rfl
    obtain ⟨z, hz⟩ : ∃ z, z = H - n := ⟨_, rfl⟩
    have hw1 : IntKind.i64.wrap (H - n) = z := by rw [hz]; exact IntWalk.i64_in _ (by omega)
    have SZ : Hid (Sep B w (wk.setCell ⟨p, 0, none⟩ (.int .i64 z)) (rgo p z C W D g N A1 c1 A2 c2 A3 c3 A4 c4 ++ Rs)) := S0.out.set 0 rfl 0 (.int .i64 z)
    have HG := Lib.hid (give_o SZ.out f1 f3 (by omega) (by omega) C1 HGW.out (by omega))
    have HB : Hid (backS ⟨H, C, W, D, g, N⟩ n = ⟨z, C, W, D, g, N⟩) := by show _ = _; unfold backS; rw [hz]
    rw [HB.out] at HQ
    rw [HB.out]
    clear hz HL HR S0 HSK SZ HB HGW
    have hg1 : outS ⟨z, C, W, D, g, N⟩ = givL C g z W := rfl
    rw [hg1]
    have HQ2 : Hid (Fine ⟨givH C g z W, C, givW C g z W, D, g, N⟩) := HQ.out
    have hg2 : givS ⟨z, C, W, D, g, N⟩ = ⟨givH C g z W, C, givW C g z W, D, g, N⟩ := rfl
    rw [hg2]
    clear hg1 hg2 HQ
    generalize givL C g z W = GL at *
    generalize givH C g z W = GH at *
    generalize givW C g z W = GW at *
    go_enter Try.func12, Try.ntmps12
    go_wp2_with fail
    refine HG.out.mono ?_
    rintro e w1 ⟨A, c, B1, d1, B3, d3, rfl, h1, g1, g3⟩
    have HF : Hid (Sep B w w1 (nums (.slice A GL.length c) GL :: rg p ⟨GH, C, GW, D, g, N⟩ :: Rs)) := by
      have h2 : Sep B w w1 ((rgo p GH C GW D g N B1 d1 A2 c2 B3 d3 A4 c4 ++ [nums (.slice A GL.length c) GL]) ++ Rs) := h1.perm (by exact (List.perm_append_comm (l₁ := [_]) (l₂ := rgo p GH C GW D g N B1 d1 A2 c2 B3 d3 A4 c4)).append_right Rs)
      rw [List.append_assoc] at h2
      exact (rg_close (s := ⟨GH, C, GW, D, g, N⟩) h2 HQ2.out g1 g3).swap
    clear h1 HG
    go_wp2
    go_ret2
    exact ⟨_, _, rfl, HF.out⟩

/-- The lists of those who want, put in place of the old ones. -/
theorem new_w {H C : Int} {W D U : List Int} {g : Int → Int} {N : Int} {A1 : Option Addr} {c1 : Nat} {A2 : Option Addr} {c2 : Nat} {A3 : Option Addr} {c3 : Nat} {A4 : Option Addr} {c4 : Nat} {b b' : Option Addr} {m m' : Nat} {o : Obj}
    (h : Sep B w wk (nums (.slice b U.length m) U :: nums (.slice b' U.length m') (U.map g) :: blk p o :: nums (.slice A1 W.length c1) W :: nums (.slice A2 D.length c2) D :: nums (.slice A3 W.length c3) (W.map g) :: nums (.slice A4 D.length c4) (D.map g) :: Rs))
    (ho : o = .cells #[.int .i64 H, .int .i64 C, .slice b U.length m, .slice A2 D.length c2, .slice b' U.length m', .slice A4 D.length c4, .int .i64 N] 48) :
    Sep B w wk (rgo p H C U D g N b m A2 c2 b' m' A4 c4 ++ Rs) := by
  have h3 := h.swap.sub (.cons_cons _ (.cons_cons _ (.cons_cons _ (.cons _ (.cons_cons _ (.cons _ (.cons_cons _ (List.Sublist.refl Rs))))))))
  have h4 := h3.perm (perm_w _ _ _ _ _ Rs)
  rw [ho] at h4
  exact h4
theorem new_d {H C : Int} {W D U : List Int} {g : Int → Int} {N : Int} {A1 : Option Addr} {c1 : Nat} {A2 : Option Addr} {c2 : Nat} {A3 : Option Addr} {c3 : Nat} {A4 : Option Addr} {c4 : Nat} {b b' : Option Addr} {m m' : Nat} {o : Obj}
    (h : Sep B w wk (nums (.slice b U.length m) U :: nums (.slice b' U.length m') (U.map g) :: blk p o :: nums (.slice A1 W.length c1) W :: nums (.slice A2 D.length c2) D :: nums (.slice A3 W.length c3) (W.map g) :: nums (.slice A4 D.length c4) (D.map g) :: Rs))
    (ho : o = .cells #[.int .i64 H, .int .i64 C, .slice A1 W.length c1, .slice b U.length m, .slice A3 W.length c3, .slice b' U.length m', .int .i64 N] 48) :
    Sep B w wk (rgo p H C W U g N A1 c1 b m A3 c3 b' m' ++ Rs) := by
  have h3 := h.swap.sub (.cons_cons _ (.cons_cons _ (.cons_cons _ (.cons_cons _ (.cons _ (.cons_cons _ (.cons _ (List.Sublist.refl Rs))))))))
  have h4 := h3.perm (perm_d _ _ _ _ _ Rs)
  rw [ho] at h4
  exact h4

set_option maxRecDepth 100000 in
set_option maxHeartbeats 2000000 in
theorem leave_s {s : St} (h : Sep B w wk (rg p s :: Rs)) (t : Int) :
    Calls Try.prog 13 #[.pointer (some ⟨p, 0, none⟩), .int .i64 t] wk fun e wn => ∃ A c, e = .returned (.tuple #[.slice A (lvL s t).length c, .bool (SemaP.waitsB s t)]) ∧ Sep B w wn (nums (.slice A (lvL s t).length c) (lvL s t) :: rg p (lvS s t) :: Rs) := by
  have HSK := Lib.hid h
  have HQ := Lib.hid ((rg_good h).leave t)
  obtain ⟨A1, c1, A2, c2, A3, c3, A4, c4, hs, hok, f1, f3⟩ := rg_open h
  have hlen := hok.1.len
  have HDR := Lib.hid (hok.1.drop t)
  have HL : Hid ((SemaP.waitsB s t = false → lvL s t = [] ∧ lvS s t = s) ∧ (SemaP.waitsB s t = true → lvL s t = outS (dropS s t) ∧ lvS s t = givS (dropS s t))) := by
    unfold lvL lvS
    exact ⟨fun h => by rw [if_neg (by rw [h]; simp), if_neg (by rw [h]; simp)]; exact ⟨rfl, rfl⟩, fun h => by rw [if_pos h, if_pos h]; exact ⟨rfl, rfl⟩⟩
  have HWA : Hid (SemaP.waitsB s t = (inL s.W t || inL s.D t)) := rfl
  obtain ⟨Bo, hBo⟩ : ∃ Bo, SemaP.waitsB s t = Bo := ⟨_, rfl⟩
  obtain ⟨L2, hL2⟩ : ∃ L2, lvL s t = L2 := ⟨_, rfl⟩
  obtain ⟨S2, hS2⟩ : ∃ S2, lvS s t = S2 := ⟨_, rfl⟩
  simp only [hBo, hL2, hS2] at HQ HL HWA ⊢
  clear hBo hL2 hS2 h hok
  obtain ⟨H, C, W, D, g, N⟩ := s
  simp only at *
  have S0 := Lib.hid hs
  have HW := Lib.hid (wants_o hs t hlen)
  rw [← HWA.out] at HW
  obtain ⟨x0, x1, x2, x3, x4, x5, x6, fr, hpl⟩ := rgo_cs hs
  clear hs HWA
  generalize (if Bo = true then g t else 0) = wn at *
  cases Bo with
  | false =>
    obtain ⟨rfl, rfl⟩ := HL.out.1 rfl
    have HS := Lib.hid HSK.out.nil_nums
    clear HL S0 HSK HDR
    go_enter Try.func13, Try.ntmps13
    go_wp2_with fail
    refine HW.out.mono ?_
    rintro e w1 ⟨rfl, rfl⟩
    go_wp2
    go_ret2
    exact ⟨_, _, rfl, HS.out⟩
  | true =>
    obtain ⟨rfl, rfl⟩ := HL.out.2 rfl
    have hg1 : outS (dropS ⟨H, C, W, D, g, N⟩ t) = givL C g H (withoutL W t) := rfl
    have hg2 : givS (dropS ⟨H, C, W, D, g, N⟩ t) = ⟨givH C g H (withoutL W t), C, givW C g H (withoutL W t), withoutL D t, g, N⟩ := rfl
    rw [hg1, hg2]
    rw [hg2] at HQ
    clear HL HSK hg1 hg2
    go_enter Try.func13, Try.ntmps13
    go_wp2_with fail
    refine HW.out.mono ?_
    rintro e w1 ⟨rfl, rfl⟩
    clear HW
    go_upto_region 4 with (fail)
    go_cut [] (fun wx => Hid (∃ B1 d1 B3 d3, Sep B w wx (rgo p H C (withoutL W t) D g N B1 d1 A2 c2 B3 d3 A4 c4 ++ Rs) ∧ (withoutL W t).length ≤ d1 ∧ (withoutL W t).length ≤ d3))
    case first => as_aux_lemma =>
      have HDW : Hid (Calls Try.prog 30 #[.slice A1 W.length c1, .slice A3 W.length c3, .int .i64 t] wk.drew fun e wn => ∃ A1' c1' A2' c2', e = .returned (.tuple #[.slice A1' (withoutL W t).length c1', .slice A2' (withoutL W t).length c2']) ∧ Sep B w wn (nums (.slice A1' (withoutL W t).length c1') (withoutL W t) :: nums (.slice A2' (withoutL W t).length c2') ((withoutL W t).map g) :: (rgo p H C W D g N A1 c1 A2 c2 A3 c3 A4 c4 ++ Rs)) ∧ Below wk.drew.heap.size wk.drew wn ∧ (withoutL W t).length ≤ c1' ∧ (withoutL W t).length ≤ c2') := drop_s S0.out.drew (S0.out.drew.rd 1 rfl) (S0.out.drew.rd 3 rfl) t (by omega)
      clear S0 HDR HQ hlen f1 f3
      generalize withoutL W t = U at *
      refine HeldB.begin_ (fun V : World => V.cell? ⟨p, 2, none⟩ = some (.slice A1 W.length c1) ∧ V.cell? ⟨p, 4, none⟩ = some (.slice A3 W.length c3)) 17 (by kernel_rfl) ?_
      have hC : (fun V : World => V.cell? ⟨p, 2, none⟩ = some (.slice A1 W.length c1) ∧ V.cell? ⟨p, 4, none⟩ = some (.slice A3 W.length c3)) wk.drew := ⟨x2, x4⟩
      refine HeldB.take 0 (v := ?_) hC rfl (by kernel_rfl) (by kernel_rfl) (by kernel_rfl) (by kernel_rfl) (fun _ _ _ h => h) ?_ ?_; rotate_left; · (intro W hW; obtain ⟨k0, k1⟩ := hW; go_simp <;> with_reducible rfl)
      try simp only [Act.put, List.setIfInBounds_toArray, List.set_cons_zero, List.set_cons_succ]
      refine HeldB.take 2 (v := ?_) hC rfl (by kernel_rfl) (by kernel_rfl) (by kernel_rfl) (by kernel_rfl) (fun _ _ _ h => h) ?_ ?_; rotate_left; · (intro W hW; obtain ⟨k0, k1⟩ := hW; go_simp <;> with_reducible rfl)
      try simp only [Act.put, List.setIfInBounds_toArray, List.set_cons_zero, List.set_cons_succ]
      refine HeldB.take 3 (v := ?_) hC rfl (by kernel_rfl) (by kernel_rfl) (by kernel_rfl) (by kernel_rfl) (fun _ _ _ h => h) ?_ ?_; rotate_left; · (intro W hW; obtain ⟨k0, k1⟩ := hW; go_simp <;> with_reducible rfl)
      try simp only [Act.put, List.setIfInBounds_toArray, List.set_cons_zero, List.set_cons_succ]
      refine HeldB.take 4 (v := ?_) hC rfl (by kernel_rfl) (by kernel_rfl) (by kernel_rfl) (by kernel_rfl) (fun _ _ _ h => h) ?_ ?_; rotate_left; · (intro W hW; obtain ⟨k0, k1⟩ := hW; go_simp <;> with_reducible rfl)
      try simp only [Act.put, List.setIfInBounds_toArray, List.set_cons_zero, List.set_cons_succ]
      refine HeldB.take 5 (v := ?_) hC rfl (by kernel_rfl) (by kernel_rfl) (by kernel_rfl) (by kernel_rfl) (fun _ _ _ h => h) ?_ ?_; rotate_left; · (intro W hW; obtain ⟨k0, k1⟩ := hW; go_simp <;> with_reducible rfl)
      try simp only [Act.put, List.setIfInBounds_toArray, List.set_cons_zero, List.set_cons_succ]
      refine HeldB.take 6 (v := ?_) hC rfl (by kernel_rfl) (by kernel_rfl) (by kernel_rfl) (by kernel_rfl) (fun _ _ _ h => h) ?_ ?_; rotate_left; · (intro W hW; obtain ⟨k0, k1⟩ := hW; go_simp <;> with_reducible rfl)
      try simp only [Act.put, List.setIfInBounds_toArray, List.set_cons_zero, List.set_cons_succ]
      refine HeldB.take 7 (v := ?_) hC rfl (by kernel_rfl) (by kernel_rfl) (by kernel_rfl) (by kernel_rfl) (fun _ _ _ h => h) ?_ ?_; rotate_left; · (intro W hW; obtain ⟨k0, k1⟩ := hW; go_simp <;> with_reducible rfl)
      try simp only [Act.put, List.setIfInBounds_toArray, List.set_cons_zero, List.set_cons_succ]
      refine HeldB.take 8 (v := ?_) hC rfl (by kernel_rfl) (by kernel_rfl) (by kernel_rfl) (by kernel_rfl) (fun _ _ _ h => h) ?_ ?_; rotate_left; · (intro W hW; obtain ⟨k0, k1⟩ := hW; go_simp <;> with_reducible rfl)
      try simp only [Act.put, List.setIfInBounds_toArray, List.set_cons_zero, List.set_cons_succ]
      refine HeldB.take 9 (v := ?_) hC rfl (by kernel_rfl) (by kernel_rfl) (by kernel_rfl) (by kernel_rfl) (fun _ _ _ h => h) ?_ ?_; rotate_left; · (intro W hW; obtain ⟨k0, k1⟩ := hW; go_simp <;> with_reducible rfl)
      try simp only [Act.put, List.setIfInBounds_toArray, List.set_cons_zero, List.set_cons_succ]
      refine HeldB.take 10 (v := ?_) hC rfl (by kernel_rfl) (by kernel_rfl) (by kernel_rfl) (by kernel_rfl) (fun _ _ _ h => h) ?_ ?_; rotate_left; · (intro W hW; obtain ⟨k0, k1⟩ := hW; go_simp <;> with_reducible rfl)
      try simp only [Act.put, List.setIfInBounds_toArray, List.set_cons_zero, List.set_cons_succ]
      refine HeldB.quiet 1 (v := ?_) (fun _ => hC) rfl (by kernel_rfl) (by kernel_rfl) (by kernel_rfl) (by kernel_rfl) (fun _ _ _ h => h) ?_ ?_; rotate_left; · (intro W; go_simp <;> with_reducible rfl)
      try simp only [Act.put, List.setIfInBounds_toArray, List.set_cons_zero, List.set_cons_succ]
      refine HeldB.only 11 (by kernel_rfl) rfl ?_
      intro K hK
      go_simp
      go_at_call 30
      refine HDW.out.mono ?_
      rintro e w5 ⟨B1, d1, B3, d3, rfl, h5, hb5, g1, g3⟩
      have k2 := (cell_block (Sep.blk_at h5 2 rfl) 2).trans rfl
      have k4 := (cell_block (Sep.blk_at h5 2 rfl) 4).trans rfl
      have q2 := frozen_block (Sep.blk_at h5 2 rfl) 2
      have q4 := frozen_block (Sep.blk_at h5 2 rfl) 4
      have hp5 := lt_of_block (Sep.blk_at h5 2 rfl)
      have S5 : Hid (Sep B w ((w5.setCell ⟨p, 2, none⟩ (.slice B1 U.length d1)).setCell ⟨p, 4, none⟩ (.slice B3 U.length d3)) (rgo p H C U D g N B1 d1 A2 c2 B3 d3 A4 c4 ++ Rs)) := new_w ((h5.set 2 rfl 2 (.slice B1 U.length d1)).set 2 rfl 4 (.slice B3 U.length d3)) rfl
      have hC5 : (fun V : World => V.cell? ⟨p, 2, none⟩ = some (.slice A1 W.length c1) ∧ V.cell? ⟨p, 4, none⟩ = some (.slice A3 W.length c3)) w5 := ⟨k2, k4⟩
      clear h5 hb5
      refine hK.out _ _ (fun _ => hC5) ?_
      clear hK K
      try simp only [Act.put, List.setIfInBounds_toArray, List.set_cons_zero, List.set_cons_succ]
      refine HeldB.quiet 12 (v := ?_) (fun _ => hC5) rfl (by kernel_rfl) (by kernel_rfl) (by kernel_rfl) (by kernel_rfl) (fun _ _ _ h => h) ?_ ?_; rotate_left; · (intro W; go_simp <;> with_reducible rfl)
      try simp only [Act.put, List.setIfInBounds_toArray, List.set_cons_zero, List.set_cons_succ]
      refine HeldB.quiet 13 (v := ?_) (fun _ => hC5) rfl (by kernel_rfl) (by kernel_rfl) (by kernel_rfl) (by kernel_rfl) (fun _ _ _ h => h) ?_ ?_; rotate_left; · (intro W; go_simp <;> with_reducible rfl)
      try simp only [Act.put, List.setIfInBounds_toArray, List.set_cons_zero, List.set_cons_succ]
      refine HeldB.quiet 14 (v := ?_) (fun _ => hC5) rfl (by kernel_rfl) (by kernel_rfl) (by kernel_rfl) (by kernel_rfl) (fun _ _ _ h => h) ?_ ?_; rotate_left; · (intro W; go_simp <;> with_reducible rfl)
      try simp only [Act.put, List.setIfInBounds_toArray, List.set_cons_zero, List.set_cons_succ]
      refine HeldB.quiet 15 (v := ?_) (fun _ => hC5) rfl (by kernel_rfl) (by kernel_rfl) (by kernel_rfl) (by kernel_rfl) (fun _ _ _ h => h) ?_ ?_; rotate_left; · (intro W; go_simp <;> with_reducible rfl)
      try simp only [Act.put, List.setIfInBounds_toArray, List.set_cons_zero, List.set_cons_succ]
      refine HeldB.quiet 16 (v := ?_) (fun _ => hC5) rfl (by kernel_rfl) (by kernel_rfl) (by kernel_rfl) (by kernel_rfl) (fun _ _ _ h => h) ?_ ?_; rotate_left; · (intro W; go_simp <;> with_reducible rfl)
      try simp only [Act.put, List.setIfInBounds_toArray, List.set_cons_zero, List.set_cons_succ]
      refine HeldB.only 17 (by kernel_rfl) rfl ?_
      intro K hK
      go_simp
      refine hK.out _ _ (fun h => absurd h (by decide)) ?_
      clear hK K
      try simp only [Act.put, List.setIfInBounds_toArray, List.set_cons_zero, List.set_cons_succ]
      refine HeldB.quiet 18 (v := ?_) (fun h => absurd h (by decide)) rfl (by kernel_rfl) (by kernel_rfl) (by kernel_rfl) (by kernel_rfl) (fun _ _ _ h => h) ?_ ?_; rotate_left; · (intro W; go_simp <;> with_reducible rfl)
      try simp only [Act.put, List.setIfInBounds_toArray, List.set_cons_zero, List.set_cons_succ]
      refine HeldB.quiet 19 (v := ?_) (fun h => absurd h (by decide)) rfl (by kernel_rfl) (by kernel_rfl) (by kernel_rfl) (by kernel_rfl) (fun _ _ _ h => h) ?_ ?_; rotate_left; · (intro W; go_simp <;> with_reducible rfl)
      try simp only [Act.put, List.setIfInBounds_toArray, List.set_cons_zero, List.set_cons_succ]
      refine HeldB.only 20 (by kernel_rfl) rfl ?_
      intro K hK
      go_simp
      refine hK.out _ _ (fun h => absurd h (by decide)) ?_
      clear hK K
      try simp only [Act.put, List.setIfInBounds_toArray, List.set_cons_zero, List.set_cons_succ]
      refine HeldB.done (by kernel_rfl) ?_ _
      go_wp2_with fail
      go_meet
      exact ⟨_, _, _, _, S5.out, g1, g3⟩
    case rest => as_aux_lemma =>
      obtain ⟨B1, d1, B3, d3, hs, f1, f3⟩ := hcut.out
      clear S0 hcut x0 x1 x2 x3 x4 x5 x6 fr hpl
      have S0 := Lib.hid hs
      obtain ⟨x0, x1, x2, x3, x4, x5, x6, fr, hpl⟩ := rgo_cs hs
      clear hs
      have HUL : Hid ((withoutL W t).length ≤ 1000) := Nat.le_trans (wo_le W t) (by omega)
      go_upto_region 5 with (fail)
      go_cut [] (fun wx => Hid (∃ E2 e2 E4 e4, Sep B w wx (rgo p H C (withoutL W t) (withoutL D t) g N B1 d1 E2 e2 B3 d3 E4 e4 ++ Rs)))
      case first => as_aux_lemma =>
        have HDW : Hid (Calls Try.prog 30 #[.slice A2 D.length c2, .slice A4 D.length c4, .int .i64 t] wc.drew fun e wn => ∃ A1' c1' A2' c2', e = .returned (.tuple #[.slice A1' (withoutL D t).length c1', .slice A2' (withoutL D t).length c2']) ∧ Sep B w wn (nums (.slice A1' (withoutL D t).length c1') (withoutL D t) :: nums (.slice A2' (withoutL D t).length c2') ((withoutL D t).map g) :: (rgo p H C (withoutL W t) D g N B1 d1 A2 c2 B3 d3 A4 c4 ++ Rs)) ∧ Below wc.drew.heap.size wc.drew wn ∧ (withoutL D t).length ≤ c1' ∧ (withoutL D t).length ≤ c2') := drop_s S0.out.drew (S0.out.drew.rd 2 rfl) (S0.out.drew.rd 4 rfl) t (by omega)
        clear S0 HDR HQ hlen f1 f3 HUL
        generalize withoutL D t = U at *
        generalize withoutL W t = W2 at *
        refine HeldB.begin_ (fun V : World => V.cell? ⟨p, 3, none⟩ = some (.slice A2 D.length c2) ∧ V.cell? ⟨p, 5, none⟩ = some (.slice A4 D.length c4)) 17 (by kernel_rfl) ?_
        have hC : (fun V : World => V.cell? ⟨p, 3, none⟩ = some (.slice A2 D.length c2) ∧ V.cell? ⟨p, 5, none⟩ = some (.slice A4 D.length c4)) wc.drew := ⟨x3, x5⟩
        refine HeldB.take 0 (v := ?_) hC rfl (by kernel_rfl) (by kernel_rfl) (by kernel_rfl) (by kernel_rfl) (fun _ _ _ h => h) ?_ ?_; rotate_left; · (intro W hW; obtain ⟨k0, k1⟩ := hW; go_simp <;> with_reducible rfl)
        try simp only [Act.put, List.setIfInBounds_toArray, List.set_cons_zero, List.set_cons_succ]
        refine HeldB.take 2 (v := ?_) hC rfl (by kernel_rfl) (by kernel_rfl) (by kernel_rfl) (by kernel_rfl) (fun _ _ _ h => h) ?_ ?_; rotate_left; · (intro W hW; obtain ⟨k0, k1⟩ := hW; go_simp <;> with_reducible rfl)
        try simp only [Act.put, List.setIfInBounds_toArray, List.set_cons_zero, List.set_cons_succ]
        refine HeldB.take 3 (v := ?_) hC rfl (by kernel_rfl) (by kernel_rfl) (by kernel_rfl) (by kernel_rfl) (fun _ _ _ h => h) ?_ ?_; rotate_left; · (intro W hW; obtain ⟨k0, k1⟩ := hW; go_simp <;> with_reducible rfl)
        try simp only [Act.put, List.setIfInBounds_toArray, List.set_cons_zero, List.set_cons_succ]
        refine HeldB.take 4 (v := ?_) hC rfl (by kernel_rfl) (by kernel_rfl) (by kernel_rfl) (by kernel_rfl) (fun _ _ _ h => h) ?_ ?_; rotate_left; · (intro W hW; obtain ⟨k0, k1⟩ := hW; go_simp <;> with_reducible rfl)
        try simp only [Act.put, List.setIfInBounds_toArray, List.set_cons_zero, List.set_cons_succ]
        refine HeldB.take 5 (v := ?_) hC rfl (by kernel_rfl) (by kernel_rfl) (by kernel_rfl) (by kernel_rfl) (fun _ _ _ h => h) ?_ ?_; rotate_left; · (intro W hW; obtain ⟨k0, k1⟩ := hW; go_simp <;> with_reducible rfl)
        try simp only [Act.put, List.setIfInBounds_toArray, List.set_cons_zero, List.set_cons_succ]
        refine HeldB.take 6 (v := ?_) hC rfl (by kernel_rfl) (by kernel_rfl) (by kernel_rfl) (by kernel_rfl) (fun _ _ _ h => h) ?_ ?_; rotate_left; · (intro W hW; obtain ⟨k0, k1⟩ := hW; go_simp <;> with_reducible rfl)
        try simp only [Act.put, List.setIfInBounds_toArray, List.set_cons_zero, List.set_cons_succ]
        refine HeldB.take 7 (v := ?_) hC rfl (by kernel_rfl) (by kernel_rfl) (by kernel_rfl) (by kernel_rfl) (fun _ _ _ h => h) ?_ ?_; rotate_left; · (intro W hW; obtain ⟨k0, k1⟩ := hW; go_simp <;> with_reducible rfl)
        try simp only [Act.put, List.setIfInBounds_toArray, List.set_cons_zero, List.set_cons_succ]
        refine HeldB.take 8 (v := ?_) hC rfl (by kernel_rfl) (by kernel_rfl) (by kernel_rfl) (by kernel_rfl) (fun _ _ _ h => h) ?_ ?_; rotate_left; · (intro W hW; obtain ⟨k0, k1⟩ := hW; go_simp <;> with_reducible rfl)
        try simp only [Act.put, List.setIfInBounds_toArray, List.set_cons_zero, List.set_cons_succ]
        refine HeldB.take 9 (v := ?_) hC rfl (by kernel_rfl) (by kernel_rfl) (by kernel_rfl) (by kernel_rfl) (fun _ _ _ h => h) ?_ ?_; rotate_left; · (intro W hW; obtain ⟨k0, k1⟩ := hW; go_simp <;> with_reducible rfl)
        try simp only [Act.put, List.setIfInBounds_toArray, List.set_cons_zero, List.set_cons_succ]
        refine HeldB.take 10 (v := ?_) hC rfl (by kernel_rfl) (by kernel_rfl) (by kernel_rfl) (by kernel_rfl) (fun _ _ _ h => h) ?_ ?_; rotate_left; · (intro W hW; obtain ⟨k0, k1⟩ := hW; go_simp <;> with_reducible rfl)
        try simp only [Act.put, List.setIfInBounds_toArray, List.set_cons_zero, List.set_cons_succ]
        refine HeldB.quiet 1 (v := ?_) (fun _ => hC) rfl (by kernel_rfl) (by kernel_rfl) (by kernel_rfl) (by kernel_rfl) (fun _ _ _ h => h) ?_ ?_; rotate_left; · (intro W; go_simp <;> with_reducible rfl)
        try simp only [Act.put, List.setIfInBounds_toArray, List.set_cons_zero, List.set_cons_succ]
        refine HeldB.only 11 (by kernel_rfl) rfl ?_
        intro K hK
        go_simp
        go_at_call 30
        refine HDW.out.mono ?_
        rintro e w5 ⟨B2, e2, B4, e4, rfl, h5, hb5, g1, g3⟩
        have k2 := (cell_block (Sep.blk_at h5 2 rfl) 3).trans rfl
        have k4 := (cell_block (Sep.blk_at h5 2 rfl) 5).trans rfl
        have q2 := frozen_block (Sep.blk_at h5 2 rfl) 3
        have q4 := frozen_block (Sep.blk_at h5 2 rfl) 5
        have hp5 := lt_of_block (Sep.blk_at h5 2 rfl)
        have S5 : Hid (Sep B w ((w5.setCell ⟨p, 3, none⟩ (.slice B2 U.length e2)).setCell ⟨p, 5, none⟩ (.slice B4 U.length e4)) (rgo p H C W2 U g N B1 d1 B2 e2 B3 d3 B4 e4 ++ Rs)) := new_d ((h5.set 2 rfl 3 (.slice B2 U.length e2)).set 2 rfl 5 (.slice B4 U.length e4)) rfl
        have hC5 : (fun V : World => V.cell? ⟨p, 3, none⟩ = some (.slice A2 D.length c2) ∧ V.cell? ⟨p, 5, none⟩ = some (.slice A4 D.length c4)) w5 := ⟨k2, k4⟩
        clear h5 hb5
        refine hK.out _ _ (fun _ => hC5) ?_
        clear hK K
        try simp only [Act.put, List.setIfInBounds_toArray, List.set_cons_zero, List.set_cons_succ]
        refine HeldB.quiet 12 (v := ?_) (fun _ => hC5) rfl (by kernel_rfl) (by kernel_rfl) (by kernel_rfl) (by kernel_rfl) (fun _ _ _ h => h) ?_ ?_; rotate_left; · (intro W; go_simp <;> with_reducible rfl)
        try simp only [Act.put, List.setIfInBounds_toArray, List.set_cons_zero, List.set_cons_succ]
        refine HeldB.quiet 13 (v := ?_) (fun _ => hC5) rfl (by kernel_rfl) (by kernel_rfl) (by kernel_rfl) (by kernel_rfl) (fun _ _ _ h => h) ?_ ?_; rotate_left; · (intro W; go_simp <;> with_reducible rfl)
        try simp only [Act.put, List.setIfInBounds_toArray, List.set_cons_zero, List.set_cons_succ]
        refine HeldB.quiet 14 (v := ?_) (fun _ => hC5) rfl (by kernel_rfl) (by kernel_rfl) (by kernel_rfl) (by kernel_rfl) (fun _ _ _ h => h) ?_ ?_; rotate_left; · (intro W; go_simp <;> with_reducible rfl)
        try simp only [Act.put, List.setIfInBounds_toArray, List.set_cons_zero, List.set_cons_succ]
        refine HeldB.quiet 15 (v := ?_) (fun _ => hC5) rfl (by kernel_rfl) (by kernel_rfl) (by kernel_rfl) (by kernel_rfl) (fun _ _ _ h => h) ?_ ?_; rotate_left; · (intro W; go_simp <;> with_reducible rfl)
        try simp only [Act.put, List.setIfInBounds_toArray, List.set_cons_zero, List.set_cons_succ]
        refine HeldB.quiet 16 (v := ?_) (fun _ => hC5) rfl (by kernel_rfl) (by kernel_rfl) (by kernel_rfl) (by kernel_rfl) (fun _ _ _ h => h) ?_ ?_; rotate_left; · (intro W; go_simp <;> with_reducible rfl)
        try simp only [Act.put, List.setIfInBounds_toArray, List.set_cons_zero, List.set_cons_succ]
        refine HeldB.only 17 (by kernel_rfl) rfl ?_
        intro K hK
        go_simp
        refine hK.out _ _ (fun h => absurd h (by decide)) ?_
        clear hK K
        try simp only [Act.put, List.setIfInBounds_toArray, List.set_cons_zero, List.set_cons_succ]
        refine HeldB.quiet 18 (v := ?_) (fun h => absurd h (by decide)) rfl (by kernel_rfl) (by kernel_rfl) (by kernel_rfl) (by kernel_rfl) (fun _ _ _ h => h) ?_ ?_; rotate_left; · (intro W; go_simp <;> with_reducible rfl)
        try simp only [Act.put, List.setIfInBounds_toArray, List.set_cons_zero, List.set_cons_succ]
        refine HeldB.quiet 19 (v := ?_) (fun h => absurd h (by decide)) rfl (by kernel_rfl) (by kernel_rfl) (by kernel_rfl) (by kernel_rfl) (fun _ _ _ h => h) ?_ ?_; rotate_left; · (intro W; go_simp <;> with_reducible rfl)
        try simp only [Act.put, List.setIfInBounds_toArray, List.set_cons_zero, List.set_cons_succ]
        refine HeldB.only 20 (by kernel_rfl) rfl ?_
        intro K hK
        go_simp
        refine hK.out _ _ (fun h => absurd h (by decide)) ?_
        clear hK K
        try simp only [Act.put, List.setIfInBounds_toArray, List.set_cons_zero, List.set_cons_succ]
        refine HeldB.done (by kernel_rfl) ?_ _
        go_wp2_with fail
        go_meet
        exact ⟨_, _, _, _, S5.out⟩
      case rest => as_aux_lemma =>
        obtain ⟨E2, e2, E4, e4, hs⟩ := hcut.out
        have HOK := HDR.out
        have HG := Lib.hid (give_o hs f1 f3 HOK.h0 HOK.h1 HOK.c1 HOK.gw HUL.out)
        clear hs hcut S0 x0 x1 x2 x3 x4 x5 x6 fr hpl HDR HOK
        go_wp2_with fail
        refine HG.out.mono ?_
        rintro e w1 ⟨A, c, F1, m1, F3, m3, rfl, h1, g1, g3⟩
        have HF : Hid (Sep B w w1 (nums (.slice A (givL C g H (withoutL W t)).length c) (givL C g H (withoutL W t)) :: rg p ⟨givH C g H (withoutL W t), C, givW C g H (withoutL W t), withoutL D t, g, N⟩ :: Rs)) := by
          have h2 : Sep B w w1 ((rgo p (givH C g H (withoutL W t)) C (givW C g H (withoutL W t)) (withoutL D t) g N F1 m1 E2 e2 F3 m3 E4 e4 ++ [nums (.slice A (givL C g H (withoutL W t)).length c) (givL C g H (withoutL W t))]) ++ Rs) := h1.perm (by exact (List.perm_append_comm (l₁ := [_]) (l₂ := rgo p (givH C g H (withoutL W t)) C (givW C g H (withoutL W t)) (withoutL D t) g N F1 m1 E2 e2 F3 m3 E4 e4)).append_right Rs)
          rw [List.append_assoc] at h2
          exact (rg_close (s := ⟨givH C g H (withoutL W t), C, givW C g H (withoutL W t), withoutL D t, g, N⟩) h2 HQ.out g1 g3).swap
        clear h1 HG
        go_wp2
        go_ret2
        exact ⟨_, _, rfl, HF.out⟩
end
end Go.Proofs.Ytaplikopapnlpaa.RefSema
