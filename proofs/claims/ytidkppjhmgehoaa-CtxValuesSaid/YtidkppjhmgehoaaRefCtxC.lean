/-
  Contracts of the functions of package countermandref06 (the document's answer for layer 6), third part: a new arena, and a new context. Condition: the arena is at hand.
-/
import Derived.Test.YtidkppjhmgehoaaRefCtxB
import Derived.Test.YtidkppjhmgehoaaHeld
namespace Go.Proofs.Ytidkppjhmgehoaa.RefCtx
open Go.ChangeShapes Go.WideShapes Go.ChangeAt Go.RowKit Mem TreeP RefTree CtxP Hand TreeI

/-- Two new blocks: the empty row, then the row of one thing; and the other way round. -/
theorem two_newL {α : Type} {E : Enc α} (w : World) {e : TypeId} (a : α) {cs : Array Value} (hc : cs.toList = E.cells a) :
    OwnL E ((w.alloc (.cells #[] e)).alloc (.cells cs e)).drew w.heap.size e (.slice (some ⟨w.heap.size, 0, none⟩) 0 0) ([] : List α) ∧
    RdL E ((w.alloc (.cells #[] e)).alloc (.cells cs e)).drew (fun b => b ≠ w.heap.size) (.slice (some ⟨w.heap.size + 1, 0, none⟩) 1 1) [a] ∧
    Below w.heap.size w ((w.alloc (.cells #[] e)).alloc (.cells cs e)).drew ∧
    OwnL E ((w.alloc (.cells cs e)).alloc (.cells #[] e)).drew w.heap.size e (.slice (some ⟨w.heap.size + 1, 0, none⟩) 0 0) ([] : List α) ∧
    RdL E ((w.alloc (.cells cs e)).alloc (.cells #[] e)).drew (fun b => b ≠ w.heap.size + 1) (.slice (some ⟨w.heap.size, 0, none⟩) 1 1) [a] ∧
    Below w.heap.size w ((w.alloc (.cells cs e)).alloc (.cells #[] e)).drew := by
  have e1 : (w.alloc (.cells #[] e)).heap.size = w.heap.size + 1 := by simp
  have e2 : (w.alloc (.cells cs e)).heap.size = w.heap.size + 1 := by simp
  refine ⟨((OwnL.lit0 (E := E) w _ e (Nat.le_refl _)).alloc _).drew, ?_, (((Below.refl _ _).alloc (Nat.le_refl _) _).alloc (by simp) _).drew, ?_, ((RdL.lit1 (E := E) w e a hc (fun b => b ≠ w.heap.size + 1) (by omega)).alloc _).drew, (((Below.refl _ _).alloc (Nat.le_refl _) _).alloc (by simp) _).drew⟩
  · have := (RdL.lit1 (E := E) (w.alloc (.cells #[] e)) e a hc (fun b => b ≠ w.heap.size) (by rw [e1]; omega)).drew
    rw [e1] at this
    exact this
  · have := (OwnL.lit0 (E := E) (w.alloc (.cells cs e)) w.heap.size e (by rw [e2]; omega)).drew
    rw [e2] at this
    exact this

theorem ownL_base0 {α : Type} {E : Enc α} {w : World} {base : Nat} {e : TypeId} {v : Value} {xs : List α} (h : OwnL E w base e v xs) : OwnL E w 0 e v xs := by
  refine ⟨h.1, ?_⟩
  rcases h.2 with h0 | ⟨g, cap, cur, rfl, hb, rest⟩
  · exact .inl h0
  · exact .inr ⟨g, cap, cur, rfl, Nat.zero_le _, rest⟩

set_option maxRecDepth 100000 in
set_option maxHeartbeats 4000000 in
theorem with_s {B : Nat → Prop} {w wk : World} {Rs : List Res} {p : Nat} {T : List Nd} {X : List Cn} {M : Int} (h : Sep B w wk (rx p T X M :: Rs)) (over : Int) (cut : Bool) (x : Cn) (now : Int) :
    Calls Try.prog 35 #[.pointer (some ⟨p, 0, none⟩), .int .i64 over, .bool cut, x.val, .int .i64 now] wk fun r wn => r = .returned (.tuple #[.int .i64 (addV T M over), .int .i64 (addE T M over)]) ∧ Sep B w wn (rx p (addL T M over cut) (withX T X M over cut x now) M :: Rs) := by
  obtain ⟨q, u, hs, hlen, hok⟩ := rx_open h
  obtain ⟨Ax, cx, rfl⟩ := (hs.own 2 rfl).form
  have hm : X.length ≤ 200 := by have := hok.len; have := hok.m1; omega
  have HOK := Lib.hid hok
  have HLEN := Lib.hid hlen
  have S0 := Lib.hid (hs.new (.cells #[.int .i64 x.e, .int .i64 x.cause, .bool x.has, .int .i64 x.at_, .int .i64 x.why, .bool x.named, .int .i64 x.key, .int .i64 x.value] 45))
  have HWX : Hid (withX T X M over cut x now = if addE T M over = 0 then (if lateC (newC X over cut x) now = true then endX (addL T M over cut) (X ++ [newC X over cut x]) T.length 11 (newC X over cut x).why else X ++ [newC X over cut x]) else X) := rfl
  have HNC : Hid (newC X over cut x = if cut = false ∧ (cn X over).e ≠ 0 then { x with e := (cn X over).e, cause := (cn X over).cause } else x) := rfl
  have hTl : T.length ≤ 100000 := by omega
  clear h hs hok
  simp only [Cn.val]
  go_enter Try.func35, Try.ntmps35
  have k0 := (cell_block (S0.out.blk_at 1 rfl) 0).trans rfl
  go_wp2_with fail
  refine (r_add S0.out 2 rfl hTl over cut rfl rfl rfl).mono ?_
  rintro r w1 ⟨rfl, h1⟩
  have S1 := Lib.hid h1
  generalize hbx : wk.heap.size = bx at *
  clear h1 S0 k0 hbx
  by_cases hE : addE T M over = 0
  · have hth : there T over = true := by
      unfold addE at hE
      by_cases ht : there T over = true
      · exact ht
      · rw [if_neg ht] at hE; omega
    obtain ⟨i, rfl, hi⟩ := there_nat hth
    have hiX : i < X.length := by omega
    have HE := Lib.hid hE
    have HTL : Hid (addV T M i = T.length ∧ addL T M i cut = T ++ [⟨i, cut⟩]) := by
      have hlt : (T.length : Int) < M := by
        unfold addE putE at hE
        rw [if_pos hth] at hE
        by_cases hl : (T.length : Int) < M
        · exact hl
        · rw [if_neg hl] at hE; omega
      unfold addV addL putV putL
      rw [if_pos hth, if_pos hth, if_pos hlt, if_pos hlt]
      exact ⟨rfl, rfl⟩
    have HOK2 := Lib.hid (HOK.out.add i cut)
    have HWX2 : Hid (withX T X M i cut x now = if lateC (newC X i cut x) now = true then endX (addL T M i cut) (X ++ [newC X i cut x]) T.length 11 (newC X i cut x).why else X ++ [newC X i cut x]) := by show _ = _; rw [HWX.out, if_pos HE.out]
    rw [HE.out, HTL.out.1]
    have k1 := (cell_block (S1.out.blk_at 1 rfl) 1).trans rfl
    obtain ⟨bb, cb, eA, _, hcell, _⟩ := S1.out.elem 3 rfl (cn_at hiX)
    obtain ⟨rfl, rfl⟩ : Ax = some ⟨bb, 0, none⟩ ∧ cx = cb := by injection eA with e1 e2 e3; exact ⟨e1, e3⟩
    have d0 : w1.cell? ⟨bb, i * 8, none⟩ = some (.int .i64 (cn X (i : Nat)).e) := hcell 0 _ rfl
    have d1 : w1.cell? ⟨bb, i * 8 + 1, none⟩ = some (.int .i64 (cn X (i : Nat)).cause) := hcell 1 _ rfl
    have i0 : (0 : Int) ≤ (i : Int) := by omega
    have i1 : (i : Int) < (X.length : Int) := by omega
    obtain ⟨t, ht⟩ : ∃ t, (!cut && decide ((cn X (i : Nat)).e ≠ 0)) = t := ⟨_, rfl⟩
    have HT := Lib.hid ht
    have HNC2 : Hid (newC X i cut x = if t = true then { x with e := (cn X (i : Nat)).e, cause := (cn X (i : Nat)).cause } else x) := by
      show _ = _
      rw [HNC.out, ← HT.out]
      cases cut <;> simp
    generalize (cn X (i : Nat)).e = xe at *
    generalize (cn X (i : Nat)).cause = xcs at *
    generalize newC X i cut x = y at *
    clear hcell eA hE hth ht HNC HWX
    go_upto_region 4 with (fail)
    go_cut [40] (fun s40 wx => s40 = .bool t ∧ wx = w1)
    case first =>
      cases cut with
      | true =>
        have ht : t = false := by rw [← HT.out]; rfl
        subst ht
        go_wp2_with fail
        go_meet
        exact ⟨rfl, rfl⟩
      | false =>
        by_cases hx0 : xe = 0
        · have ht : t = false := by rw [← HT.out, hx0]; rfl
          subst ht
          subst hx0
          go_wp2_with fail
          go_meet
          exact ⟨rfl, rfl⟩
        · have ht : t = true := by rw [← HT.out]; simp [hx0]
          subst ht
          have e1 : (xe == 0) = false := by simpa using hx0
          have e2 : (xe != 0) = true := by simpa using hx0
          clear hx0
          go_wp2_with fail
          go_meet
          exact ⟨rfl, rfl⟩
    case rest =>
    obtain ⟨rfl, hwc⟩ := hcut
    have hwc' := hwc.symm
    subst hwc'
    clear hwc
    go_upto_if 40 with (fail)
    go_cut [] (fun wx => Hid (Sep B w wx (blk bx (.cells #[.int .i64 y.e, .int .i64 y.cause, .bool y.has, .int .i64 y.at_, .int .i64 y.why, .bool y.named, .int .i64 y.key, .int .i64 y.value] 45) :: blk p (.cells #[.pointer (some ⟨q, 0, none⟩), .slice (some ⟨bb, 0, none⟩) X.length cx] 42) :: rt q (addL T M i cut) M :: grow cnE 45 (.slice (some ⟨bb, 0, none⟩) X.length cx) X :: Rs)))
    case first =>
      cases t with
      | false =>
        have hy : y = x := by rw [HNC2.out]; rfl
        subst hy
        go_wp2_with fail
        go_meet
        exact S1.out
      | true =>
        have hy : y = { x with e := xe, cause := xcs } := by rw [HNC2.out]; rfl
        subst hy
        have b0 := (cell_block (S1.out.blk_at 0 rfl) 0).trans rfl
        have f0 := frozen_block (S1.out.blk_at 0 rfl) 0
        have f1 := frozen_block (S1.out.blk_at 0 rfl) 1
        have b1 := (cell_block (S1.out.blk_at 0 rfl) 1).trans rfl
        have S2 := Lib.hid (S1.out.set 0 rfl 0 (.int .i64 xe))
        have k2 := (cell_block (S2.out.blk_at 1 rfl) 1).trans rfl
        obtain ⟨bq, cq, eq, _, hcq, _⟩ := S2.out.elem 3 rfl (cn_at hiX)
        obtain ⟨rfl, rfl⟩ : bb = bq ∧ cx = cq := by injection eq with e1 e2 e3; injection e1 with e1; injection e1 with e1; exact ⟨e1, e3⟩
        have d2 := hcq 1 _ rfl
        clear hcq eq
        go_wp2_with fail
        go_meet
        exact S2.out.set 0 rfl 1 (.int .i64 xcs)
    case rest =>
    have S2 := Lib.hid hcut.out
    clear S1 hcut d0 d1 k1
    generalize wc = w0 at *
    have hbp := S2.out.blk_at 1 rfl
    have hbb := S2.out.blk_at 0 rfl
    have hpl := lt_of_block hbp
    have hxl := lt_of_block hbb
    generalize hAx : (some ⟨bb, 0, none⟩ : Option Addr) = Ax at *
    have HC : Hid (∀ W, Below w0.heap.size w0 W → (fun W : World => W.cell? ⟨p, 1, none⟩ = some (.slice Ax X.length cx) ∧ W.cell? ⟨bx, 0, none⟩ = some (.int .i64 y.e) ∧ W.cell? ⟨bx, 1, none⟩ = some (.int .i64 y.cause) ∧ W.cell? ⟨bx, 2, none⟩ = some (.bool y.has) ∧ W.cell? ⟨bx, 3, none⟩ = some (.int .i64 y.at_) ∧ W.cell? ⟨bx, 4, none⟩ = some (.int .i64 y.why) ∧ W.cell? ⟨bx, 5, none⟩ = some (.bool y.named) ∧ W.cell? ⟨bx, 6, none⟩ = some (.int .i64 y.key) ∧ W.cell? ⟨bx, 7, none⟩ = some (.int .i64 y.value)) W) := fun W hb => ⟨(hb.cell (p := ⟨p, 1, none⟩) hpl).trans ((cell_block hbp 1).trans rfl), (hb.cell (p := ⟨bx, 0, none⟩) hxl).trans ((cell_block hbb 0).trans rfl), (hb.cell (p := ⟨bx, 1, none⟩) hxl).trans ((cell_block hbb 1).trans rfl), (hb.cell (p := ⟨bx, 2, none⟩) hxl).trans ((cell_block hbb 2).trans rfl), (hb.cell (p := ⟨bx, 3, none⟩) hxl).trans ((cell_block hbb 3).trans rfl), (hb.cell (p := ⟨bx, 4, none⟩) hxl).trans ((cell_block hbb 4).trans rfl), (hb.cell (p := ⟨bx, 5, none⟩) hxl).trans ((cell_block hbb 5).trans rfl), (hb.cell (p := ⟨bx, 6, none⟩) hxl).trans ((cell_block hbb 6).trans rfl), (hb.cell (p := ⟨bx, 7, none⟩) hxl).trans ((cell_block hbb 7).trans rfl)⟩
    have HFZ : Hid (∀ W, Below w0.heap.size w0 W → W.frozen? ⟨p, 1, none⟩ = false) := fun W hb => (hb.frozen (p := ⟨p, 1, none⟩) hpl).trans (frozen_block hbp 1)
    have HR0 : Hid (RdL cnE w0 (fun _ => True) (.slice Ax X.length cx) X) := (S2.out.own 3 rfl).rd (by omega) fun _ _ => trivial
    have HK7 : Hid (∀ A3 c3 w3, OwnL cnE w3 w0.heap.size 45 (.slice A3 (X.length + 1) c3) (X ++ [y]) → Below w0.heap.size w0 w3 → Sep B w (w3.setCell ⟨p, 1, none⟩ (.slice A3 (X.length + 1) c3)) (blk bx (.cells #[.int .i64 y.e, .int .i64 y.cause, .bool y.has, .int .i64 y.at_, .int .i64 y.why, .bool y.named, .int .i64 y.key, .int .i64 y.value] 45) :: blk p (.cells #[.pointer (some ⟨q, 0, none⟩), .slice A3 (X.length + 1) c3] 42) :: rt q (addL T M i cut) M :: grow cnE 45 (.slice A3 (X.length + 1) c3) (X ++ [y]) :: Rs)) := fun A3 c3 w3 ho hb => by
      have h1 := (S2.out.add hb (R := grow cnE 45 (.slice A3 (X.length + 1) c3) (X ++ [y])) ⟨ownL_base0 ho, rfl⟩ fun k hk => (ho.lt k hk).1).set 2 rfl 1 (.slice A3 (X.length + 1) c3)
      have h2 := h1.perm (show List.Perm (_ :: _ :: _ :: _ :: _ :: Rs) _ from (List.Perm.swap _ _ _).trans (((List.Perm.swap _ _ _).cons _).trans (((List.Perm.swap _ _ _).cons _).cons _)))
      exact h2.sub (.cons_cons _ (.cons_cons _ (.cons_cons _ (.cons_cons _ (.cons _ (List.Sublist.refl Rs))))))
    clear hbp hbb
    go_upto_region 7 with (fail)
    go_cut [] (fun wx => Hid (∃ A3 c3, Sep B w wx (blk bx (.cells #[.int .i64 y.e, .int .i64 y.cause, .bool y.has, .int .i64 y.at_, .int .i64 y.why, .bool y.named, .int .i64 y.key, .int .i64 y.value] 45) :: blk p (.cells #[.pointer (some ⟨q, 0, none⟩), .slice A3 (X.length + 1) c3] 42) :: rt q (addL T M i cut) M :: grow cnE 45 (.slice A3 (X.length + 1) c3) (X ++ [y]) :: Rs)))
    case first =>
      have HT2 := Lib.hid (two_newL (E := cnE) w0 (e := 45) y (cs := #[.int .i64 y.e, .int .i64 y.cause, .bool y.has, .int .i64 y.at_, .int .i64 y.why, .bool y.named, .int .i64 y.key, .int .i64 y.value]) rfl)
      refine Held.begin_ (fun W : World => W.cell? ⟨p, 1, none⟩ = some (.slice Ax X.length cx) ∧ W.cell? ⟨bx, 0, none⟩ = some (.int .i64 y.e) ∧ W.cell? ⟨bx, 1, none⟩ = some (.int .i64 y.cause) ∧ W.cell? ⟨bx, 2, none⟩ = some (.bool y.has) ∧ W.cell? ⟨bx, 3, none⟩ = some (.int .i64 y.at_) ∧ W.cell? ⟨bx, 4, none⟩ = some (.int .i64 y.why) ∧ W.cell? ⟨bx, 5, none⟩ = some (.bool y.named) ∧ W.cell? ⟨bx, 6, none⟩ = some (.int .i64 y.key) ∧ W.cell? ⟨bx, 7, none⟩ = some (.int .i64 y.value)) 12 (by kernel_rfl) ?_
      have hC : (fun W : World => W.cell? ⟨p, 1, none⟩ = some (.slice Ax X.length cx) ∧ W.cell? ⟨bx, 0, none⟩ = some (.int .i64 y.e) ∧ W.cell? ⟨bx, 1, none⟩ = some (.int .i64 y.cause) ∧ W.cell? ⟨bx, 2, none⟩ = some (.bool y.has) ∧ W.cell? ⟨bx, 3, none⟩ = some (.int .i64 y.at_) ∧ W.cell? ⟨bx, 4, none⟩ = some (.int .i64 y.why) ∧ W.cell? ⟨bx, 5, none⟩ = some (.bool y.named) ∧ W.cell? ⟨bx, 6, none⟩ = some (.int .i64 y.key) ∧ W.cell? ⟨bx, 7, none⟩ = some (.int .i64 y.value)) w0.drew := HC.out _ (Below.refl _ _).drew
      refine Held.take 0 (v := ?_) hC rfl (by kernel_rfl) (by kernel_rfl) (by kernel_rfl) (by kernel_rfl) (fun _ _ _ h => h) ?_ ?_; rotate_left; · (intro W hW; obtain ⟨k1, b0, b1, b2, b3, b4, b5, b6, b7⟩ := hW; go_simp <;> with_reducible rfl)
      try simp only [Act.put, List.setIfInBounds_toArray, List.set_cons_zero, List.set_cons_succ]
      refine Held.take 2 (v := ?_) hC rfl (by kernel_rfl) (by kernel_rfl) (by kernel_rfl) (by kernel_rfl) (fun _ _ _ h => h) ?_ ?_; rotate_left; · (intro W hW; obtain ⟨k1, b0, b1, b2, b3, b4, b5, b6, b7⟩ := hW; go_simp <;> with_reducible rfl)
      try simp only [Act.put, List.setIfInBounds_toArray, List.set_cons_zero, List.set_cons_succ]
      refine Held.take 3 (v := ?_) hC rfl (by kernel_rfl) (by kernel_rfl) (by kernel_rfl) (by kernel_rfl) (fun _ _ _ h => h) ?_ ?_; rotate_left; · (intro W hW; obtain ⟨k1, b0, b1, b2, b3, b4, b5, b6, b7⟩ := hW; go_simp <;> with_reducible rfl)
      try simp only [Act.put, List.setIfInBounds_toArray, List.set_cons_zero, List.set_cons_succ]
      refine Held.take 4 (v := ?_) hC rfl (by kernel_rfl) (by kernel_rfl) (by kernel_rfl) (by kernel_rfl) (fun _ _ _ h => h) ?_ ?_; rotate_left; · (intro W hW; obtain ⟨k1, b0, b1, b2, b3, b4, b5, b6, b7⟩ := hW; go_simp <;> with_reducible rfl)
      try simp only [Act.put, List.setIfInBounds_toArray, List.set_cons_zero, List.set_cons_succ]
      refine Held.take 5 (v := ?_) hC rfl (by kernel_rfl) (by kernel_rfl) (by kernel_rfl) (by kernel_rfl) (fun _ _ _ h => h) ?_ ?_; rotate_left; · (intro W hW; obtain ⟨k1, b0, b1, b2, b3, b4, b5, b6, b7⟩ := hW; go_simp <;> with_reducible rfl)
      try simp only [Act.put, List.setIfInBounds_toArray, List.set_cons_zero, List.set_cons_succ]
      refine Held.take 7 (v := ?_) hC rfl (by kernel_rfl) (by kernel_rfl) (by kernel_rfl) (by kernel_rfl) (fun _ _ _ h => h) ?_ ?_; rotate_left; · (intro W hW; obtain ⟨k1, b0, b1, b2, b3, b4, b5, b6, b7⟩ := hW; go_simp <;> with_reducible rfl)
      try simp only [Act.put, List.setIfInBounds_toArray, List.set_cons_zero, List.set_cons_succ]
      clear hC
      refine Held.either 1 8 (by kernel_rfl) rfl rfl ?_ ?_
      intro K hK
      go_simp
      refine hK.out _ _ (fun _ => HC.out _ (new_below w0 _)) ?_
      clear hK K
      try simp only [Act.put, List.setIfInBounds_toArray, List.set_cons_zero, List.set_cons_succ]
      refine Held.either 6 8 (by kernel_rfl) rfl rfl ?_ ?_
      intro K hK
      refine wp_appL (.tmp 60) (.tmp 64) cnElem (by rfl) (by rfl) (by rfl) (OwnL.lit0 (E := cnE) w0 w0.heap.size _ (Nat.le_refl _)).drew (HR0.out.below (new_below w0 _)) (by simp; omega) (by simp) ?_
      intro v1 w1 hown1 hgrow hat
      have hbel : Below w0.heap.size w0 w1 := Below.grown (new_below w0 _) hgrow (by simp) (fun k hk => by simp [Value.ownBlock] at hk; omega)
      have hown2 : OwnL cnE w1 w0.heap.size 45 v1 X := hown1
      obtain ⟨Ao, co, rfl⟩ := hown2.form
      have hws : w0.heap.size ≤ w1.heap.size := hbel.size
      clear hown1 hgrow hat
      have HO := Lib.hid hown2
      have HB := Lib.hid hbel
      clear hown2 hbel
      refine hK.out _ _ (fun _ => HC.out _ HB.out) ?_
      clear hK K
      try simp only [Act.put, List.setIfInBounds_toArray, List.set_cons_zero, List.set_cons_succ]
      refine Held.only 8 (by kernel_rfl) rfl ?_
      intro K hK
      go_simp
      have HB2 : Hid (Below w0.heap.size w0 (w1.alloc (.cells #[.int .i64 y.e, .int .i64 y.cause, .bool y.has, .int .i64 y.at_, .int .i64 y.why, .bool y.named, .int .i64 y.key, .int .i64 y.value] 45))) := HB.out.alloc hws _
      have HO2 : Hid (OwnL cnE (w1.alloc (.cells #[.int .i64 y.e, .int .i64 y.cause, .bool y.has, .int .i64 y.at_, .int .i64 y.why, .bool y.named, .int .i64 y.key, .int .i64 y.value] 45)) w0.heap.size 45 (.slice Ao X.length co) X) := HO.out.alloc _
      have HR2 : Hid (RdL cnE (w1.alloc (.cells #[.int .i64 y.e, .int .i64 y.cause, .bool y.has, .int .i64 y.at_, .int .i64 y.why, .bool y.named, .int .i64 y.key, .int .i64 y.value] 45)) (fun _ => True) (.slice (some ⟨w1.heap.size, 0, none⟩) 1 1) [y]) := RdL.lit1 (E := cnE) w1 _ y rfl (fun _ => True) trivial
      refine hK.out _ _ (fun _ => HC.out _ HB2.out) ?_
      clear hK K
      try simp only [Act.put, List.setIfInBounds_toArray, List.set_cons_zero, List.set_cons_succ]
      rotate_left
      intro K hK
      go_simp
      refine hK.out _ _ (fun _ => HC.out _ HT2.out.2.2.1) ?_
      clear hK K
      try simp only [Act.put, List.setIfInBounds_toArray, List.set_cons_zero, List.set_cons_succ]
      refine Held.only 6 (by kernel_rfl) rfl ?_
      intro K hK
      refine wp_appL (.tmp 60) (.tmp 64) cnElem (by rfl) (by rfl) (by rfl) HT2.out.1 (HR0.out.below HT2.out.2.2.1) (by simp; omega) (by simp; omega) ?_
      intro v1 w1 hown1 hgrow hat
      have hbel : Below w0.heap.size w0 w1 := Below.grown HT2.out.2.2.1 hgrow (by simp; omega) (fun k hk => by simp [Value.ownBlock] at hk; omega)
      have hown2 : OwnL cnE w1 w0.heap.size 45 v1 X := hown1
      obtain ⟨Ao, co, rfl⟩ := hown2.form
      have HR2 := Lib.hid (HT2.out.2.1.grown hgrow (fun k hk => by simp [Value.ownBlock] at hk; simp; omega))
      clear hown1 hgrow hat
      have HO2 := Lib.hid hown2
      have HB2 := Lib.hid hbel
      clear hown2 hbel
      refine hK.out _ _ (fun _ => HC.out _ HB2.out) ?_
      clear hK K
      try simp only [Act.put, List.setIfInBounds_toArray, List.set_cons_zero, List.set_cons_succ]
      rotate_left
      intro K hK
      go_simp
      refine hK.out _ _ (fun _ => HC.out _ (new_below w0 _)) ?_
      clear hK K
      try simp only [Act.put, List.setIfInBounds_toArray, List.set_cons_zero, List.set_cons_succ]
      refine Held.only 1 (by kernel_rfl) rfl ?_
      intro K hK
      go_simp
      refine hK.out _ _ (fun _ => HC.out _ HT2.out.2.2.2.2.2) ?_
      clear hK K
      try simp only [Act.put, List.setIfInBounds_toArray, List.set_cons_zero, List.set_cons_succ]
      refine Held.only 6 (by kernel_rfl) rfl ?_
      intro K hK
      refine wp_appL (.tmp 60) (.tmp 64) cnElem (by rfl) (by rfl) (by rfl) HT2.out.2.2.2.1 (HR0.out.below HT2.out.2.2.2.2.2) (by simp; omega) (by simp; omega) ?_
      intro v1 w1 hown1 hgrow hat
      have hbel : Below w0.heap.size w0 w1 := Below.grown HT2.out.2.2.2.2.2 hgrow (by simp; omega) (fun k hk => by simp [Value.ownBlock] at hk; omega)
      have hown2 : OwnL cnE w1 w0.heap.size 45 v1 X := hown1
      obtain ⟨Ao, co, rfl⟩ := hown2.form
      have HR2 := Lib.hid (HT2.out.2.2.2.2.1.grown hgrow (fun k hk => by simp [Value.ownBlock] at hk; simp; omega))
      clear hown1 hgrow hat
      have HO2 := Lib.hid hown2
      have HB2 := Lib.hid hbel
      clear hown2 hbel
      refine hK.out _ _ (fun _ => HC.out _ HB2.out) ?_
      clear hK K
      try simp only [Act.put, List.setIfInBounds_toArray, List.set_cons_zero, List.set_cons_succ]
      all_goals
        have hws2 := HB2.out.size
        refine Held.only 9 (by kernel_rfl) rfl ?_
        intro K hK
        refine wp_appL (.tmp 65) (.tmp 67) cnElem (by rfl) (by rfl) (by rfl) HO2.out HR2.out (by simp; omega) hws2 ?_
        intro v3 w3 hown3 hgrow hat
        have hbel : Below w0.heap.size w0 w3 := Below.grown HB2.out hgrow hws2 (fun k hk => (HO2.out.lt k hk).1)
        obtain ⟨A3, c3, rfl⟩ := hown3.form
        have fq : w3.frozen? ⟨p, 1, none⟩ = false := HFZ.out _ hbel
        obtain ⟨k1, _, _, _, _, _, _, _, _⟩ := HC.out _ hbel
        have HO3 := Lib.hid hown3
        have HB3 := Lib.hid hbel
        clear hown3 hbel hgrow hat
        refine hK.out _ _ (fun _ => HC.out _ HB3.out) ?_
        clear hK K
        try simp only [Act.put, List.setIfInBounds_toArray, List.set_cons_zero, List.set_cons_succ]
        refine Held.only 10 (by kernel_rfl) rfl ?_
        intro K hK
        go_simp
        refine hK.out _ _ (fun _ => HC.out _ HB3.out) ?_
        clear hK K
        try simp only [Act.put, List.setIfInBounds_toArray, List.set_cons_zero, List.set_cons_succ]
        refine Held.only 11 (by kernel_rfl) rfl ?_
        intro K hK
        go_simp
        refine hK.out _ _ (fun _ => HC.out _ HB3.out) ?_
        clear hK K
        try simp only [Act.put, List.setIfInBounds_toArray, List.set_cons_zero, List.set_cons_succ]
        refine Held.only 12 (by kernel_rfl) rfl ?_
        intro K hK
        go_simp
        refine hK.out _ _ (fun h => absurd rfl h) ?_
        clear hK K
        try simp only [Act.put, List.setIfInBounds_toArray, List.set_cons_zero, List.set_cons_succ]
        refine Held.done (by kernel_rfl) ?_ _
        go_wp2_with fail
        go_meet
        exact ⟨A3, c3, HK7.out _ _ _ (by have := HO3.out; rw [show (X ++ [y]).length = X.length + 1 by simp] at this; exact this) HB3.out⟩
    case rest =>
    obtain ⟨A3, c3, h7⟩ := hcut.out
    have S7 := Lib.hid h7
    clear HC HFZ HR0 HK7 S2 hcut h7 hpl hxl
    generalize wc = w7 at *
    have hyb := S7.out.blk_at 0 rfl
    have b0 := (cell_block hyb 0).trans rfl
    have b2 := (cell_block hyb 2).trans rfl
    have b3 := (cell_block hyb 3).trans rfl
    have b4 : w7.cell? ⟨bx, 4, none⟩ = some (.int .i64 y.why) := (cell_block hyb 4).trans rfl
    have S8 := Lib.hid (rx_close S7.out.tail (by rw [HTL.out.2]; simp; exact HLEN.out) HOK2.out)
    obtain ⟨lt, hlt⟩ : ∃ lt, lateC y now = lt := ⟨_, rfl⟩
    have HLT := Lib.hid hlt
    clear hyb S7 hlt
    go_upto_region 8 with (fail)
    go_cut [83] (fun s83 wx => s83 = .bool lt ∧ wx = w7)
    case first =>
      by_cases h0 : y.e = 0
      · rw [h0] at b0
        rcases hh : y.has with _ | _
        · rw [hh] at b2
          have hl : lt = false := by rw [← HLT.out]; unfold lateC; rw [hh]; simp
          subst hl
          clear h0 hh
          go_wp2_with fail
          go_meet
          exact ⟨rfl, rfl⟩
        · rw [hh] at b2
          have hl : decide (y.at_ ≤ now) = lt := by rw [← HLT.out]; unfold lateC; rw [hh, h0]; simp
          clear h0 hh
          generalize y.at_ = ya at *
          go_wp2_with fail
          go_meet
          exact ⟨by first | rfl | rw [hl], rfl⟩
      · have e1 : (y.e == 0) = false := by simpa using h0
        have hl : lt = false := by rw [← HLT.out]; unfold lateC; simp [h0]
        subst hl
        clear h0
        generalize y.e = ye at *
        go_wp2_with fail
        go_meet
        exact ⟨rfl, rfl⟩
    case rest =>
    obtain ⟨rfl, hwc⟩ := hcut
    have hwc' := hwc.symm
    subst hwc'
    clear hwc b0 b2 b3
    cases lt with
    | false =>
      have HX : Hid (withX T X M i cut x now = X ++ [y]) := by show _ = _; rw [HWX2.out, HLT.out]; rfl
      go_wp2
      go_ret2
      rw [HX.out]
      rw [HTL.out.1, HE.out, HLEN.out]
      exact ⟨rfl, S8.out⟩
    | true =>
      have HX : Hid (withX T X M i cut x now = endX (addL T M i cut) (X ++ [y]) X.length 11 y.why) := by show _ = _; rw [HWX2.out, HLT.out, ← HLEN.out]; rfl
      go_wp2_with fail
      refine (end_s S8.out X.length 11 y.why).mono ?_
      rintro r w8 ⟨A8, c8, rfl, h8⟩
      have S9 := Lib.hid h8.tail
      clear h8 S8
      go_wp2
      go_ret2
      rw [HX.out]
      rw [HTL.out.1, HE.out, HLEN.out]
      exact ⟨rfl, S9.out⟩
  · have HX : Hid (withX T X M over cut x now = X) := by show _ = _; rw [HWX.out, if_neg hE]
    have HTT : Hid (addL T M over cut = T) := by
      show _ = _
      unfold addL
      by_cases ht : there T over = true
      · rw [if_pos ht]
        unfold addE at hE
        rw [if_pos ht] at hE
        unfold putL
        unfold putE at hE
        by_cases hl : (T.length : Int) < M
        · rw [if_pos hl] at hE; exact absurd rfl hE
        · rw [if_neg hl]
      · rw [if_neg ht]
    have e1 : (addE T M over == 0) = false := by simpa using hE
    have e2 : (addE T M over != 0) = true := by simpa using hE
    clear hE HWX HNC
    go_wp2
    go_ret2
    rw [HX.out, HTT.out]
    have h5 := S1.out.tail
    rw [HTT.out] at h5
    exact ⟨rfl, rx_close h5 HLEN.out HOK.out⟩

theorem new6_no (n : Int) (w : World) (h : n < 1 ∨ 200 < n) : Calls Try.prog 9 #[.int .i64 n] w fun e w' => e = .returned (.tuple #[.pointer none, .int .i64 1]) ∧ w = w' := by
  go_enter Try.func9, Try.ntmps9
  go_wp2_with fail
  refine (RefTree.new_no n w h).mono ?_
  rintro e w1 ⟨rfl, rfl⟩
  go_wp2
  go_ret2
  exact ⟨rfl, rfl⟩
/-- The root alone. -/
def root1 : List Nd := [⟨-1, false⟩]
theorem new6_s {B : Nat → Prop} {w wk : World} {Rs : List Res} (h : Sep B w wk Rs) (n : Int) (h1 : 1 ≤ n) (h2 : n ≤ 200) :
    Calls Try.prog 9 #[.int .i64 n] wk fun e wn => ∃ p, e = .returned (.tuple #[.pointer (some ⟨p, 0, none⟩), .int .i64 0]) ∧ Sep B w wn (rx p root1 [zeroCn] n :: Rs) := by
  have HP : Hid (putL [] n ⟨-1, false⟩ = root1) := by show _ = _; unfold putL; rw [if_pos (by show (0 : Int) < n; omega)]; rfl
  have HOK : Hid (Ok root1 n) := by rw [← HP.out]; exact (Ok.new h1 h2).root
  have S0 := Lib.hid h
  clear h
  go_enter Try.func9, Try.ntmps9
  go_wp2_with fail
  refine (r_new S0.out n h1 h2).mono ?_
  rintro e w1 ⟨q, rfl, hs⟩
  have S1 := Lib.hid hs
  clear hs S0
  go_wp2_with fail
  refine (r_put S1.out 0 rfl (by simp) (-1) false rfl rfl HP.out).mono ?_
  rintro e w2 ⟨rfl, hs⟩
  have S2 := Lib.hid hs
  clear hs S1
  go_wp2
  go_ret2
  have ho : OwnL cnE (w2.alloc (.cells #[.int .i64 0, .int .i64 0, .bool false, .int .i64 0, .int .i64 0, .bool false, .int .i64 0, .int .i64 0] 45)) 0 45 (.slice (some ⟨w2.heap.size, 0, none⟩) 1 1) [zeroCn] := OwnL.lit1 (E := cnE) w2 0 _ zeroCn rfl (Nat.zero_le _)
  have S3 := (S2.out.add (new_below0 w2 _) (R := grow cnE 45 (.slice (some ⟨w2.heap.size, 0, none⟩) 1 1) [zeroCn]) ⟨ho, rfl⟩ fun k hk => by simp [Value.ownBlock] at hk; omega).new (.cells #[.pointer (some ⟨q, 0, none⟩), .slice (some ⟨w2.heap.size, 0, none⟩) 1 1] 42)
  rw [World.size_alloc] at S3
  have S4 := S3.perm (show List.Perm (_ :: _ :: _ :: Rs) _ from (List.Perm.swap _ _ _).cons _)
  exact ⟨_, rfl, rx_close S4 rfl HOK.out⟩
end Go.Proofs.Ytidkppjhmgehoaa.RefCtx
