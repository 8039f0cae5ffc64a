/-
  Contracts of the functions of package ctx, as it landed, tenth part: a new context. Condition: the arena is at hand, and 'Inv' holds.
-/
import Derived.Test.YtidkppjhmgehoaaCxJ
import Derived.Deep.DeepCutAuto
namespace Go.Proofs.Ytidkppjhmgehoaa.CxC
open Go.ChangeShapes Go.WideShapes Go.ChangeAt Go.RowKit Mem TreeP CtxP Hand TreeC CtxI

/-- What the contexts have behind it. -/
def addX (T : List Nd) (X : List Cn) (M over : Int) (cut : Bool) (x : Cn) : List Cn := if addE T M over = 0 then X ++ [newC X over cut x] else X

section
variable {B : Nat → Prop} {w wk : World} {Rs : List Res} {p : Nat} {T : List Nd} {X : List Cn} {M : Int}
theorem tt_add {q : Nat} (h : Sep B w wk Rs) (i : Nat) (hi : Rs[i]? = some (tt q T M)) (o : Int) (c : Bool) :
    Calls Try.prog 71 #[.pointer (some ⟨q, 0, none⟩), .int .i64 o, .bool c] wk fun e wn => e = .returned (.tuple #[.int .i64 (addV T M o), .int .i64 (addE T M o)]) ∧ Sep B w wn (Rs.set i (tt q (addL T M o c) M)) :=
  h.to i hi (R' := tt q (addL T M o c) M) fun _ hA => add_c hA o c

set_option maxRecDepth 100000 in
set_option maxHeartbeats 4000000 in
theorem add_s (h : Sep B w wk (ca p T X M :: Rs)) (hI : Inv T X) (over : Int) (cut : Bool) (x : Cn) (hx : x.e = 0 ∧ x.cause = 0) :
    Calls Try.prog 59 #[.pointer (some ⟨p, 0, none⟩), .int .i64 over, .bool cut, xVal x] wk fun r wn => r = .returned (.tuple #[.int .i64 (addV T M over), .int .i64 (addE T M over)]) ∧ Sep B w wn (ca p (addL T M over cut) (addX T X M over cut x) M :: Rs) := by
  obtain ⟨q, u, hs, hlen, hok⟩ := ca_open h
  obtain ⟨Ax, cx, rfl⟩ := (hs.own 2 rfl).form
  have hm : X.length ≤ 200 := by have := hok.len; have := hok.m1; omega
  have HOK := Lib.hid hok
  have HLEN := Lib.hid hlen
  have S0 := Lib.hid (hs.new (.cells #[.bool x.has, .int .i64 x.at_, .int .i64 (lateE x), .int .i64 (lateZ x), .bool x.named, .int .i64 x.key, .int .i64 x.value, .int .i64 x.e, .int .i64 x.cause] 76))
  have HNC : Hid (newC X over cut x = if cut = false ∧ (cn X over).e ≠ 0 then { x with e := (cn X over).e, cause := (cn X over).cause } else x) := rfl
  have HCA := Lib.hid (hI.cause over)
  have HXE := Lib.hid hx
  have k0 := (cell_block (S0.out.blk_at 1 rfl) 0).trans rfl
  clear h hs hok hI hx
  unfold xVal
  go_enter Try.func59, Try.ntmps59
  go_wp2_with fail
  refine (tt_add S0.out 2 rfl over cut).mono ?_
  rintro r w1 ⟨rfl, h1⟩
  have S1 := Lib.hid h1
  generalize hbx : wk.heap.size = bx at *
  clear h1 S0 k0 hbx
  by_cases hE : addE T M over = 0
  · obtain ⟨hth, hTL, hTM⟩ := add_yes cut hE
    obtain ⟨i, rfl, hi⟩ := there_nat hth
    have hiX : i < X.length := by omega
    have HE := Lib.hid hE
    have HAX : Hid (addX T X M i cut x = X ++ [newC X i cut x]) := if_pos hE
    have HOK2 := Lib.hid (HOK.out.add i cut)
    have HTL := Lib.hid hTL
    rw [hE]
    have k1 := (cell_block (S1.out.blk_at 1 rfl) 1).trans rfl
    obtain ⟨bb, cb, eA, _, hcell, _⟩ := S1.out.elem 3 rfl (cn_at hiX)
    obtain ⟨rfl, rfl⟩ : Ax = some ⟨bb, 0, none⟩ ∧ cx = cb := by injection eA with e1 e2 e3; exact ⟨e1, e3⟩
    have d7 : w1.cell? ⟨bb, i * 9 + 7, none⟩ = some (.int .i64 (cn X (i : Nat)).e) := hcell 7 _ rfl
    have d8 : w1.cell? ⟨bb, i * 9 + 7 + 1, none⟩ = some (.int .i64 (cn X (i : Nat)).cause) := hcell 8 _ rfl
    have i0 : (0 : Int) ≤ (i : Int) := by omega
    have i1 : (i : Int) < (X.length : Int) := by omega
    generalize hxe : (cn X (i : Nat)).e = xe at *
    generalize hxc : (cn X (i : Nat)).cause = xc at *
    have HLE : Hid (lateE (newC X i cut x) = lateE x ∧ lateZ (newC X i cut x) = lateZ x) := by show _ ∧ _; rw [HNC.out]; split <;> exact ⟨rfl, rfl⟩
    generalize hny : newC X i cut x = y at *
    generalize hle : lateE x = le at *
    generalize hlz : lateZ x = lz at *
    obtain ⟨hy1, hy2⟩ := HLE.out
    have HY1 := Lib.hid hy1
    have HY2 := Lib.hid hy2
    obtain ⟨n0, hn0⟩ : ∃ n0, X.length = n0 := ⟨_, rfl⟩
    have HN0 := Lib.hid hn0
    rw [hn0] at S1 k1 hm i1
    clear hcell eA hE hth hTL hxe hxc hny hle hlz hy1 hy2 HLE hn0
    go_upto_if 27 with (fail)
    go_cut [] (fun wx => Hid (Sep B w wx (blk bx (.cells #[.bool y.has, .int .i64 y.at_, .int .i64 le, .int .i64 lz, .bool y.named, .int .i64 y.key, .int .i64 y.value, .int .i64 y.e, .int .i64 y.cause] 76) :: blk p (.cells #[.pointer (some ⟨q, 0, none⟩), .slice (some ⟨bb, 0, none⟩) n0 cx] 79) :: tt q (addL T M i cut) M :: grow xE 76 (.slice (some ⟨bb, 0, none⟩) n0 cx) X :: Rs)))
    case first =>
      cases cut with
      | true =>
        have hy : y = x := by rw [HNC.out, if_neg (by rintro ⟨h, _⟩; cases h)]
        subst hy
        go_wp2_with fail
        go_meet
        exact S1.out
      | false =>
        have hy : y = { x with e := xe, cause := xc } := by
          rw [HNC.out]
          by_cases h0 : xe = 0
          · rw [if_neg fun h => h.2 h0]
            have h1 := HCA.out.1 h0
            obtain ⟨g1, g2⟩ := HXE.out
            cases x
            simp only at g1 g2
            simp [g1, g2, h0, h1]
          · rw [if_pos ⟨rfl, h0⟩]
        subst hy
        have f7 := frozen_block (S1.out.blk_at 0 rfl) 7
        have f8 : w1.frozen? ⟨bx, 7 + 1, none⟩ = false := frozen_block (S1.out.blk_at 0 rfl) 8
        have b7 := (cell_block (S1.out.blk_at 0 rfl) 7).trans rfl
        have b8 : w1.cell? ⟨bx, 7 + 1, none⟩ = some (.int .i64 x.cause) := (cell_block (S1.out.blk_at 0 rfl) 8).trans rfl
        have S2 := Lib.hid ((S1.out.set 0 rfl 7 (.int .i64 xe)).set 0 rfl 8 (.int .i64 xc))
        clear HNC
        go_wp2_with fail
        go_meet
        exact S2.out
    case rest =>
      have S2 := Lib.hid hcut.out
      clear S1 hcut d7 d8 k1 HNC HCA HXE
      generalize wc = w0 at *
      have HCF : Hid (∀ (W : World) (R2 R3 : Res), Sep B w W (blk bx (.cells #[.bool y.has, .int .i64 y.at_, .int .i64 le, .int .i64 lz, .bool y.named, .int .i64 y.key, .int .i64 y.value, .int .i64 y.e, .int .i64 y.cause] 76) :: blk p (.cells #[.pointer (some ⟨q, 0, none⟩), .slice (some ⟨bb, 0, none⟩) n0 cx] 79) :: R2 :: R3 :: Rs) → W.cell? ⟨p, 1, none⟩ = some (.slice (some ⟨bb, 0, none⟩) n0 cx) ∧ W.cell? ⟨bx, 0, none⟩ = some (.bool y.has) ∧ W.cell? ⟨bx, 1, none⟩ = some (.int .i64 y.at_) ∧ W.cell? ⟨bx, 2, none⟩ = some (.int .i64 le) ∧ W.cell? ⟨bx, 3, none⟩ = some (.int .i64 lz) ∧ W.cell? ⟨bx, 4, none⟩ = some (.bool y.named) ∧ W.cell? ⟨bx, 5, none⟩ = some (.int .i64 y.key) ∧ W.cell? ⟨bx, 6, none⟩ = some (.int .i64 y.value) ∧ W.cell? ⟨bx, 7, none⟩ = some (.int .i64 y.e) ∧ W.cell? ⟨bx, 8, none⟩ = some (.int .i64 y.cause)) := fun W R2 R3 hs => by
        have h0 := hs.blk_at 0 rfl
        exact ⟨(cell_block (hs.blk_at 1 rfl) 1).trans rfl, (cell_block h0 0).trans rfl, (cell_block h0 1).trans rfl, (cell_block h0 2).trans rfl, (cell_block h0 3).trans rfl, (cell_block h0 4).trans rfl, (cell_block h0 5).trans rfl, (cell_block h0 6).trans rfl, (cell_block h0 7).trans rfl, (cell_block h0 8).trans rfl⟩
      have hC0 := HCF.out _ _ _ S2.out.drew
      go_upto_region 6 with (fail)
      refine Held.begin_ (fun W : World => W.cell? ⟨p, 1, none⟩ = some (.slice (some ⟨bb, 0, none⟩) n0 cx) ∧ W.cell? ⟨bx, 0, none⟩ = some (.bool y.has) ∧ W.cell? ⟨bx, 1, none⟩ = some (.int .i64 y.at_) ∧ W.cell? ⟨bx, 2, none⟩ = some (.int .i64 le) ∧ W.cell? ⟨bx, 3, none⟩ = some (.int .i64 lz) ∧ W.cell? ⟨bx, 4, none⟩ = some (.bool y.named) ∧ W.cell? ⟨bx, 5, none⟩ = some (.int .i64 y.key) ∧ W.cell? ⟨bx, 6, none⟩ = some (.int .i64 y.value) ∧ W.cell? ⟨bx, 7, none⟩ = some (.int .i64 y.e) ∧ W.cell? ⟨bx, 8, none⟩ = some (.int .i64 y.cause)) 10 (by kernel_rfl) ?_
      have hC : (fun W : World => W.cell? ⟨p, 1, none⟩ = some (.slice (some ⟨bb, 0, none⟩) n0 cx) ∧ W.cell? ⟨bx, 0, none⟩ = some (.bool y.has) ∧ W.cell? ⟨bx, 1, none⟩ = some (.int .i64 y.at_) ∧ W.cell? ⟨bx, 2, none⟩ = some (.int .i64 le) ∧ W.cell? ⟨bx, 3, none⟩ = some (.int .i64 lz) ∧ W.cell? ⟨bx, 4, none⟩ = some (.bool y.named) ∧ W.cell? ⟨bx, 5, none⟩ = some (.int .i64 y.key) ∧ W.cell? ⟨bx, 6, none⟩ = some (.int .i64 y.value) ∧ W.cell? ⟨bx, 7, none⟩ = some (.int .i64 y.e) ∧ W.cell? ⟨bx, 8, none⟩ = some (.int .i64 y.cause)) w0.drew := hC0
      refine Held.take 0 (v := ?_) hC rfl (by kernel_rfl) (by kernel_rfl) (by kernel_rfl) (by kernel_rfl) (fun _ _ _ h => h) ?_ ?_; rotate_left; · (intro W hW; obtain ⟨k0, k1, k2, k3, k4, k5, k6, k7, k8, k9⟩ := hW; go_simp <;> with_reducible rfl)
      try simp only [Act.put, List.setIfInBounds_toArray, List.set_cons_zero, List.set_cons_succ]
      refine Held.take 1 (v := ?_) hC rfl (by kernel_rfl) (by kernel_rfl) (by kernel_rfl) (by kernel_rfl) (fun _ _ _ h => h) ?_ ?_; rotate_left; · (intro W hW; obtain ⟨k0, k1, k2, k3, k4, k5, k6, k7, k8, k9⟩ := hW; go_simp <;> with_reducible rfl)
      try simp only [Act.put, List.setIfInBounds_toArray, List.set_cons_zero, List.set_cons_succ]
      refine Held.take 2 (v := ?_) hC rfl (by kernel_rfl) (by kernel_rfl) (by kernel_rfl) (by kernel_rfl) (fun _ _ _ h => h) ?_ ?_; rotate_left; · (intro W hW; obtain ⟨k0, k1, k2, k3, k4, k5, k6, k7, k8, k9⟩ := hW; go_simp <;> with_reducible rfl)
      try simp only [Act.put, List.setIfInBounds_toArray, List.set_cons_zero, List.set_cons_succ]
      refine Held.take 3 (v := ?_) hC rfl (by kernel_rfl) (by kernel_rfl) (by kernel_rfl) (by kernel_rfl) (fun _ _ _ h => h) ?_ ?_; rotate_left; · (intro W hW; obtain ⟨k0, k1, k2, k3, k4, k5, k6, k7, k8, k9⟩ := hW; go_simp <;> with_reducible rfl)
      try simp only [Act.put, List.setIfInBounds_toArray, List.set_cons_zero, List.set_cons_succ]
      refine Held.take 4 (v := ?_) hC rfl (by kernel_rfl) (by kernel_rfl) (by kernel_rfl) (by kernel_rfl) (fun _ _ _ h => h) ?_ ?_; rotate_left; · (intro W hW; obtain ⟨k0, k1, k2, k3, k4, k5, k6, k7, k8, k9⟩ := hW; go_simp <;> with_reducible rfl)
      try simp only [Act.put, List.setIfInBounds_toArray, List.set_cons_zero, List.set_cons_succ]
      refine Held.take 5 (v := ?_) hC rfl (by kernel_rfl) (by kernel_rfl) (by kernel_rfl) (by kernel_rfl) (fun _ _ _ h => h) ?_ ?_; rotate_left; · (intro W hW; obtain ⟨k0, k1, k2, k3, k4, k5, k6, k7, k8, k9⟩ := hW; go_simp <;> with_reducible rfl)
      try simp only [Act.put, List.setIfInBounds_toArray, List.set_cons_zero, List.set_cons_succ]
      have S3 := Lib.hid (S2.out.drew.next (new_below0 w0.drew (.cells #[.bool y.has, .int .i64 y.at_, .int .i64 le, .int .i64 lz, .bool y.named, .int .i64 y.key, .int .i64 y.value, .int .i64 y.e, .int .i64 y.cause] 76)))
      have hC3 := HCF.out _ _ _ S3.out
      have HX1 : Hid (RdL xE (w0.drew.alloc (.cells #[.bool y.has, .int .i64 y.at_, .int .i64 le, .int .i64 lz, .bool y.named, .int .i64 y.key, .int .i64 y.value, .int .i64 y.e, .int .i64 y.cause] 76)) (fun _ => True) (.slice (some ⟨w0.drew.heap.size, 0, none⟩) 1 1) [y]) :=
        RdL.lit1 (E := xE) w0.drew 76 y (cs := #[.bool y.has, .int .i64 y.at_, .int .i64 le, .int .i64 lz, .bool y.named, .int .i64 y.key, .int .i64 y.value, .int .i64 y.e, .int .i64 y.cause]) (by show _ = [Value.bool y.has, .int .i64 y.at_, .int .i64 (lateE y), .int .i64 (lateZ y), .bool y.named, .int .i64 y.key, .int .i64 y.value, .int .i64 y.e, .int .i64 y.cause]; rw [HY1.out, HY2.out]) (fun _ => True) trivial
      clear hC hC0 S2
      refine Held.only 6 (by kernel_rfl) rfl ?_
      intro K hK
      go_simp
      refine hK.out _ _ (fun _ => hC3) ?_
      clear hK K
      try simp only [Act.put, List.setIfInBounds_toArray, List.set_cons_zero, List.set_cons_succ]
      refine Held.only 7 (by kernel_rfl) rfl ?_
      intro K hK
      refine wp_appL (.tmp 41) (.tmp 43) xElem (by rfl) (by rfl) (by rfl) (S3.out.own 3 rfl) HX1.out (by have := HN0.out; simp; omega) (Nat.zero_le _) ?_
      intro v6 w6 h2 h3 h4
      obtain ⟨l3, hl3⟩ : ∃ l3, l3 = X ++ [y] := ⟨_, rfl⟩
      rw [← hl3] at h2
      have HL3 := Lib.hid hl3
      clear hl3
      obtain ⟨A6, c6, rfl⟩ := h2.form
      have h6 := S3.out.grown 3 rfl h2 h3 h4
      have hC6 := HCF.out _ _ _ h6
      have S6 := Lib.hid h6
      have f6 := frozen_block (h6.blk_at 1 rfl) 1
      have k6 := (cell_block (h6.blk_at 1 rfl) 1).trans rfl
      clear h2 h3 h4 h6 S3 hC3 HX1
      refine hK.out _ _ (fun _ => hC6) ?_
      clear hK K
      try simp only [Act.put, List.setIfInBounds_toArray, List.set_cons_zero, List.set_cons_succ]
      refine Held.only 8 (by kernel_rfl) rfl ?_
      intro K hK
      go_simp
      refine hK.out _ _ (fun _ => hC6) ?_
      clear hK K
      try simp only [Act.put, List.setIfInBounds_toArray, List.set_cons_zero, List.set_cons_succ]
      refine Held.only 9 (by kernel_rfl) rfl ?_
      intro K hK
      go_simp
      refine hK.out _ _ (fun _ => hC6) ?_
      clear hK K
      try simp only [Act.put, List.setIfInBounds_toArray, List.set_cons_zero, List.set_cons_succ]
      refine Held.only 10 (by kernel_rfl) rfl ?_
      intro K hK
      go_simp
      refine hK.out _ _ (fun h => absurd rfl h) ?_
      clear hK K
      try simp only [Act.put, List.setIfInBounds_toArray, List.set_cons_zero, List.set_cons_succ]
      refine Held.done (by kernel_rfl) ?_ _
      have S7 := Lib.hid (S6.out.set 1 rfl 1 (.slice A6 l3.length c6))
      clear hC6 f6 k6 S6
      go_wp2
      go_ret2
      rw [HE.out, HAX.out, ← HL3.out]
      refine ⟨rfl, ca_close S7.out.tail ?_ HOK2.out⟩
      rw [HTL.out, HL3.out, List.length_append, List.length_append, HLEN.out]
      rfl
  · have HTT := Lib.hid (add_no cut hE)
    have e1 : (addE T M over == 0) = false := by simpa using hE
    have e2 : (addE T M over != 0) = true := by simpa using hE
    have HIF : Hid (addX T X M over cut x = X) := if_neg hE
    clear hE HNC
    go_wp2
    go_ret2
    rw [HIF.out, HTT.out]
    have h5 := S1.out.tail
    exact ⟨rfl, ca_close (T := T) (by rw [HTT.out] at h5; exact h5) HLEN.out HOK.out⟩
end
end Go.Proofs.Ytidkppjhmgehoaa.CxC
