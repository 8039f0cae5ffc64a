/-
  The walk of the law CodeLonger over any package that meets 'Co': it returns true and leaves old memory as it was. Conditions: none but 'Co'.
-/
import Derived.Test.YtoblkoljaeobkaaDoorCodeN
import Derived.Test.YtoblkoljaeobkaaDoorHeldG
import Derived.Deep.RegionHeld3
import Derived.BigQuiet
namespace Go.Proofs.YtoblkoljaeobkaaDoor.CodeI
open Go.ChangeShapes Go.WideShapes Go.ChangeAt Go.RowKit Mem MutP CodeP Hand RefCode

theorem coElem : Elem inE Tryd.prog 24 23 := elem_of (z := .agg #[.int .i64 0, .int .i64 0, .int .i64 0, .int .i64 0]) (bytes := 32) Tryd.underlying24 (by kernel_rfl) rfl (by omega)
theorem in_blk {w wk : World} {B : Nat → Prop} {Rs : List Res} {g : Nat} {x : In} (h : Sep B w wk Rs) (i : Nat) (hi : Rs[i]? = some (blk g (.cells #[.int .i64 x.o, .int .i64 x.a, .int .i64 x.b, .int .i64 x.n] 23))) :
    wk.cell? ⟨g, 0, none⟩ = some (.int .i64 x.o) ∧ wk.cell? ⟨g, 1, none⟩ = some (.int .i64 x.a) ∧ wk.cell? ⟨g, 2, none⟩ = some (.int .i64 x.b) ∧ wk.cell? ⟨g, 3, none⟩ = some (.int .i64 x.n) :=
  have h1 := h.blk_at i hi
  ⟨(cell_block h1 0).trans rfl, (cell_block h1 1).trans rfl, (cell_block h1 2).trans rfl, (cell_block h1 3).trans rfl⟩
theorem a_right {w wk : World} (I : Co w) {Rs : List Res} (h : Sep (fun _ => False) w wk Rs) (x : In) (k : Int) (hx : InIn x) (hk : In64 k) {r : Bool} (hr : rightB x k = r) : Calls Tryd.prog 14 #[.agg #[.int .i64 x.o, .int .i64 x.a, .int .i64 x.b, .int .i64 x.n], .int .i64 k] wk fun e wn => e = .returned (.bool r) ∧ Sep (fun _ => False) w wn Rs := by
  subst hr
  exact m_right I h x k hx hk

set_option maxRecDepth 100000 in
set_option maxHeartbeats 4000000 in
theorem longer_walk {w : World} (I : Co w) (x : In) (k1 k2 : Int) (A0 : Option Addr) (n0 c0 : Nat) (l : List In) (hx : InIn x) (hk1 : In64 k1) (hk2 : In64 k2) (h0 : LsIn w A0 n0 c0 l) :
    Calls Tryd.prog 5 #[.agg #[.int .i64 x.o, .int .i64 x.a, .int .i64 x.b, .int .i64 x.n], .int .i64 k1, .int .i64 k2, .slice A0 n0 c0] w fun e w' => e = .returned (.bool true) ∧ Below w.heap.size w w' := by
  have H0 := Lib.hid h0
  have HX := Lib.hid hx
  have HK1 := Lib.hid hk1
  have HK2 := Lib.hid hk2
  have S0 := Lib.hid ((Sep.nil (fun _ => False) w).new (.cells #[.int .i64 x.o, .int .i64 x.a, .int .i64 x.b, .int .i64 x.n] 23))
  clear h0 hx hk1 hk2
  rcases (by omega : 60 < n0 ∨ n0 ≤ 60) with x0 | x0
  · have e0 : decide ((n0 : Int) > 60) = true := decide_eq_true (by omega)
    go_enter Tryd.func5, Tryd.ntmps5
    go_wp2_with fail
    refine (awake_any I _ S0.out.old).mono ?_
    rintro e w1 ⟨rfl, hb1⟩
    have S1 := Lib.hid (S0.out.next hb1)
    clear hb1 S0
    go_wp2
    go_ret
    exact ⟨rfl, S1.out.old⟩
  · have e0 : decide ((n0 : Int) > 60) = false := decide_eq_false (by omega)
    obtain ⟨f0, g0⟩ := H0.out
    obtain ⟨l0, r0, i0⟩ := g0 (by omega)
    have R0 := Lib.hid r0
    have I0 := Lib.hid i0
    have L0 := Lib.hid l0
    clear g0 l0 r0 i0 H0
    go_enter Tryd.func5, Tryd.ntmps5
    go_wp2_with fail
    refine (awake_any I _ S0.out.old).mono ?_
    rintro e w1 ⟨rfl, hb1⟩
    obtain ⟨g, hg⟩ : ∃ g, w.heap.size = g := ⟨_, rfl⟩
    have S1 := Lib.hid (S0.out.next hb1)
    rw [hg] at S1 ⊢
    clear hb1 S0 hg
    go_upto_region 5 with (fail)
    go_cut [28] (fun s wx => s = .bool false ∧ Hid (Sep (fun _ => False) w wx [blk g (.cells #[.int .i64 x.o, .int .i64 x.a, .int .i64 x.b, .int .i64 x.n] 23)]))
    case first => as_aux_lemma =>
      obtain ⟨x1, x2, x3, x4⟩ := in_blk S1.out 0 rfl
      rcases (by omega : k2 < k1 ∨ k1 ≤ k2) with hk | hk
      · have d0 : decide (k1 ≤ k2) = false := decide_eq_false (by omega)
        go_wp2_with fail
        go_meet
        exact ⟨rfl, S1⟩
      · have d0 : decide (k1 ≤ k2) = true := decide_eq_true hk
        cases hr : rightB x k1 with
        | false =>
          have HR := Lib.hid hr
          clear hr
          go_wp2_with fail
          refine (a_right I S1.out x k1 HX.out HK1.out HR.out).mono ?_
          rintro e w2 ⟨rfl, h2⟩
          have S2 := Lib.hid h2
          clear h2 x1 x2 x3 x4
          obtain ⟨x1, x2, x3, x4⟩ := in_blk S2.out 0 rfl
          go_wp2_with fail
          go_meet
          exact ⟨rfl, S2⟩
        | true =>
          have HR := Lib.hid hr
          have HR2 := Lib.hid (right_mono hk hr)
          clear hr
          go_wp2_with fail
          refine (a_right I S1.out x k1 HX.out HK1.out HR.out).mono ?_
          rintro e w2 ⟨rfl, h2⟩
          have S2 := Lib.hid h2
          clear h2 x1 x2 x3 x4
          obtain ⟨x1, x2, x3, x4⟩ := in_blk S2.out 0 rfl
          go_wp2_with fail
          refine (a_right I S2.out x k2 HX.out HK2.out HR2.out).mono ?_
          rintro e w3 ⟨rfl, h3⟩
          have S3 := Lib.hid h3
          clear h3
          go_wp2_with fail
          go_meet
          exact ⟨rfl, S3⟩
    case rest => as_aux_lemma =>
      obtain ⟨rfl, HS⟩ := hcut
      clear S1
      go_upto_region 7 with (fail)
      obtain ⟨q, hq⟩ : ∃ q, n0 + 1 = q := ⟨_, rfl⟩
      go_cut [9] (fun u wx => Hid (∃ A c, u = .slice A q c ∧ q ≤ c ∧ Sep (fun _ => False) w wx [told inE (.slice A q c) (l ++ [x]), blk g (.cells #[.int .i64 x.o, .int .i64 x.a, .int .i64 x.b, .int .i64 x.n] 23)]))
      case first => as_aux_lemma =>
        have S2 : Hid (Sep (fun _ => False) w wc.drew [blk g (.cells #[.int .i64 x.o, .int .i64 x.a, .int .i64 x.b, .int .i64 x.n] 23)]) := HS.out.drew
        refine Held.begin_ (fun V : World => V.cell? ⟨g, 0, none⟩ = some (.int .i64 x.o) ∧ V.cell? ⟨g, 1, none⟩ = some (.int .i64 x.a) ∧ V.cell? ⟨g, 2, none⟩ = some (.int .i64 x.b) ∧ V.cell? ⟨g, 3, none⟩ = some (.int .i64 x.n)) 6 (by kernel_rfl) ?_
        have hC : (fun V : World => V.cell? ⟨g, 0, none⟩ = some (.int .i64 x.o) ∧ V.cell? ⟨g, 1, none⟩ = some (.int .i64 x.a) ∧ V.cell? ⟨g, 2, none⟩ = some (.int .i64 x.b) ∧ V.cell? ⟨g, 3, none⟩ = some (.int .i64 x.n)) wc.drew := in_blk S2.out 0 rfl
        refine Held.take 1 (v := ?_) hC rfl (by kernel_rfl) (by kernel_rfl) (by kernel_rfl) (by kernel_rfl) (fun _ _ _ h => h) ?_ ?_; rotate_left; · (intro W hW; obtain ⟨k0, k1, k2, k3⟩ := hW; go_simp <;> with_reducible rfl)
        try simp only [Act.put, List.setIfInBounds_toArray, List.set_cons_zero, List.set_cons_succ]
        refine Held.take 3 (v := ?_) hC rfl (by kernel_rfl) (by kernel_rfl) (by kernel_rfl) (by kernel_rfl) (fun _ _ _ h => h) ?_ ?_; rotate_left; · (intro W hW; obtain ⟨k0, k1, k2, k3⟩ := hW; go_simp <;> with_reducible rfl)
        try simp only [Act.put, List.setIfInBounds_toArray, List.set_cons_zero, List.set_cons_succ]
        clear hC
        generalize wc.drew = w0 at *
        refine Held.either 0 4 (by kernel_rfl) rfl rfl ?_ ?_
        · intro K hK
          go_simp
          have S3 : Hid (Sep (fun _ => False) w (w0.alloc (.cells #[] 23)) [grow inE 23 (.slice (some ⟨w0.heap.size, 0, none⟩) 0 0) [], blk g (.cells #[.int .i64 x.o, .int .i64 x.a, .int .i64 x.b, .int .i64 x.n] 23)]) := S2.out.grow0 inE 23
          refine hK.out _ _ (fun _ => in_blk S3.out 1 rfl) ?_
          clear hK K
          try simp only [Act.put, List.setIfInBounds_toArray, List.set_cons_zero, List.set_cons_succ]
          refine Held.either 2 4 (by kernel_rfl) rfl rfl ?_ ?_
          · intro K hK
            refine wp_appC (.tmp 29) (.tmp 30) coElem rfl rfl rfl S3.out 0 rfl (R0.out.below S3.out.old) (by rw [L0.out]; simp; omega) ?_
            intro A1 c1 w1 m1 HM1 h1
            obtain rfl : l = m1 := HM1.out.symm
            have S4 : Hid (Sep (fun _ => False) w w1 [grow inE 23 (.slice A1 l.length c1) l, blk g (.cells #[.int .i64 x.o, .int .i64 x.a, .int .i64 x.b, .int .i64 x.n] 23)]) := h1
            clear h1 HM1
            refine hK.out _ _ (fun _ => in_blk S4.out 1 rfl) ?_
            clear hK K
            try simp only [Act.put, List.setIfInBounds_toArray, List.set_cons_zero, List.set_cons_succ]
            refine Held.only 4 (by kernel_rfl) rfl ?_
            intro K hK
            go_simp
            have S6 : Hid (Sep (fun _ => False) w (w1.alloc (.cells #[.int .i64 x.o, .int .i64 x.a, .int .i64 x.b, .int .i64 x.n] 23)) [told inE (.slice (some ⟨w1.heap.size, 0, none⟩) 1 1) [x], grow inE 23 (.slice A1 l.length c1) l, blk g (.cells #[.int .i64 x.o, .int .i64 x.a, .int .i64 x.b, .int .i64 x.n] 23)]) := S4.out.lit_told 23 [x] (cs := #[.int .i64 x.o, .int .i64 x.a, .int .i64 x.b, .int .i64 x.n]) rfl (by simp) rfl
            refine hK.out _ _ (fun _ => in_blk S6.out 2 rfl) ?_
            clear hK K
            try simp only [Act.put, List.setIfInBounds_toArray, List.set_cons_zero, List.set_cons_succ]
            refine Held.only 5 (by kernel_rfl) rfl ?_
            intro K hK
            refine wp_appC (.tmp 31) (.tmp 33) coElem rfl rfl rfl S6.out 1 rfl (S6.out.rdL 0 rfl) (by rw [L0.out]; simp; omega) ?_
            intro A5 c5 w5 m5 HM5 h5
            have S5 : Hid (Sep (fun _ => False) w w5 [told inE (.slice (some ⟨w1.heap.size, 0, none⟩) 1 1) [x], grow inE 23 (.slice A5 m5.length c5) m5, blk g (.cells #[.int .i64 x.o, .int .i64 x.a, .int .i64 x.b, .int .i64 x.n] 23)]) := h5
            clear h5
            refine hK.out _ _ (fun _ => in_blk S5.out 2 rfl) ?_
            clear hK K
            try simp only [Act.put, List.setIfInBounds_toArray, List.set_cons_zero, List.set_cons_succ]
            have HLN : Hid (m5.length = q) := by
              show _ = _
              rw [HM5.out, List.length_append, L0.out]
              exact hq
            refine Held.only 6 (by kernel_rfl) rfl ?_
            intro K hK
            go_simp
            refine hK.out _ _ (fun h => absurd rfl h) ?_
            clear hK K
            try simp only [Act.put]
            refine Held.done (by kernel_rfl) ?_ _
            go_wp2_with fail
            go_meet
            have f5 : m5.length ≤ c5 := own_fits S5.out 1 rfl
            have h6 := grow_told (Sep.sub S5.out.tail (.cons_cons _ (.cons_cons _ .slnil))) (by rw [HLN.out]; omega)
            rw [HLN.out, HM5.out] at h6
            rw [HLN.out] at f5
            exact ⟨A5, c5, by rw [HLN.out], f5, h6⟩
          · intro K hK
            go_simp
            have S4 : Hid (Sep (fun _ => False) w ((w0.alloc (.cells #[] 23)).alloc (.cells #[.int .i64 x.o, .int .i64 x.a, .int .i64 x.b, .int .i64 x.n] 23)) [told inE (.slice (some ⟨(w0.alloc (.cells #[] 23)).heap.size, 0, none⟩) 1 1) [x], grow inE 23 (.slice (some ⟨w0.heap.size, 0, none⟩) 0 0) [], blk g (.cells #[.int .i64 x.o, .int .i64 x.a, .int .i64 x.b, .int .i64 x.n] 23)]) := S3.out.lit_told 23 [x] (cs := #[.int .i64 x.o, .int .i64 x.a, .int .i64 x.b, .int .i64 x.n]) rfl (by simp) rfl
            refine hK.out _ _ (fun _ => in_blk S4.out 2 rfl) ?_
            clear hK K
            try simp only [Act.put, List.setIfInBounds_toArray, List.set_cons_zero, List.set_cons_succ]
            simp only [World.size_alloc] at S4
            refine Held.only 2 (by kernel_rfl) rfl ?_
            intro K hK
            refine wp_appC (.tmp 29) (.tmp 30) coElem rfl rfl rfl S4.out 1 rfl (R0.out.below S4.out.old) (by rw [L0.out]; simp; omega) ?_
            intro A1 c1 w1 m1 HM1 h1
            obtain rfl : l = m1 := HM1.out.symm
            have S6 : Hid (Sep (fun _ => False) w w1 [told inE (.slice (some ⟨w0.heap.size + 1, 0, none⟩) 1 1) [x], grow inE 23 (.slice A1 l.length c1) l, blk g (.cells #[.int .i64 x.o, .int .i64 x.a, .int .i64 x.b, .int .i64 x.n] 23)]) := h1
            clear h1 HM1
            refine hK.out _ _ (fun _ => in_blk S6.out 2 rfl) ?_
            clear hK K
            try simp only [Act.put, List.setIfInBounds_toArray, List.set_cons_zero, List.set_cons_succ]
            refine Held.only 5 (by kernel_rfl) rfl ?_
            intro K hK
            refine wp_appC (.tmp 31) (.tmp 33) coElem rfl rfl rfl S6.out 1 rfl (S6.out.rdL 0 rfl) (by rw [L0.out]; simp; omega) ?_
            intro A5 c5 w5 m5 HM5 h5
            have S5 : Hid (Sep (fun _ => False) w w5 [told inE (.slice (some ⟨w0.heap.size + 1, 0, none⟩) 1 1) [x], grow inE 23 (.slice A5 m5.length c5) m5, blk g (.cells #[.int .i64 x.o, .int .i64 x.a, .int .i64 x.b, .int .i64 x.n] 23)]) := h5
            clear h5
            refine hK.out _ _ (fun _ => in_blk S5.out 2 rfl) ?_
            clear hK K
            try simp only [Act.put, List.setIfInBounds_toArray, List.set_cons_zero, List.set_cons_succ]
            have HLN : Hid (m5.length = q) := by
              show _ = _
              rw [HM5.out, List.length_append, L0.out]
              exact hq
            refine Held.only 6 (by kernel_rfl) rfl ?_
            intro K hK
            go_simp
            refine hK.out _ _ (fun h => absurd rfl h) ?_
            clear hK K
            try simp only [Act.put]
            refine Held.done (by kernel_rfl) ?_ _
            go_wp2_with fail
            go_meet
            have f5 : m5.length ≤ c5 := own_fits S5.out 1 rfl
            have h6 := grow_told (Sep.sub S5.out.tail (.cons_cons _ (.cons_cons _ .slnil))) (by rw [HLN.out]; omega)
            rw [HLN.out, HM5.out] at h6
            rw [HLN.out] at f5
            exact ⟨A5, c5, by rw [HLN.out], f5, h6⟩
        · intro K hK
          go_simp
          have S3 : Hid (Sep (fun _ => False) w (w0.alloc (.cells #[.int .i64 x.o, .int .i64 x.a, .int .i64 x.b, .int .i64 x.n] 23)) [told inE (.slice (some ⟨w0.heap.size, 0, none⟩) 1 1) [x], blk g (.cells #[.int .i64 x.o, .int .i64 x.a, .int .i64 x.b, .int .i64 x.n] 23)]) := S2.out.lit_told 23 [x] (cs := #[.int .i64 x.o, .int .i64 x.a, .int .i64 x.b, .int .i64 x.n]) rfl (by simp) rfl
          refine hK.out _ _ (fun _ => in_blk S3.out 1 rfl) ?_
          clear hK K
          try simp only [Act.put, List.setIfInBounds_toArray, List.set_cons_zero, List.set_cons_succ]
          refine Held.only 0 (by kernel_rfl) rfl ?_
          intro K hK
          go_simp
          have S4 : Hid (Sep (fun _ => False) w ((w0.alloc (.cells #[.int .i64 x.o, .int .i64 x.a, .int .i64 x.b, .int .i64 x.n] 23)).alloc (.cells #[] 23)) [grow inE 23 (.slice (some ⟨(w0.alloc (.cells #[.int .i64 x.o, .int .i64 x.a, .int .i64 x.b, .int .i64 x.n] 23)).heap.size, 0, none⟩) 0 0) [], told inE (.slice (some ⟨w0.heap.size, 0, none⟩) 1 1) [x], blk g (.cells #[.int .i64 x.o, .int .i64 x.a, .int .i64 x.b, .int .i64 x.n] 23)]) := S3.out.grow0 inE 23
          refine hK.out _ _ (fun _ => in_blk S4.out 2 rfl) ?_
          clear hK K
          try simp only [Act.put, List.setIfInBounds_toArray, List.set_cons_zero, List.set_cons_succ]
          simp only [World.size_alloc] at S4
          refine Held.only 2 (by kernel_rfl) rfl ?_
          intro K hK
          refine wp_appC (.tmp 29) (.tmp 30) coElem rfl rfl rfl S4.out 0 rfl (R0.out.below S4.out.old) (by rw [L0.out]; simp; omega) ?_
          intro A1 c1 w1 m1 HM1 h1
          obtain rfl : l = m1 := HM1.out.symm
          have S6 : Hid (Sep (fun _ => False) w w1 [grow inE 23 (.slice A1 l.length c1) l, told inE (.slice (some ⟨w0.heap.size, 0, none⟩) 1 1) [x], blk g (.cells #[.int .i64 x.o, .int .i64 x.a, .int .i64 x.b, .int .i64 x.n] 23)]) := h1
          clear h1 HM1
          refine hK.out _ _ (fun _ => in_blk S6.out 2 rfl) ?_
          clear hK K
          try simp only [Act.put, List.setIfInBounds_toArray, List.set_cons_zero, List.set_cons_succ]
          refine Held.only 5 (by kernel_rfl) rfl ?_
          intro K hK
          refine wp_appC (.tmp 31) (.tmp 33) coElem rfl rfl rfl S6.out 0 rfl (S6.out.rdL 1 rfl) (by rw [L0.out]; simp; omega) ?_
          intro A5 c5 w5 m5 HM5 h5
          have S5 : Hid (Sep (fun _ => False) w w5 [grow inE 23 (.slice A5 m5.length c5) m5, told inE (.slice (some ⟨w0.heap.size, 0, none⟩) 1 1) [x], blk g (.cells #[.int .i64 x.o, .int .i64 x.a, .int .i64 x.b, .int .i64 x.n] 23)]) := h5
          clear h5
          refine hK.out _ _ (fun _ => in_blk S5.out 2 rfl) ?_
          clear hK K
          try simp only [Act.put, List.setIfInBounds_toArray, List.set_cons_zero, List.set_cons_succ]
          have HLN : Hid (m5.length = q) := by
            show _ = _
            rw [HM5.out, List.length_append, L0.out]
            exact hq
          refine Held.only 6 (by kernel_rfl) rfl ?_
          intro K hK
          go_simp
          refine hK.out _ _ (fun h => absurd rfl h) ?_
          clear hK K
          try simp only [Act.put]
          refine Held.done (by kernel_rfl) ?_ _
          go_wp2_with fail
          go_meet
          have f5 : m5.length ≤ c5 := own_fits S5.out 0 rfl
          have h6 := grow_told (Sep.sub S5.out (.cons_cons _ (.cons _ (.cons_cons _ .slnil)))) (by rw [HLN.out]; omega)
          rw [HLN.out, HM5.out] at h6
          rw [HLN.out] at f5
          exact ⟨A5, c5, by rw [HLN.out], f5, h6⟩
      case rest => as_aux_lemma =>
        obtain ⟨A9, c9, rfl, f9, h9⟩ := hcut.out
        have S9 := Lib.hid h9
        clear hcut h9 HS
        go_upto_region 8 with (fail)
        have SD : Hid (Sep (fun _ => False) w wc.drew [told inE (.slice A9 q c9) (l ++ [x]), blk g (.cells #[.int .i64 x.o, .int .i64 x.a, .int .i64 x.b, .int .i64 x.n] 23)]) := S9.out.drew
        obtain ⟨y1, y2, y3, y4⟩ := in_blk SD.out 1 rfl
        clear S9
        cases hm : mayB l with
        | false =>
          have HM := Lib.hid hm
          clear hm
          refine Held.begin_ (fun V : World => V.cell? ⟨g, 0, none⟩ = some (.int .i64 x.o) ∧ V.cell? ⟨g, 1, none⟩ = some (.int .i64 x.a) ∧ V.cell? ⟨g, 2, none⟩ = some (.int .i64 x.b) ∧ V.cell? ⟨g, 3, none⟩ = some (.int .i64 x.n)) 17 (by kernel_rfl) ?_
          have hC : (fun V : World => V.cell? ⟨g, 0, none⟩ = some (.int .i64 x.o) ∧ V.cell? ⟨g, 1, none⟩ = some (.int .i64 x.a) ∧ V.cell? ⟨g, 2, none⟩ = some (.int .i64 x.b) ∧ V.cell? ⟨g, 3, none⟩ = some (.int .i64 x.n)) wc.drew := in_blk SD.out 1 rfl
          refine Held.takeG 0 (v := ?_) hC rfl (by kernel_rfl) (by kernel_rfl) (by kernel_rfl) (by kernel_rfl) (fun _ _ _ h => h) rfl ?_ ?_; rotate_left; · (intro W hW; obtain ⟨k0, k1, k2, k3⟩ := hW; go_simp <;> with_reducible rfl)
          try simp only [Act.put, List.setIfInBounds_toArray, List.set_cons_zero, List.set_cons_succ]
          refine Held.onlyG 1 (by kernel_rfl) rfl rfl ?_
          intro K hK
          go_simp
          refine (a_may I SD.out R0.out f0 I0.out HM.out).mono ?_
          rintro e SAw ⟨rfl, SAh⟩
          have SA := Lib.hid SAh
          clear SAh
          refine hK.out _ _ (fun _ => in_blk SA.out 1 rfl) ?_
          clear hK K
          try simp only [Act.put, List.setIfInBounds_toArray, List.set_cons_zero, List.set_cons_succ]
          have hC : (fun V : World => V.cell? ⟨g, 0, none⟩ = some (.int .i64 x.o) ∧ V.cell? ⟨g, 1, none⟩ = some (.int .i64 x.a) ∧ V.cell? ⟨g, 2, none⟩ = some (.int .i64 x.b) ∧ V.cell? ⟨g, 3, none⟩ = some (.int .i64 x.n)) SAw := in_blk SA.out 1 rfl
          refine Held.takeG 2 (v := ?_) hC rfl (by kernel_rfl) (by kernel_rfl) (by kernel_rfl) (by kernel_rfl) (fun _ _ _ h => h) rfl ?_ ?_; rotate_left; · (intro W hW; obtain ⟨k0, k1, k2, k3⟩ := hW; go_simp <;> with_reducible rfl)
          try simp only [Act.put, List.setIfInBounds_toArray, List.set_cons_zero, List.set_cons_succ]
          refine Held.takeG 3 (v := ?_) hC rfl (by kernel_rfl) (by kernel_rfl) (by kernel_rfl) (by kernel_rfl) (fun _ _ _ h => h) rfl ?_ ?_; rotate_left; · (intro W hW; obtain ⟨k0, k1, k2, k3⟩ := hW; go_simp <;> with_reducible rfl)
          try simp only [Act.put, List.setIfInBounds_toArray, List.set_cons_zero, List.set_cons_succ]
          refine Held.skip 4 hC rfl (by kernel_rfl) (by kernel_rfl) (by kernel_rfl) (by kernel_rfl) (fun _ _ _ h => h) rfl ?_
          try simp only [Act.put, List.setIfInBounds_toArray, List.set_cons_zero, List.set_cons_succ]
          refine Held.skip 5 hC rfl (by kernel_rfl) (by kernel_rfl) (by kernel_rfl) (by kernel_rfl) (fun _ _ _ h => h) rfl ?_
          try simp only [Act.put, List.setIfInBounds_toArray, List.set_cons_zero, List.set_cons_succ]
          refine Held.skip 6 hC rfl (by kernel_rfl) (by kernel_rfl) (by kernel_rfl) (by kernel_rfl) (fun _ _ _ h => h) rfl ?_
          try simp only [Act.put, List.setIfInBounds_toArray, List.set_cons_zero, List.set_cons_succ]
          refine Held.takeG 7 (v := ?_) hC rfl (by kernel_rfl) (by kernel_rfl) (by kernel_rfl) (by kernel_rfl) (fun _ _ _ h => h) rfl ?_ ?_; rotate_left; · (intro W hW; obtain ⟨k0, k1, k2, k3⟩ := hW; go_simp <;> with_reducible rfl)
          try simp only [Act.put, List.setIfInBounds_toArray, List.set_cons_zero, List.set_cons_succ]
          refine Held.takeG 8 (v := ?_) hC rfl (by kernel_rfl) (by kernel_rfl) (by kernel_rfl) (by kernel_rfl) (fun _ _ _ h => h) rfl ?_ ?_; rotate_left; · (intro W hW; obtain ⟨k0, k1, k2, k3⟩ := hW; go_simp <;> with_reducible rfl)
          try simp only [Act.put, List.setIfInBounds_toArray, List.set_cons_zero, List.set_cons_succ]
          refine Held.skip 9 hC rfl (by kernel_rfl) (by kernel_rfl) (by kernel_rfl) (by kernel_rfl) (fun _ _ _ h => h) rfl ?_
          try simp only [Act.put, List.setIfInBounds_toArray, List.set_cons_zero, List.set_cons_succ]
          refine Held.skip 10 hC rfl (by kernel_rfl) (by kernel_rfl) (by kernel_rfl) (by kernel_rfl) (fun _ _ _ h => h) rfl ?_
          try simp only [Act.put, List.setIfInBounds_toArray, List.set_cons_zero, List.set_cons_succ]
          refine Held.skip 11 hC rfl (by kernel_rfl) (by kernel_rfl) (by kernel_rfl) (by kernel_rfl) (fun _ _ _ h => h) rfl ?_
          try simp only [Act.put, List.setIfInBounds_toArray, List.set_cons_zero, List.set_cons_succ]
          refine Held.skip 12 hC rfl (by kernel_rfl) (by kernel_rfl) (by kernel_rfl) (by kernel_rfl) (fun _ _ _ h => h) rfl ?_
          try simp only [Act.put, List.setIfInBounds_toArray, List.set_cons_zero, List.set_cons_succ]
          refine Held.skip 13 hC rfl (by kernel_rfl) (by kernel_rfl) (by kernel_rfl) (by kernel_rfl) (fun _ _ _ h => h) rfl ?_
          try simp only [Act.put, List.setIfInBounds_toArray, List.set_cons_zero, List.set_cons_succ]
          refine Held.skip 14 hC rfl (by kernel_rfl) (by kernel_rfl) (by kernel_rfl) (by kernel_rfl) (fun _ _ _ h => h) rfl ?_
          try simp only [Act.put, List.setIfInBounds_toArray, List.set_cons_zero, List.set_cons_succ]
          refine Held.skip 15 hC rfl (by kernel_rfl) (by kernel_rfl) (by kernel_rfl) (by kernel_rfl) (fun _ _ _ h => h) rfl ?_
          try simp only [Act.put, List.setIfInBounds_toArray, List.set_cons_zero, List.set_cons_succ]
          refine Held.takeG 16 (v := ?_) hC rfl (by kernel_rfl) (by kernel_rfl) (by kernel_rfl) (by kernel_rfl) (fun _ _ _ h => h) rfl ?_ ?_; rotate_left; · (intro W hW; obtain ⟨k0, k1, k2, k3⟩ := hW; go_simp <;> with_reducible rfl)
          try simp only [Act.put, List.setIfInBounds_toArray, List.set_cons_zero, List.set_cons_succ]
          refine Held.only 17 (by kernel_rfl) rfl ?_
          intro K hK
          go_simp
          refine hK.out _ _ (fun h => absurd rfl h) ?_
          clear hK K
          try simp only [Act.put]
          refine Held.done (by kernel_rfl) ?_ _
          go_wp2_with fail
          go_ret
          exact ⟨rfl, SA.out.old⟩
        | true =>
          have HM := Lib.hid hm
          have HLL := Lib.hid (may_longer (x := x) hm)
          clear hm
          rcases (by omega : 24 ≤ n0 ∨ n0 < 24) with h24 | h24
          · have d0 : decide ((n0 : Int) ≥ 24) = true := decide_eq_true (by omega)
            have d1 : decide (24 ≤ n0) = true := decide_eq_true h24
            refine Held.begin_ (fun V : World => V.cell? ⟨g, 0, none⟩ = some (.int .i64 x.o) ∧ V.cell? ⟨g, 1, none⟩ = some (.int .i64 x.a) ∧ V.cell? ⟨g, 2, none⟩ = some (.int .i64 x.b) ∧ V.cell? ⟨g, 3, none⟩ = some (.int .i64 x.n)) 17 (by kernel_rfl) ?_
            have hC : (fun V : World => V.cell? ⟨g, 0, none⟩ = some (.int .i64 x.o) ∧ V.cell? ⟨g, 1, none⟩ = some (.int .i64 x.a) ∧ V.cell? ⟨g, 2, none⟩ = some (.int .i64 x.b) ∧ V.cell? ⟨g, 3, none⟩ = some (.int .i64 x.n)) wc.drew := in_blk SD.out 1 rfl
            refine Held.takeG 0 (v := ?_) hC rfl (by kernel_rfl) (by kernel_rfl) (by kernel_rfl) (by kernel_rfl) (fun _ _ _ h => h) rfl ?_ ?_; rotate_left; · (intro W hW; obtain ⟨k0, k1, k2, k3⟩ := hW; go_simp <;> with_reducible rfl)
            try simp only [Act.put, List.setIfInBounds_toArray, List.set_cons_zero, List.set_cons_succ]
            refine Held.onlyG 1 (by kernel_rfl) rfl rfl ?_
            intro K hK
            go_simp
            refine (a_may I SD.out R0.out f0 I0.out HM.out).mono ?_
            rintro e SAw ⟨rfl, SAh⟩
            have SA := Lib.hid SAh
            clear SAh
            refine hK.out _ _ (fun _ => in_blk SA.out 1 rfl) ?_
            clear hK K
            try simp only [Act.put, List.setIfInBounds_toArray, List.set_cons_zero, List.set_cons_succ]
            have hC : (fun V : World => V.cell? ⟨g, 0, none⟩ = some (.int .i64 x.o) ∧ V.cell? ⟨g, 1, none⟩ = some (.int .i64 x.a) ∧ V.cell? ⟨g, 2, none⟩ = some (.int .i64 x.b) ∧ V.cell? ⟨g, 3, none⟩ = some (.int .i64 x.n)) SAw := in_blk SA.out 1 rfl
            refine Held.takeG 2 (v := ?_) hC rfl (by kernel_rfl) (by kernel_rfl) (by kernel_rfl) (by kernel_rfl) (fun _ _ _ h => h) rfl ?_ ?_; rotate_left; · (intro W hW; obtain ⟨k0, k1, k2, k3⟩ := hW; go_simp <;> with_reducible rfl)
            try simp only [Act.put, List.setIfInBounds_toArray, List.set_cons_zero, List.set_cons_succ]
            refine Held.takeG 3 (v := ?_) hC rfl (by kernel_rfl) (by kernel_rfl) (by kernel_rfl) (by kernel_rfl) (fun _ _ _ h => h) rfl ?_ ?_; rotate_left; · (intro W hW; obtain ⟨k0, k1, k2, k3⟩ := hW; go_simp <;> with_reducible rfl)
            try simp only [Act.put, List.setIfInBounds_toArray, List.set_cons_zero, List.set_cons_succ]
            refine Held.takeG 4 (v := ?_) hC rfl (by kernel_rfl) (by kernel_rfl) (by kernel_rfl) (by kernel_rfl) (fun _ _ _ h => h) rfl ?_ ?_; rotate_left; · (intro W hW; obtain ⟨k0, k1, k2, k3⟩ := hW; go_simp <;> with_reducible rfl)
            try simp only [Act.put, List.setIfInBounds_toArray, List.set_cons_zero, List.set_cons_succ]
            refine Held.takeG 5 (v := ?_) hC rfl (by kernel_rfl) (by kernel_rfl) (by kernel_rfl) (by kernel_rfl) (fun _ _ _ h => h) rfl ?_ ?_; rotate_left; · (intro W hW; obtain ⟨k0, k1, k2, k3⟩ := hW; go_simp <;> with_reducible rfl)
            try simp only [Act.put, List.setIfInBounds_toArray, List.set_cons_zero, List.set_cons_succ]
            refine Held.takeG 6 (v := ?_) hC rfl (by kernel_rfl) (by kernel_rfl) (by kernel_rfl) (by kernel_rfl) (fun _ _ _ h => h) rfl ?_ ?_; rotate_left; · (intro W hW; obtain ⟨k0, k1, k2, k3⟩ := hW; go_simp <;> with_reducible rfl)
            try simp only [Act.put, List.setIfInBounds_toArray, List.set_cons_zero, List.set_cons_succ]
            refine Held.takeG 7 (v := ?_) hC rfl (by kernel_rfl) (by kernel_rfl) (by kernel_rfl) (by kernel_rfl) (fun _ _ _ h => h) rfl ?_ ?_; rotate_left; · (intro W hW; obtain ⟨k0, k1, k2, k3⟩ := hW; go_simp <;> with_reducible rfl)
            try simp only [Act.put, List.setIfInBounds_toArray, List.set_cons_zero, List.set_cons_succ]
            refine Held.takeG 8 (v := ?_) hC rfl (by kernel_rfl) (by kernel_rfl) (by kernel_rfl) (by kernel_rfl) (fun _ _ _ h => h) rfl ?_ ?_; rotate_left; · (intro W hW; obtain ⟨k0, k1, k2, k3⟩ := hW; go_simp <;> with_reducible rfl)
            try simp only [Act.put, List.setIfInBounds_toArray, List.set_cons_zero, List.set_cons_succ]
            refine Held.skip 9 hC rfl (by kernel_rfl) (by kernel_rfl) (by kernel_rfl) (by kernel_rfl) (fun _ _ _ h => h) rfl ?_
            try simp only [Act.put, List.setIfInBounds_toArray, List.set_cons_zero, List.set_cons_succ]
            refine Held.skip 10 hC rfl (by kernel_rfl) (by kernel_rfl) (by kernel_rfl) (by kernel_rfl) (fun _ _ _ h => h) rfl ?_
            try simp only [Act.put, List.setIfInBounds_toArray, List.set_cons_zero, List.set_cons_succ]
            refine Held.skip 11 hC rfl (by kernel_rfl) (by kernel_rfl) (by kernel_rfl) (by kernel_rfl) (fun _ _ _ h => h) rfl ?_
            try simp only [Act.put, List.setIfInBounds_toArray, List.set_cons_zero, List.set_cons_succ]
            refine Held.skip 12 hC rfl (by kernel_rfl) (by kernel_rfl) (by kernel_rfl) (by kernel_rfl) (fun _ _ _ h => h) rfl ?_
            try simp only [Act.put, List.setIfInBounds_toArray, List.set_cons_zero, List.set_cons_succ]
            refine Held.skip 13 hC rfl (by kernel_rfl) (by kernel_rfl) (by kernel_rfl) (by kernel_rfl) (fun _ _ _ h => h) rfl ?_
            try simp only [Act.put, List.setIfInBounds_toArray, List.set_cons_zero, List.set_cons_succ]
            refine Held.skip 14 hC rfl (by kernel_rfl) (by kernel_rfl) (by kernel_rfl) (by kernel_rfl) (fun _ _ _ h => h) rfl ?_
            try simp only [Act.put, List.setIfInBounds_toArray, List.set_cons_zero, List.set_cons_succ]
            refine Held.skip 15 hC rfl (by kernel_rfl) (by kernel_rfl) (by kernel_rfl) (by kernel_rfl) (fun _ _ _ h => h) rfl ?_
            try simp only [Act.put, List.setIfInBounds_toArray, List.set_cons_zero, List.set_cons_succ]
            refine Held.takeG 16 (v := ?_) hC rfl (by kernel_rfl) (by kernel_rfl) (by kernel_rfl) (by kernel_rfl) (fun _ _ _ h => h) rfl ?_ ?_; rotate_left; · (intro W hW; obtain ⟨k0, k1, k2, k3⟩ := hW; go_simp <;> with_reducible rfl)
            try simp only [Act.put, List.setIfInBounds_toArray, List.set_cons_zero, List.set_cons_succ]
            refine Held.only 17 (by kernel_rfl) rfl ?_
            intro K hK
            go_simp
            refine hK.out _ _ (fun h => absurd rfl h) ?_
            clear hK K
            try simp only [Act.put]
            refine Held.done (by kernel_rfl) ?_ _
            go_wp2_with fail
            go_ret
            exact ⟨rfl, SA.out.old⟩
          · have d0 : decide ((n0 : Int) ≥ 24) = false := decide_eq_false (by omega)
            have d1 : decide (24 ≤ n0) = false := decide_eq_false (by omega)
            obtain ⟨r, hr⟩ : ∃ r, rightB x q = r := ⟨_, rfl⟩
            have HR := Lib.hid hr
            have HML : Hid (mayB (l ++ [x]) = r) := by
              show _ = _
              rw [HLL.out (by rw [L0.out]; omega), List.length_append, L0.out, List.length_singleton, hq, hr]
            have HQ64 : Hid (In64 (q : Int)) := ⟨by omega, by omega⟩
            have HIX : Hid (∀ y ∈ l ++ [x], InIn y) := fun y hy => (List.mem_append.1 hy).elim (I0.out y) fun h => by rw [List.mem_singleton] at h; rw [h]; exact HX.out
            have hrr : (r == r) = true := by simp
            clear hr HLL
            refine Held.begin_ (fun V : World => V.cell? ⟨g, 0, none⟩ = some (.int .i64 x.o) ∧ V.cell? ⟨g, 1, none⟩ = some (.int .i64 x.a) ∧ V.cell? ⟨g, 2, none⟩ = some (.int .i64 x.b) ∧ V.cell? ⟨g, 3, none⟩ = some (.int .i64 x.n)) 17 (by kernel_rfl) ?_
            have hC : (fun V : World => V.cell? ⟨g, 0, none⟩ = some (.int .i64 x.o) ∧ V.cell? ⟨g, 1, none⟩ = some (.int .i64 x.a) ∧ V.cell? ⟨g, 2, none⟩ = some (.int .i64 x.b) ∧ V.cell? ⟨g, 3, none⟩ = some (.int .i64 x.n)) wc.drew := in_blk SD.out 1 rfl
            refine Held.takeG 0 (v := ?_) hC rfl (by kernel_rfl) (by kernel_rfl) (by kernel_rfl) (by kernel_rfl) (fun _ _ _ h => h) rfl ?_ ?_; rotate_left; · (intro W hW; obtain ⟨k0, k1, k2, k3⟩ := hW; go_simp <;> with_reducible rfl)
            try simp only [Act.put, List.setIfInBounds_toArray, List.set_cons_zero, List.set_cons_succ]
            refine Held.onlyG 1 (by kernel_rfl) rfl rfl ?_
            intro K hK
            go_simp
            refine (a_may I SD.out R0.out f0 I0.out HM.out).mono ?_
            rintro e SAw ⟨rfl, SAh⟩
            have SA := Lib.hid SAh
            clear SAh
            refine hK.out _ _ (fun _ => in_blk SA.out 1 rfl) ?_
            clear hK K
            try simp only [Act.put, List.setIfInBounds_toArray, List.set_cons_zero, List.set_cons_succ]
            have hC : (fun V : World => V.cell? ⟨g, 0, none⟩ = some (.int .i64 x.o) ∧ V.cell? ⟨g, 1, none⟩ = some (.int .i64 x.a) ∧ V.cell? ⟨g, 2, none⟩ = some (.int .i64 x.b) ∧ V.cell? ⟨g, 3, none⟩ = some (.int .i64 x.n)) SAw := in_blk SA.out 1 rfl
            refine Held.takeG 2 (v := ?_) hC rfl (by kernel_rfl) (by kernel_rfl) (by kernel_rfl) (by kernel_rfl) (fun _ _ _ h => h) rfl ?_ ?_; rotate_left; · (intro W hW; obtain ⟨k0, k1, k2, k3⟩ := hW; go_simp <;> with_reducible rfl)
            try simp only [Act.put, List.setIfInBounds_toArray, List.set_cons_zero, List.set_cons_succ]
            refine Held.takeG 3 (v := ?_) hC rfl (by kernel_rfl) (by kernel_rfl) (by kernel_rfl) (by kernel_rfl) (fun _ _ _ h => h) rfl ?_ ?_; rotate_left; · (intro W hW; obtain ⟨k0, k1, k2, k3⟩ := hW; go_simp <;> with_reducible rfl)
            try simp only [Act.put, List.setIfInBounds_toArray, List.set_cons_zero, List.set_cons_succ]
            refine Held.takeG 4 (v := ?_) hC rfl (by kernel_rfl) (by kernel_rfl) (by kernel_rfl) (by kernel_rfl) (fun _ _ _ h => h) rfl ?_ ?_; rotate_left; · (intro W hW; obtain ⟨k0, k1, k2, k3⟩ := hW; go_simp <;> with_reducible rfl)
            try simp only [Act.put, List.setIfInBounds_toArray, List.set_cons_zero, List.set_cons_succ]
            refine Held.takeG 5 (v := ?_) hC rfl (by kernel_rfl) (by kernel_rfl) (by kernel_rfl) (by kernel_rfl) (fun _ _ _ h => h) rfl ?_ ?_; rotate_left; · (intro W hW; obtain ⟨k0, k1, k2, k3⟩ := hW; go_simp <;> with_reducible rfl)
            try simp only [Act.put, List.setIfInBounds_toArray, List.set_cons_zero, List.set_cons_succ]
            refine Held.takeG 6 (v := ?_) hC rfl (by kernel_rfl) (by kernel_rfl) (by kernel_rfl) (by kernel_rfl) (fun _ _ _ h => h) rfl ?_ ?_; rotate_left; · (intro W hW; obtain ⟨k0, k1, k2, k3⟩ := hW; go_simp <;> with_reducible rfl)
            try simp only [Act.put, List.setIfInBounds_toArray, List.set_cons_zero, List.set_cons_succ]
            refine Held.takeG 7 (v := ?_) hC rfl (by kernel_rfl) (by kernel_rfl) (by kernel_rfl) (by kernel_rfl) (fun _ _ _ h => h) rfl ?_ ?_; rotate_left; · (intro W hW; obtain ⟨k0, k1, k2, k3⟩ := hW; go_simp <;> with_reducible rfl)
            try simp only [Act.put, List.setIfInBounds_toArray, List.set_cons_zero, List.set_cons_succ]
            refine Held.takeG 8 (v := ?_) hC rfl (by kernel_rfl) (by kernel_rfl) (by kernel_rfl) (by kernel_rfl) (fun _ _ _ h => h) rfl ?_ ?_; rotate_left; · (intro W hW; obtain ⟨k0, k1, k2, k3⟩ := hW; go_simp <;> with_reducible rfl)
            try simp only [Act.put, List.setIfInBounds_toArray, List.set_cons_zero, List.set_cons_succ]
            refine Held.takeG 9 (v := ?_) hC rfl (by kernel_rfl) (by kernel_rfl) (by kernel_rfl) (by kernel_rfl) (fun _ _ _ h => h) rfl ?_ ?_; rotate_left; · (intro W hW; obtain ⟨k0, k1, k2, k3⟩ := hW; go_simp <;> with_reducible rfl)
            try simp only [Act.put, List.setIfInBounds_toArray, List.set_cons_zero, List.set_cons_succ]
            refine Held.takeG 11 (v := ?_) hC rfl (by kernel_rfl) (by kernel_rfl) (by kernel_rfl) (by kernel_rfl) (fun _ _ _ h => h) rfl ?_ ?_; rotate_left; · (intro W hW; obtain ⟨k0, k1, k2, k3⟩ := hW; go_simp <;> with_reducible rfl)
            try simp only [Act.put, List.setIfInBounds_toArray, List.set_cons_zero, List.set_cons_succ]
            refine Held.takeG 12 (v := ?_) hC rfl (by kernel_rfl) (by kernel_rfl) (by kernel_rfl) (by kernel_rfl) (fun _ _ _ h => h) rfl ?_ ?_; rotate_left; · (intro W hW; obtain ⟨k0, k1, k2, k3⟩ := hW; go_simp <;> with_reducible rfl)
            try simp only [Act.put, List.setIfInBounds_toArray, List.set_cons_zero, List.set_cons_succ]
            refine Held.takeG 13 (v := ?_) hC rfl (by kernel_rfl) (by kernel_rfl) (by kernel_rfl) (by kernel_rfl) (fun _ _ _ h => h) rfl ?_ ?_; rotate_left; · (intro W hW; obtain ⟨k0, k1, k2, k3⟩ := hW; go_simp <;> with_reducible rfl)
            try simp only [Act.put, List.setIfInBounds_toArray, List.set_cons_zero, List.set_cons_succ]
            refine Held.onlyG 10 (by kernel_rfl) rfl rfl ?_
            intro K hK
            go_simp
            refine (n_may I SA.out 0 rfl f9 HIX.out HML.out).mono ?_
            rintro e SBw ⟨rfl, SBh⟩
            have SB := Lib.hid SBh
            clear SBh
            refine hK.out _ _ (fun _ => in_blk SB.out 1 rfl) ?_
            clear hK K
            try simp only [Act.put, List.setIfInBounds_toArray, List.set_cons_zero, List.set_cons_succ]
            have hC : (fun V : World => V.cell? ⟨g, 0, none⟩ = some (.int .i64 x.o) ∧ V.cell? ⟨g, 1, none⟩ = some (.int .i64 x.a) ∧ V.cell? ⟨g, 2, none⟩ = some (.int .i64 x.b) ∧ V.cell? ⟨g, 3, none⟩ = some (.int .i64 x.n)) SBw := in_blk SB.out 1 rfl
            refine Held.onlyG 14 (by kernel_rfl) rfl rfl ?_
            intro K hK
            go_simp
            refine (a_right I SB.out x q HX.out HQ64.out HR.out).mono ?_
            rintro e SCw ⟨rfl, SCh⟩
            have SC := Lib.hid SCh
            clear SCh
            refine hK.out _ _ (fun _ => in_blk SC.out 1 rfl) ?_
            clear hK K
            try simp only [Act.put, List.setIfInBounds_toArray, List.set_cons_zero, List.set_cons_succ]
            have hC : (fun V : World => V.cell? ⟨g, 0, none⟩ = some (.int .i64 x.o) ∧ V.cell? ⟨g, 1, none⟩ = some (.int .i64 x.a) ∧ V.cell? ⟨g, 2, none⟩ = some (.int .i64 x.b) ∧ V.cell? ⟨g, 3, none⟩ = some (.int .i64 x.n)) SCw := in_blk SC.out 1 rfl
            refine Held.takeG 15 (v := ?_) hC rfl (by kernel_rfl) (by kernel_rfl) (by kernel_rfl) (by kernel_rfl) (fun _ _ _ h => h) rfl ?_ ?_; rotate_left; · (intro W hW; obtain ⟨k0, k1, k2, k3⟩ := hW; go_simp <;> with_reducible rfl)
            try simp only [Act.put, List.setIfInBounds_toArray, List.set_cons_zero, List.set_cons_succ]
            refine Held.takeG 16 (v := ?_) hC rfl (by kernel_rfl) (by kernel_rfl) (by kernel_rfl) (by kernel_rfl) (fun _ _ _ h => h) rfl ?_ ?_; rotate_left; · (intro W hW; obtain ⟨k0, k1, k2, k3⟩ := hW; go_simp <;> with_reducible rfl)
            try simp only [Act.put, List.setIfInBounds_toArray, List.set_cons_zero, List.set_cons_succ]
            refine Held.only 17 (by kernel_rfl) rfl ?_
            intro K hK
            go_simp
            refine hK.out _ _ (fun h => absurd rfl h) ?_
            clear hK K
            try simp only [Act.put]
            refine Held.done (by kernel_rfl) ?_ _
            go_wp2_with fail
            go_ret
            exact ⟨rfl, SC.out.old⟩
end Go.Proofs.YtoblkoljaeobkaaDoor.CodeI
