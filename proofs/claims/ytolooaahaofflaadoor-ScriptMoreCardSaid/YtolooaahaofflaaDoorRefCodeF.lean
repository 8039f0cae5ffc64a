/-
  Contracts of the functions of package countermandref16 (the document's answer for layer 16), sixth part: Read. Condition: what the slices read as.
-/
import Derived.Test.YtolooaahaofflaaDoorRefCodeE
namespace Go.Proofs.YtolooaahaofflaaDoor.RefCode
open Go.ChangeShapes Go.WideShapes Go.ChangeAt Go.RowKit Mem MutP CodeP Hand

theorem results_tmp3c {fn : Func} {t u v : Tmp} (h : fn.results = #[.tmp t, .tmp u, .tmp v]) (tmps : Array Value) (P : Program) (w : World) :
    (results fn tmps).run P w = .ok (.tuple #[tmps.getD t undef, tmps.getD u undef, tmps.getD v undef]) w := by
  simp [results, h]
theorem readL_snoc : ∀ (k : Nat) (b : List Int), readL (k + 1) b = readL k b ++ [oneI (b.drop (11 * k))]
  | 0, b => rfl
  | k + 1, b => by
    have ih := readL_snoc k (b.drop 11)
    show oneI b :: readL (k + 1) (b.drop 11) = oneI b :: readL k (b.drop 11) ++ _
    rw [ih, List.drop_drop, show 11 + 11 * k = 11 * (k + 1) by omega, List.cons_append]
theorem one_at {b : List Int} {t : Nat} {x0 x1 x2 : Int} (h0 : b[t]? = some x0) (h1 : b[t + 1]? = some x1) (h2 : b[t + 2]? = some x2) : oneI (b.drop t) = ⟨x0, x1, x2, numI (b.drop (t + 3))⟩ := by
  unfold oneI
  simp [List.getD, List.getElem?_drop, h0, h1, h2]
theorem in_any {w : World} {G : Nat → Prop} {v : Value} {l : List In} (h : RdL inE w G v l) : ∃ A c, v = .slice A l.length c ∧ RdL inE w (fun _ => True) (.slice A l.length c) l := by
  obtain ⟨A, c, rfl⟩ := h.form
  exact ⟨A, c, rfl, anyL h⟩

set_option maxRecDepth 100000 in
set_option maxHeartbeats 2000000 in
theorem read_r {w : World} {G : Nat → Prop} {A : Option Addr} {c : Nat} {b : List Int} (h : RdL byE w G (.slice A b.length c) b) (hb : ∀ x ∈ b, Byte x) (hc : b.length ≤ c) :
    Calls Tryd.prog 32 #[.slice A b.length c] w fun e w' => ∃ u, e = .returned (.tuple #[u, .int .i64 (readN b), .int .i64 (readE b)]) ∧ SaysL inE w w' u (readR b) ∧ FitsV u := by
  have hle := h.le
  have HR := Lib.hid h
  have HBY := Lib.hid hb
  clear h hb
  obtain ⟨n, hn⟩ : ∃ n, b.length = n := ⟨_, rfl⟩
  have HN := Lib.hid hn
  have HE := Lib.hid (read_errs b)
  have HZ : Hid (readE b ≠ 0 → readR b = [] ∧ readN b = 0) := fun h => ⟨by unfold readR; rw [if_neg h], by unfold readN; rw [if_neg h]⟩
  rw [hn] at HR hle hc ⊢
  clear hn
  rcases Nat.eq_zero_or_pos n with hn0 | hn0
  · have HF : Hid (readE b = 8) := by
      show _ = _
      rcases HE.out with ⟨e, _⟩ | ⟨_, h, _⟩ | ⟨_, h, _⟩ | ⟨_, h, _⟩ | ⟨_, h, _⟩
      · exact e
      all_goals (rw [HN.out] at h; omega)
    subst hn0
    go_enter Tryd.func32, Tryd.ntmps32
    go_wp2
    (try simp only [Exit.inBlock, Exit.then])
    refine bodyPost_ret (results_tmp3c rfl _ _ _) rfl ?_
    obtain ⟨z1, z2⟩ := HZ.out (by rw [HF.out]; decide)
    refine ⟨_, by rw [HF.out, z2]; rfl, ?_⟩
    rw [z1]
    exact ⟨says_nil inE (Below.refl _ _), fits_nil⟩
  · obtain ⟨x, hx⟩ : ∃ x, b[0]? = some x := ⟨_, List.getElem?_eq_getElem (by rw [HN.out]; exact hn0)⟩
    have HX : Hid (headN b = x) := by show _ = _; unfold headN; simp [List.getD, hx]
    have hx0 : 0 ≤ x ∧ x ≤ 255 := HBY.out x (List.mem_of_getElem? hx)
    obtain ⟨g, off, rfl, hg, q0⟩ := by_at HR.out hx
    rw [Nat.add_zero] at q0
    have wx : IntKind.i64.wrap x = x := IntWalk.i64_in _ (by omega)
    have nz : ((n : Int) == 0) = false := by simp; omega
    have n0 : (0 : Int) < (n : Int) := by omega
    clear hx
    rcases (by omega : x < 1 ∨ (1 ≤ x ∧ 24 < x) ∨ (1 ≤ x ∧ x ≤ 24)) with h1 | ⟨h1, h24⟩ | ⟨h1, h24⟩
    · have HF : Hid (readE b = 7) := by
        show _ = _
        rcases HE.out with ⟨_, h⟩ | ⟨e, _⟩ | ⟨_, _, h, _⟩ | ⟨_, _, h, _⟩ | ⟨_, _, h, _⟩
        · rw [HN.out] at h; omega
        · exact e
        all_goals (rw [HX.out] at h; omega)
      go_enter Tryd.func32, Tryd.ntmps32
      go_wp2
      (try simp only [Exit.inBlock, Exit.then])
      refine bodyPost_ret (results_tmp3c rfl _ _ _) rfl ?_
      obtain ⟨z1, z2⟩ := HZ.out (by rw [HF.out]; decide)
      refine ⟨_, by rw [HF.out, z2]; rfl, ?_⟩
      rw [z1]
      exact ⟨says_nil inE (Below.refl _ _), fits_nil⟩
    · have HF : Hid (readE b = 7) := by
        show _ = _
        rcases HE.out with ⟨_, h⟩ | ⟨e, _⟩ | ⟨_, _, h, _⟩ | ⟨_, _, h, _⟩ | ⟨_, _, h, _⟩
        · rw [HN.out] at h; omega
        · exact e
        all_goals (rw [HX.out] at h; omega)
      go_enter Tryd.func32, Tryd.ntmps32
      go_wp2
      (try simp only [Exit.inBlock, Exit.then])
      refine bodyPost_ret (results_tmp3c rfl _ _ _) rfl ?_
      obtain ⟨z1, z2⟩ := HZ.out (by rw [HF.out]; decide)
      refine ⟨_, by rw [HF.out, z2]; rfl, ?_⟩
      rw [z1]
      exact ⟨says_nil inE (Below.refl _ _), fits_nil⟩
    · have d24 : decide (x > 24) = false := decide_eq_false (by omega)
      have d1 : decide (x < 1) = false := decide_eq_false (by omega)
      rcases (by omega : (n : Int) < 1 + 11 * x ∨ 1 + 11 * x ≤ (n : Int)) with hs | hs
      · have HF : Hid (readE b = 8) := by
          show _ = _
          rcases HE.out with ⟨e, _⟩ | ⟨_, _, h⟩ | ⟨e, _⟩ | ⟨_, _, _, h, _⟩ | ⟨_, _, _, h, _⟩
          · exact e
          · rw [HX.out] at h; omega
          · exact e
          all_goals (rw [HX.out, HN.out] at h; omega)
        have d3 : decide ((n : Int) < 1 + 11 * x) = true := decide_eq_true hs
        go_enter Tryd.func32, Tryd.ntmps32
        go_wp2
        (try simp only [Exit.inBlock, Exit.then])
        refine bodyPost_ret (results_tmp3c rfl _ _ _) rfl ?_
        obtain ⟨z1, z2⟩ := HZ.out (by rw [HF.out]; decide)
        refine ⟨_, by rw [HF.out, z2]; rfl, ?_⟩
        rw [z1]
        exact ⟨says_nil inE (Below.refl _ _), fits_nil⟩
      · obtain ⟨m, rfl⟩ := Int.eq_ofNat_of_zero_le hx0.1
        have d3 : decide ((n : Int) < 1 + 11 * (m : Int)) = false := decide_eq_false (by omega)
        have HP : Hid (progL b = readL m (b.drop 1)) := by show _ = _; unfold progL; rw [HX.out, Int.toNat_natCast]
        have hm24 : m ≤ 24 := by omega
        have hm1 : 1 ≤ m := by omega
        have hmn : 1 + 11 * m ≤ n := by omega
        clear hs h1 h24 hx0
        go_enter Tryd.func32, Tryd.ntmps32
        have S0 : Hid (Sep (fun _ => False) w (w.alloc (.cells #[] 88)) [grow inE 88 (.slice (some ⟨w.heap.size, 0, none⟩) 0 0) []]) := (Sep.nil (fun _ => False) w).grow0 inE 88
        go_wp2
        go_loopw [6, 7, 8] (fun u v _ wr => ∃ i : Nat, i ≤ m ∧ v = .int .i64 (i : Int) ∧ Hid (∃ A c, u = .slice A i c ∧ Sep (fun _ => False) w wr [grow inE 88 (.slice A i c) (readL i (b.drop 1))])) (fun _ v _ _ => m - (intOf v).toNat)
        case atStart => exact ⟨0, Nat.zero_le _, rfl, _, _, rfl, S0.out⟩
        case round =>
          obtain ⟨i, hi, rfl, HH⟩ := hrel
          obtain ⟨A1, c1, rfl, h1⟩ := HH.out
          have S1 := Lib.hid h1
          clear h1 HH
          rcases (by omega : i = m ∨ i < m) with hlt | hlt
          · subst hlt
            have d4 : decide ((i : Int) < (i : Int)) = false := decide_eq_false (by omega)
            have ho := S1.out.own 0 rfl
            have hpl : (progL b).length = i := by rw [HP.out, readL_len]
            have HMAY : Hid (Calls Tryd.prog 34 #[.slice A1 i c1] wr fun e w' => e = .returned (.bool (mayB (progL b))) ∧ Below wr.heap.size wr w') := by
              have := may_c (A := A1) (c := c1) (l := progL b) (w := wr) (G := fun _ => True) (by rw [hpl, HP.out]; exact ho.rd (by rw [readL_len]; omega) fun _ _ => trivial)
              rw [hpl] at this
              exact this
            have HOLD : Hid (Below w.heap.size w wr) := S1.out.old
            cases hmay : mayB (progL b) with
            | false =>
              have HF : Hid (readE b = 1) := by
                show _ = _
                rcases HE.out with ⟨_, h⟩ | ⟨_, _, h⟩ | ⟨_, _, _, h⟩ | ⟨e, _⟩ | ⟨_, _, _, _, h⟩
                · rw [HN.out] at h; omega
                · rw [HX.out] at h; omega
                · rw [HX.out, HN.out] at h; omega
                · exact e
                · rw [hmay] at h; cases h
              rw [hmay] at HMAY
              clear hmay
              go_wp2_with fail
              refine HMAY.out.mono ?_
              rintro e w2 ⟨rfl, h2⟩
              have HB2 : Hid (Below w.heap.size w w2) := HOLD.out.trans (h2.mono HOLD.out.size)
              clear h2
              go_wp2
              (try simp only [Exit.inBlock, Exit.then])
              refine bodyPost_ret (results_tmp3c rfl _ _ _) rfl ?_
              obtain ⟨z1, z2⟩ := HZ.out (by rw [HF.out]; decide)
              refine ⟨_, by rw [HF.out, z2]; rfl, ?_⟩
              rw [z1]
              exact ⟨says_nil inE HB2.out, fits_nil⟩
            | true =>
              have HF : Hid (readE b = 0) := by
                show _ = _
                rcases HE.out with ⟨_, h⟩ | ⟨_, _, h⟩ | ⟨_, _, _, h⟩ | ⟨_, _, _, _, h⟩ | ⟨e, _⟩
                · rw [HN.out] at h; omega
                · rw [HX.out] at h; omega
                · rw [HX.out, HN.out] at h; omega
                · rw [hmay] at h; cases h
                · exact e
              have HW : Hid (readR b = readL i (b.drop 1) ∧ readN b = 1 + 11 * (i : Int)) := by
                show _ ∧ _
                unfold readR readN
                rw [if_pos HF.out, if_pos HF.out, HP.out, HX.out]
                exact ⟨rfl, rfl⟩
              rw [hmay] at HMAY
              clear hmay
              go_wp2_with fail
              refine HMAY.out.mono ?_
              rintro e w2 ⟨rfl, h2⟩
              have S2 := Lib.hid (S1.out.next h2)
              clear h2
              go_wp2
              (try simp only [Exit.inBlock, Exit.then])
              refine bodyPost_ret (results_tmp3c rfl _ _ _) rfl ?_
              refine ⟨_, by rw [HF.out, HW.out.2]; rfl, ?_⟩
              rw [HW.out.1]
              exact ⟨says_grow S2.out (by rw [readL_len]; omega), fits_grow S2.out⟩
          · obtain ⟨t, ht⟩ : ∃ t : Nat, 1 + 11 * i = t := ⟨_, rfl⟩
            have HT := Lib.hid ht
            have htn : t + 11 ≤ n := by omega
            obtain ⟨y0, hy0⟩ : ∃ y, b[t]? = some y := ⟨_, List.getElem?_eq_getElem (by rw [HN.out]; omega)⟩
            obtain ⟨y1, hy1⟩ : ∃ y, b[t + 1]? = some y := ⟨_, List.getElem?_eq_getElem (by rw [HN.out]; omega)⟩
            obtain ⟨y2, hy2⟩ : ∃ y, b[t + 2]? = some y := ⟨_, List.getElem?_eq_getElem (by rw [HN.out]; omega)⟩
            have HONE : Hid (oneI (b.drop t) = ⟨y0, y1, y2, numI (b.drop (t + 3))⟩) := one_at hy0 hy1 hy2
            have HSN : Hid (readL (i + 1) (b.drop 1) = readL i (b.drop 1) ++ [oneI (b.drop t)]) := by
              show _ = _
              rw [readL_snoc, List.drop_drop, HT.out]
            have b0 : 0 ≤ y0 ∧ y0 ≤ 255 := HBY.out y0 (List.mem_of_getElem? hy0)
            have b1 : 0 ≤ y1 ∧ y1 ≤ 255 := HBY.out y1 (List.mem_of_getElem? hy1)
            have b2 : 0 ≤ y2 ∧ y2 ≤ 255 := HBY.out y2 (List.mem_of_getElem? hy2)
            have HCE : Hid (∀ (j : Nat) (y : Int), b[j]? = some y → w.cell? ⟨g, off + j, none⟩ = some (.int .u8 y)) := fun j y hy => by
              obtain ⟨g', off', e, _, hcell⟩ := by_at HR.out hy
              injection e with e
              injection e with e1 e2
              subst e1 e2
              exact hcell
            have HCV : Hid (∀ V : World, Below w.heap.size w V → ∀ (j : Nat) (y : Int), b[j]? = some y → V.cell? ⟨g, off + j, none⟩ = some (.int .u8 y)) := fun V hV j y hy => (hV.cell hg).trans (HCE.out j y hy)
            obtain ⟨ta, hta⟩ : ∃ s : Nat, t + 1 = s := ⟨_, rfl⟩
            obtain ⟨tb, htb⟩ : ∃ s : Nat, t + 2 = s := ⟨_, rfl⟩
            obtain ⟨tc, htc⟩ : ∃ s : Nat, t + 3 = s := ⟨_, rfl⟩
            rw [hta] at hy1
            rw [htb] at hy2
            rw [htc] at HONE
            have HCL : Hid (∀ V : World, Below w.heap.size w V → V.cell? ⟨g, off + t, none⟩ = some (.int .u8 y0) ∧ V.cell? ⟨g, off + ta, none⟩ = some (.int .u8 y1) ∧ V.cell? ⟨g, off + tb, none⟩ = some (.int .u8 y2)) := fun V hV => ⟨HCV.out V hV _ _ hy0, HCV.out V hV _ _ hy1, HCV.out V hV _ _ hy2⟩
            have HNUM : Hid (∀ V : World, Below w.heap.size w V → Calls Tryd.prog 31 #[.slice (some ⟨g, off + tc, none⟩) (n - tc) (c - tc)] V fun e w' => e = .returned (.int .i64 (numI (b.drop tc))) ∧ V = w') := fun V hV =>
              num_c (by rw [List.length_drop, HN.out]; omega) (fun x hx => HBY.out x (List.mem_of_mem_drop hx)) (by rw [List.length_drop, HN.out]) (by omega) fun j y hy => by
                rw [List.getElem?_drop] at hy
                have := HCV.out V hV _ _ hy
                rwa [← Nat.add_assoc] at this
            have v0 : IntKind.i64.wrap y0 = y0 := IntWalk.i64_in _ (by omega)
            have v1 : IntKind.i64.wrap y1 = y1 := IntWalk.i64_in _ (by omega)
            have v2 : IntKind.i64.wrap y2 = y2 := IntWalk.i64_in _ (by omega)
            have u0 : IntKind.i64.wrap (11 * (i : Int)) = 11 * (i : Int) := IntWalk.i64_in _ (by omega)
            have u1 : IntKind.i64.wrap (1 + 11 * (i : Int)) = (t : Int) := by rw [IntWalk.i64_in _ (by omega)]; omega
            have d4 : decide ((i : Int) < (m : Int)) = true := decide_eq_true (by omega)
            have d5 : decide (i < m) = true := decide_eq_true (by omega)
            have HIM : Hid (i < m ∧ i ≤ m ∧ m ≤ 24 ∧ 1 + 11 * m ≤ n) := ⟨hlt, hi, hm24, hmn⟩
            have wta : IntKind.i64.wrap ((t : Int) + 1) = (ta : Int) := by rw [IntWalk.i64_in _ (by omega)]; omega
            have wtb : IntKind.i64.wrap ((t : Int) + 2) = (tb : Int) := by rw [IntWalk.i64_in _ (by omega)]; omega
            have wtc : IntKind.i64.wrap ((t : Int) + 3) = (tc : Int) := by rw [IntWalk.i64_in _ (by omega)]; omega
            have t0 : (0 : Int) ≤ (t : Int) := by omega
            have t1 : (t : Int) < (n : Int) := by omega
            have ta0 : (0 : Int) ≤ (ta : Int) := by omega
            have ta1 : (ta : Int) < (n : Int) := by omega
            have tb0 : (0 : Int) ≤ (tb : Int) := by omega
            have tb1 : (tb : Int) < (n : Int) := by omega
            have tc0 : (0 : Int) ≤ (tc : Int) := by omega
            have tc1 : (tc : Int) ≤ (n : Int) := by omega
            have hct : ¬ (c = tc) := by omega
            have HTC : Hid (tc ≤ n ∧ tc ≤ c) := ⟨by omega, by omega⟩
            clear hta htb htc htn hy0 hy1 hy2 ht hlt hi hm24 hmn hm1
            go_upto_region 13 with (fail)
            have S2 : Hid (Sep (fun _ => False) w wr.drew [grow inE 88 (.slice A1 i c1) (readL i (b.drop 1))]) := S1.out.drew
            refine Held.begin_ (fun V : World => V.cell? ⟨g, off + t, none⟩ = some (.int .u8 y0) ∧ V.cell? ⟨g, off + ta, none⟩ = some (.int .u8 y1) ∧ V.cell? ⟨g, off + tb, none⟩ = some (.int .u8 y2)) 26 (by kernel_rfl) ?_
            have hC : (fun V : World => V.cell? ⟨g, off + t, none⟩ = some (.int .u8 y0) ∧ V.cell? ⟨g, off + ta, none⟩ = some (.int .u8 y1) ∧ V.cell? ⟨g, off + tb, none⟩ = some (.int .u8 y2)) wr.drew := HCL.out _ S2.out.old
            refine Held.take 0 (v := ?_) hC rfl (by kernel_rfl) (by kernel_rfl) (by kernel_rfl) (by kernel_rfl) (fun _ _ _ h => h) ?_ ?_; rotate_left; · (intro W hW; obtain ⟨k0, k1, k2⟩ := hW; go_simp <;> with_reducible rfl)
            try simp only [Act.put, List.setIfInBounds_toArray, List.set_cons_zero, List.set_cons_succ]
            refine Held.take 1 (v := ?_) hC rfl (by kernel_rfl) (by kernel_rfl) (by kernel_rfl) (by kernel_rfl) (fun _ _ _ h => h) ?_ ?_; rotate_left; · (intro W hW; obtain ⟨k0, k1, k2⟩ := hW; go_simp <;> with_reducible rfl)
            try simp only [Act.put, List.setIfInBounds_toArray, List.set_cons_zero, List.set_cons_succ]
            refine Held.take 2 (v := ?_) hC rfl (by kernel_rfl) (by kernel_rfl) (by kernel_rfl) (by kernel_rfl) (fun _ _ _ h => h) ?_ ?_; rotate_left; · (intro W hW; obtain ⟨k0, k1, k2⟩ := hW; go_simp <;> with_reducible rfl)
            try simp only [Act.put, List.setIfInBounds_toArray, List.set_cons_zero, List.set_cons_succ]
            refine Held.take 3 (v := ?_) hC rfl (by kernel_rfl) (by kernel_rfl) (by kernel_rfl) (by kernel_rfl) (fun _ _ _ h => h) ?_ ?_; rotate_left; · (intro W hW; obtain ⟨k0, k1, k2⟩ := hW; go_simp <;> with_reducible rfl)
            try simp only [Act.put, List.setIfInBounds_toArray, List.set_cons_zero, List.set_cons_succ]
            refine Held.take 4 (v := ?_) hC rfl (by kernel_rfl) (by kernel_rfl) (by kernel_rfl) (by kernel_rfl) (fun _ _ _ h => h) ?_ ?_; rotate_left; · (intro W hW; obtain ⟨k0, k1, k2⟩ := hW; go_simp <;> with_reducible rfl)
            try simp only [Act.put, List.setIfInBounds_toArray, List.set_cons_zero, List.set_cons_succ]
            refine Held.take 5 (v := ?_) hC rfl (by kernel_rfl) (by kernel_rfl) (by kernel_rfl) (by kernel_rfl) (fun _ _ _ h => h) ?_ ?_; rotate_left; · (intro W hW; obtain ⟨k0, k1, k2⟩ := hW; go_simp <;> with_reducible rfl)
            try simp only [Act.put, List.setIfInBounds_toArray, List.set_cons_zero, List.set_cons_succ]
            refine Held.take 6 (v := ?_) hC rfl (by kernel_rfl) (by kernel_rfl) (by kernel_rfl) (by kernel_rfl) (fun _ _ _ h => h) ?_ ?_; rotate_left; · (intro W hW; obtain ⟨k0, k1, k2⟩ := hW; go_simp <;> with_reducible rfl)
            try simp only [Act.put, List.setIfInBounds_toArray, List.set_cons_zero, List.set_cons_succ]
            refine Held.take 7 (v := ?_) hC rfl (by kernel_rfl) (by kernel_rfl) (by kernel_rfl) (by kernel_rfl) (fun _ _ _ h => h) ?_ ?_; rotate_left; · (intro W hW; obtain ⟨k0, k1, k2⟩ := hW; go_simp <;> with_reducible rfl)
            try simp only [Act.put, List.setIfInBounds_toArray, List.set_cons_zero, List.set_cons_succ]
            refine Held.take 8 (v := ?_) hC rfl (by kernel_rfl) (by kernel_rfl) (by kernel_rfl) (by kernel_rfl) (fun _ _ _ h => h) ?_ ?_; rotate_left; · (intro W hW; obtain ⟨k0, k1, k2⟩ := hW; go_simp <;> with_reducible rfl)
            try simp only [Act.put, List.setIfInBounds_toArray, List.set_cons_zero, List.set_cons_succ]
            refine Held.take 9 (v := ?_) hC rfl (by kernel_rfl) (by kernel_rfl) (by kernel_rfl) (by kernel_rfl) (fun _ _ _ h => h) ?_ ?_; rotate_left; · (intro W hW; obtain ⟨k0, k1, k2⟩ := hW; go_simp <;> with_reducible rfl)
            try simp only [Act.put, List.setIfInBounds_toArray, List.set_cons_zero, List.set_cons_succ]
            refine Held.take 10 (v := ?_) hC rfl (by kernel_rfl) (by kernel_rfl) (by kernel_rfl) (by kernel_rfl) (fun _ _ _ h => h) ?_ ?_; rotate_left; · (intro W hW; obtain ⟨k0, k1, k2⟩ := hW; go_simp <;> with_reducible rfl)
            try simp only [Act.put, List.setIfInBounds_toArray, List.set_cons_zero, List.set_cons_succ]
            refine Held.take 11 (v := ?_) hC rfl (by kernel_rfl) (by kernel_rfl) (by kernel_rfl) (by kernel_rfl) (fun _ _ _ h => h) ?_ ?_; rotate_left; · (intro W hW; obtain ⟨k0, k1, k2⟩ := hW; go_simp <;> with_reducible rfl)
            try simp only [Act.put, List.setIfInBounds_toArray, List.set_cons_zero, List.set_cons_succ]
            refine Held.take 12 (v := ?_) hC rfl (by kernel_rfl) (by kernel_rfl) (by kernel_rfl) (by kernel_rfl) (fun _ _ _ h => h) ?_ ?_; rotate_left; · (intro W hW; obtain ⟨k0, k1, k2⟩ := hW; go_simp <;> with_reducible rfl)
            try simp only [Act.put, List.setIfInBounds_toArray, List.set_cons_zero, List.set_cons_succ]
            refine Held.take 13 (v := ?_) hC rfl (by kernel_rfl) (by kernel_rfl) (by kernel_rfl) (by kernel_rfl) (fun _ _ _ h => h) ?_ ?_; rotate_left; · (intro W hW; obtain ⟨k0, k1, k2⟩ := hW; go_simp <;> with_reducible rfl)
            try simp only [Act.put, List.setIfInBounds_toArray, List.set_cons_zero, List.set_cons_succ]
            refine Held.take 14 (v := ?_) hC rfl (by kernel_rfl) (by kernel_rfl) (by kernel_rfl) (by kernel_rfl) (fun _ _ _ h => h) ?_ ?_; rotate_left; · (intro W hW; obtain ⟨k0, k1, k2⟩ := hW; go_simp <;> with_reducible rfl)
            try simp only [Act.put, List.setIfInBounds_toArray, List.set_cons_zero, List.set_cons_succ]
            refine Held.take 15 (v := ?_) hC rfl (by kernel_rfl) (by kernel_rfl) (by kernel_rfl) (by kernel_rfl) (fun _ _ _ h => h) ?_ ?_; rotate_left; · (intro W hW; obtain ⟨k0, k1, k2⟩ := hW; go_simp <;> with_reducible rfl)
            try simp only [Act.put, List.setIfInBounds_toArray, List.set_cons_zero, List.set_cons_succ]
            refine Held.take 16 (v := ?_) hC rfl (by kernel_rfl) (by kernel_rfl) (by kernel_rfl) (by kernel_rfl) (fun _ _ _ h => h) ?_ ?_; rotate_left; · (intro W hW; obtain ⟨k0, k1, k2⟩ := hW; go_simp <;> with_reducible rfl)
            try simp only [Act.put, List.setIfInBounds_toArray, List.set_cons_zero, List.set_cons_succ]
            refine Held.take 17 (v := ?_) hC rfl (by kernel_rfl) (by kernel_rfl) (by kernel_rfl) (by kernel_rfl) (fun _ _ _ h => h) ?_ ?_; rotate_left; · (intro W hW; obtain ⟨k0, k1, k2⟩ := hW; go_simp <;> with_reducible rfl)
            try simp only [Act.put, List.setIfInBounds_toArray, List.set_cons_zero, List.set_cons_succ]
            refine Held.take 18 (v := ?_) hC rfl (by kernel_rfl) (by kernel_rfl) (by kernel_rfl) (by kernel_rfl) (fun _ _ _ h => h) ?_ ?_; rotate_left; · (intro W hW; obtain ⟨k0, k1, k2⟩ := hW; go_simp <;> with_reducible rfl)
            try simp only [Act.put, List.setIfInBounds_toArray, List.set_cons_zero, List.set_cons_succ]
            refine Held.take 19 (v := ?_) hC rfl (by kernel_rfl) (by kernel_rfl) (by kernel_rfl) (by kernel_rfl) (fun _ _ _ h => h) ?_ ?_; rotate_left; · (intro W hW; obtain ⟨k0, k1, k2⟩ := hW; go_simp <;> with_reducible rfl)
            try simp only [Act.put, List.setIfInBounds_toArray, List.set_cons_zero, List.set_cons_succ]
            refine Held.take 20 (v := ?_) hC rfl (by kernel_rfl) (by kernel_rfl) (by kernel_rfl) (by kernel_rfl) (fun _ _ _ h => h) ?_ ?_; rotate_left; · (intro W hW; obtain ⟨k0, k1, k2⟩ := hW; go_simp <;> with_reducible rfl)
            try simp only [Act.put, List.setIfInBounds_toArray, List.set_cons_zero, List.set_cons_succ]
            refine Held.take 21 (v := ?_) hC rfl (by kernel_rfl) (by kernel_rfl) (by kernel_rfl) (by kernel_rfl) (fun _ _ _ h => h) ?_ ?_; rotate_left; · (intro W hW; obtain ⟨k0, k1, k2⟩ := hW; go_simp <;> with_reducible rfl)
            try simp only [Act.put, List.setIfInBounds_toArray, List.set_cons_zero, List.set_cons_succ]
            clear hC
            generalize wr.drew = w0 at *
            refine Held.only 22 (by kernel_rfl) rfl ?_
            intro K hK
            go_simp
            refine (HNUM.out w0 S2.out.old).mono ?_
            rintro e w1 ⟨rfl, rfl⟩
            refine hK.out _ _ (fun _ => HCL.out _ S2.out.old) ?_
            clear hK K
            try simp only [Act.put, List.setIfInBounds_toArray, List.set_cons_zero, List.set_cons_succ]
            obtain ⟨z, hz⟩ : ∃ z, numI (b.drop tc) = z := ⟨_, rfl⟩
            rw [hz] at HONE ⊢
            clear hz
            refine Held.only 23 (by kernel_rfl) rfl ?_
            intro K hK
            go_simp
            refine hK.out _ _ (fun _ => HCL.out _ S2.out.old) ?_
            clear hK K
            try simp only [Act.put, List.setIfInBounds_toArray, List.set_cons_zero, List.set_cons_succ]
            refine Held.only 24 (by kernel_rfl) rfl ?_
            intro K hK
            go_simp
            have S3 : Hid (Sep (fun _ => False) w (w0.alloc (.cells #[.int .i64 y0, .int .i64 y1, .int .i64 y2, .int .i64 z] 88)) [told inE (.slice (some ⟨w0.heap.size, 0, none⟩) 1 1) [⟨y0, y1, y2, z⟩], grow inE 88 (.slice A1 i c1) (readL i (b.drop 1))]) := S2.out.lit_told 88 [(⟨y0, y1, y2, z⟩ : In)] (cs := #[.int .i64 y0, .int .i64 y1, .int .i64 y2, .int .i64 z]) rfl (by simp) rfl
            refine hK.out _ _ (fun _ => HCL.out _ S3.out.old) ?_
            clear hK K
            try simp only [Act.put, List.setIfInBounds_toArray, List.set_cons_zero, List.set_cons_succ]
            refine Held.only 25 (by kernel_rfl) rfl ?_
            intro K hK
            refine wp_appC (.tmp 37) (.tmp 61) riElem rfl rfl rfl S3.out 1 rfl (S3.out.rdL 0 rfl) (by rw [readL_len]; have := HIM.out; simp; omega) ?_
            intro A4 c4 w4 l4 HL4 h4
            have S4 : Hid (Sep (fun _ => False) w w4 [told inE (.slice (some ⟨w0.heap.size, 0, none⟩) 1 1) [⟨y0, y1, y2, z⟩], grow inE 88 (.slice A4 l4.length c4) l4]) := h4
            clear h4
            refine hK.out _ _ (fun _ => HCL.out _ S4.out.old) ?_
            clear hK K
            try simp only [Act.put, List.setIfInBounds_toArray, List.set_cons_zero, List.set_cons_succ]
            have HL5 : Hid (l4 = readL (i + 1) (b.drop 1)) := by
              show _ = _
              rw [HL4.out, HSN.out, HONE.out]
            have S5 : Hid (∃ A c, Value.slice A4 l4.length c4 = .slice A (i + 1) c ∧ Sep (fun _ => False) w w4 [grow inE 88 (.slice A (i + 1) c) (readL (i + 1) (b.drop 1))]) := by
              have e : l4.length = i + 1 := by rw [HL5.out, readL_len]
              have h8 := S4.out.tail
              rw [e, HL5.out] at h8
              exact ⟨A4, c4, by rw [e], h8⟩
            clear S4 S3 S2 S1
            refine Held.only 26 (by kernel_rfl) rfl ?_
            intro K hK
            go_simp
            refine hK.out _ _ (fun h => absurd rfl h) ?_
            clear hK K
            try simp only [Act.put]
            refine Held.done (by kernel_rfl) ?_ _
            obtain ⟨hlt, hi, hm24, hmn⟩ := HIM.out
            go_wp2_with fail
            go_roundw
            case rel => exact ⟨i + 1, by omega, by go_num, S5⟩
            case measure => simp [intOf]; omega
end Go.Proofs.YtolooaahaofflaaDoor.RefCode
