/-
  What package code does as it landed, seventh part: Read (a three-index slice). Condition: the table lies as it was written; what the slices read as.
-/
import Derived.Test.YtolooaahaofflaaDoorCdF
namespace Go.Proofs.YtolooaahaofflaaDoor.CdA
open Go.ChangeShapes Go.WideShapes Go.ChangeAt Go.RowKit Mem MutP CodeP Hand RefCode CodeT CodeI

set_option maxRecDepth 100000 in
set_option maxHeartbeats 2000000 in
theorem read_l {w : World} {G : Nat → Prop} {A : Option Addr} {c : Nat} {b : List Int} (hT : Tab w) (h : RdL byE w G (.slice A b.length c) b) (hb : ∀ x ∈ b, Byte x) (hc : b.length ≤ c) :
    Calls Tryd.prog 48 #[.slice A b.length c] w fun e w' => ∃ u, e = .returned (.tuple #[u, .int .i64 (readN b), .int .i64 (readE b)]) ∧ SaysL inE w w' u (readR b) ∧ FitsV u := by
  have HR := Lib.hid h
  have HBY := Lib.hid hb
  have HT := Lib.hid hT
  clear h hb hT
  obtain ⟨n, hn⟩ : ∃ n, b.length = n := ⟨_, rfl⟩
  have HN := Lib.hid hn
  have HE := Lib.hid (read_errs b)
  have HZ : Hid (readE b ≠ 0 → readR b = [] ∧ readN b = 0) := fun h => ⟨by unfold readR; rw [if_neg h], by unfold readN; rw [if_neg h]⟩
  rw [hn] at HR hc ⊢
  clear hn
  rcases Nat.eq_zero_or_pos n with hn0 | hn0
  · have HF : Hid (readE b = 8) := by
      show _ = _
      rcases HE.out with ⟨e, _⟩ | ⟨_, h, _⟩ | ⟨_, h, _⟩ | ⟨_, h, _⟩ | ⟨_, h, _⟩
      · exact e
      all_goals (rw [HN.out] at h; omega)
    subst hn0
    go_enter Tryd.func48, Tryd.ntmps48
    go_wp2
    (try simp only [Exit.inBlock, Exit.then])
    refine bodyPost_ret (results_tmp3c rfl _ _ _) rfl ?_
    obtain ⟨z1, z2⟩ := HZ.out (by rw [HF.out]; decide)
    refine ⟨_, by rw [HF.out, z2]; rfl, ?_⟩
    rw [z1]
    exact ⟨says_nil inE (Below.refl _ _), fits_nil⟩
  · obtain ⟨x, hx⟩ : ∃ x, b[0]? = some x := ⟨_, List.getElem?_eq_getElem (by rw [HN.out]; exact hn0)⟩
    have HX : Hid (headN b = x) := by show _ = _; unfold headN; simp [List.getD, hx]
    have hx0 : 0 ≤ x ∧ x ≤ 255 := HBY.out x (List.mem_of_getElem? hx)
    obtain ⟨g, off, rfl, hg, q0⟩ := by_at HR.out hx
    rw [Nat.add_zero] at q0
    have wx : IntKind.i64.wrap x = x := IntWalk.i64_in _ (by omega)
    have nz : ((n : Int) == 0) = false := by simp; omega
    have n0 : (0 : Int) < (n : Int) := by omega
    have HLONG := Lib.hid (long_l x)
    clear hx
    rcases (by omega : (x < 1 ∨ 24 < x) ∨ (1 ≤ x ∧ x ≤ 24)) with h1 | ⟨h1, h24⟩
    · have HF : Hid (readE b = 7) := by
        show _ = _
        rcases HE.out with ⟨_, h⟩ | ⟨e, _⟩ | ⟨_, _, h, _⟩ | ⟨_, _, h, _⟩ | ⟨_, _, h, _⟩
        · rw [HN.out] at h; omega
        · exact e
        all_goals (rw [HX.out] at h; omega)
      rw [decide_eq_false (by omega : ¬ (1 ≤ x ∧ x ≤ 24))] at HLONG
      clear h1
      go_enter Tryd.func48, Tryd.ntmps48
      go_wp2_with fail
      refine (HLONG.out _).mono ?_
      rintro e w1 ⟨rfl, rfl⟩
      go_wp2
      (try simp only [Exit.inBlock, Exit.then])
      refine bodyPost_ret (results_tmp3c rfl _ _ _) rfl ?_
      obtain ⟨z1, z2⟩ := HZ.out (by rw [HF.out]; decide)
      refine ⟨_, by rw [HF.out, z2]; rfl, ?_⟩
      rw [z1]
      exact ⟨says_nil inE (Below.refl _ _), fits_nil⟩
    · rw [decide_eq_true (⟨h1, h24⟩ : 1 ≤ x ∧ x ≤ 24)] at HLONG
      obtain ⟨m, rfl⟩ := Int.eq_ofNat_of_zero_le hx0.1
      obtain ⟨k, hk⟩ : ∃ k : Nat, 11 * m = k := ⟨_, rfl⟩
      obtain ⟨s, hs⟩ : ∃ s : Nat, 1 + k = s := ⟨_, rfl⟩
      have w11 : IntKind.i64.wrap ((m : Int) * 11) = (k : Int) := by rw [IntWalk.i64_in _ (by omega)]; omega
      have w12 : IntKind.i64.wrap (1 + (k : Int)) = (s : Int) := by rw [IntWalk.i64_in _ (by omega)]; omega
      have HKS : Hid (11 * m = k ∧ 1 + k = s ∧ 1 ≤ m ∧ m ≤ 24) := ⟨hk, hs, by omega, by omega⟩
      have s1 : (1 : Int) ≤ (s : Int) := by omega
      clear h1 h24 hx0 hk hs
      rcases (by omega : n < s ∨ s ≤ n) with hs | hs
      · have HF : Hid (readE b = 8) := by
          show _ = _
          obtain ⟨a1, a2, a3, a4⟩ := HKS.out
          rcases HE.out with ⟨e, _⟩ | ⟨_, _, h⟩ | ⟨e, _⟩ | ⟨_, _, _, h, _⟩ | ⟨_, _, _, h, _⟩
          · exact e
          · rw [HX.out] at h; omega
          · exact e
          all_goals (rw [HX.out, HN.out] at h; omega)
        have d3 : decide ((n : Int) < (s : Int)) = true := decide_eq_true (by omega)
        have d4 : decide (n < s) = true := decide_eq_true hs
        go_enter Tryd.func48, Tryd.ntmps48
        go_wp2_with fail
        refine (HLONG.out _).mono ?_
        rintro e w1 ⟨rfl, rfl⟩
        go_wp2
        (try simp only [Exit.inBlock, Exit.then])
        refine bodyPost_ret (results_tmp3c rfl _ _ _) rfl ?_
        obtain ⟨z1, z2⟩ := HZ.out (by rw [HF.out]; decide)
        refine ⟨_, by rw [HF.out, z2]; rfl, ?_⟩
        rw [z1]
        exact ⟨says_nil inE (Below.refl _ _), fits_nil⟩
      · have d3 : decide ((n : Int) < (s : Int)) = false := decide_eq_false (by omega)
        have d4 : decide (n < s) = false := decide_eq_false (by omega)
        have HP : Hid (progL b = readL m ((b.drop 1).take k) ∧ (progL b).length = m) := by
          obtain ⟨a1, a2, a3, a4⟩ := HKS.out
          have e1 : progL b = readL m (b.drop 1) := by unfold progL; rw [HX.out, Int.toNat_natCast]
          have cut : ∀ (j : Nat) (l : List Int), readL j l = readL j (l.take (11 * j)) := fun j => by
            induction j with
            | zero => intro l; rfl
            | succ j ih =>
              intro l
              show oneI l :: readL j (l.drop 11) = oneI (l.take (11 * (j + 1))) :: readL j ((l.take (11 * (j + 1))).drop 11)
              have e2 : oneI (l.take (11 * (j + 1))) = oneI l := by
                unfold oneI
                have g : ∀ q, q < 11 → (l.take (11 * (j + 1))).getD q 0 = l.getD q 0 := fun q hq => by
                  simp only [List.getD, List.getElem?_take]
                  rw [if_pos (by omega)]
                rw [g 0 (by omega), g 1 (by omega), g 2 (by omega)]
                have e3 : numI ((l.take (11 * (j + 1))).drop 3) = numI (l.drop 3) := by
                  unfold numI
                  rw [List.drop_take, List.take_take, Nat.min_eq_left (by omega)]
                rw [e3]
              rw [e2, List.drop_take, show 11 * (j + 1) - 11 = 11 * j by omega, ← ih]
          exact ⟨by rw [e1, cut, a1], by rw [e1, readL_len]⟩
        have HCE : Hid (∀ (j : Nat) (y : Int), ((b.drop 1).take k)[j]? = some y → w.cell? ⟨g, off + 1 + j, none⟩ = some (.int .u8 y)) := fun j y hy => by
          rw [List.getElem?_take] at hy
          split at hy
          · rw [List.getElem?_drop] at hy
            obtain ⟨g', off', e, _, hcell⟩ := by_at HR.out hy
            injection e with e
            injection e with e1 e2
            subst e1 e2
            rwa [← Nat.add_assoc] at hcell
          · cases hy
        have HI : Hid (Calls Tryd.prog 58 #[.slice (some ⟨g, off + 1, none⟩) k k] w fun e w' => e = .returned (.slice (some ⟨w.heap.size, 0, none⟩) m m) ∧ Sep (fun _ => False) w w' [grow inE 56 (.slice (some ⟨w.heap.size, 0, none⟩) m m) (progL b)]) := by
          obtain ⟨a1, a2, a3, a4⟩ := HKS.out
          rw [HP.out.1]
          exact instr_l a4 a1 (by rw [List.length_take, List.length_drop, HN.out]; omega) (Nat.le_refl _) (fun y hy => HBY.out y (List.mem_of_mem_drop (List.mem_of_mem_take hy))) hg HCE.out
        obtain ⟨sl1, sl2⟩ : Cuts Tryd.prog 29 (.slice (some ⟨g, off, none⟩) n c) (some (.int .i64 1)) (some (.int .i64 s)) (some (.int .i64 s)) (.slice (some ⟨g, off + 1, none⟩) k k) := by
          obtain ⟨a1, a2, a3, a4⟩ := HKS.out
          have h1 := cut_three byUnder bySize g off n c 1 s s (by omega) (by omega) (by omega) (by omega)
          rw [show s - 1 = k by omega] at h1
          exact h1
        clear hs HCE
        go_enter Tryd.func48, Tryd.ntmps48
        go_wp2_with fail
        refine (HLONG.out _).mono ?_
        rintro e w1 ⟨rfl, rfl⟩
        go_wp2_with fail
        refine HI.out.mono ?_
        rintro e w1 ⟨rfl, h1⟩
        have S1 := Lib.hid h1
        clear h1 HI sl1 sl2
        have HMAY : Hid (Calls Tryd.prog 40 #[.slice (some ⟨w.heap.size, 0, none⟩) m m] w1 fun e w' => e = .returned (.bool (mayB (progL b))) ∧ Below w1.heap.size w1 w') :=
          may_l (G := fun _ => True) (HT.out.next S1.out.old) ((S1.out.own 0 rfl).rd (by rw [HP.out.2]; have := HKS.out; omega) fun _ _ => trivial)
        have HOLD : Hid (Below w.heap.size w w1) := S1.out.old
        cases hmay : mayB (progL b) with
        | false =>
          have HF : Hid (readE b = 1) := by
            show _ = _
            obtain ⟨a1, a2, a3, a4⟩ := HKS.out
            rcases HE.out with ⟨_, h⟩ | ⟨_, _, h⟩ | ⟨_, _, _, h⟩ | ⟨e, _⟩ | ⟨_, _, _, _, h⟩
            · rw [HN.out] at h; omega
            · rw [HX.out] at h; omega
            · rw [HX.out, HN.out] at h
              have := d4
              simp at this
              omega
            · exact e
            · rw [hmay] at h; cases h
          rw [hmay] at HMAY
          clear hmay
          go_wp2_with fail
          refine HMAY.out.mono ?_
          rintro e w2 ⟨rfl, h2⟩
          have HB2 : Hid (Below w.heap.size w w2) := HOLD.out.trans (h2.mono HOLD.out.size)
          clear h2
          go_wp2
          (try simp only [Exit.inBlock, Exit.then])
          refine bodyPost_ret (results_tmp3c rfl _ _ _) rfl ?_
          obtain ⟨z1, z2⟩ := HZ.out (by rw [HF.out]; decide)
          refine ⟨_, by rw [HF.out, z2]; rfl, ?_⟩
          rw [z1]
          exact ⟨says_nil inE HB2.out, fits_nil⟩
        | true =>
          have HF : Hid (readE b = 0) := by
            show _ = _
            obtain ⟨a1, a2, a3, a4⟩ := HKS.out
            rcases HE.out with ⟨_, h⟩ | ⟨_, _, h⟩ | ⟨_, _, _, h⟩ | ⟨_, _, _, _, h⟩ | ⟨e, _⟩
            · rw [HN.out] at h; omega
            · rw [HX.out] at h; omega
            · rw [HX.out, HN.out] at h
              have := d4
              simp at this
              omega
            · rw [hmay] at h; cases h
            · exact e
          have HW : Hid (readR b = progL b ∧ readN b = (s : Int)) := by
            show _ ∧ _
            obtain ⟨a1, a2, a3, a4⟩ := HKS.out
            unfold readR readN
            rw [if_pos HF.out, if_pos HF.out, HX.out]
            exact ⟨rfl, by omega⟩
          rw [hmay] at HMAY
          clear hmay
          go_wp2_with fail
          refine HMAY.out.mono ?_
          rintro e w2 ⟨rfl, h2⟩
          have S2 := Lib.hid (S1.out.next h2)
          clear h2
          go_wp2
          (try simp only [Exit.inBlock, Exit.then])
          refine bodyPost_ret (results_tmp3c rfl _ _ _) rfl ?_
          refine ⟨_, by rw [HF.out, HW.out.2]; rfl, ?_⟩
          rw [HW.out.1]
          exact ⟨says_grow S2.out (by rw [HP.out.2]; have := HKS.out; omega), fits_grow S2.out⟩
end Go.Proofs.YtolooaahaofflaaDoor.CdA
