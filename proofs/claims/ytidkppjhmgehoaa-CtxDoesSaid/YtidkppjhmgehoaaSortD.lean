/-
  The library's stable sort of numbers by a comparison that reads elsewhere, fourth part: the whole. Condition: the comparison answers by a key, and changes nothing.
-/
import Derived.Test.YtidkppjhmgehoaaSortC
import Derived.Test.YtidkppjhmgehoaaSortQ
namespace Go.Proofs.Ytidkppjhmgehoaa.SortC
open Go.ChangeShapes Go.WideShapes Go.ChangeAt Go.RowKit Mem Hand SortP

section
variable {w : World} {b q : Nat} {κ : Int → Int} {D : Int → Prop}

set_option maxRecDepth 100000 in
set_option maxHeartbeats 4000000 in
theorem stable_c (hC : Cmps w b q κ D) {wk : World} {c n : Nat} {f : Nat → Int} (h : At w wk b c n f) (hD : ∀ t, t < n → D (f t)) (hs : Stb κ n f) (hn : n ≤ 100000) :
    Calls Try.prog 69 #[.slice (some ⟨b, 0, none⟩) n c, .int .i64 n, cmpF q] wk fun r wn => r = .returned (.tuple #[]) ∧ ∃ g, At w wn b c n g ∧ Srt κ g 0 n ∧ Stb κ n g ∧ (tab n g).Perm (tab n f) := by
  have H := Lib.hid h
  have HC := Lib.hid hC
  have HD := Lib.hid hD
  have HS := Lib.hid hs
  clear h hC hD hs
  have HIN : Hid (∀ (r1 : World) (g : Nat → Int) (a e : Nat), At w r1 b c n g → (tab n g).Perm (tab n f) → Stb κ n g → a ≤ e → e ≤ n → Calls Try.prog 76 #[.slice (some ⟨b, 0, none⟩) n c, .int .i64 a, .int .i64 e, cmpF q] r1 fun r wn => r = .returned (.tuple #[]) ∧ ∃ g', At w wn b c n g' ∧ Mrg κ n a e g g') := fun r1 g a e h hp hs h1 h2 => insert_c HC.out h (perm_D hp HD.out) hs hn h1 h2
  have HMG : Hid (∀ (r1 : World) (g : Nat → Int) (a m e : Nat), At w r1 b c n g → (tab n g).Perm (tab n f) → Stb κ n g → a < m → m < e → e ≤ n → Srt κ g a m → Srt κ g m e → Calls Try.prog 77 #[.slice (some ⟨b, 0, none⟩) n c, .int .i64 a, .int .i64 m, .int .i64 e, cmpF q] r1 fun r wn => r = .returned (.tuple #[]) ∧ ∃ g', At w wn b c n g' ∧ Mrg κ n a e g g') := fun r1 g a m e h hp hs h1 h2 h3 h4 h5 => merge_c HC.out hn _ r1 g a m e (Nat.le_refl _) h (perm_D hp HD.out) hs h1 h2 h3 h4 h5
  clear HC HD
  unfold cmpF at *
  go_enter Try.func69, Try.ntmps69
  go_wp2
  go_loopw [7, 8] (fun s t wr => ∃ a e k : Nat, s = .int .i64 a ∧ t = .int .i64 e ∧ a = k * 20 ∧ e = a + 20 ∧ a ≤ n ∧ Hid (∃ g, At w wr b c n g ∧ BlkTo κ 20 (k * 20) g ∧ Stb κ n g ∧ (tab n g).Perm (tab n f))) (fun s _ _ => n + 1 - (intOf s).toNat)
  case atStart =>
    refine ⟨0, 20, 0, rfl, rfl, by omega, by omega, by omega, ?_⟩
    exact ⟨f, H.out, fun s t _ h2 _ => by omega, HS.out, .refl _⟩
  case round =>
    obtain ⟨a, e, k, rfl, rfl, ha, he, han, HG⟩ := hrel
    clear H HS
    obtain ⟨g, hA, hB, hst, hp⟩ := HG.out
    have HK := Lib.hid ha
    by_cases hle : e ≤ n
    · have HI := Lib.hid (HIN.out wr g a e hA hp hst (by omega) hle)
      have HN : Hid (∀ g', Mrg κ n a e g g' → BlkTo κ 20 ((k + 1) * 20) g' ∧ Stb κ n g' ∧ (tab n g').Perm (tab n f)) := fun g' m => by
        subst ha
        refine ⟨?_, m.stb, m.perm.trans hp⟩
        have := blkto_step (by omega) hB m (by omega)
        rw [show (k + 1) * 20 = e from by omega]
        exact this
      obtain ⟨e2, he2⟩ : ∃ e2, e2 = e + 20 := ⟨_, rfl⟩
      have ee : (e : Int) + 20 = (e2 : Int) := by omega
      have HE2 := Lib.hid he2
      have HEA := Lib.hid he
      clear hA hB hst hp HG ha he he2 HMG HIN
      go_wp2_with fail
      refine HI.out.mono ?_
      rintro r w1 ⟨rfl, g', h1, h2⟩
      have H1 := Lib.hid h1
      have H2 := Lib.hid (HN.out g' h2)
      clear h1 h2 HI
      go_wp2
      go_roundw
      case rel => exact ⟨e, e2, k + 1, rfl, rfl, by have := HK.out; have := HEA.out; omega, HE2.out, hle, g', H1.out, H2.out⟩
      case measure => have := HEA.out; simp [intOf]; omega
    · have HI := Lib.hid (HIN.out wr g a n hA hp hst (by omega) (Nat.le_refl _))
      have HN : Hid (∀ g', Mrg κ n a n g g' → Blk κ n 20 g' ∧ Stb κ n g' ∧ (tab n g').Perm (tab n f)) := fun g' m => by
        subst ha
        exact ⟨fun s t h1 h2 h3 => blkto_step (by omega) hB m (by omega) s t h1 h2 h3, m.stb, m.perm.trans hp⟩
      clear hA hB hst hp HG ha HK HIN
      go_wp2_with fail
      refine HI.out.mono ?_
      rintro r w1 ⟨rfl, g', h1, h2⟩
      have H1 : Hid (∃ g, At w w1 b c n g ∧ Blk κ n 20 g ∧ Stb κ n g ∧ (tab n g).Perm (tab n f)) := ⟨g', h1, HN.out g' h2⟩
      clear h1 h2 HI HN he
      go_wp2
      go_loopw [6] (fun s W => ∃ z : Nat, s = .int .i64 z ∧ 0 < z ∧ z ≤ 2 * n + 20 ∧ Hid (∃ g, At w W b c n g ∧ Blk κ n z g ∧ Stb κ n g ∧ (tab n g).Perm (tab n f))) (fun s _ => n - (intOf s).toNat)
      case atStart => exact ⟨20, rfl, by omega, by omega, H1.out⟩
      case round =>
        obtain ⟨z, rfl, hz0, hzn, HG⟩ := hrel
        clear H1
        by_cases hlt : z < n
        · obtain ⟨g0, hA0, hB0, hs0, hp0⟩ := HG.out
          have HH0 : Hid (∃ g, At w wr b c n g ∧ Half κ z n 0 g ∧ Stb κ n g ∧ (tab n g).Perm (tab n f)) := ⟨g0, hA0, half_start hB0, hs0, hp0⟩
          obtain ⟨y, hy⟩ : ∃ y, y = 2 * z := ⟨_, rfl⟩
          have ey : 2 * (z : Int) = (y : Int) := by omega
          have ey2 : (z : Int) * 2 = (y : Int) := by omega
          have HY := Lib.hid hy
          have hyn : y ≤ 200000 := by omega
          clear hA0 hB0 hs0 hp0 HG hy
          go_wp2
          go_loopw [7, 8] (fun s t wr => ∃ a e k : Nat, s = .int .i64 a ∧ t = .int .i64 e ∧ Hid (a = k * (2 * z)) ∧ e = a + y ∧ a ≤ n ∧ Hid (∃ g, At w wr b c n g ∧ Half κ z n k g ∧ Stb κ n g ∧ (tab n g).Perm (tab n f))) (fun s _ _ => n + 1 - (intOf s).toNat)
          case atStart => exact ⟨0, y, 0, rfl, rfl, by show _ = _; omega, by omega, by omega, HH0.out⟩
          case round =>
            obtain ⟨a, e, k, rfl, rfl, HA, he, han, HG⟩ := hrel
            clear HH0
            obtain ⟨g, hA, hH, hst, hp⟩ := HG.out
            obtain ⟨m, hm⟩ : ∃ m, m = a + z := ⟨_, rfl⟩
            have em : (a : Int) + (z : Int) = (m : Int) := by omega
            have hHY : Half κ z n k g := hH
            by_cases hle : e ≤ n
            · have HI := Lib.hid (HMG.out wr g a m e hA hp hst (by omega) (by have := HY.out; omega) hle (by have := half_left hH (e := m) (by have := HA.out; omega) (by omega); rw [← HA.out] at this; exact this) (by have := half_right hH (e := e) (by have := HA.out; have := HY.out; omega) hle; rw [← HA.out, ← hm] at this; exact this))
              have HN : Hid (∀ g', Mrg κ n a e g g' → Half κ z n (k + 1) g' ∧ Stb κ n g' ∧ (tab n g').Perm (tab n f)) := fun g' mm => by
                refine ⟨half_step hz0 hH ?_, mm.stb, mm.perm.trans hp⟩
                rw [← HA.out, ← HY.out, ← he]
                exact mm
              have HK1 : Hid (e = (k + 1) * (2 * z)) := by show _ = _; rw [Nat.succ_mul, ← HA.out, ← HY.out]; exact he
              obtain ⟨e2, he2⟩ : ∃ e2, e2 = e + y := ⟨_, rfl⟩
              have ee : (e : Int) + (y : Int) = (e2 : Int) := by omega
              have HE2 := Lib.hid he2
              have HEA := Lib.hid he
              have hyp : 0 < y := by have := HY.out; omega
              clear hA hH hst hp HG he he2 hHY hm HMG
              go_wp2_with fail
              refine HI.out.mono ?_
              rintro r w1 ⟨rfl, g', h1, h2⟩
              have H1 := Lib.hid h1
              have H2 := Lib.hid (HN.out g' h2)
              clear h1 h2 HI HN
              go_wp2
              go_roundw
              case rel => exact ⟨e, e2, k + 1, rfl, rfl, HK1, HE2.out, hle, g', H1.out, H2.out⟩
              case measure => have := HEA.out; simp [intOf]; omega
            · by_cases hmn : m < n
              · have HI := Lib.hid (HMG.out wr g a m n hA hp hst (by omega) hmn (Nat.le_refl _) (by have := half_left hH (e := m) (by have := HA.out; omega) (by omega); rw [← HA.out] at this; exact this) (by have := half_right hH (e := n) (by have := HA.out; have := HY.out; omega) (Nat.le_refl _); rw [← HA.out, ← hm] at this; exact this))
                have HN : Hid (∀ g', Mrg κ n a n g g' → Blk κ n y g' ∧ Stb κ n g' ∧ (tab n g').Perm (tab n f)) := fun g' mm => by
                  refine ⟨?_, mm.stb, mm.perm.trans hp⟩
                  rw [HY.out]
                  exact half_end hz0 hH (by rw [← HA.out]; exact mm) (by rw [← HA.out, ← HY.out]; omega)
                have hyb : y ≤ 2 * n + 20 := by have := HY.out; omega
                clear hA hH hst hp HG he hHY hm HMG
                go_wp2_with fail
                refine HI.out.mono ?_
                rintro r w1 ⟨rfl, g', h1, h2⟩
                have H1 := Lib.hid h1
                have H2 := Lib.hid (HN.out g' h2)
                clear h1 h2 HI HN
                go_wp2
                go_roundw
                case rel => exact ⟨y, rfl, by have := HY.out; omega, hyb, g', H1.out, H2.out⟩
                case measure => have := HY.out; simp [intOf]; omega
              · have HN : Hid (Blk κ n y g ∧ Stb κ n g ∧ (tab n g).Perm (tab n f)) := by
                  refine ⟨?_, hst, hp⟩
                  rw [HY.out]
                  exact half_short hz0 hH (by rw [← HA.out]; omega)
                have hyb : y ≤ 2 * n + 20 := by have := HY.out; omega
                have H1 := Lib.hid hA
                clear hA hH hst hp HG he hHY hm HMG
                go_wp2
                go_roundw
                case rel => exact ⟨y, rfl, by have := HY.out; omega, hyb, g, H1.out, HN.out⟩
                case measure => have := HY.out; simp [intOf]; omega
        · have HX : Hid (∃ g, At w wr b c n g ∧ Srt κ g 0 n ∧ Stb κ n g ∧ (tab n g).Perm (tab n f)) := by
            obtain ⟨g, h1, h2, h3⟩ := HG.out
            exact ⟨g, h1, blk_all h2 (by omega), h3⟩
          clear HG HMG
          go_wp2
          go_end0
          exact ⟨rfl, HX.out⟩

theorem sort_c (hC : Cmps w b q κ D) {wk : World} {c n : Nat} {f : Nat → Int} (h : At w wk b c n f) (hD : ∀ t, t < n → D (f t)) (hs : Stb κ n f) (hn : n ≤ 100000) :
    Calls Try.prog 54 #[.slice (some ⟨b, 0, none⟩) n c, cmpF q] wk fun r wn => r = .returned (.tuple #[]) ∧ ∃ g, At w wn b c n g ∧ Srt κ g 0 n ∧ Stb κ n g ∧ (tab n g).Perm (tab n f) := by
  have HS := Lib.hid (stable_c hC h hD hs hn)
  clear hC h hD hs
  unfold cmpF at *
  go_enter Try.func54, Try.ntmps54
  go_wp2_with fail
  refine HS.out.mono ?_
  rintro r w1 ⟨rfl, h1⟩
  have H1 := Lib.hid h1
  clear h1 HS
  go_wp2
  go_end0
  exact ⟨rfl, H1.out⟩
end
set_option maxRecDepth 100000 in
/-- Nothing to sort. -/
theorem sort_none (q : Nat) (w : World) :
    Calls Try.prog 54 #[.slice none 0 0, cmpF q] w fun r wn => r = .returned (.tuple #[]) ∧ wn = w := by
  have h1 : Hid (Calls Try.prog 76 #[.slice none 0 0, .int .i64 0, .int .i64 0, cmpF q] w fun r wn => r = .returned (.tuple #[]) ∧ wn = w) := by
    show Calls _ _ _ _ _
    unfold cmpF
    go_enter Try.func76, Try.ntmps76
    go_wp2
    refine wp_loop_rounds 1 ?_
    rw [rounds_succ]
    go_wp2
    go_end0
    exact ⟨rfl, rfl⟩
  have h2 : Hid (Calls Try.prog 69 #[.slice none 0 0, .int .i64 0, cmpF q] w fun r wn => r = .returned (.tuple #[]) ∧ wn = w) := by
    show Calls _ _ _ _ _
    unfold cmpF at *
    go_enter Try.func69, Try.ntmps69
    go_wp2
    refine wp_loop_rounds 1 ?_
    rw [rounds_succ]
    go_wp2_with fail
    refine h1.out.mono ?_
    rintro r w1 ⟨rfl, rfl⟩
    go_wp2
    refine wp_loop_rounds 1 ?_
    rw [rounds_succ]
    go_wp2
    go_end0
    exact ⟨rfl, rfl⟩
  unfold cmpF at *
  go_enter Try.func54, Try.ntmps54
  go_wp2_with fail
  refine h2.out.mono ?_
  rintro r w1 ⟨rfl, rfl⟩
  go_wp2
  go_end0
  exact ⟨rfl, rfl⟩
end Go.Proofs.Ytidkppjhmgehoaa.SortC
