/-
  The library's stable sort of numbers by a comparison that reads elsewhere, third part: two rows in order become one. Condition: the comparison answers by a key, and changes nothing.
-/
import Derived.Test.YtidkppjhmgehoaaSortB
import Derived.Deep.DeepCutAuto
import Derived.Deep.CutRange
import Derived.Deep.Light
namespace Go.Proofs.Ytidkppjhmgehoaa.SortC
open Go.ChangeShapes Go.WideShapes Go.ChangeAt Go.RowKit Mem Hand SortP

section
variable {w : World} {b q : Nat} {κ : Int → Int} {D : Int → Prop}

/-- Where the search of the cut stands. -/
structure Seek (κ : Int → Int) (f : Nat → Int) (a m e lo hi : Nat) (Q s r : Nat) : Prop where
  los : lo ≤ s
  sr : s ≤ r
  rhi : r ≤ hi
  sok : s = lo ∨ κ (f (s - 1)) ≤ κ (f (Q + m - s))
  rok : r = hi ∨ κ (f (Q + m - 1 - r)) < κ (f r)
theorem Seek.cut {f : Nat → Int} {a m e lo hi s : Nat} (h : Seek κ f a m e lo hi ((a + e) / 2) s s) (h1 : a ≤ lo) (h2 : hi ≤ m) (h3 : hi ≤ (a + e) / 2) (h4 : (a + e) / 2 + m ≤ lo + e) (h5 : lo = a ∨ (a + e) / 2 + m = lo + e) (h6 : hi = m ∨ hi = (a + e) / 2) : Cutp κ f a m e s := by
  obtain ⟨c1, _, c3, c4, c5⟩ := h
  refine ⟨by omega, by omega, by omega, by omega, by omega, fun g1 g2 => ?_, fun g1 g2 => ?_⟩
  · rcases c4 with c4 | c4
    · omega
    · exact c4
  · rcases c5 with c5 | c5
    · omega
    · rw [show (a + e) / 2 + m - s - 1 = (a + e) / 2 + m - 1 - s from by omega]; exact c5

set_option maxRecDepth 100000 in
set_option maxHeartbeats 4000000 in
/-- Two rows in order become one, if two shorter ones do. -/
theorem merge_step (hC : Cmps w b q κ D) {c n : Nat} (hn : n ≤ 100000) (N : Nat) (hrec : ∀ (wk : World) (f : Nat → Int) (a m e : Nat), e - a ≤ N → At w wk b c n f → (∀ t, t < n → D (f t)) → Stb κ n f → a < m → m < e → e ≤ n → Srt κ f a m → Srt κ f m e →
    Calls Try.prog 77 #[.slice (some ⟨b, 0, none⟩) n c, .int .i64 a, .int .i64 m, .int .i64 e, cmpF q] wk fun r wn => r = .returned (.tuple #[]) ∧ ∃ g, At w wn b c n g ∧ Mrg κ n a e f g) {wk : World} {f : Nat → Int} {a m e : Nat} (hN : e - a ≤ N + 1) (h : At w wk b c n f) (hD : ∀ t, t < n → D (f t)) (hs : Stb κ n f) (ham : a < m) (hme : m < e) (hen : e ≤ n) (hS1 : Srt κ f a m) (hS2 : Srt κ f m e) :
    Calls Try.prog 77 #[.slice (some ⟨b, 0, none⟩) n c, .int .i64 a, .int .i64 m, .int .i64 e, cmpF q] wk fun r wn => r = .returned (.tuple #[]) ∧ ∃ g, At w wn b c n g ∧ Mrg κ n a e f g := by
  by_cases ha1 : m = a + 1
  · subst ha1; exact merge_left hC h hD hs hn hme hen hS2
  by_cases he1 : e = m + 1
  · subst he1; exact merge_right hC h hD hs hn (by omega) hen hS1
  have HREC := Lib.hid hrec
  clear hrec
  obtain ⟨Q, hQ⟩ : ∃ Q, Q = (a + e) / 2 := ⟨_, rfl⟩
  have hQa : a < Q := by omega
  have hQe : Q < e := by omega
  have HCUT : Hid (∀ lo hi s, Seek κ f a m e lo hi Q s s → a ≤ lo → hi ≤ m → hi ≤ Q → Q + m ≤ lo + e → (lo = a ∨ Q + m = lo + e) → (hi = m ∨ hi = Q) → Cutp κ f a m e s) := by subst hQ; exact fun lo hi s h h1 h2 h3 h4 h5 h6 => h.cut h1 h2 h3 h4 h5 h6
  have HMID : Hid (∀ s f1, Cutp κ f a m e s → (∀ t, f1 t = f (rotσ s m (Q + m - s) t)) → Srt κ f1 a s ∧ Srt κ f1 s Q ∧ Srt κ f1 Q (Q + m - s) ∧ Srt κ f1 (Q + m - s) e ∧ Stb κ n f1) := by subst hQ; exact fun s f1 hc e1 => sym_mid ham hme hen hS1 hS2 hs hc e1
  have HJOIN : Hid (∀ s f1 f2 f3, Cutp κ f a m e s → (∀ t, f1 t = f (rotσ s m (Q + m - s) t)) → (tab n f1).Perm (tab n f) → Part κ n a s Q f1 f2 → Part κ n Q (Q + m - s) e f2 f3 → Mrg κ n a e f f3) := by subst hQ; exact fun s f1 f2 f3 hc e1 hp g2 g3 => sym_join ham hme hen hS1 hS2 hs hc e1 hp g2 g3
  have HLO : Hid ((Q < m → a ≤ Q + m - e ∧ Q + m - e ≤ Q) ∧ (¬ Q < m → Q + m ≤ a + e)) := by show _ ∧ _; exact ⟨fun _ => by omega, fun _ => by omega⟩
  have H := Lib.hid h
  have HC := Lib.hid hC
  have HD := Lib.hid hD
  obtain ⟨da, hda⟩ : ∃ d : Nat, (m : Int) - (a : Int) = (d : Int) := ⟨m - a, by omega⟩
  have hda1 : ((da : Int) == 1) = false := by rw [beq_eq_false_iff_ne]; omega
  obtain ⟨de, hde⟩ : ∃ d : Nat, (e : Int) - (m : Int) = (d : Int) := ⟨e - m, by omega⟩
  have hde1 : ((de : Int) == 1) = false := by rw [beq_eq_false_iff_ne]; omega
  obtain ⟨Z, hZ⟩ : ∃ Z : Nat, (a : Int) + (e : Int) = (Z : Int) := ⟨a + e, by omega⟩
  have hZQ : (Z : Int) / 2 = (Q : Int) := by omega
  have hZm : Z ≤ 200000 := by omega
  obtain ⟨M, hM⟩ : ∃ M : Nat, M = Q + m := ⟨_, rfl⟩
  have hQM : (Q : Int) + (m : Int) = (M : Int) := by omega
  rw [← hM] at HLO HCUT HMID HJOIN
  have HMM := Lib.hid hM
  have hMe : m ≤ M := by omega
  clear h hC hD hs hS1 hS2 hQ hM ha1 he1
  unfold cmpF
  go_enter Try.func77, Try.ntmps77
  go_upto_if 140 with (fail)
  go_cut [20, 21] from 141 to 146 (fun s r wx => ∃ lo hi : Nat, s = .int .i64 lo ∧ r = .int .i64 hi ∧ wx = wk ∧ a ≤ lo ∧ lo ≤ hi ∧ hi ≤ m ∧ hi ≤ Q ∧ M ≤ lo + e ∧ (lo = a ∨ M = lo + e) ∧ (hi = m ∨ hi = Q))
  case first =>
    by_cases hlt : Q < m
    · have hlo := HLO.out.1 hlt
      have e2 : (M : Int) - (e : Int) = ((M - e : Nat) : Int) := by have := HMM.out; omega
      go_wp2_with fail
      go_meet
      exact ⟨M - e, Q, rfl, rfl, rfl, hlo.1, hlo.2, by omega, Nat.le_refl _, by omega, .inr (by have := HMM.out; omega), .inr rfl⟩
    · have hlo := HLO.out.2 hlt
      go_wp2_with fail
      go_meet
      exact ⟨a, m, rfl, rfl, rfl, Nat.le_refl _, by omega, Nat.le_refl _, by omega, hlo, .inl rfl, .inl rfl⟩
  case rest =>
    obtain ⟨lo, hi, rfl, rfl, hwc, g1, g2, g3, g4, g5, g6, g7⟩ := hcut
    have hwc' := hwc.symm
    subst hwc'
    clear hwc HLO
    obtain ⟨P, hP⟩ : ∃ P, P + 1 = M := ⟨M - 1, by omega⟩
    have hMP : (M : Int) - 1 = (P : Int) := by omega
    have HPM := Lib.hid hP
    clear hP
    go_wp2
    go_loopw [20, 21] (fun s t wr => ∃ i j : Nat, s = .int .i64 i ∧ t = .int .i64 j ∧ lo ≤ i ∧ i ≤ j ∧ j ≤ hi ∧ Hid (At w wr b c n f ∧ Seek κ f a m e lo hi Q i j)) (fun s t _ => (intOf t).toNat - (intOf s).toNat)
    case atStart => exact ⟨lo, hi, rfl, rfl, Nat.le_refl _, g2, Nat.le_refl _, H.out, Nat.le_refl _, g2, Nat.le_refl _, .inl rfl, .inl rfl⟩
    case round =>
      obtain ⟨i, j, rfl, rfl, hli, hij, hjh, HG⟩ := hrel
      clear H
      by_cases hlt : i < j
      · obtain ⟨p, hp⟩ : ∃ p, p = (i + j) / 2 := ⟨_, rfl⟩
        have hip : i ≤ p := by omega
        have hpj : p < j := by omega
        obtain ⟨z, hz⟩ : ∃ z, z = i + j := ⟨_, rfl⟩
        have ez : (i : Int) + (j : Int) = (z : Int) := by omega
        have hzm : z ≤ 200000 := by omega
        rw [← hz] at hp
        clear hz
        have ezp : (z : Int) / 2 = (p : Int) := by omega
        obtain ⟨r, hr⟩ : ∃ r, r + p = P := ⟨P - p, by have := HMM.out; have := HPM.out; omega⟩
        have er : (P : Int) - (p : Int) = (r : Int) := by omega
        have hrn : r < n := by have := HMM.out; have := HPM.out; omega
        have hpn : p < n := by omega
        have i0 : (0 : Int) ≤ (p : Int) := by omega
        have i1 : (p : Int) < (n : Int) := by omega
        have i2 : (0 : Int) ≤ (r : Int) := by omega
        have i3 : (r : Int) < (n : Int) := by omega
        have cp := HG.out.1.row.cell (i := p) (by omega)
        have cr := HG.out.1.row.cell (i := r) (by omega)
        have HCC := Lib.hid (HC.out.at_ HG.out.1 HD.out (i := r) (j := p) (by omega) (by omega))
        have hcn := cmp_neg (κ (f r)) (κ (f p))
        have hQr : Q + m - 1 - p = r := by have := HMM.out; have := HPM.out; omega
        have hQr1 : Q + m - (p + 1) = r := by have := HMM.out; have := HPM.out; omega
        have HNX : Hid (¬ κ (f r) < κ (f p) → ∀ d, At w (wr.drewN d) b c n f ∧ Seek κ f a m e lo hi Q (p + 1) j) := fun hk d => ⟨HG.out.1.drewN d, by omega, by omega, hjh, .inr (by rw [Nat.add_sub_cancel, hQr1]; omega), HG.out.2.rok⟩
        have HNY : Hid (κ (f r) < κ (f p) → ∀ d, At w (wr.drewN d) b c n f ∧ Seek κ f a m e lo hi Q i p) := fun hk d => ⟨HG.out.1.drewN d, by omega, by omega, by omega, HG.out.2.sok, .inr (by rw [hQr]; exact hk)⟩
        clear HG hp hr hQr hQr1 HCUT HMID HJOIN HREC
        generalize f p = x at *
        generalize f r = y at *
        generalize κ x = kx at *
        generalize κ y = ky at *
        obtain ⟨v, hv⟩ : ∃ v, cmpV ky kx = v := ⟨_, rfl⟩
        rw [hv] at hcn HCC
        clear hv
        by_cases hk : ky < kx
        · rw [decide_eq_true hk] at hcn
          have HN := Lib.hid (HNY.out hk)
          clear HNX HNY hk
          go_wp2_with fail
          go_quiet ((go_at_call 55; exact Calls.quiet_of (HCC.out _)))
          go_wp2
          go_roundw
          case rel => exact ⟨i, p, rfl, rfl, hli, hip, by omega, HN.out _⟩
          case measure => simp [intOf]; omega
        · rw [decide_eq_false hk] at hcn
          have HN := Lib.hid (HNX.out hk)
          clear HNX HNY hk
          go_wp2_with fail
          go_quiet ((go_at_call 55; exact Calls.quiet_of (HCC.out _)))
          go_wp2
          go_roundw
          case rel => exact ⟨p + 1, j, by go_num, rfl, by omega, by omega, hjh, HN.out _⟩
          case measure => simp [intOf]; omega
      · obtain rfl : i = j := by omega
        have HCU := Lib.hid (HCUT.out lo hi i HG.out.2 g1 g3 g4 g5 g6 g7)
        obtain ⟨E, hE⟩ : ∃ E, E + i = M := ⟨M - i, by have := HMM.out; omega⟩
        have eE : (M : Int) - (i : Int) = (E : Int) := by omega
        have hEM : M - i = E := by omega
        have hmE : m ≤ E := by have := HMM.out; omega
        have hEe : E ≤ e := by omega
        have him : i ≤ m := by omega
        have hiQ : i ≤ Q := by omega
        have hai : a ≤ i := by omega
        have HMID2 := Lib.hid (fun f1 => HMID.out i f1 HCU.out)
        have HJOIN2 := Lib.hid (fun f1 f2 f3 => HJOIN.out i f1 f2 f3 HCU.out)
        rw [hEM] at HMID2 HJOIN2
        have HA := Lib.hid HG.out.1
        clear HG HMID HJOIN HCUT HCU hE hEM HC HMM HPM g5 g6 g7
        have HIN : Hid (i ≤ Q ∧ a ≤ i ∧ E ≤ e ∧ Q ≤ E) := by show _ ∧ _; exact ⟨hiQ, hai, hEe, by omega⟩
        have hRR : i < m → m < E → Hid (∀ r1 : World, At w r1 b c n f → Calls Try.prog 79 #[.slice (some ⟨b, 0, none⟩) n c, .int .i64 i, .int .i64 m, .int .i64 E, .func (.func 55) #[] #[.pointer (some ⟨q, 0, none⟩)]] r1 fun r wn => r = .returned (.tuple #[]) ∧ ∃ g, At w wn b c n g ∧ (∀ t, g t = f (rotσ i m E t)) ∧ (tab n g).Perm (tab n f)) := fun h1 h2 r1 h => rotate_c h hn _ h1 h2 (by omega)
        go_upto_region 39 with (fail)
        go_cut [185] from 178 to 185 (fun s wx => s = .bool (decide (i < m ∧ m < E)) ∧ wx = wr)
        case first =>
          by_cases h1 : i < m
          · by_cases h2 : m < E
            · go_wp2_with fail
              go_meet
              exact ⟨by simp [h1, h2], rfl⟩
            · go_wp2_with fail
              go_meet
              exact ⟨by simp [h1, h2], rfl⟩
          · go_wp2_with fail
            go_meet
            exact ⟨by simp [h1], rfl⟩
        case rest =>
          obtain ⟨rfl, hwc⟩ := hcut
          have hwc' := hwc.symm
          subst hwc'
          clear hwc
          go_upto_if 185 with (fail)
          go_cut [] from 186 to 191 (fun wx => Hid (∃ f1, At w wx b c n f1 ∧ (∀ t, f1 t = f (rotσ i m E t)) ∧ (tab n f1).Perm (tab n f)))
          case first =>
            by_cases h1 : i < m ∧ m < E
            · have hd : decide (i < m ∧ m < E) = true := decide_eq_true h1
              have HX := Lib.hid (hRR h1.1 h1.2)
              generalize decide (i < m ∧ m < E) = gd at *
              subst hd
              go_wp2_with fail
              refine (HX.out.out _ HA.out).mono ?_
              rintro r w1 ⟨rfl, h3⟩
              go_wp2
              go_meet
              exact h3
            · have hd : decide (i < m ∧ m < E) = false := decide_eq_false h1
              have HX : Hid (∃ f1, At w wr b c n f1 ∧ (∀ t, f1 t = f (rotσ i m E t)) ∧ (tab n f1).Perm (tab n f)) := ⟨f, HA.out, fun t => by rw [rot_id him hmE h1], .refl _⟩
              generalize decide (i < m ∧ m < E) = gd at *
              subst hd
              go_wp2_with fail
              go_meet
              exact HX.out
          case rest =>
            obtain ⟨f1, hA1, hr1, hp1⟩ := hcut.out
            have hm1 := HMID2.out f1 hr1
            have hRA : a < i → i < Q → Hid (∀ r1 : World, At w r1 b c n f1 → Calls Try.prog 77 #[.slice (some ⟨b, 0, none⟩) n c, .int .i64 a, .int .i64 i, .int .i64 Q, .func (.func 55) #[] #[.pointer (some ⟨q, 0, none⟩)]] r1 fun r wn => r = .returned (.tuple #[]) ∧ ∃ g, At w wn b c n g ∧ Mrg κ n a Q f1 g) := fun h1 h2 r1 h => HREC.out r1 f1 a i Q (by omega) h (perm_D hp1 HD.out) hm1.2.2.2.2 h1 h2 (by omega) hm1.1 hm1.2.1
            have HA1 := Lib.hid hA1
            have HM1 := Lib.hid hm1
            have HR1 := Lib.hid hr1
            have HP1 := Lib.hid hp1
            clear hcut hA1 hm1 hr1 hp1 hRR HA
            generalize decide (i < m ∧ m < E) = gd1 at *
            go_upto_region 41 with (fail)
            go_cut [199] from 192 to 199 (fun s wx => s = .bool (decide (a < i ∧ i < Q)) ∧ wx = wc)
            case first =>
              by_cases h1 : a < i
              · by_cases h2 : i < Q
                · go_wp2_with fail
                  go_meet
                  exact ⟨by simp [h1, h2], rfl⟩
                · go_wp2_with fail
                  go_meet
                  exact ⟨by simp [h1, h2], rfl⟩
              · go_wp2_with fail
                go_meet
                exact ⟨by simp [h1], rfl⟩
            case rest =>
              obtain ⟨rfl, hwc⟩ := hcut
              have hwc' := hwc.symm
              subst hwc'
              clear hwc
              go_upto_if 199 with (fail)
              go_cut [] from 200 to 205 (fun wx => Hid (∃ f2, At w wx b c n f2 ∧ Part κ n a i Q f1 f2))
              case first =>
                by_cases h1 : a < i ∧ i < Q
                · have hd : decide (a < i ∧ i < Q) = true := decide_eq_true h1
                  have HX := Lib.hid (hRA h1.1 h1.2)
                  have HY : Hid (∀ g, Mrg κ n a Q f1 g → Part κ n a i Q f1 g) := fun g h => by unfold Part; rw [if_pos h1]; exact h
                  generalize decide (a < i ∧ i < Q) = gd at *
                  subst hd
                  go_wp2_with fail
                  refine (HX.out.out _ HA1.out).mono ?_
                  rintro r w1 ⟨rfl, g, h3, h4⟩
                  go_wp2
                  go_meet
                  exact ⟨g, h3, HY.out g h4⟩
                · have hd : decide (a < i ∧ i < Q) = false := decide_eq_false h1
                  have HX : Hid (∃ f2, At w wc b c n f2 ∧ Part κ n a i Q f1 f2) := ⟨f1, HA1.out, by unfold Part; rw [if_neg h1]⟩
                  generalize decide (a < i ∧ i < Q) = gd at *
                  subst hd
                  go_wp2_with fail
                  go_meet
                  exact HX.out
              case rest =>
                obtain ⟨f2, hA2, hp2⟩ := hcut.out
                have hm2 := sym_mid2 HM1.out hp2 hai hiQ HIN.out.2.2.2 hEe
                have hRB : Q < E → E < e → Hid (∀ r1 : World, At w r1 b c n f2 → Calls Try.prog 77 #[.slice (some ⟨b, 0, none⟩) n c, .int .i64 Q, .int .i64 E, .int .i64 e, .func (.func 55) #[] #[.pointer (some ⟨q, 0, none⟩)]] r1 fun r wn => r = .returned (.tuple #[]) ∧ ∃ g, At w wn b c n g ∧ Mrg κ n Q e f2 g) := fun h1 h2 r1 h => HREC.out r1 f2 Q E e (by omega) h (perm_D (hm2.2.2.2.trans HP1.out) HD.out) hm2.2.2.1 h1 h2 hen hm2.1 hm2.2.1
                have HFI : Hid (∀ f3, Part κ n Q E e f2 f3 → Mrg κ n a e f f3) := fun f3 h3 => HJOIN2.out f1 f2 f3 HR1.out HP1.out hp2 h3
                have HA2 := Lib.hid hA2
                clear hcut hA2 hm2 hp2 hRA HA1 HM1 HR1 HP1 HREC HJOIN2 HMID2
                generalize decide (a < i ∧ i < Q) = gd2 at *
                by_cases h1 : Q < E
                · by_cases h2 : E < e
                  · have HX := Lib.hid (hRB h1 h2)
                    have HY : Hid (∀ g, Mrg κ n Q e f2 g → Part κ n Q E e f2 g) := fun g h => by unfold Part; rw [if_pos ⟨h1, h2⟩]; exact h
                    clear hRB
                    go_wp2_with fail
                    refine (HX.out.out _ HA2.out).mono ?_
                    rintro r w1 ⟨rfl, g, h3, h4⟩
                    go_wp2
                    go_end0
                    exact ⟨rfl, g, h3, HFI.out g (HY.out g h4)⟩
                  · have HX : Hid (Part κ n Q E e f2 f2) := by show Part _ _ _ _ _ _ _; unfold Part; rw [if_neg fun h => h2 h.2]
                    clear hRB
                    go_wp2
                    go_end0
                    exact ⟨rfl, f2, HA2.out, HFI.out f2 HX.out⟩
                · have HX : Hid (Part κ n Q E e f2 f2) := by show Part _ _ _ _ _ _ _; unfold Part; rw [if_neg fun h => h1 h.1]
                  clear hRB
                  go_wp2
                  go_end0
                  exact ⟨rfl, f2, HA2.out, HFI.out f2 HX.out⟩
/-- Two rows in order become one. -/
theorem merge_c (hC : Cmps w b q κ D) {c n : Nat} (hn : n ≤ 100000) : ∀ (N : Nat) (wk : World) (f : Nat → Int) (a m e : Nat), e - a ≤ N → At w wk b c n f → (∀ t, t < n → D (f t)) → Stb κ n f → a < m → m < e → e ≤ n → Srt κ f a m → Srt κ f m e →
    Calls Try.prog 77 #[.slice (some ⟨b, 0, none⟩) n c, .int .i64 a, .int .i64 m, .int .i64 e, cmpF q] wk fun r wn => r = .returned (.tuple #[]) ∧ ∃ g, At w wn b c n g ∧ Mrg κ n a e f g
  | 0, _, _, _, _, _, h, _, _, _, _, _, _, _, _ => by omega
  | N + 1, _, _, _, _, _, h1, h2, h3, h4, h5, h6, h7, h8, h9 => merge_step hC hn N (merge_c hC hn N) h1 h2 h3 h4 h5 h6 h7 h8 h9
end
end Go.Proofs.Ytidkppjhmgehoaa.SortC
