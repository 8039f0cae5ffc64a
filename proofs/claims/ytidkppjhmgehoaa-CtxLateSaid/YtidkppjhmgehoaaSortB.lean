/-
  The library's stable sort of numbers by a comparison that reads elsewhere, second part: merges, and the whole. Condition: the comparison answers by a key, and changes nothing.
-/
import Derived.Test.YtidkppjhmgehoaaSort
namespace Go.Proofs.Ytidkppjhmgehoaa.SortC
open Go.ChangeShapes Go.WideShapes Go.ChangeAt Go.RowKit Mem Hand SortP

section
variable {w : World} {b q : Nat} {κ : Int → Int} {D : Int → Prop}

set_option maxRecDepth 100000 in
set_option maxHeartbeats 1000000 in
/-- One that stands ahead of those in order goes to its place. -/
theorem merge_left (hC : Cmps w b q κ D) {wk : World} {c n : Nat} {f : Nat → Int} (h : At w wk b c n f) (hD : ∀ t, t < n → D (f t)) (hs : Stb κ n f) (hn : n ≤ 100000) {a e : Nat} (h1 : a + 1 < e) (h2 : e ≤ n) (hS : Srt κ f (a + 1) e) :
    Calls Try.prog 77 #[.slice (some ⟨b, 0, none⟩) n c, .int .i64 a, .int .i64 ((a + 1 : Nat) : Int), .int .i64 e, cmpF q] wk fun r wn => r = .returned (.tuple #[]) ∧ ∃ g, At w wn b c n g ∧ Mrg κ n a e f g := by
  have H := Lib.hid h
  have HC := Lib.hid hC
  have HD := Lib.hid hD
  have HM : Hid (∀ i, a + 1 ≤ i → i ≤ e → (i = a + 1 ∨ κ (f (i - 1)) < κ (f a)) → (i = e ∨ κ (f a) ≤ κ (f i)) → Mrg κ n a e f (bub f a (i - 1))) := fun i h3 h4 h5 h6 => bub_mrg hs hS h2 h3 h4 h5 h6
  clear h hC hD hs hS
  unfold cmpF
  obtain ⟨m, hm⟩ : ∃ m, m = a + 1 := ⟨_, rfl⟩
  have em : (m : Int) - (a : Int) = 1 := by omega
  have ha := Lib.hid hm
  rw [← hm] at HM ⊢
  have ham : a < m := by omega
  have hme : m < e := by omega
  clear hm h1
  go_enter Try.func77, Try.ntmps77
  go_wp2
  go_loopw [10, 11] (fun s t wr => ∃ i j : Nat, m ≤ i ∧ i ≤ j ∧ j ≤ e ∧ s = .int .i64 i ∧ t = .int .i64 j ∧ Hid (At w wr b c n f ∧ (i = m ∨ κ (f (i - 1)) < κ (f a)) ∧ (j = e ∨ κ (f a) ≤ κ (f j)))) (fun s t _ => (intOf t).toNat - (intOf s).toNat)
  case atStart => exact ⟨m, e, Nat.le_refl _, by omega, Nat.le_refl _, rfl, rfl, H.out, .inl rfl, .inl rfl⟩
  case round =>
    obtain ⟨i, j, hmi, hij, hje, rfl, rfl, HG⟩ := hrel
    clear H
    by_cases hlt : i < j
    · obtain ⟨p, hp⟩ : ∃ p, p = (i + j) / 2 := ⟨_, rfl⟩
      have hip : i ≤ p := by omega
      have hpj : p < j := by omega
      obtain ⟨z, hz⟩ : ∃ z, z = i + j := ⟨_, rfl⟩
      have ez : (i : Int) + (j : Int) = (z : Int) := by omega
      have hzm : z ≤ 200000 := by omega
      rw [← hz] at hp
      clear hz
      have ezp : (z : Int) / 2 = (p : Int) := by omega
      have i0 : (0 : Int) ≤ (p : Int) := by omega
      have i1 : (p : Int) < (n : Int) := by omega
      have i2 : (0 : Int) ≤ (a : Int) := by omega
      have i3 : (a : Int) < (n : Int) := by omega
      clear hp
      have cp := HG.out.1.row.cell (i := p) (by omega)
      have ca := HG.out.1.row.cell (i := a) (by omega)
      have HCC := Lib.hid (HC.out.at_ HG.out.1 HD.out (i := p) (j := a) (by omega) (by omega))
      have hcn := cmp_neg (κ (f p)) (κ (f a))
      have HNX : Hid (κ (f p) < κ (f a) → ∀ d, At w (wr.drewN d) b c n f ∧ (p + 1 = m ∨ κ (f (p + 1 - 1)) < κ (f a)) ∧ (j = e ∨ κ (f a) ≤ κ (f j))) := fun hk d => ⟨HG.out.1.drewN d, .inr (by rw [Nat.add_sub_cancel]; exact hk), HG.out.2.2⟩
      have HNY : Hid (¬ κ (f p) < κ (f a) → ∀ d, At w (wr.drewN d) b c n f ∧ (i = m ∨ κ (f (i - 1)) < κ (f a)) ∧ (p = e ∨ κ (f a) ≤ κ (f p))) := fun hk d => ⟨HG.out.1.drewN d, HG.out.2.1, .inr (by omega)⟩
      clear HG
      generalize hfx : f p = x at *
      generalize f a = y at *
      generalize hkx : κ x = kx at *
      have HXX : Hid (κ (f p) = kx) := by show _ = _; rw [hfx, hkx]
      clear hfx hkx
      generalize κ y = ky at *
      obtain ⟨v, hv⟩ : ∃ v, cmpV kx ky = v := ⟨_, rfl⟩
      rw [hv] at hcn HCC
      clear hv
      by_cases hk : kx < ky
      · rw [decide_eq_true hk] at hcn
        have HN := Lib.hid (HNX.out hk)
        clear HNX HNY hk
        go_wp2_with fail
        go_quiet ((go_at_call 55; exact Calls.quiet_of (HCC.out _)))
        go_wp2
        go_roundw
        case rel => exact ⟨p + 1, j, by omega, by omega, hje, by go_num, rfl, HN.out _⟩
        case measure => simp [intOf]; omega
      · rw [decide_eq_false hk] at hcn
        have HN := Lib.hid (HNY.out hk)
        clear HNX HNY hk
        go_wp2_with fail
        go_quiet ((go_at_call 55; exact Calls.quiet_of (HCC.out _)))
        go_wp2
        go_roundw
        case rel => exact ⟨i, p, hmi, hip, by omega, rfl, rfl, by show _ ∧ _ ∧ _; rw [HXX.out]; exact HN.out _⟩
        case measure => simp [intOf]; omega
    · obtain rfl : i = j := by omega
      have HMM := Lib.hid (HM.out i hmi hje HG.out.2.1 HG.out.2.2)
      have HA := Lib.hid HG.out.1
      obtain ⟨i1, rfl⟩ : ∃ i1, i = i1 + 1 := ⟨i - 1, by omega⟩
      rw [Nat.add_sub_cancel] at HMM
      clear HG HM HC
      go_wp2
      go_loopw [13] (fun t wr => ∃ k : Nat, a ≤ k ∧ k ≤ i1 ∧ t = .int .i64 k ∧ Hid (At w wr b c n (bub f a k))) (fun t _ => i1 - (intOf t).toNat)
      case atStart => exact ⟨a, Nat.le_refl _, by omega, rfl, by show At _ _ _ _ _ _; rw [bub_start]; exact HA.out⟩
      case round =>
        obtain ⟨k, hak, hki, rfl, HK⟩ := hrel
        clear HA
        by_cases hlk : k < i1
        · obtain ⟨j1, hj1⟩ : ∃ j1, j1 = k + 1 := ⟨_, rfl⟩
          have ck := HK.out.row.cell (i := k) (by omega)
          have cj := HK.out.row.cell (i := j1) (by omega)
          have fk := HK.out.row.frozen k
          have fj := HK.out.row.frozen j1
          have HS := Lib.hid (HK.out.swap (i := k) (j := j1) (by omega) (by omega))
          have HN : Hid (swp (bub f a k) k (k + 1) = bub f a (k + 1)) := bub_step f hak
          rw [← hj1] at HN
          rw [HN.out] at HS
          have hne : k ≠ j1 := by omega
          have ek : (k : Int) + 1 = (j1 : Int) := by omega
          have i0 : (0 : Int) ≤ (k : Int) := by omega
          have i2 : (k : Int) < (n : Int) := by omega
          have i3 : (0 : Int) ≤ (j1 : Int) := by omega
          have i4 : (j1 : Int) < (n : Int) := by omega
          have hj1i : j1 ≤ i1 := by omega
          have HJ := Lib.hid hj1
          generalize bub f a k k = x at *
          generalize bub f a k j1 = y at *
          clear HK hj1 HN
          go_wp2_with fail
          go_region
          all_goals go_wp2
          go_roundw
          case rel => exact ⟨j1, by omega, hj1i, by go_num, HS.out.drew⟩
          case measure => have := HJ.out; simp [intOf]; omega
        · obtain rfl : k = i1 := by omega
          go_wp2
          (try simp only [Exit.inBlock, Exit.then])
          refine bodyPost_ret (results_none rfl _ _ _) rfl ?_
          exact ⟨rfl, _, HK.out, HMM.out⟩

set_option maxRecDepth 100000 in
set_option maxHeartbeats 1000000 in
/-- One that stands behind those in order goes to its place. -/
theorem merge_right (hC : Cmps w b q κ D) {wk : World} {c n : Nat} {f : Nat → Int} (h : At w wk b c n f) (hD : ∀ t, t < n → D (f t)) (hs : Stb κ n f) (hn : n ≤ 100000) {a m : Nat} (h1 : a + 1 < m) (h2 : m + 1 ≤ n) (hS : Srt κ f a m) :
    Calls Try.prog 77 #[.slice (some ⟨b, 0, none⟩) n c, .int .i64 a, .int .i64 m, .int .i64 ((m + 1 : Nat) : Int), cmpF q] wk fun r wn => r = .returned (.tuple #[]) ∧ ∃ g, At w wn b c n g ∧ Mrg κ n a (m + 1) f g := by
  have H := Lib.hid h
  have HC := Lib.hid hC
  have HD := Lib.hid hD
  have HM : Hid (∀ i, a ≤ i → i ≤ m → (i = a ∨ κ (f (i - 1)) ≤ κ (f m)) → (i = m ∨ κ (f m) < κ (f i)) → Mrg κ n a (m + 1) f (sub f m i)) := fun i h3 h4 h5 h6 => sub_mrg hs hS h2 h3 h4 h5 h6
  clear h hC hD hs hS
  unfold cmpF
  obtain ⟨e, he⟩ : ∃ e, e = m + 1 := ⟨_, rfl⟩
  obtain ⟨d, hd⟩ : ∃ d : Nat, (m : Int) - (a : Int) = (d : Int) := ⟨m - a, by omega⟩
  have hd1 : ((d : Int) == 1) = false := by rw [beq_eq_false_iff_ne]; omega
  have em : (e : Int) - (m : Int) = 1 := by omega
  rw [← he] at HM ⊢
  have ham : a < m := by omega
  have hen : m < n := by omega
  clear he h1
  go_enter Try.func77, Try.ntmps77
  go_wp2
  go_loopw [14, 15] (fun s t wr => ∃ i j : Nat, a ≤ i ∧ i ≤ j ∧ j ≤ m ∧ s = .int .i64 i ∧ t = .int .i64 j ∧ Hid (At w wr b c n f ∧ (i = a ∨ κ (f (i - 1)) ≤ κ (f m)) ∧ (j = m ∨ κ (f m) < κ (f j)))) (fun s t _ => (intOf t).toNat - (intOf s).toNat)
  case atStart => exact ⟨a, m, Nat.le_refl _, by omega, Nat.le_refl _, rfl, rfl, H.out, .inl rfl, .inl rfl⟩
  case round =>
    obtain ⟨i, j, hmi, hij, hje, rfl, rfl, HG⟩ := hrel
    clear H
    by_cases hlt : i < j
    · obtain ⟨p, hp⟩ : ∃ p, p = (i + j) / 2 := ⟨_, rfl⟩
      have hip : i ≤ p := by omega
      have hpj : p < j := by omega
      obtain ⟨z, hz⟩ : ∃ z, z = i + j := ⟨_, rfl⟩
      have ez : (i : Int) + (j : Int) = (z : Int) := by omega
      have hzm : z ≤ 200000 := by omega
      rw [← hz] at hp
      clear hz
      have ezp : (z : Int) / 2 = (p : Int) := by omega
      have i0 : (0 : Int) ≤ (p : Int) := by omega
      have i1 : (p : Int) < (n : Int) := by omega
      have i2 : (0 : Int) ≤ (m : Int) := by omega
      have i3 : (m : Int) < (n : Int) := by omega
      clear hp
      have cp := HG.out.1.row.cell (i := p) (by omega)
      have ca := HG.out.1.row.cell (i := m) (by omega)
      have HCC := Lib.hid (HC.out.at_ HG.out.1 HD.out (i := m) (j := p) (by omega) (by omega))
      have hcn := cmp_neg (κ (f m)) (κ (f p))
      have HNX : Hid (¬ κ (f m) < κ (f p) → ∀ d, At w (wr.drewN d) b c n f ∧ (p + 1 = a ∨ κ (f (p + 1 - 1)) ≤ κ (f m)) ∧ (j = m ∨ κ (f m) < κ (f j))) := fun hk d => ⟨HG.out.1.drewN d, .inr (by rw [Nat.add_sub_cancel]; omega), HG.out.2.2⟩
      have HNY : Hid (κ (f m) < κ (f p) → ∀ d, At w (wr.drewN d) b c n f ∧ (i = a ∨ κ (f (i - 1)) ≤ κ (f m)) ∧ (p = m ∨ κ (f m) < κ (f p))) := fun hk d => ⟨HG.out.1.drewN d, HG.out.2.1, .inr hk⟩
      clear HG
      generalize hfx : f p = x at *
      generalize f m = y at *
      generalize hkx : κ x = kx at *
      have HXX : Hid (κ (f p) = kx) := by show _ = _; rw [hfx, hkx]
      clear hfx hkx
      generalize κ y = ky at *
      obtain ⟨v, hv⟩ : ∃ v, cmpV ky kx = v := ⟨_, rfl⟩
      rw [hv] at hcn HCC
      clear hv
      by_cases hk : ky < kx
      · rw [decide_eq_true hk] at hcn
        have HN := Lib.hid (HNY.out hk)
        clear HNX HNY hk
        go_wp2_with fail
        go_quiet ((go_at_call 55; exact Calls.quiet_of (HCC.out _)))
        go_wp2
        go_roundw
        case rel => exact ⟨i, p, hmi, hip, by omega, rfl, rfl, by show _ ∧ _ ∧ _; rw [HXX.out]; exact HN.out _⟩
        case measure => simp [intOf]; omega
      · rw [decide_eq_false hk] at hcn
        have HN := Lib.hid (HNX.out hk)
        clear HNX HNY hk
        go_wp2_with fail
        go_quiet ((go_at_call 55; exact Calls.quiet_of (HCC.out _)))
        go_wp2
        go_roundw
        case rel => exact ⟨p + 1, j, by omega, by omega, hje, by go_num, rfl, HN.out _⟩
        case measure => simp [intOf]; omega
    · obtain rfl : i = j := by omega
      have HMM := Lib.hid (HM.out i hmi hje HG.out.2.1 HG.out.2.2)
      have HA := Lib.hid HG.out.1
      clear HG HM HC
      go_wp2
      go_loopw [17] (fun t wr => ∃ k : Nat, i ≤ k ∧ k ≤ m ∧ t = .int .i64 k ∧ Hid (At w wr b c n (sub f m k))) (fun t _ => (intOf t).toNat)
      case atStart => exact ⟨m, by omega, Nat.le_refl _, rfl, by show At _ _ _ _ _ _; rw [sub_start]; exact HA.out⟩
      case round =>
        obtain ⟨j1, hak, hki, rfl, HK⟩ := hrel
        clear HA
        by_cases hlk : i < j1
        · obtain ⟨k, hj1⟩ : ∃ k, j1 = k + 1 := ⟨j1 - 1, by omega⟩
          have ck := HK.out.row.cell (i := k) (by omega)
          have cj := HK.out.row.cell (i := j1) (by omega)
          have fk := HK.out.row.frozen k
          have fj := HK.out.row.frozen j1
          have HS := Lib.hid (HK.out.swap (i := j1) (j := k) (by omega) (by omega))
          have HN : Hid (swp (sub f m (k + 1)) (k + 1) k = sub f m k) := sub_step f (by omega)
          rw [← hj1] at HN
          rw [HN.out] at HS
          have hne : j1 ≠ k := by omega
          have ek : (j1 : Int) - 1 = (k : Int) := by omega
          have i0 : (0 : Int) ≤ (k : Int) := by omega
          have i2 : (k : Int) < (n : Int) := by omega
          have i3 : (0 : Int) ≤ (j1 : Int) := by omega
          have i4 : (j1 : Int) < (n : Int) := by omega
          have hj1i : i ≤ k := by omega
          have HJ := Lib.hid hj1
          generalize sub f m j1 k = x at *
          generalize sub f m j1 j1 = y at *
          clear HK hj1 HN
          go_wp2_with fail
          go_region
          all_goals go_wp2
          go_roundw
          case rel => exact ⟨k, by omega, by omega, by go_num, HS.out.drew⟩
          case measure => have := HJ.out; simp [intOf]; omega
        · obtain rfl : j1 = i := by omega
          go_wp2
          (try simp only [Exit.inBlock, Exit.then])
          refine bodyPost_ret (results_none rfl _ _ _) rfl ?_
          exact ⟨rfl, _, HK.out, HMM.out⟩
end
end Go.Proofs.Ytidkppjhmgehoaa.SortC
