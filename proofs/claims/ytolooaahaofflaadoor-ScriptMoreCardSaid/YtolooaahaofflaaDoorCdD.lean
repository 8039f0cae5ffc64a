/-
  What package code does as it landed, fourth part: appendNumber, Bytes. Condition: the table lies as it was written; what the slices read as.
-/
import Derived.Test.YtolooaahaofflaaDoorCdC
namespace Go.Proofs.YtolooaahaofflaaDoor.CdA
open Go.ChangeShapes Go.WideShapes Go.ChangeAt Go.RowKit Mem MutP CodeP Hand RefCode CodeT CodeI

theorem wrap8 (z : Int) : IntKind.u8.wrap z = z % 256 := by simp [IntKind.wrap, IntKind.bits, IntKind.signed]
/-- A number's byte, by a shift. -/
theorem eight_at (n : Int) (i : Nat) (hi : i < 8) : (eightL n)[i]? = some (IntKind.u8.wrap (n / 2 ^ (56 - 8 * i))) := by
  have e2 : eightL n = [top64 n / 256 / 256 / 256 / 256 / 256 / 256 / 256 % 256, top64 n / 256 / 256 / 256 / 256 / 256 / 256 % 256, top64 n / 256 / 256 / 256 / 256 / 256 % 256, top64 n / 256 / 256 / 256 / 256 % 256, top64 n / 256 / 256 / 256 % 256, top64 n / 256 / 256 % 256, top64 n / 256 % 256, top64 n % 256] := rfl
  rw [e2, wrap8]
  have hm : top64 n = n ∨ top64 n = n + 18446744073709551616 := by unfold top64; split <;> omega
  clear e2
  generalize top64 n = m at *
  rcases (by omega : i = 0 ∨ i = 1 ∨ i = 2 ∨ i = 3 ∨ i = 4 ∨ i = 5 ∨ i = 6 ∨ i = 7) with rfl | rfl | rfl | rfl | rfl | rfl | rfl | rfl
  · have e : (2 : Int) ^ (56 - 8 * 0) = 72057594037927936 := by decide
    rw [e]; show some _ = some _; congr 1; omega
  · have e : (2 : Int) ^ (56 - 8 * 1) = 281474976710656 := by decide
    rw [e]; show some _ = some _; congr 1; omega
  · have e : (2 : Int) ^ (56 - 8 * 2) = 1099511627776 := by decide
    rw [e]; show some _ = some _; congr 1; omega
  · have e : (2 : Int) ^ (56 - 8 * 3) = 4294967296 := by decide
    rw [e]; show some _ = some _; congr 1; omega
  · have e : (2 : Int) ^ (56 - 8 * 4) = 16777216 := by decide
    rw [e]; show some _ = some _; congr 1; omega
  · have e : (2 : Int) ^ (56 - 8 * 5) = 65536 := by decide
    rw [e]; show some _ = some _; congr 1; omega
  · have e : (2 : Int) ^ (56 - 8 * 6) = 256 := by decide
    rw [e]; show some _ = some _; congr 1; omega
  · have e : (2 : Int) ^ (56 - 8 * 7) = 1 := by decide
    rw [e]; show some _ = some _; congr 1; omega

set_option maxRecDepth 100000 in
set_option maxHeartbeats 1000000 in
theorem append_l {B : Nat → Prop} {w wk : World} {Rs : List Res} {A : Option Addr} {c k : Nat} {xs : List Int} (h : Sep B w wk (grow byE 5 (.slice A k c) xs :: Rs)) (hk : xs.length = k) (hx : k ≤ 1000) (n : Int) :
    Calls Tryd.prog 57 #[.slice A k c, .int .i64 n] wk fun e wn => ∃ A' c', e = .returned (.slice A' (k + 8) c') ∧ Sep B w wn (grow byE 5 (.slice A' (k + 8) c') (xs ++ eightL n) :: Rs) := by
  have H := Lib.hid h
  have HK := Lib.hid hk
  clear h hk
  go_enter Tryd.func57, Tryd.ntmps57
  go_wp2
  go_loopw [0, 5] (fun u v wr => ∃ (i : Nat) (s : Int) (A : Option Addr) (c : Nat), i ≤ 8 ∧ u = .slice A (k + i) c ∧ v = .int .i64 s ∧ Hid (s = 56 - 8 * (i : Int)) ∧ Hid (Sep B w wr (grow byE 5 (.slice A (k + i) c) (xs ++ (eightL n).take i) :: Rs))) (fun _ v _ => (intOf v + 8).toNat)
  case atStart => exact ⟨0, 56, A, c, by omega, rfl, rfl, (by show _ = _; omega), by show Sep _ _ _ _; simpa using H.out⟩
  case round =>
    obtain ⟨i, s, A1, c1, hi, rfl, rfl, HSI, HS⟩ := hrel
    rcases (by omega : i = 8 ∨ i < 8) with h8 | h8
    · subst h8
      have s0 : s < 0 := by have := HSI.out; omega
      have d0 : decide (s ≥ 0) = false := decide_eq_false (by omega)
      have HF : Hid ((eightL n).take 8 = eightL n) := List.take_of_length_le (by rw [eight_len]; omega)
      rw [HF.out] at HS
      go_wp2
      go_ret
      exact ⟨A1, c1, rfl, HS.out⟩
    · have s0 : 0 ≤ s ∧ s ≤ 56 := by have := HSI.out; omega
      have d0 : decide (s ≥ 0) = true := decide_eq_true (by omega)
      obtain ⟨z, hz⟩ : ∃ z, n / 2 ^ s.toNat = z := ⟨_, rfl⟩
      obtain ⟨y, hy⟩ : ∃ y, IntKind.u8.wrap z = y := ⟨_, rfl⟩
      obtain ⟨t, ht⟩ : ∃ t, s - 8 = t := ⟨_, rfl⟩
      have hw : IntKind.i64.wrap (s - 8) = t := by rw [IntWalk.i64_in _ (by omega)]; exact ht
      have HTI : Hid (t = 56 - 8 * ((i + 1 : Nat) : Int)) := by show _ = _; have := HSI.out; omega
      have HTM : Hid ((t + 8).toNat < (s + 8).toNat) := by show _ < _; omega
      have HY : Hid ((eightL n).take (i + 1) = (eightL n).take i ++ [y]) := by
        refine take_snocI _ i y ?_
        rw [eight_at n i h8, ← hy, ← hz, show s.toNat = 56 - 8 * i by have := HSI.out; omega]
      have S3 : Hid (Sep B w (wr.alloc (.cells #[.int .u8 y] 5)) (told byE (.slice (some ⟨wr.heap.size, 0, none⟩) 1 1) [y] :: grow byE 5 (.slice A1 (k + i) c1) (xs ++ (eightL n).take i) :: Rs)) := HS.out.lit_told 5 [y] (cs := #[.int .u8 y]) rfl (by simp) rfl
      have HLN : Hid ((xs ++ (eightL n).take i).length + [y].length ≤ 1000000) := by
        show _ ≤ _
        rw [List.length_append, List.length_take, eight_len, HK.out]
        simp; omega
      clear ht HS
      go_wp2_with (at_builtin; refine wpList_appS rfl _ _ byElem rfl rfl rfl S3.out 1 rfl (S3.out.rdL 0 rfl) HLN.out ?_)
      intro A4 c4 w4 l4 HL4 h4
      have HL5 : Hid (l4 = xs ++ (eightL n).take (i + 1) ∧ l4.length = k + (i + 1)) := by
        have e : l4 = xs ++ (eightL n).take (i + 1) := by rw [HL4.out, HY.out]; try rw [List.append_assoc]
        exact ⟨e, by rw [e, List.length_append, List.length_take, eight_len, HK.out]; omega⟩
      have S5 := Lib.hid (Sep.tail h4)
      rw [HL5.out.2] at S5 ⊢
      rw [HL5.out.1] at S5
      clear h4 S3 HL4
      go_wp2
      go_roundw
      case rel => exact ⟨i + 1, t, A4, c4, by omega, rfl, rfl, HTI, S5⟩
      case measure => exact HTM.out

set_option maxRecDepth 100000 in
set_option maxHeartbeats 1000000 in
theorem bytes_l {w : World} {G : Nat → Prop} {A : Option Addr} {c : Nat} {l : List In} (hT : Tab w) (h : RdL inE w G (.slice A l.length c) l) :
    Calls Tryd.prog 45 #[.slice A l.length c] w fun e w' => ∃ u, e = .returned (.tuple #[u, .int .i64 (bytesE l)]) ∧ SaysL byE w w' u (bytesR l) ∧ FitsV u := by
  have HC := Lib.hid (may_l hT h)
  have HR := Lib.hid h
  clear h hT
  obtain ⟨n, hn⟩ : ∃ n, l.length = n := ⟨_, rfl⟩
  have HN := Lib.hid hn
  rw [hn] at HC HR ⊢
  clear hn
  cases hm : mayB l with
  | false =>
    rw [hm] at HC
    have HE : Hid (bytesE l = 1 ∧ bytesR l = []) := by show _ ∧ _; unfold bytesE bytesR; rw [hm]; exact ⟨rfl, rfl⟩
    clear hm
    go_enter Tryd.func45, Tryd.ntmps45
    go_wp2_with fail
    refine HC.out.mono ?_
    rintro e w1 ⟨rfl, h1⟩
    have HB := Lib.hid h1
    clear h1
    go_wp2
    (try simp only [Exit.inBlock, Exit.then])
    refine bodyPost_ret (results_tmp2c rfl _ _ _) rfl ?_
    refine ⟨_, by rw [HE.out.1]; rfl, ?_⟩
    rw [HE.out.2]
    exact ⟨says_nil byE HB.out, fits_nil⟩
  | true =>
    rw [hm] at HC
    have HE : Hid (bytesE l = 0 ∧ bytesR l = bytesL l) := by show _ ∧ _; unfold bytesE bytesR; rw [hm]; exact ⟨rfl, rfl⟩
    obtain ⟨hr, n1, n24⟩ := may_iff.1 hm
    have HA := Lib.hid hr
    rw [HN.out] at n1 n24
    have wn : IntKind.u8.wrap (n : Int) = (n : Int) := by rw [wrap8]; omega
    clear hm hr
    go_enter Tryd.func45, Tryd.ntmps45
    go_wp2_with fail
    refine HC.out.mono ?_
    rintro e w1 ⟨rfl, h1⟩
    have HB1 := Lib.hid h1
    clear h1 HC
    have S0 : Hid (Sep (fun _ => False) w (w1.alloc (.cells #[.int .u8 (n : Int)] 5)) [grow byE 5 (.slice (some ⟨w1.heap.size, 0, none⟩) 1 1) [(n : Int)]]) := lit_growC ((Sep.nil (fun _ => False) w).next HB1.out) 5 (n : Int) (cs := #[.int .u8 (n : Int)]) rfl
    go_wp2
    go_loopw [4, 16] (fun u v wr => ∃ i : Nat, i ≤ n ∧ v = .int .i64 (i : Int) ∧ Hid (∃ A c, u = .slice A (1 + 11 * i) c ∧ Sep (fun _ => False) w wr [grow byE 5 (.slice A (1 + 11 * i) c) ((n : Int) :: bodyL (l.take i))])) (fun _ v _ => n - (intOf v).toNat)
    case atStart => exact ⟨0, Nat.zero_le _, rfl, _, _, rfl, S0.out⟩
    case round =>
      obtain ⟨i, hi, rfl, HH⟩ := hrel
      obtain ⟨A1, c1, rfl, h1⟩ := HH.out
      have S1 := Lib.hid h1
      clear h1 HH
      rcases (by omega : i = n ∨ i < n) with hlt | hlt
      · have HF : Hid ((n : Int) :: bodyL (l.take i) = bytesL l) := by
          show _ = _
          rw [List.take_of_length_le (by rw [HN.out]; omega)]
          unfold bytesL
          rw [HN.out]
        have d0 : decide ((i : Int) < (n : Int)) = false := decide_eq_false (by omega)
        have d1 : decide (i < n) = false := decide_eq_false (by omega)
        go_wp2
        (try simp only [Exit.inBlock, Exit.then])
        refine bodyPost_ret (results_tmp2c rfl _ _ _) rfl ?_
        refine ⟨_, by rw [HE.out.1]; rfl, ?_⟩
        rw [HE.out.2]
        have h2 := S1.out
        rw [HF.out] at h2
        exact ⟨says_grow h2 (by rw [bytes_len, HN.out]; omega), fits_grow h2⟩
      · obtain ⟨x, hx⟩ : ∃ x, l[i]? = some x := ⟨_, List.getElem?_eq_getElem (by rw [HN.out]; exact hlt)⟩
        have hxm := List.mem_of_getElem? hx
        obtain ⟨⟨o0, o1⟩, ⟨a0, a1⟩, b0, b1⟩ := right_small (HA.out x hxm)
        have HT : Hid (l.take (i + 1) = l.take i ++ [x]) := take_snocI l i x hx
        obtain ⟨b, off, rfl, hb, z0, z1, z2, z3⟩ := in_at HR.out hx
        have hB := S1.out.old
        have q0 := (hB.cell (p := ⟨b, off + i * 4, none⟩) hb).trans z0
        have q1 := (hB.cell (p := ⟨b, off + i * 4 + 1, none⟩) hb).trans z1
        have q2 := (hB.cell (p := ⟨b, off + i * 4 + 2, none⟩) hb).trans z2
        have q3 := (hB.cell (p := ⟨b, off + i * 4 + 3, none⟩) hb).trans z3
        have i0 : (0 : Int) ≤ (i : Int) := by omega
        have i1 : (i : Int) < (n : Int) := by omega
        have d0 : decide ((i : Int) < (n : Int)) = true := decide_eq_true (by omega)
        have d1 : decide (i < n) = true := decide_eq_true (by omega)
        have wo : IntKind.u8.wrap x.o = x.o := by rw [wrap8]; omega
        have wa : IntKind.u8.wrap x.a = x.a := by rw [wrap8]; omega
        have wb : IntKind.u8.wrap x.b = x.b := by rw [wrap8]; omega
        have hbl : (bodyL (l.take i)).length ≤ 300 := by rw [body_len, List.length_take]; omega
        have S2 := Lib.hid (S1.out.new (.cells #[.int .i64 x.o, .int .i64 x.a, .int .i64 x.b, .int .i64 x.n] 56))
        have S3 : Hid (Sep (fun _ => False) w ((wr.alloc (.cells #[.int .i64 x.o, .int .i64 x.a, .int .i64 x.b, .int .i64 x.n] 56)).alloc (.cells #[.int .u8 x.o, .int .u8 x.a, .int .u8 x.b] 5)) [told byE (.slice (some ⟨wr.heap.size + 1, 0, none⟩) 3 3) [x.o, x.a, x.b], blk wr.heap.size (.cells #[.int .i64 x.o, .int .i64 x.a, .int .i64 x.b, .int .i64 x.n] 56), grow byE 5 (.slice A1 (1 + 11 * i) c1) ((n : Int) :: bodyL (l.take i))]) := by
          have h3 := S2.out.lit_told (E := byE) 5 [x.o, x.a, x.b] (cs := #[.int .u8 x.o, .int .u8 x.a, .int .u8 x.b]) rfl (by simp) rfl
          rw [show (wr.alloc (.cells #[.int .i64 x.o, .int .i64 x.a, .int .i64 x.b, .int .i64 x.n] 56)).heap.size = wr.heap.size + 1 by simp] at h3
          exact h3
        clear hx hxm z0 z1 z2 z3 hb hB S2 S1
        go_wp2_with (at_builtin; refine wpList_appS rfl _ _ byElem rfl rfl rfl S3.out 2 rfl (S3.out.rdL 0 rfl) (by simp; omega) ?_)
        intro A4 c4 w4 l4 HL4 h4
        have S4 : Hid (Sep (fun _ => False) w w4 [blk wr.heap.size (.cells #[.int .i64 x.o, .int .i64 x.a, .int .i64 x.b, .int .i64 x.n] 56), grow byE 5 (.slice A4 l4.length c4) l4]) := h4.tail
        have k3 := (cell_block (S4.out.blk_at 0 rfl) 3).trans rfl
        have S5 : Hid (Sep (fun _ => False) w w4 [grow byE 5 (.slice A4 l4.length c4) l4]) := S4.out.tail
        have HK4 : Hid (l4.length ≤ 1000) := by show _ ≤ _; rw [HL4.out]; simp; omega
        clear h4 S3
        go_wp2_with fail
        refine (append_l S5.out rfl HK4.out x.n).mono ?_
        rintro e w5 ⟨A7, c7, rfl, h7⟩
        have S7 := Lib.hid h7
        have HL8 : Hid (l4 ++ eightL x.n = (n : Int) :: bodyL (l.take (i + 1)) ∧ l4.length + 8 = 1 + 11 * (i + 1)) := by
          have e : l4 ++ eightL x.n = (n : Int) :: bodyL (l.take (i + 1)) := by
            rw [HL4.out, HT.out, body_snoc]
            unfold insL
            simp
          have e2 := congrArg List.length e
          rw [List.length_append, eight_len, List.length_cons, body_len, List.length_take, HN.out, Nat.min_eq_left (by omega)] at e2
          exact ⟨e, by omega⟩
        rw [HL8.out.1, HL8.out.2] at S7
        rw [HL8.out.2]
        have S8 : Hid (∃ A c, Value.slice A7 (1 + 11 * (i + 1)) c7 = .slice A (1 + 11 * (i + 1)) c ∧ Sep (fun _ => False) w w5 [grow byE 5 (.slice A (1 + 11 * (i + 1)) c) ((n : Int) :: bodyL (l.take (i + 1)))]) := ⟨A7, c7, rfl, S7.out⟩
        clear h7 S7 S5 S4 k3 HL4 HK4 HL8
        go_wp2
        go_roundw
        case rel => exact ⟨i + 1, by omega, by go_num, S8⟩
        case measure => simp [intOf]; omega
end Go.Proofs.YtolooaahaofflaaDoor.CdA
