/-
  What package script does as it landed, second part: appendNumber, written, Bytes, May, numberOf, roomsOf. Condition: the table of package code lies as it was written; what the script, or the slice, reads as.
-/
import Derived.Test.YtolooaahaofflaaDoorSdA
namespace Go.Proofs.YtolooaahaofflaaDoor.ScA
open Go.ChangeShapes Go.WideShapes Go.ChangeAt Go.RowKit Mem MutP CodeP ScriptP Hand RefCode CodeI Scr CodeT CdA RefScr

set_option maxRecDepth 100000 in
set_option maxHeartbeats 1000000 in
theorem append0_k {B : Nat → Prop} {w wk : World} {Rs : List Res} {A : Option Addr} {c k : Nat} {xs : List Int} (h : Sep B w wk (grow byE 5 (.slice A k c) xs :: Rs)) (hk : xs.length = k) (hx : k ≤ 100000) (n : Int) :
    Calls Tryd.prog 44 #[.slice A k c, .int .i64 n] wk fun e wn => ∃ A' c', e = .returned (.slice A' (k + 8) c') ∧ Sep B w wn (grow byE 5 (.slice A' (k + 8) c') (xs ++ eightL n) :: Rs) := by
  have H := Lib.hid h
  have HK := Lib.hid hk
  clear h hk
  go_enter Tryd.func44, Tryd.ntmps44
  go_wp2
  go_loopw [0, 5] (fun u v wr => ∃ (i : Nat) (s : Int) (A : Option Addr) (c : Nat), i ≤ 8 ∧ u = .slice A (k + i) c ∧ v = .int .i64 s ∧ Hid (s = 56 - 8 * (i : Int)) ∧ Hid (Sep B w wr (grow byE 5 (.slice A (k + i) c) (xs ++ (eightL n).take i) :: Rs))) (fun _ v _ => (intOf v + 8).toNat)
  case atStart => exact ⟨0, 56, A, c, by omega, rfl, rfl, (by show _ = _; omega), by show Sep _ _ _ _; simpa using H.out⟩
  case round =>
    obtain ⟨i, s, A1, c1, hi, rfl, rfl, HSI, HS⟩ := hrel
    rcases (by omega : i = 8 ∨ i < 8) with h8 | h8
    · subst h8
      have s0 : s < 0 := by have := HSI.out; omega
      have d0 : decide (s ≥ 0) = false := decide_eq_false (by omega)
      have HF : Hid ((eightL n).take 8 = eightL n) := List.take_of_length_le (by rw [eight_len]; omega)
      rw [HF.out] at HS
      go_wp2
      go_ret
      exact ⟨A1, c1, rfl, HS.out⟩
    · have s0 : 0 ≤ s ∧ s ≤ 56 := by have := HSI.out; omega
      have d0 : decide (s ≥ 0) = true := decide_eq_true (by omega)
      obtain ⟨z, hz⟩ : ∃ z, n / 2 ^ s.toNat = z := ⟨_, rfl⟩
      obtain ⟨y, hy⟩ : ∃ y, IntKind.u8.wrap z = y := ⟨_, rfl⟩
      obtain ⟨t, ht⟩ : ∃ t, s - 8 = t := ⟨_, rfl⟩
      have hw : IntKind.i64.wrap (s - 8) = t := by rw [IntWalk.i64_in _ (by omega)]; exact ht
      have HTI : Hid (t = 56 - 8 * ((i + 1 : Nat) : Int)) := by show _ = _; have := HSI.out; omega
      have HTM : Hid ((t + 8).toNat < (s + 8).toNat) := by show _ < _; omega
      have HY : Hid ((eightL n).take (i + 1) = (eightL n).take i ++ [y]) := by
        refine take_snocI _ i y ?_
        rw [eight_at n i h8, ← hy, ← hz, show s.toNat = 56 - 8 * i by have := HSI.out; omega]
      have S3 : Hid (Sep B w (wr.alloc (.cells #[.int .u8 y] 5)) (told byE (.slice (some ⟨wr.heap.size, 0, none⟩) 1 1) [y] :: grow byE 5 (.slice A1 (k + i) c1) (xs ++ (eightL n).take i) :: Rs)) := HS.out.lit_told 5 [y] (cs := #[.int .u8 y]) rfl (by simp) rfl
      have HLN : Hid ((xs ++ (eightL n).take i).length + [y].length ≤ 1000000) := by
        show _ ≤ _
        rw [List.length_append, List.length_take, eight_len, HK.out]
        simp; omega
      clear ht HS
      go_wp2_with (at_builtin; refine wpList_appS rfl _ _ byElem rfl rfl rfl S3.out 1 rfl (S3.out.rdL 0 rfl) HLN.out ?_)
      intro A4 c4 w4 l4 HL4 h4
      have HL5 : Hid (l4 = xs ++ (eightL n).take (i + 1) ∧ l4.length = k + (i + 1)) := by
        have e : l4 = xs ++ (eightL n).take (i + 1) := by rw [HL4.out, HY.out]; try rw [List.append_assoc]
        exact ⟨e, by rw [e, List.length_append, List.length_take, eight_len, HK.out]; omega⟩
      have S5 := Lib.hid (Sep.tail h4)
      rw [HL5.out.2] at S5 ⊢
      rw [HL5.out.1] at S5
      clear h4 S3 HL4
      go_wp2
      go_roundw
      case rel => exact ⟨i + 1, t, A4, c4, by omega, rfl, rfl, HTI, S5⟩
      case measure => exact HTM.out

theorem append_k {B : Nat → Prop} {w wk : World} {Rs : List Res} {A : Option Addr} {c : Nat} {xs : List Int} (h : Sep B w wk (grow byE 5 (.slice A xs.length c) xs :: Rs)) (hx : xs.length ≤ 100000) (n : Int) :
    Calls Tryd.prog 44 #[.slice A xs.length c, .int .i64 n] wk fun e wn => ∃ (A' : Option Addr) (c' : Nat) (l : List Int), l = xs ++ eightL n ∧ e = .returned (.slice A' l.length c') ∧ Sep B w wn (grow byE 5 (.slice A' l.length c') l :: Rs) := by
  refine (append0_k h rfl hx n).mono ?_
  rintro e wn ⟨A', c', rfl, h2⟩
  have e : xs.length + 8 = (xs ++ eightL n).length := by rw [List.length_append, eight_len]
  rw [e] at h2 ⊢
  exact ⟨A', c', _, rfl, rfl, h2⟩

set_option maxRecDepth 100000 in
set_option maxHeartbeats 2000000 in
theorem written_k {w : World} {G : Nat → Prop} {q : Sv} {s : Sc} (hT : Tab w) (h : RdS w G q s) (hps : ∀ p ∈ s.ps, mayB p = true) (hpl : s.ps.length ≤ 8) (hxs : ∀ x ∈ s.xs, rightI x = true) (hxl : s.xs.length ≤ 200) :
    Calls Tryd.prog 23 #[.agg q.arr] w fun e w' => ∃ (A : Option Addr) (c : Nat) (l : List Int), l = bytesS s ∧ e = .returned (.slice A l.length c) ∧ Sep (fun _ => False) w w' [grow byE 5 (.slice A l.length c) l] := by
  obtain ⟨r0, r1, r2, r3, pA, pn, pc, xA, xn, xc⟩ := q
  have hpn := h.pn
  have hxn := h.xn
  obtain ⟨hr, hp, hx, _, _⟩ := h
  simp only at hpn hxn hr hp hx
  have HP := Lib.hid hp
  have HX := Lib.hid hx
  have HRR := Lib.hid hr
  have HPN := Lib.hid hpn
  have HXN := Lib.hid hxn
  have HPS := Lib.hid hps
  have HXS := Lib.hid hxs
  have HT := Lib.hid hT
  have bpn : pn ≤ 8 := by omega
  have bxn : xn ≤ 200 := by omega
  have HLP : Hid (∀ j, (progsL (s.ps.take j)).length ≤ 700 * 8) := fun j => by
    have h1 := progs_small (ps := s.ps.take j) fun p hp => by have := (may_iff.1 (hps p (List.mem_of_mem_take hp))).2.2; omega
    rw [List.length_take] at h1
    omega
  have HLX : Hid (∀ j, (itemsL (s.xs.take j)).length ≤ 2000) := fun j => by
    rw [items_len, List.length_take]; omega
  have HLR : Hid (∀ j, (roomsL (s.r.take j)).length ≤ 32) := fun j => by
    rw [rooms_len, List.length_take, hr]; simp; omega
  unfold Sv.arr
  simp only
  obtain ⟨bx, hbx⟩ : ∃ bx : Obj, (.cells #[.int .i64 r0, .int .i64 r1, .int .i64 r2, .int .i64 r3, .slice pA pn pc, .slice xA xn xc] 28) = bx := ⟨_, rfl⟩
  have S0 : Hid (Sep (fun _ => False) w (w.alloc (.cells #[.int .i64 r0, .int .i64 r1, .int .i64 r2, .int .i64 r3, .slice pA pn pc, .slice xA xn xc] 28)) [grow byE 5 (.slice none 0 0) [], blk w.heap.size bx]) := by
    have h1 := grow_none ((Sep.nil (fun _ => False) w).new (.cells #[.int .i64 r0, .int .i64 r1, .int .i64 r2, .int .i64 r3, .slice pA pn pc, .slice xA xn xc] 28)) byE 5
    rw [hbx] at h1 ⊢
    exact h1
  have HB4 : Hid (∀ V : World, V.heap[w.heap.size]? = some bx → V.cell? ⟨w.heap.size, 4, none⟩ = some (.slice pA pn pc)) := fun V hV => by rw [← hbx] at hV; exact (cell_block hV 4).trans rfl
  have HB5 : Hid (∀ V : World, V.heap[w.heap.size]? = some bx → V.cell? ⟨w.heap.size, 5, none⟩ = some (.slice xA xn xc)) := fun V hV => by rw [← hbx] at hV; exact (cell_block hV 5).trans rfl
  have wpn : IntKind.u8.wrap (pn : Int) = (pn : Int) := by rw [wrap8]; omega
  clear hp hx hr hpn hxn hps hxs hpl hxl hT hbx
  go_enter Tryd.func23, Tryd.ntmps23
  go_wp2
  go_loopw [3, 14] (fun u v wr => ∃ (i : Nat) (A : Option Addr) (c : Nat) (l : List Int), i ≤ 4 ∧ u = .slice A l.length c ∧ v = .int .i64 (i : Int) ∧ Hid (l = roomsL (s.r.take i)) ∧ Hid (Sep (fun _ => False) w wr [grow byE 5 (.slice A l.length c) l, blk w.heap.size bx])) (fun _ v _ => 4 - (intOf v).toNat)
  case atStart => exact ⟨0, none, 0, [], Nat.zero_le _, rfl, rfl, by show _ = _; simp [roomsL], S0.out⟩
  case round =>
    obtain ⟨i, A, c, l, hi, rfl, rfl, HL, HS⟩ := hrel
    clear S0
    have HLN : Hid (l.length ≤ 32) := by show _ ≤ _; rw [HL.out]; exact HLR.out i
    rcases (by omega : i = 0 ∨ i = 1 ∨ i = 2 ∨ i = 3 ∨ i = 4) with rfl | rfl | rfl | rfl | rfl
    · rw [show ((0 : Nat) : Int) = 0 from rfl]
      have ix : ∀ W, (Instr.index 24 (.agg #[.int .i64 r0, .int .i64 r1, .int .i64 r2, .int .i64 r3]) (.int .i64 0)).run Tryd.prog W = .ok (.int .i64 r0) W := fun _ => by kernel_rfl
      have HTK : Hid (s.r.take (0 + 1) = s.r.take 0 ++ [r0]) := by show _ = _; rw [HRR.out]; rfl
      have HC := Lib.hid (append_k HS.out (by have := HLN.out; omega) r0)
      go_wp2_with fail
      refine HC.out.mono ?_
      rintro e w3 ⟨A3, c3, l3, hl3, rfl, h3⟩
      have S3 := Lib.hid h3
      have HL3 : Hid (l3 = roomsL (s.r.take (0 + 1))) := by show _ = _; rw [hl3, HTK.out, rooms_snoc, ← HL.out]
      clear h3 hl3 HC HS HL HLN
      go_wp2
      go_roundw
      case rel => exact ⟨0 + 1, A3, c3, l3, by omega, rfl, rfl, HL3, S3⟩
      case measure => simp [intOf]
    · rw [show ((1 : Nat) : Int) = 1 from rfl]
      have ix : ∀ W, (Instr.index 24 (.agg #[.int .i64 r0, .int .i64 r1, .int .i64 r2, .int .i64 r3]) (.int .i64 1)).run Tryd.prog W = .ok (.int .i64 r1) W := fun _ => by kernel_rfl
      have HTK : Hid (s.r.take (1 + 1) = s.r.take 1 ++ [r1]) := by show _ = _; rw [HRR.out]; rfl
      have HC := Lib.hid (append_k HS.out (by have := HLN.out; omega) r1)
      go_wp2_with fail
      refine HC.out.mono ?_
      rintro e w3 ⟨A3, c3, l3, hl3, rfl, h3⟩
      have S3 := Lib.hid h3
      have HL3 : Hid (l3 = roomsL (s.r.take (1 + 1))) := by show _ = _; rw [hl3, HTK.out, rooms_snoc, ← HL.out]
      clear h3 hl3 HC HS HL HLN
      go_wp2
      go_roundw
      case rel => exact ⟨1 + 1, A3, c3, l3, by omega, rfl, rfl, HL3, S3⟩
      case measure => simp [intOf]
    · rw [show ((2 : Nat) : Int) = 2 from rfl]
      have ix : ∀ W, (Instr.index 24 (.agg #[.int .i64 r0, .int .i64 r1, .int .i64 r2, .int .i64 r3]) (.int .i64 2)).run Tryd.prog W = .ok (.int .i64 r2) W := fun _ => by kernel_rfl
      have HTK : Hid (s.r.take (2 + 1) = s.r.take 2 ++ [r2]) := by show _ = _; rw [HRR.out]; rfl
      have HC := Lib.hid (append_k HS.out (by have := HLN.out; omega) r2)
      go_wp2_with fail
      refine HC.out.mono ?_
      rintro e w3 ⟨A3, c3, l3, hl3, rfl, h3⟩
      have S3 := Lib.hid h3
      have HL3 : Hid (l3 = roomsL (s.r.take (2 + 1))) := by show _ = _; rw [hl3, HTK.out, rooms_snoc, ← HL.out]
      clear h3 hl3 HC HS HL HLN
      go_wp2
      go_roundw
      case rel => exact ⟨2 + 1, A3, c3, l3, by omega, rfl, rfl, HL3, S3⟩
      case measure => simp [intOf]
    · rw [show ((3 : Nat) : Int) = 3 from rfl]
      have ix : ∀ W, (Instr.index 24 (.agg #[.int .i64 r0, .int .i64 r1, .int .i64 r2, .int .i64 r3]) (.int .i64 3)).run Tryd.prog W = .ok (.int .i64 r3) W := fun _ => by kernel_rfl
      have HTK : Hid (s.r.take (3 + 1) = s.r.take 3 ++ [r3]) := by show _ = _; rw [HRR.out]; rfl
      have HC := Lib.hid (append_k HS.out (by have := HLN.out; omega) r3)
      go_wp2_with fail
      refine HC.out.mono ?_
      rintro e w3 ⟨A3, c3, l3, hl3, rfl, h3⟩
      have S3 := Lib.hid h3
      have HL3 : Hid (l3 = roomsL (s.r.take (3 + 1))) := by show _ = _; rw [hl3, HTK.out, rooms_snoc, ← HL.out]
      clear h3 hl3 HC HS HL HLN
      go_wp2
      go_roundw
      case rel => exact ⟨3 + 1, A3, c3, l3, by omega, rfl, rfl, HL3, S3⟩
      case measure => simp [intOf]
    · have HL2 : Hid (l = roomsL s.r) := by show _ = _; rw [HL.out, List.take_of_length_le (by rw [HRR.out]; exact Nat.le_refl 4)]
      have k4 : ∀ o, (wr.alloc o).cell? ⟨w.heap.size, 4, none⟩ = some (.slice pA pn pc) := fun o => HB4.out _ ((HS.out.new o).blk_at 2 rfl)
      have k4' : wr.cell? ⟨w.heap.size, 4, none⟩ = some (.slice pA pn pc) := HB4.out _ (HS.out.blk_at 1 rfl)
      have S3 : Hid (Sep (fun _ => False) w (wr.alloc (.cells #[.int .u8 (pn : Int)] 5)) [told byE (.slice (some ⟨wr.heap.size, 0, none⟩) 1 1) [(pn : Int)], grow byE 5 (.slice A l.length c) l, blk w.heap.size bx]) := HS.out.lit_told (E := byE) 5 [(pn : Int)] (cs := #[.int .u8 (pn : Int)]) rfl (by simp) rfl
      clear HS HL
      go_wp2_with (at_builtin; refine wpList_appS rfl _ _ byElem rfl rfl rfl S3.out 1 rfl (S3.out.rdL 0 rfl) (by have := HLN.out; simp; omega) ?_)
      intro A4 c4 w4 l4 HL4 h4
      have S4 : Hid (Sep (fun _ => False) w w4 [grow byE 5 (.slice A4 l4.length c4) l4, blk w.heap.size bx]) := Sep.tail h4
      have HL5 : Hid (l4 = roomsL s.r ++ ((pn : Int) :: progsL (s.ps.take 0))) := by show _ = _; rw [HL4.out, HL2.out]; simp [progsL]
      have m4 : w4.cell? ⟨w.heap.size, 4, none⟩ = some (.slice pA pn pc) := HB4.out _ (S4.out.blk_at 1 rfl)
      clear h4 S3 HL4 k4 k4' HLN HL2 wpn
      go_wp2
      clear m4
      go_loopw [3, 31] (fun u v wr => ∃ (j : Nat) (A : Option Addr) (c : Nat) (l : List Int), j ≤ pn ∧ u = .slice A l.length c ∧ v = .int .i64 (j : Int) ∧ Hid (l = roomsL s.r ++ ((pn : Int) :: progsL (s.ps.take j))) ∧ Hid (Sep (fun _ => False) w wr [grow byE 5 (.slice A l.length c) l, blk w.heap.size bx])) (fun _ v _ => pn - (intOf v).toNat)
      case atStart => exact ⟨0, _, _, l4, Nat.zero_le _, rfl, rfl, HL5, S4⟩
      case round =>
        clear S4 HL5
        obtain ⟨j, A, c, l, hj, rfl, rfl, HL, HS⟩ := hrel
        have HLN : Hid (l.length ≤ 10000) := by
          have h1 := HLP.out j
          have h2 := HLR.out 4
          rw [List.take_of_length_le (by rw [HRR.out]; exact Nat.le_refl 4)] at h2
          show _ ≤ _
          rw [HL.out, List.length_append, List.length_cons]
          omega
        rcases (by omega : j < pn ∨ pn ≤ j) with h4 | h4
        · obtain ⟨p, hp⟩ : ∃ p, s.ps[j]? = some p := ⟨_, List.getElem?_eq_getElem (by rw [← HPN.out]; exact h4)⟩
          obtain ⟨b, off, A', c', rfl, hb, hpc, e0, hrd⟩ := (HP.out.below HS.out.old).at_ hp
          have HTK : Hid (s.ps.take (j + 1) = s.ps.take j ++ [p]) := take_snocI _ j p hp
          have hm := HPS.out p (List.mem_of_getElem? hp)
          have HPB : Hid (bytesE p = 0 ∧ bytesR p = bytesL p) := by show _ ∧ _; unfold bytesE bytesR; rw [hm]; exact ⟨rfl, rfl⟩
          have HPL : Hid ((bytesL p).length ≤ 300) := by show _ ≤ _; rw [bytes_len]; have := (may_iff.1 hm).2.2; omega
          have HC := Lib.hid (bytes_l (HT.out.next HS.out.old) hrd)
          rw [HPB.out.1] at HC
          have i0 : (0 : Int) ≤ (j : Int) := by omega
          have i1 : (j : Int) < (pn : Int) := by omega
          have d2 : decide ((j : Int) < (pn : Int)) = true := decide_eq_true i1
          have d3 : decide (j < pn) = true := decide_eq_true h4
          obtain ⟨m, hm2⟩ : ∃ m, p.length = m := ⟨_, rfl⟩
          rw [hm2] at e0 HC
          clear hp hb hrd hm hm2 hpc
          go_wp2_with fail
          refine HC.out.mono ?_
          rintro e w5 ⟨u, rfl, hsy, _⟩
          rw [HPB.out.2] at hsy
          obtain ⟨Au, cu, rfl⟩ := hsy.1.form
          have S6 : Hid (Sep (fun _ => False) w w5 [told byE (.slice Au (bytesL p).length cu) (bytesL p), grow byE 5 (.slice A l.length c) l, blk w.heap.size bx]) := SaysL.sep HS.out hsy
          obtain ⟨zl, hzl⟩ : ∃ zl, bytesL p = zl := ⟨_, rfl⟩
          have HZL := Lib.hid hzl
          rw [hzl] at S6 HPL ⊢
          clear hsy HS e0 hzl HC
          go_wp2_with (at_builtin; refine wpList_appS rfl _ _ byElem rfl rfl rfl S6.out 1 rfl (S6.out.rdL 0 rfl) (by have := HLN.out; have := HPL.out; omega) ?_)
          intro A7 c7 w7 l7 HL7 h7
          have S7 : Hid (Sep (fun _ => False) w w7 [grow byE 5 (.slice A7 l7.length c7) l7, blk w.heap.size bx]) := Sep.tail h7
          have HL8 : Hid (l7 = roomsL s.r ++ ((pn : Int) :: progsL (s.ps.take (j + 1)))) := by show _ = _; rw [HL7.out, HL.out, HTK.out, progs_snoc, HZL.out]; simp
          clear h7 S6 HL7 HL
          go_wp2
          go_roundw
          case rel => exact ⟨j + 1, A7, c7, l7, by omega, rfl, by go_num, HL8, S7⟩
          case measure => simp [intOf]; omega
        · have d2 : decide ((j : Int) < (pn : Int)) = false := decide_eq_false (by omega)
          have d3 : decide (j < pn) = false := decide_eq_false (by omega)
          have HL2 : Hid (l = roomsL s.r ++ ((pn : Int) :: (progsL s.ps ++ itemsL (s.xs.take 0)))) := by show _ = _; rw [HL.out, List.take_of_length_le (by rw [← HPN.out]; exact h4)]; simp [itemsL]
          have m5 : wr.cell? ⟨w.heap.size, 5, none⟩ = some (.slice xA xn xc) := HB5.out _ (HS.out.blk_at 1 rfl)
          have S3 := Lib.hid HS.out
          clear HL hj h4 HS HLN
          go_wp2
          clear m5 d2 d3
          go_loopw [3, 47] (fun u v wr => ∃ (j : Nat) (A : Option Addr) (c : Nat) (l : List Int), j ≤ xn ∧ u = .slice A l.length c ∧ v = .int .i64 (j : Int) ∧ Hid (l = roomsL s.r ++ ((pn : Int) :: (progsL s.ps ++ itemsL (s.xs.take j)))) ∧ Hid (Sep (fun _ => False) w wr [grow byE 5 (.slice A l.length c) l, blk w.heap.size bx])) (fun _ v _ => xn - (intOf v).toNat)
          case atStart => exact ⟨0, _, _, l, Nat.zero_le _, rfl, rfl, HL2, S3⟩
          case round =>
            clear S3 HL2
            obtain ⟨j, A, c, l, hj, rfl, rfl, HL, HS⟩ := hrel
            have HLN : Hid (l.length ≤ 10000) := by
              have h1 := HLP.out pn
              rw [List.take_of_length_le (by rw [← HPN.out]; exact Nat.le_refl _)] at h1
              have h2 := HLR.out 4
              rw [List.take_of_length_le (by rw [HRR.out]; exact Nat.le_refl 4)] at h2
              have h3 := HLX.out j
              show _ ≤ _
              rw [HL.out, List.length_append, List.length_cons, List.length_append]
              omega
            rcases (by omega : j < xn ∨ xn ≤ j) with h4 | h4
            · obtain ⟨x, hx⟩ : ∃ x, s.xs[j]? = some x := ⟨_, List.getElem?_eq_getElem (by rw [← HXN.out]; exact h4)⟩
              obtain ⟨b, off, rfl, hb, z0, z1, z2⟩ := it_at HX.out hx
              have HTK : Hid (s.xs.take (j + 1) = s.xs.take j ++ [x]) := take_snocI _ j x hx
              obtain ⟨⟨o0, o1⟩, a0, a1⟩ := rightI_small (HXS.out x (List.mem_of_getElem? hx))
              have hB := HS.out.old
              have q0 := (hB.cell (p := ⟨b, off + j * 3, none⟩) hb).trans z0
              have q1 := (hB.cell (p := ⟨b, off + j * 3 + 1, none⟩) hb).trans z1
              have q2 := (hB.cell (p := ⟨b, off + j * 3 + 2, none⟩) hb).trans z2
              have i0 : (0 : Int) ≤ (j : Int) := by omega
              have i1 : (j : Int) < (xn : Int) := by omega
              have d2 : decide ((j : Int) < (xn : Int)) = true := decide_eq_true i1
              have d3 : decide (j < xn) = true := decide_eq_true h4
              have wd : IntKind.u8.wrap x.d = x.d := by rw [wrap8]; omega
              have wa : IntKind.u8.wrap x.a = x.a := by rw [wrap8]; omega
              have S2 := Lib.hid (HS.out.new (.cells #[.int .i64 x.d, .int .i64 x.a, .int .i64 x.n] 23))
              have S3 : Hid (Sep (fun _ => False) w ((wr.alloc (.cells #[.int .i64 x.d, .int .i64 x.a, .int .i64 x.n] 23)).alloc (.cells #[.int .u8 x.d, .int .u8 x.a] 5)) [told byE (.slice (some ⟨wr.heap.size + 1, 0, none⟩) 2 2) [x.d, x.a], blk wr.heap.size (.cells #[.int .i64 x.d, .int .i64 x.a, .int .i64 x.n] 23), grow byE 5 (.slice A l.length c) l, blk w.heap.size bx]) := by
                have h3 := S2.out.lit_told (E := byE) 5 [x.d, x.a] (cs := #[.int .u8 x.d, .int .u8 x.a]) rfl (by simp) rfl
                rw [show (wr.alloc (.cells #[.int .i64 x.d, .int .i64 x.a, .int .i64 x.n] 23)).heap.size = wr.heap.size + 1 by simp] at h3
                exact h3
              clear hx z0 z1 z2 hb hB S2 HS
              go_wp2_with (at_builtin; refine wpList_appS rfl _ _ byElem rfl rfl rfl S3.out 2 rfl (S3.out.rdL 0 rfl) (by have := HLN.out; simp; omega) ?_)
              intro A4 c4 w4 l4 HL4 h4'
              have S4 : Hid (Sep (fun _ => False) w w4 [blk wr.heap.size (.cells #[.int .i64 x.d, .int .i64 x.a, .int .i64 x.n] 23), grow byE 5 (.slice A4 l4.length c4) l4, blk w.heap.size bx]) := h4'.tail
              have k2 := (cell_block (S4.out.blk_at 0 rfl) 2).trans rfl
              have S5 : Hid (Sep (fun _ => False) w w4 [grow byE 5 (.slice A4 l4.length c4) l4, blk w.heap.size bx]) := S4.out.tail
              have HK4 : Hid (l4.length ≤ 20000) := by show _ ≤ _; rw [HL4.out]; have := HLN.out; simp; omega
              clear h4' S3
              go_wp2_with fail
              refine (append_k S5.out (by have := HK4.out; omega) x.n).mono ?_
              rintro e w5 ⟨A7, c7, l7, hl7, rfl, h7⟩
              have S7 := Lib.hid h7
              have HL8 : Hid (l7 = roomsL s.r ++ ((pn : Int) :: (progsL s.ps ++ itemsL (s.xs.take (j + 1))))) := by
                show _ = _
                rw [hl7, HL4.out, HL.out, HTK.out, items_snoc]
                unfold itL
                simp
              clear h7 S5 S4 k2 HL4 HK4 hl7 HL
              go_wp2
              go_roundw
              case rel => exact ⟨j + 1, A7, c7, l7, by omega, rfl, by go_num, HL8, S7⟩
              case measure => simp [intOf]; omega
            · have d2 : decide ((j : Int) < (xn : Int)) = false := decide_eq_false (by omega)
              have d3 : decide (j < xn) = false := decide_eq_false (by omega)
              have HF : Hid (l = bytesS s) := by
                show _ = _
                rw [HL.out, List.take_of_length_le (by rw [← HXN.out]; exact h4)]
                unfold bytesS
                rw [HPN.out]
              have S9 := Lib.hid HS.out.swap.tail
              clear HL hj h4 HS
              go_wp2
              go_ret
              exact ⟨_, _, l, HF.out, rfl, S9.out⟩
end Go.Proofs.YtolooaahaofflaaDoor.ScA

namespace Go.Proofs.YtolooaahaofflaaDoor.ScA
open Go.ChangeShapes Go.WideShapes Go.ChangeAt Go.RowKit Mem MutP CodeP ScriptP Hand RefCode CodeI Scr CodeT CdA RefScr

theorem parts_may {s : Sc} : mayS s = ((s.r.all fun x => decide (0 ≤ x)) && (decide (1 ≤ s.ps.length ∧ s.ps.length ≤ 8) && s.ps.all mayB) && (decide (s.xs.length ≤ 200) && s.xs.all rightI) && decide (longS s ≤ 4000)) := by
  rw [Bool.eq_iff_iff, mayS_iff]
  simp only [Bool.and_eq_true, List.all_eq_true, decide_eq_true_eq]
  constructor
  · rintro ⟨h1, h2, h3, h4, h5, h6⟩; exact ⟨⟨⟨h1, h4, h2⟩, h5, h3⟩, h6⟩
  · rintro ⟨⟨⟨h1, h4, h2⟩, h5, h3⟩, h6⟩; exact ⟨h1, h2, h3, h4, h5, h6⟩

set_option maxRecDepth 100000 in
set_option maxHeartbeats 2000000 in
theorem bytes_k {w : World} {G : Nat → Prop} {q : Sv} {s : Sc} (hT : Tab w) (h : RdS w G q s) :
    Calls Tryd.prog 8 #[.agg q.arr] w fun e w' => ∃ u, e = .returned (.tuple #[u, .int .i64 (bytesSE s)]) ∧ SaysL byE w w' u (bytesSR s) ∧ FitsV u := by
  have HRD := Lib.hid h
  have HT := Lib.hid hT
  obtain ⟨r0, r1, r2, r3, pA, pn, pc, xA, xn, xc⟩ := q
  have S0 : Hid (Sep (fun _ => False) w (w.alloc (.cells #[.int .i64 r0, .int .i64 r1, .int .i64 r2, .int .i64 r3, .slice pA pn pc, .slice xA xn xc] 28)) [blk w.heap.size (.cells #[.int .i64 r0, .int .i64 r1, .int .i64 r2, .int .i64 r3, .slice pA pn pc, .slice xA xn xc] 28)]) := (Sep.nil _ _).new _
  have HMS := Lib.hid (parts_may (s := s))
  have HRR : Hid (s.r = [r0, r1, r2, r3]) := h.1
  have HE : Hid (mayS s = false → bytesSE s = 1 ∧ bytesSR s = []) := fun hm => by unfold bytesSE bytesSR; rw [hm]; exact ⟨rfl, rfl⟩
  have HE1 : Hid (mayS s = true → bytesSE s = 0 ∧ bytesSR s = bytesS s) := fun hm => by unfold bytesSE bytesSR; rw [hm]; exact ⟨rfl, rfl⟩
  have HR4 : Hid (s.r.length = 4) := by show _ = _; rw [HRR.out]; rfl
  obtain ⟨a1, ha1⟩ : ∃ a1, (s.r.all fun x => decide (0 ≤ x)) = a1 := ⟨_, rfl⟩
  obtain ⟨a2, ha2⟩ : ∃ a2, (decide (1 ≤ s.ps.length ∧ s.ps.length ≤ 8) && s.ps.all mayB) = a2 := ⟨_, rfl⟩
  obtain ⟨a3, ha3⟩ : ∃ a3, (decide (s.xs.length ≤ 200) && s.xs.all rightI) = a3 := ⟨_, rfl⟩
  have HA2 := Lib.hid ha2
  have HA3 := Lib.hid ha3
  rw [ha1, ha2, ha3] at HMS
  have HC1 := Lib.hid (rooms_k r0 r1 r2 r3 (w.alloc (.cells #[.int .i64 r0, .int .i64 r1, .int .i64 r2, .int .i64 r3, .slice pA pn pc, .slice xA xn xc] 28)))
  rw [← HRR.out, ha1] at HC1
  have HC2 : Hid (∀ V, Below w.heap.size w V → Calls Tryd.prog 21 #[.slice pA pn pc] V fun e w' => e = .returned (.bool a2) ∧ Below V.heap.size V w') := fun V hV => by
    rw [← ha2]; exact programs_k (hT.next hV) ((h.below hV).2.1)
  have HC3 : Hid (∀ V, Below w.heap.size w V → Calls Tryd.prog 22 #[.slice xA xn xc] V fun e w' => e = .returned (.bool a3) ∧ Below V.heap.size V w') := fun V hV => by
    rw [← ha3]; exact items_k ((h.below hV).2.2.1)
  unfold Sv.arr at *
  simp only at *
  clear h hT ha1 ha2 ha3
  cases a1
  · have HZ := Lib.hid (HE.out (by rw [HMS.out]; rfl))
    go_enter Tryd.func8, Tryd.ntmps8
    go_wp2_with fail
    refine HC1.out.mono ?_
    rintro e w1 ⟨rfl, hb1⟩
    have HB1 := Lib.hid (S0.out.next hb1).old
    clear hb1 HC1 S0
    go_wp2
    (try simp only [Exit.inBlock, Exit.then])
    refine bodyPost_ret (results_tmp2c rfl _ _ _) rfl ?_
    refine ⟨_, by rw [HZ.out.1]; rfl, ?_⟩
    rw [HZ.out.2]
    exact ⟨says_nil byE HB1.out, fits_nil⟩
  cases a2
  · have HZ := Lib.hid (HE.out (by rw [HMS.out]; rfl))
    go_enter Tryd.func8, Tryd.ntmps8
    go_wp2_with fail
    refine HC1.out.mono ?_
    rintro e w1 ⟨rfl, hb1⟩
    have S1 := Lib.hid (S0.out.next hb1)
    have k4 := (cell_block (S1.out.blk_at 0 rfl) 4).trans rfl
    clear hb1 HC1 S0
    go_wp2_with fail
    refine (HC2.out _ S1.out.old).mono ?_
    rintro e w2 ⟨rfl, hb2⟩
    have HB1 := Lib.hid (S1.out.next hb2).old
    clear hb2 HC2 S1 k4
    go_wp2
    (try simp only [Exit.inBlock, Exit.then])
    refine bodyPost_ret (results_tmp2c rfl _ _ _) rfl ?_
    refine ⟨_, by rw [HZ.out.1]; rfl, ?_⟩
    rw [HZ.out.2]
    exact ⟨says_nil byE HB1.out, fits_nil⟩
  cases a3
  · have HZ := Lib.hid (HE.out (by rw [HMS.out]; rfl))
    go_enter Tryd.func8, Tryd.ntmps8
    go_wp2_with fail
    refine HC1.out.mono ?_
    rintro e w1 ⟨rfl, hb1⟩
    have S1 := Lib.hid (S0.out.next hb1)
    have k4 := (cell_block (S1.out.blk_at 0 rfl) 4).trans rfl
    clear hb1 HC1 S0
    go_wp2_with fail
    refine (HC2.out _ S1.out.old).mono ?_
    rintro e w2 ⟨rfl, hb2⟩
    have S2 := Lib.hid (S1.out.next hb2)
    have k5 := (cell_block (S2.out.blk_at 0 rfl) 5).trans rfl
    clear hb2 HC2 S1 k4
    go_wp2_with fail
    refine (HC3.out _ S2.out.old).mono ?_
    rintro e w3 ⟨rfl, hb3⟩
    have HB1 := Lib.hid (S2.out.next hb3).old
    clear hb3 HC3 S2 k5
    go_wp2
    (try simp only [Exit.inBlock, Exit.then])
    refine bodyPost_ret (results_tmp2c rfl _ _ _) rfl ?_
    refine ⟨_, by rw [HZ.out.1]; rfl, ?_⟩
    rw [HZ.out.2]
    exact ⟨says_nil byE HB1.out, fits_nil⟩
  have HPA : Hid (((∀ p ∈ s.ps, mayB p = true) ∧ s.ps.length ≤ 8) ∧ (∀ x ∈ s.xs, rightI x = true) ∧ s.xs.length ≤ 200) := by
    have h2 := HA2.out
    have h3 := HA3.out
    simp only [Bool.and_eq_true, List.all_eq_true, decide_eq_true_eq] at h2 h3
    exact ⟨⟨h2.2, h2.1.2⟩, h3.2, h3.1⟩
  have HW : Hid (∀ V, Below w.heap.size w V → Calls Tryd.prog 23 #[.agg #[.int .i64 r0, .int .i64 r1, .int .i64 r2, .int .i64 r3, .slice pA pn pc, .slice xA xn xc]] V fun e w' => ∃ (A : Option Addr) (c : Nat) (l : List Int), l = bytesS s ∧ e = .returned (.slice A l.length c) ∧ Sep (fun _ => False) V w' [grow byE 5 (.slice A l.length c) l]) := fun V hV => by
    have h1 := written_k (q := ⟨r0, r1, r2, r3, pA, pn, pc, xA, xn, xc⟩) (HT.out.next hV) (HRD.out.below hV) HPA.out.1.1 HPA.out.1.2 HPA.out.2.1 HPA.out.2.2
    exact h1
  have HLS : Hid ((bytesS s).length = longS s) := bytesS_len HR4.out
  go_enter Tryd.func8, Tryd.ntmps8
  go_wp2_with fail
  refine HC1.out.mono ?_
  rintro e w1 ⟨rfl, hb1⟩
  have S1 := Lib.hid (S0.out.next hb1)
  have k4 := (cell_block (S1.out.blk_at 0 rfl) 4).trans rfl
  clear hb1 HC1 S0
  go_wp2_with fail
  refine (HC2.out _ S1.out.old).mono ?_
  rintro e w2 ⟨rfl, hb2⟩
  have S2 := Lib.hid (S1.out.next hb2)
  have k5 := (cell_block (S2.out.blk_at 0 rfl) 5).trans rfl
  clear hb2 HC2 S1 k4
  go_wp2_with fail
  refine (HC3.out _ S2.out.old).mono ?_
  rintro e w3 ⟨rfl, hb3⟩
  have S3 := Lib.hid (S2.out.next hb3)
  have c0 := (cell_block (S3.out.blk_at 0 rfl) 0).trans rfl
  have c1 := (cell_block (S3.out.blk_at 0 rfl) 1).trans rfl
  have c2 := (cell_block (S3.out.blk_at 0 rfl) 2).trans rfl
  have c3 := (cell_block (S3.out.blk_at 0 rfl) 3).trans rfl
  have c4 := (cell_block (S3.out.blk_at 0 rfl) 4).trans rfl
  have c5 := (cell_block (S3.out.blk_at 0 rfl) 5).trans rfl
  clear hb3 HC3 S2 k5
  go_wp2_with fail
  refine (HW.out _ S3.out.old).mono ?_
  rintro e w4 ⟨A4, n4, l4, hl4, rfl, h4⟩
  have S4 := Lib.hid h4
  have HB3 := Lib.hid S3.out.old
  have HL4 := Lib.hid hl4
  have hlen : l4.length = longS s := by rw [hl4]; exact HLS.out
  obtain ⟨L, hL⟩ : ∃ L, l4.length = L := ⟨_, rfl⟩
  have HLL := Lib.hid hL
  rw [hL] at hlen S4 ⊢
  clear h4 hl4 HW S3 c0 c1 c2 c3 c4 c5 hL
  rcases (by omega : 4000 < L ∨ L ≤ 4000) with hl | hl
  · have HZ := Lib.hid (HE.out (by rw [HMS.out, decide_eq_false (by omega : ¬ longS s ≤ 4000)]; rfl))
    have d0 : decide ((L : Int) > 4000) = true := decide_eq_true (by omega)
    have d1 : decide (4000 < L) = true := decide_eq_true hl
    have HB4 : Hid (Below w.heap.size w w4) := HB3.out.trans (S4.out.old.mono HB3.out.size)
    clear hl hlen
    go_wp2
    (try simp only [Exit.inBlock, Exit.then])
    refine bodyPost_ret (results_tmp2c rfl _ _ _) rfl ?_
    refine ⟨_, by rw [HZ.out.1]; rfl, ?_⟩
    rw [HZ.out.2]
    exact ⟨says_nil byE HB4.out, fits_nil⟩
  · have HZ := Lib.hid (HE1.out (by rw [HMS.out, decide_eq_true (by omega : longS s ≤ 4000)]; rfl))
    have d0 : decide ((L : Int) > 4000) = false := decide_eq_false (by omega)
    have d1 : decide (4000 < L) = false := decide_eq_false (by omega)
    have HLB : Hid (l4.length ≤ 4000) := by show _ ≤ _; rw [HLL.out]; exact hl
    clear hl hlen
    go_wp2
    (try simp only [Exit.inBlock, Exit.then])
    refine bodyPost_ret (results_tmp2c rfl _ _ _) rfl ?_
    refine ⟨_, by rw [HZ.out.1]; rfl, ?_⟩
    rw [HZ.out.2, ← HL4.out]
    exact ⟨says_later (says_grow S4.out (by have := HLB.out; omega)) HB3.out, fits_grow S4.out⟩

set_option maxRecDepth 100000 in
theorem may_k {w : World} {G : Nat → Prop} {q : Sv} {s : Sc} (hT : Tab w) (h : RdS w G q s) :
    Calls Tryd.prog 15 #[.agg q.arr] w fun e w' => e = .returned (.bool (mayS s)) ∧ Below w.heap.size w w' := by
  have HC := Lib.hid (bytes_k (hT.next (new_below0 w (.cells q.arr 28))) (h.below (new_below0 w (.cells q.arr 28))))
  obtain ⟨r0, r1, r2, r3, pA, pn, pc, xA, xn, xc⟩ := q
  have HB : Hid (Below w.heap.size w (w.alloc (.cells #[.int .i64 r0, .int .i64 r1, .int .i64 r2, .int .i64 r3, .slice pA pn pc, .slice xA xn xc] 28))) := new_below0 w _
  have HE : Hid (bytesSE s = if mayS s = true then 0 else 1) := rfl
  generalize mayS s = m at *
  generalize bytesSE s = z at *
  unfold Sv.arr at *
  simp only at *
  clear h hT
  go_enter Tryd.func15, Tryd.ntmps15
  go_wp2_with fail
  refine HC.out.mono ?_
  rintro e w1 ⟨u, rfl, hs, _⟩
  obtain ⟨Au, cu, rfl⟩ := hs.1.form
  have HB1 : Hid (Below w.heap.size w w1) := HB.out.trans (hs.2.mono HB.out.size)
  have HV : Hid ((z == 0) = m) := by
    show _ = _
    rw [HE.out]
    cases m <;> rfl
  clear hs HC HB
  go_wp2
  go_ret
  exact ⟨ret_bool HV.out, HB1.out⟩
end Go.Proofs.YtolooaahaofflaaDoor.ScA

namespace Go.Proofs.YtolooaahaofflaaDoor.ScA
open Go.ChangeShapes Go.WideShapes Go.ChangeAt Go.RowKit Mem MutP CodeP ScriptP Hand RefCode CodeI Scr CodeT CdA
open RefScr (upTo)

theorem cut_to {P : Program} {t : TypeId} (ht : P.underlying t = some (.slice (P.elem t))) (hz : ∀ w, (sizeOf (P.elem t)).run P w = .ok 1 w) (g off n c h : Nat) (h1 : h ≤ c) (h2 : 0 < c) : Cuts P t (.slice (some ⟨g, off, none⟩) n c) none (some (.int .i64 h)) none (.slice (some ⟨g, off, none⟩) h c) := by
  have key : ∀ w, (Instr.slice t (.slice (some ⟨g, off, none⟩) n c) none (some (.int .i64 h)) none).run P w = .ok (.slice (some ⟨g, off, none⟩) h c) w := fun w => by
    rw [run_slice_h (ht := ht) (h0 := by omega) (h2 := by omega), hz]
    simp only [Result.andThen, sliced, Int.toNat_natCast]
    rw [if_neg (by omega)]
    simp [Addr.add]
  exact ⟨fun w => by rw [run_sliceAt_slice (h := ht)]; exact key w, key⟩
/-- What stands behind the first t bytes of a slice that isn't empty. -/
theorem cut_any {w : World} {G : Nat → Prop} {A : Option Addr} {n c : Nat} {l : List Int} (h : RdL byE w G (.slice A n c) l) (hc : n ≤ c) (hp : 0 < n) (t : Nat) (ht : t ≤ n) :
    ∃ A', Cuts Tryd.prog 29 (.slice A n c) (some (.int .i64 t)) none none (.slice A' (n - t) (c - t)) ∧ RdL byE w (fun _ => True) (.slice A' (n - t) (c - t)) (l.drop t) := by
  obtain rfl := len_of h
  obtain ⟨x, hx⟩ : ∃ x, l[0]? = some x := ⟨_, List.getElem?_eq_getElem hp⟩
  obtain ⟨g, off, rfl, _, _⟩ := by_at h hx
  rcases (by omega : t < l.length ∨ (t = l.length ∧ l.length < c) ∨ (t = l.length ∧ l.length = c)) with h1 | ⟨h1, h'⟩ | ⟨h1, h'⟩
  · refine ⟨_, cut_from byUnder bySize g off l.length c t ht (by omega) hc, ?_⟩
    have := rdL_behind h t ht
    rw [show off + t * byE.sz = off + t by show off + t * 1 = _; omega] at this
    exact anyL this
  · refine ⟨_, cut_from byUnder bySize g off l.length c t ht (by omega) hc, ?_⟩
    rw [show l.length - t = 0 by omega, List.drop_of_length_le (by omega)]
    exact RdL.nil _ _ _ _
  · refine ⟨some ⟨g, off, none⟩, ?_, ?_⟩
    · have key : ∀ w, (Instr.slice 29 (.slice (some ⟨g, off, none⟩) l.length c) (some (.int .i64 t)) none none).run Tryd.prog w = .ok (.slice (some ⟨g, off, none⟩) (l.length - t) (c - t)) w := fun w => by
        rw [run_slice_l (ht := byUnder) (h0 := by omega) (h1 := by omega), bySize]
        simp only [Result.andThen, sliced, Int.toNat_natCast]
        rw [if_pos (by omega), ← h']
      exact ⟨fun w => by rw [run_sliceAt_slice (h := byUnder)]; exact key w, key⟩
    · rw [show l.length - t = 0 by omega, List.drop_of_length_le (by omega)]
      exact RdL.nil _ _ _ _

set_option maxRecDepth 100000 in
set_option maxHeartbeats 1000000 in
theorem numberOf_k {w : World} {b : List Int} {A : Nat} {off n c : Nat} (hn : 8 ≤ n) (hnc : n ≤ c) (hl : b.length = 8) (hb : ∀ x ∈ b, Byte x)
    (hc : ∀ (i : Nat) (x : Int), b[i]? = some x → w.cell? ⟨A, off + i, none⟩ = some (.int .u8 x)) :
    Calls Tryd.prog 47 #[.slice (some ⟨A, off, none⟩) n c] w fun e w' => e = .returned (.int .i64 (numI b)) ∧ w = w' := by
  have HB := Lib.hid hb
  have HC := Lib.hid hc
  have HL := Lib.hid hl
  obtain ⟨sl1, sl2⟩ : Cuts Tryd.prog 29 (.slice (some ⟨A, off, none⟩) n c) none (some (.int .i64 8)) none (.slice (some ⟨A, off, none⟩) 8 c) := cut_to byUnder bySize A off n c 8 (by omega) (by omega)
  clear hb hc hl hn hnc
  go_enter Tryd.func47, Tryd.ntmps47
  go_wp2
  clear sl1 sl2
  go_loopw [3, 9] (fun u v wr => ∃ i : Nat, i ≤ 8 ∧ v = .int .i64 (i : Int) ∧ u = .int .i64 (IntKind.i64.wrap (numU (b.take i))) ∧ w = wr) (fun _ v _ => (8 - intOf v).toNat)
  case atStart => exact ⟨0, by omega, rfl, rfl, rfl⟩
  case round =>
    obtain ⟨i, hi, rfl, rfl, rfl⟩ := hrel
    rcases (by omega : i = 8 ∨ i < 8) with h8 | h8
    · have HE : Hid (IntKind.i64.wrap (numU (b.take i)) = numI b) := by
        obtain ⟨h1, h2⟩ := numU_in HB.out (i := i) (by omega) (by rw [HL.out]; omega)
        subst h8
        have e8 : (256 : Int) ^ 8 = 18446744073709551616 := by decide
        rw [e8] at h2
        show _ = _
        rw [IntKind.wrap_i64]
        unfold numI low64
        split <;> omega
      obtain ⟨u, hu⟩ : ∃ u, IntKind.i64.wrap (numU (b.take i)) = u := ⟨_, rfl⟩
      have HU := Lib.hid hu
      rw [hu]
      clear hu
      have d0 : decide ((i : Int) < 8) = false := decide_eq_false (by omega)
      go_wp2
      go_ret
      exact ⟨by rw [← HE.out, HU.out]; rfl, rfl⟩
    · obtain ⟨x, hx⟩ : ∃ x, b[i]? = some x := ⟨_, List.getElem?_eq_getElem (by rw [HL.out]; exact h8)⟩
      have hx0 : 0 ≤ x ∧ x ≤ 255 := HB.out x (List.mem_of_getElem? hx)
      have q := HC.out i x hx
      have HOR := Lib.hid (or_byte (numU (b.take i)) x hx0)
      rw [← numU_take hx] at HOR
      obtain ⟨u, hu⟩ : ∃ u, IntKind.i64.wrap (numU (b.take i)) = u := ⟨_, rfl⟩
      rw [hu] at HOR ⊢
      obtain ⟨p, hp⟩ : ∃ p, IntKind.i64.wrap (u * 256) = p := ⟨_, rfl⟩
      rw [hp] at HOR
      obtain ⟨r, hr⟩ : ∃ r, IntKind.i64.wrap (numU (b.take (i + 1))) = r := ⟨_, rfl⟩
      have HRR := Lib.hid hr
      rw [hr] at HOR
      have hor : bits .or .i64 p x = r := HOR.out
      have wx : IntKind.i64.wrap x = x := IntWalk.i64_in _ (by omega)
      have i0 : (0 : Int) ≤ (i : Int) := by omega
      have i8 : (i : Int) < 8 := by omega
      have d0 : decide ((i : Int) < 8) = true := decide_eq_true i8
      clear hx hu hr HOR
      go_wp2
      go_roundw
      case rel => exact ⟨i + 1, by omega, by go_num, by rw [HRR.out], by simp⟩
      case measure => simp [intOf]; omega


set_option maxRecDepth 100000 in
set_option maxHeartbeats 2000000 in
theorem roomsOf_k {w : World} {g off n c : Nat} {b : List Int} (hn : b.length = n) (h32 : 32 ≤ n) (hnc : n ≤ c) (hb : ∀ x ∈ b, Byte x) (hg : g < w.heap.size)
    (hcell : ∀ (j : Nat) (y : Int), b[j]? = some y → w.cell? ⟨g, off + j, none⟩ = some (.int .u8 y)) {n0 n1 n2 n3 : Int} (hro : roomsOf b = [n0, n1, n2, n3]) :
    Calls Tryd.prog 27 #[.slice (some ⟨g, off, none⟩) n c] w fun e w' => e = .returned (.agg #[.int .i64 n0, .int .i64 n1, .int .i64 n2, .int .i64 n3]) ∧ Below w.heap.size w w' := by
  have HNUM : Hid (∀ V : World, Below w.heap.size w V → ∀ t : Nat, t + 8 ≤ n → Calls Tryd.prog 47 #[.slice (some ⟨g, off + t, none⟩) (n - t) (c - t)] V fun e w' => e = .returned (.int .i64 (numI (b.drop t))) ∧ V = w') := fun V hV t ht => by
    have h1 := numberOf_k (w := V) (b := (b.drop t).take 8) (A := g) (off := off + t) (n := n - t) (c := c - t) (by omega) (by omega) (by rw [List.length_take, List.length_drop]; omega) (fun x hx => hb x (List.mem_of_mem_drop (List.mem_of_mem_take hx))) fun j y hy => by
      have hj : j < 8 := by
        have := (List.getElem?_eq_some_iff.1 hy).1
        rw [List.length_take] at this
        omega
      rw [List.getElem?_take_of_lt hj, List.getElem?_drop] at hy
      have := (hV.cell (p := ⟨g, off + (t + j), none⟩) hg).trans (hcell _ _ hy)
      rwa [← Nat.add_assoc] at this
    rw [show numI ((b.drop t).take 8) = numI (b.drop t) by unfold numI; rw [List.take_take, Nat.min_self]] at h1
    exact h1
  have HCUT : Hid (∀ t : Nat, t < n → Cuts Tryd.prog 29 (.slice (some ⟨g, off, none⟩) n c) (some (.int .i64 t)) none none (.slice (some ⟨g, off + t, none⟩) (n - t) (c - t))) := fun t ht => cut_from byUnder bySize g off n c t (by omega) (by omega) hnc
  have HRO := Lib.hid hro
  have HRX : Hid (∀ i : Nat, i < 4 → (roomsOf b)[i]? = some (numI (b.drop (8 * i)))) := fun i hi => by
    rcases (by omega : i = 0 ∨ i = 1 ∨ i = 2 ∨ i = 3) with rfl | rfl | rfl | rfl <;> rfl
  have S0 : Hid (Sep (fun _ => False) w ((w.alloc (.cells #[.int .i64 0, .int .i64 0, .int .i64 0, .int .i64 0] 24)).alloc (.cells #[.int .i64 0, .int .i64 0, .int .i64 0, .int .i64 0] 24)) [blk (w.heap.size + 1) (.cells #[.int .i64 0, .int .i64 0, .int .i64 0, .int .i64 0] 24), blk w.heap.size (.cells #[.int .i64 0, .int .i64 0, .int .i64 0, .int .i64 0] 24)]) := by
    have h1 := ((Sep.nil (fun _ => False) w).new (.cells #[.int .i64 0, .int .i64 0, .int .i64 0, .int .i64 0] 24)).new (.cells #[.int .i64 0, .int .i64 0, .int .i64 0, .int .i64 0] 24)
    rw [show (w.alloc (.cells #[.int .i64 0, .int .i64 0, .int .i64 0, .int .i64 0] 24)).heap.size = w.heap.size + 1 by simp] at h1
    exact h1
  clear hro hb hcell hg hn
  go_enter Tryd.func27, Tryd.ntmps27
  go_wp2
  go_loopw [5] (fun t wr => ∃ i : Nat, i ≤ 4 ∧ t = .int .i64 (i : Int) ∧ Hid (Sep (fun _ => False) w wr [blk (w.heap.size + 1) (.cells #[.int .i64 (upTo i 0 n0), .int .i64 (upTo i 1 n1), .int .i64 (upTo i 2 n2), .int .i64 (upTo i 3 n3)] 24), blk w.heap.size (.cells #[.int .i64 0, .int .i64 0, .int .i64 0, .int .i64 0] 24)])) (fun t _ => 4 - (intOf t).toNat)
  case atStart => exact ⟨0, Nat.zero_le _, rfl, by show Sep _ _ _ _; simpa [upTo] using S0.out⟩
  case round =>
    obtain ⟨i, hi, rfl, HS⟩ := hrel
    clear S0
    rcases (by omega : i < 4 ∨ i = 4) with h4 | rfl
    · obtain ⟨t, ht⟩ : ∃ t : Nat, 8 * i = t := ⟨_, rfl⟩
      have hxr := HRX.out i h4
      rw [ht] at hxr
      obtain ⟨x, hx⟩ : ∃ x, numI (b.drop t) = x := ⟨_, rfl⟩
      rw [hx] at hxr
      have HXR := Lib.hid hxr
      have HC := Lib.hid (HNUM.out wr HS.out.old t (by omega))
      rw [hx] at HC
      obtain ⟨sl1, sl2⟩ := HCUT.out t (by omega)
      have w8 : IntKind.i64.wrap ((i : Int) * 8) = (t : Int) := by rw [IntWalk.i64_in _ (by omega)]; omega
      have i0 : (0 : Int) ≤ (i : Int) := by omega
      have i4 : (i : Int) < 4 := by omega
      have d0 : decide ((i : Int) < 4) = true := decide_eq_true i4
      have d1 : decide (i < 4) = true := decide_eq_true h4
      have hk : wr.cell? ⟨w.heap.size + 1, i, none⟩ = some (.int .i64 0) := by
        have hb := HS.out.blk_at 0 rfl
        rcases (by omega : i = 0 ∨ i = 1 ∨ i = 2 ∨ i = 3) with rfl | rfl | rfl | rfl
        · exact (cell_block hb 0).trans rfl
        · exact (cell_block hb 1).trans rfl
        · exact (cell_block hb 2).trans rfl
        · exact (cell_block hb 3).trans rfl
      have hf := frozen_block (HS.out.blk_at 0 rfl) i
      have S2 : Hid (Sep (fun _ => False) w (wr.setCell ⟨w.heap.size + 1, i, none⟩ (.int .i64 x)) [blk (w.heap.size + 1) (.cells #[.int .i64 (upTo (i + 1) 0 n0), .int .i64 (upTo (i + 1) 1 n1), .int .i64 (upTo (i + 1) 2 n2), .int .i64 (upTo (i + 1) 3 n3)] 24), blk w.heap.size (.cells #[.int .i64 0, .int .i64 0, .int .i64 0, .int .i64 0] 24)]) := by
        have h3 := HS.out.set 0 rfl i (.int .i64 x)
        have hx3 := HXR.out
        rw [HRO.out] at hx3
        rcases (by omega : i = 0 ∨ i = 1 ∨ i = 2 ∨ i = 3) with rfl | rfl | rfl | rfl
        · obtain rfl : n0 = x := by simpa using hx3
          exact h3
        · obtain rfl : n1 = x := by simpa using hx3
          exact h3
        · obtain rfl : n2 = x := by simpa using hx3
          exact h3
        · obtain rfl : n3 = x := by simpa using hx3
          exact h3
      clear ht hxr hx HS
      go_wp2_with fail
      refine HC.out.mono ?_
      rintro e w3 ⟨rfl, rfl⟩
      go_wp2
      go_roundw
      case rel => exact ⟨i + 1, by omega, by go_num, S2⟩
      case measure => simp [intOf]; omega
    · have S1 : Hid (Sep (fun _ => False) w wr [blk (w.heap.size + 1) (.cells #[.int .i64 n0, .int .i64 n1, .int .i64 n2, .int .i64 n3] 24), blk w.heap.size (.cells #[.int .i64 0, .int .i64 0, .int .i64 0, .int .i64 0] 24)]) := by
        have h3 := HS.out
        have e : ∀ (j : Nat) (x : Int), j < 4 → upTo 4 j x = x := fun j x hj => by unfold upTo; rw [if_pos (by omega)]
        rw [e 0 n0 (by omega), e 1 n1 (by omega), e 2 n2 (by omega), e 3 n3 (by omega)] at h3
        exact h3
      have d0 : decide (((4 : Nat) : Int) < 4) = false := decide_eq_false (by omega)
      have p0 := (cell_block (S1.out.blk_at 0 rfl) 0).trans rfl
      have p1 := (cell_block (S1.out.blk_at 0 rfl) 1).trans rfl
      have p2 := (cell_block (S1.out.blk_at 0 rfl) 2).trans rfl
      have p3 := (cell_block (S1.out.blk_at 0 rfl) 3).trans rfl
      have m0 := (cell_block (S1.out.blk_at 1 (g := w.heap.size) (o := .cells #[.int .i64 0, .int .i64 0, .int .i64 0, .int .i64 0] 24) rfl) 0).trans rfl
      have f0 := frozen_block (S1.out.blk_at 1 (g := w.heap.size) (o := .cells #[.int .i64 0, .int .i64 0, .int .i64 0, .int .i64 0] 24) rfl) 0
      have m1 := (cell_block (S1.out.blk_at 1 (g := w.heap.size) (o := .cells #[.int .i64 0, .int .i64 0, .int .i64 0, .int .i64 0] 24) rfl) 1).trans rfl
      have f1 := frozen_block (S1.out.blk_at 1 (g := w.heap.size) (o := .cells #[.int .i64 0, .int .i64 0, .int .i64 0, .int .i64 0] 24) rfl) 1
      have m2 := (cell_block (S1.out.blk_at 1 (g := w.heap.size) (o := .cells #[.int .i64 0, .int .i64 0, .int .i64 0, .int .i64 0] 24) rfl) 2).trans rfl
      have f2 := frozen_block (S1.out.blk_at 1 (g := w.heap.size) (o := .cells #[.int .i64 0, .int .i64 0, .int .i64 0, .int .i64 0] 24) rfl) 2
      have m3 := (cell_block (S1.out.blk_at 1 (g := w.heap.size) (o := .cells #[.int .i64 0, .int .i64 0, .int .i64 0, .int .i64 0] 24) rfl) 3).trans rfl
      have f3 := frozen_block (S1.out.blk_at 1 (g := w.heap.size) (o := .cells #[.int .i64 0, .int .i64 0, .int .i64 0, .int .i64 0] 24) rfl) 3
      have T1 := (((S1.out.set 1 rfl 0 (.int .i64 n0)).set 1 rfl 1 (.int .i64 n1)).set 1 rfl 2 (.int .i64 n2)).set 1 rfl 3 (.int .i64 n3)
      obtain ⟨wz, hwz⟩ : ∃ wz : World, wz = ((((wr.setCell ⟨w.heap.size, 0, none⟩ (.int .i64 n0)).setCell ⟨w.heap.size, 1, none⟩ (.int .i64 n1)).setCell ⟨w.heap.size, 2, none⟩ (.int .i64 n2)).setCell ⟨w.heap.size, 3, none⟩ (.int .i64 n3)) := ⟨_, rfl⟩
      rw [← hwz] at T1
      have TB := Lib.hid (T1.blk_at 1 (g := w.heap.size) (o := .cells #[.int .i64 n0, .int .i64 n1, .int .i64 n2, .int .i64 n3] 24) rfl)
      have TO := Lib.hid T1.old
      have HWZ := Lib.hid hwz
      clear T1 hwz HS
      go_wp2
      rw [← HWZ.out]
      have z0 := (cell_block TB.out 0).trans rfl
      have z1 := (cell_block TB.out 1).trans rfl
      have z2 := (cell_block TB.out 2).trans rfl
      have z3 := (cell_block TB.out 3).trans rfl
      refine bodyPost_ret (v := .agg #[.int .i64 n0, .int .i64 n1, .int .i64 n2, .int .i64 n3]) (by simp [results, Tryd.results27, go_sem, z0, z1, z2, z3]) rfl ?_
      exact ⟨rfl, TO.out⟩
end Go.Proofs.YtolooaahaofflaaDoor.ScA

