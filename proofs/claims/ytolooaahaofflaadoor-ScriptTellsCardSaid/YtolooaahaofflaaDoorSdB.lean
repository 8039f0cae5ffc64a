/-
  What package script does as it landed, second part: its bytes. Condition: the table of package code lies as it was written; what the script reads as, and that its parts may be.
-/
import Derived.Test.YtolooaahaofflaaDoorSdA
namespace Go.Proofs.YtolooaahaofflaaDoor.ScA
open Go.ChangeShapes Go.WideShapes Go.ChangeAt Go.RowKit Mem MutP CodeP ScriptP Hand RefCode CodeI Scr CodeT CdA RefScr

set_option maxRecDepth 100000 in
set_option maxHeartbeats 1000000 in
theorem append0_k {B : Nat → Prop} {w wk : World} {Rs : List Res} {A : Option Addr} {c k : Nat} {xs : List Int} (h : Sep B w wk (grow byE 5 (.slice A k c) xs :: Rs)) (hk : xs.length = k) (hx : k ≤ 100000) (n : Int) :
    Calls Tryd.prog 44 #[.slice A k c, .int .i64 n] wk fun e wn => ∃ A' c', e = .returned (.slice A' (k + 8) c') ∧ Sep B w wn (grow byE 5 (.slice A' (k + 8) c') (xs ++ eightL n) :: Rs) := by
  have H := Lib.hid h
  have HK := Lib.hid hk
  clear h hk
  go_enter Tryd.func44, Tryd.ntmps44
  go_wp2
  go_loopw [0, 5] (fun u v wr => ∃ (i : Nat) (s : Int) (A : Option Addr) (c : Nat), i ≤ 8 ∧ u = .slice A (k + i) c ∧ v = .int .i64 s ∧ Hid (s = 56 - 8 * (i : Int)) ∧ Hid (Sep B w wr (grow byE 5 (.slice A (k + i) c) (xs ++ (eightL n).take i) :: Rs))) (fun _ v _ => (intOf v + 8).toNat)
  case atStart => exact ⟨0, 56, A, c, by omega, rfl, rfl, (by show _ = _; omega), by show Sep _ _ _ _; simpa using H.out⟩
  case round =>
    obtain ⟨i, s, A1, c1, hi, rfl, rfl, HSI, HS⟩ := hrel
    rcases (by omega : i = 8 ∨ i < 8) with h8 | h8
    · subst h8
      have s0 : s < 0 := by have := HSI.out; omega
      have d0 : decide (s ≥ 0) = false := decide_eq_false (by omega)
      have HF : Hid ((eightL n).take 8 = eightL n) := List.take_of_length_le (by rw [eight_len]; omega)
      rw [HF.out] at HS
      go_wp2
      go_ret
      exact ⟨A1, c1, rfl, HS.out⟩
    · have s0 : 0 ≤ s ∧ s ≤ 56 := by have := HSI.out; omega
      have d0 : decide (s ≥ 0) = true := decide_eq_true (by omega)
      obtain ⟨z, hz⟩ : ∃ z, n / 2 ^ s.toNat = z := ⟨_, rfl⟩
      obtain ⟨y, hy⟩ : ∃ y, IntKind.u8.wrap z = y := ⟨_, rfl⟩
      obtain ⟨t, ht⟩ : ∃ t, s - 8 = t := ⟨_, rfl⟩
      have hw : IntKind.i64.wrap (s - 8) = t := by rw [IntWalk.i64_in _ (by omega)]; exact ht
      have HTI : Hid (t = 56 - 8 * ((i + 1 : Nat) : Int)) := by show _ = _; have := HSI.out; omega
      have HTM : Hid ((t + 8).toNat < (s + 8).toNat) := by show _ < _; omega
      have HY : Hid ((eightL n).take (i + 1) = (eightL n).take i ++ [y]) := by
        refine take_snocI _ i y ?_
        rw [eight_at n i h8, ← hy, ← hz, show s.toNat = 56 - 8 * i by have := HSI.out; omega]
      have S3 : Hid (Sep B w (wr.alloc (.cells #[.int .u8 y] 5)) (told byE (.slice (some ⟨wr.heap.size, 0, none⟩) 1 1) [y] :: grow byE 5 (.slice A1 (k + i) c1) (xs ++ (eightL n).take i) :: Rs)) := HS.out.lit_told 5 [y] (cs := #[.int .u8 y]) rfl (by simp) rfl
      have HLN : Hid ((xs ++ (eightL n).take i).length + [y].length ≤ 1000000) := by
        show _ ≤ _
        rw [List.length_append, List.length_take, eight_len, HK.out]
        simp; omega
      clear ht HS
      go_wp2_with (at_builtin; refine wpList_appS rfl _ _ byElem rfl rfl rfl S3.out 1 rfl (S3.out.rdL 0 rfl) HLN.out ?_)
      intro A4 c4 w4 l4 HL4 h4
      have HL5 : Hid (l4 = xs ++ (eightL n).take (i + 1) ∧ l4.length = k + (i + 1)) := by
        have e : l4 = xs ++ (eightL n).take (i + 1) := by rw [HL4.out, HY.out]; try rw [List.append_assoc]
        exact ⟨e, by rw [e, List.length_append, List.length_take, eight_len, HK.out]; omega⟩
      have S5 := Lib.hid (Sep.tail h4)
      rw [HL5.out.2] at S5 ⊢
      rw [HL5.out.1] at S5
      clear h4 S3 HL4
      go_wp2
      go_roundw
      case rel => exact ⟨i + 1, t, A4, c4, by omega, rfl, rfl, HTI, S5⟩
      case measure => exact HTM.out

theorem append_k {B : Nat → Prop} {w wk : World} {Rs : List Res} {A : Option Addr} {c : Nat} {xs : List Int} (h : Sep B w wk (grow byE 5 (.slice A xs.length c) xs :: Rs)) (hx : xs.length ≤ 100000) (n : Int) :
    Calls Tryd.prog 44 #[.slice A xs.length c, .int .i64 n] wk fun e wn => ∃ (A' : Option Addr) (c' : Nat) (l : List Int), l = xs ++ eightL n ∧ e = .returned (.slice A' l.length c') ∧ Sep B w wn (grow byE 5 (.slice A' l.length c') l :: Rs) := by
  refine (append0_k h rfl hx n).mono ?_
  rintro e wn ⟨A', c', rfl, h2⟩
  have e : xs.length + 8 = (xs ++ eightL n).length := by rw [List.length_append, eight_len]
  rw [e] at h2 ⊢
  exact ⟨A', c', _, rfl, rfl, h2⟩

set_option maxRecDepth 100000 in
set_option maxHeartbeats 2000000 in
theorem written_k {w : World} {G : Nat → Prop} {q : Sv} {s : Sc} (hT : Tab w) (h : RdS w G q s) (hps : ∀ p ∈ s.ps, mayB p = true) (hpl : s.ps.length ≤ 8) (hxs : ∀ x ∈ s.xs, rightI x = true) (hxl : s.xs.length ≤ 200) :
    Calls Tryd.prog 23 #[.agg q.arr] w fun e w' => ∃ (A : Option Addr) (c : Nat) (l : List Int), l = bytesS s ∧ e = .returned (.slice A l.length c) ∧ Sep (fun _ => False) w w' [grow byE 5 (.slice A l.length c) l] := by
  obtain ⟨r0, r1, r2, r3, pA, pn, pc, xA, xn, xc⟩ := q
  have hpn := h.pn
  have hxn := h.xn
  obtain ⟨hr, hp, hx, _, _⟩ := h
  simp only at hpn hxn hr hp hx
  have HP := Lib.hid hp
  have HX := Lib.hid hx
  have HRR := Lib.hid hr
  have HPN := Lib.hid hpn
  have HXN := Lib.hid hxn
  have HPS := Lib.hid hps
  have HXS := Lib.hid hxs
  have HT := Lib.hid hT
  have bpn : pn ≤ 8 := by omega
  have bxn : xn ≤ 200 := by omega
  have HLP : Hid (∀ j, (progsL (s.ps.take j)).length ≤ 700 * 8) := fun j => by
    have h1 := progs_small (ps := s.ps.take j) fun p hp => by have := (may_iff.1 (hps p (List.mem_of_mem_take hp))).2.2; omega
    rw [List.length_take] at h1
    omega
  have HLX : Hid (∀ j, (itemsL (s.xs.take j)).length ≤ 2000) := fun j => by
    rw [items_len, List.length_take]; omega
  have HLR : Hid (∀ j, (roomsL (s.r.take j)).length ≤ 32) := fun j => by
    rw [rooms_len, List.length_take, hr]; simp; omega
  unfold Sv.arr
  simp only
  obtain ⟨bx, hbx⟩ : ∃ bx : Obj, (.cells #[.int .i64 r0, .int .i64 r1, .int .i64 r2, .int .i64 r3, .slice pA pn pc, .slice xA xn xc] 28) = bx := ⟨_, rfl⟩
  have S0 : Hid (Sep (fun _ => False) w (w.alloc (.cells #[.int .i64 r0, .int .i64 r1, .int .i64 r2, .int .i64 r3, .slice pA pn pc, .slice xA xn xc] 28)) [grow byE 5 (.slice none 0 0) [], blk w.heap.size bx]) := by
    have h1 := grow_none ((Sep.nil (fun _ => False) w).new (.cells #[.int .i64 r0, .int .i64 r1, .int .i64 r2, .int .i64 r3, .slice pA pn pc, .slice xA xn xc] 28)) byE 5
    rw [hbx] at h1 ⊢
    exact h1
  have HB4 : Hid (∀ V : World, V.heap[w.heap.size]? = some bx → V.cell? ⟨w.heap.size, 4, none⟩ = some (.slice pA pn pc)) := fun V hV => by rw [← hbx] at hV; exact (cell_block hV 4).trans rfl
  have HB5 : Hid (∀ V : World, V.heap[w.heap.size]? = some bx → V.cell? ⟨w.heap.size, 5, none⟩ = some (.slice xA xn xc)) := fun V hV => by rw [← hbx] at hV; exact (cell_block hV 5).trans rfl
  have wpn : IntKind.u8.wrap (pn : Int) = (pn : Int) := by rw [wrap8]; omega
  clear hp hx hr hpn hxn hps hxs hpl hxl hT hbx
  go_enter Tryd.func23, Tryd.ntmps23
  go_wp2
  go_loopw [3, 14] (fun u v wr => ∃ (i : Nat) (A : Option Addr) (c : Nat) (l : List Int), i ≤ 4 ∧ u = .slice A l.length c ∧ v = .int .i64 (i : Int) ∧ Hid (l = roomsL (s.r.take i)) ∧ Hid (Sep (fun _ => False) w wr [grow byE 5 (.slice A l.length c) l, blk w.heap.size bx])) (fun _ v _ => 4 - (intOf v).toNat)
  case atStart => exact ⟨0, none, 0, [], Nat.zero_le _, rfl, rfl, by show _ = _; simp [roomsL], S0.out⟩
  case round =>
    obtain ⟨i, A, c, l, hi, rfl, rfl, HL, HS⟩ := hrel
    clear S0
    have HLN : Hid (l.length ≤ 32) := by show _ ≤ _; rw [HL.out]; exact HLR.out i
    rcases (by omega : i = 0 ∨ i = 1 ∨ i = 2 ∨ i = 3 ∨ i = 4) with rfl | rfl | rfl | rfl | rfl
    · rw [show ((0 : Nat) : Int) = 0 from rfl]
      have ix : ∀ W, (Instr.index 24 (.agg #[.int .i64 r0, .int .i64 r1, .int .i64 r2, .int .i64 r3]) (.int .i64 0)).run Tryd.prog W = .ok (.int .i64 r0) W := fun _ => by kernel_rfl
      have HTK : Hid (s.r.take (0 + 1) = s.r.take 0 ++ [r0]) := by show _ = _; rw [HRR.out]; rfl
      have HC := Lib.hid (append_k HS.out (by have := HLN.out; omega) r0)
      go_wp2_with fail
      refine HC.out.mono ?_
      rintro e w3 ⟨A3, c3, l3, hl3, rfl, h3⟩
      have S3 := Lib.hid h3
      have HL3 : Hid (l3 = roomsL (s.r.take (0 + 1))) := by show _ = _; rw [hl3, HTK.out, rooms_snoc, ← HL.out]
      clear h3 hl3 HC HS HL HLN
      go_wp2
      go_roundw
      case rel => exact ⟨0 + 1, A3, c3, l3, by omega, rfl, rfl, HL3, S3⟩
      case measure => simp [intOf]
    · rw [show ((1 : Nat) : Int) = 1 from rfl]
      have ix : ∀ W, (Instr.index 24 (.agg #[.int .i64 r0, .int .i64 r1, .int .i64 r2, .int .i64 r3]) (.int .i64 1)).run Tryd.prog W = .ok (.int .i64 r1) W := fun _ => by kernel_rfl
      have HTK : Hid (s.r.take (1 + 1) = s.r.take 1 ++ [r1]) := by show _ = _; rw [HRR.out]; rfl
      have HC := Lib.hid (append_k HS.out (by have := HLN.out; omega) r1)
      go_wp2_with fail
      refine HC.out.mono ?_
      rintro e w3 ⟨A3, c3, l3, hl3, rfl, h3⟩
      have S3 := Lib.hid h3
      have HL3 : Hid (l3 = roomsL (s.r.take (1 + 1))) := by show _ = _; rw [hl3, HTK.out, rooms_snoc, ← HL.out]
      clear h3 hl3 HC HS HL HLN
      go_wp2
      go_roundw
      case rel => exact ⟨1 + 1, A3, c3, l3, by omega, rfl, rfl, HL3, S3⟩
      case measure => simp [intOf]
    · rw [show ((2 : Nat) : Int) = 2 from rfl]
      have ix : ∀ W, (Instr.index 24 (.agg #[.int .i64 r0, .int .i64 r1, .int .i64 r2, .int .i64 r3]) (.int .i64 2)).run Tryd.prog W = .ok (.int .i64 r2) W := fun _ => by kernel_rfl
      have HTK : Hid (s.r.take (2 + 1) = s.r.take 2 ++ [r2]) := by show _ = _; rw [HRR.out]; rfl
      have HC := Lib.hid (append_k HS.out (by have := HLN.out; omega) r2)
      go_wp2_with fail
      refine HC.out.mono ?_
      rintro e w3 ⟨A3, c3, l3, hl3, rfl, h3⟩
      have S3 := Lib.hid h3
      have HL3 : Hid (l3 = roomsL (s.r.take (2 + 1))) := by show _ = _; rw [hl3, HTK.out, rooms_snoc, ← HL.out]
      clear h3 hl3 HC HS HL HLN
      go_wp2
      go_roundw
      case rel => exact ⟨2 + 1, A3, c3, l3, by omega, rfl, rfl, HL3, S3⟩
      case measure => simp [intOf]
    · rw [show ((3 : Nat) : Int) = 3 from rfl]
      have ix : ∀ W, (Instr.index 24 (.agg #[.int .i64 r0, .int .i64 r1, .int .i64 r2, .int .i64 r3]) (.int .i64 3)).run Tryd.prog W = .ok (.int .i64 r3) W := fun _ => by kernel_rfl
      have HTK : Hid (s.r.take (3 + 1) = s.r.take 3 ++ [r3]) := by show _ = _; rw [HRR.out]; rfl
      have HC := Lib.hid (append_k HS.out (by have := HLN.out; omega) r3)
      go_wp2_with fail
      refine HC.out.mono ?_
      rintro e w3 ⟨A3, c3, l3, hl3, rfl, h3⟩
      have S3 := Lib.hid h3
      have HL3 : Hid (l3 = roomsL (s.r.take (3 + 1))) := by show _ = _; rw [hl3, HTK.out, rooms_snoc, ← HL.out]
      clear h3 hl3 HC HS HL HLN
      go_wp2
      go_roundw
      case rel => exact ⟨3 + 1, A3, c3, l3, by omega, rfl, rfl, HL3, S3⟩
      case measure => simp [intOf]
    · have HL2 : Hid (l = roomsL s.r) := by show _ = _; rw [HL.out, List.take_of_length_le (by rw [HRR.out]; exact Nat.le_refl 4)]
      have k4 : ∀ o, (wr.alloc o).cell? ⟨w.heap.size, 4, none⟩ = some (.slice pA pn pc) := fun o => HB4.out _ ((HS.out.new o).blk_at 2 rfl)
      have k4' : wr.cell? ⟨w.heap.size, 4, none⟩ = some (.slice pA pn pc) := HB4.out _ (HS.out.blk_at 1 rfl)
      have S3 : Hid (Sep (fun _ => False) w (wr.alloc (.cells #[.int .u8 (pn : Int)] 5)) [told byE (.slice (some ⟨wr.heap.size, 0, none⟩) 1 1) [(pn : Int)], grow byE 5 (.slice A l.length c) l, blk w.heap.size bx]) := HS.out.lit_told (E := byE) 5 [(pn : Int)] (cs := #[.int .u8 (pn : Int)]) rfl (by simp) rfl
      clear HS HL
      go_wp2_with (at_builtin; refine wpList_appS rfl _ _ byElem rfl rfl rfl S3.out 1 rfl (S3.out.rdL 0 rfl) (by have := HLN.out; simp; omega) ?_)
      intro A4 c4 w4 l4 HL4 h4
      have S4 : Hid (Sep (fun _ => False) w w4 [grow byE 5 (.slice A4 l4.length c4) l4, blk w.heap.size bx]) := Sep.tail h4
      have HL5 : Hid (l4 = roomsL s.r ++ ((pn : Int) :: progsL (s.ps.take 0))) := by show _ = _; rw [HL4.out, HL2.out]; simp [progsL]
      have m4 : w4.cell? ⟨w.heap.size, 4, none⟩ = some (.slice pA pn pc) := HB4.out _ (S4.out.blk_at 1 rfl)
      clear h4 S3 HL4 k4 k4' HLN HL2 wpn
      go_wp2
      clear m4
      go_loopw [3, 31] (fun u v wr => ∃ (j : Nat) (A : Option Addr) (c : Nat) (l : List Int), j ≤ pn ∧ u = .slice A l.length c ∧ v = .int .i64 (j : Int) ∧ Hid (l = roomsL s.r ++ ((pn : Int) :: progsL (s.ps.take j))) ∧ Hid (Sep (fun _ => False) w wr [grow byE 5 (.slice A l.length c) l, blk w.heap.size bx])) (fun _ v _ => pn - (intOf v).toNat)
      case atStart => exact ⟨0, _, _, l4, Nat.zero_le _, rfl, rfl, HL5, S4⟩
      case round =>
        clear S4 HL5
        obtain ⟨j, A, c, l, hj, rfl, rfl, HL, HS⟩ := hrel
        have HLN : Hid (l.length ≤ 10000) := by
          have h1 := HLP.out j
          have h2 := HLR.out 4
          rw [List.take_of_length_le (by rw [HRR.out]; exact Nat.le_refl 4)] at h2
          show _ ≤ _
          rw [HL.out, List.length_append, List.length_cons]
          omega
        rcases (by omega : j < pn ∨ pn ≤ j) with h4 | h4
        · obtain ⟨p, hp⟩ : ∃ p, s.ps[j]? = some p := ⟨_, List.getElem?_eq_getElem (by rw [← HPN.out]; exact h4)⟩
          obtain ⟨b, off, A', c', rfl, hb, hpc, e0, hrd⟩ := (HP.out.below HS.out.old).at_ hp
          have HTK : Hid (s.ps.take (j + 1) = s.ps.take j ++ [p]) := take_snocI _ j p hp
          have hm := HPS.out p (List.mem_of_getElem? hp)
          have HPB : Hid (bytesE p = 0 ∧ bytesR p = bytesL p) := by show _ ∧ _; unfold bytesE bytesR; rw [hm]; exact ⟨rfl, rfl⟩
          have HPL : Hid ((bytesL p).length ≤ 300) := by show _ ≤ _; rw [bytes_len]; have := (may_iff.1 hm).2.2; omega
          have HC := Lib.hid (bytes_l (HT.out.next HS.out.old) hrd)
          rw [HPB.out.1] at HC
          have i0 : (0 : Int) ≤ (j : Int) := by omega
          have i1 : (j : Int) < (pn : Int) := by omega
          have d2 : decide ((j : Int) < (pn : Int)) = true := decide_eq_true i1
          have d3 : decide (j < pn) = true := decide_eq_true h4
          obtain ⟨m, hm2⟩ : ∃ m, p.length = m := ⟨_, rfl⟩
          rw [hm2] at e0 HC
          clear hp hb hrd hm hm2 hpc
          go_wp2_with fail
          refine HC.out.mono ?_
          rintro e w5 ⟨u, rfl, hsy, _⟩
          rw [HPB.out.2] at hsy
          obtain ⟨Au, cu, rfl⟩ := hsy.1.form
          have S6 : Hid (Sep (fun _ => False) w w5 [told byE (.slice Au (bytesL p).length cu) (bytesL p), grow byE 5 (.slice A l.length c) l, blk w.heap.size bx]) := SaysL.sep HS.out hsy
          obtain ⟨zl, hzl⟩ : ∃ zl, bytesL p = zl := ⟨_, rfl⟩
          have HZL := Lib.hid hzl
          rw [hzl] at S6 HPL ⊢
          clear hsy HS e0 hzl HC
          go_wp2_with (at_builtin; refine wpList_appS rfl _ _ byElem rfl rfl rfl S6.out 1 rfl (S6.out.rdL 0 rfl) (by have := HLN.out; have := HPL.out; omega) ?_)
          intro A7 c7 w7 l7 HL7 h7
          have S7 : Hid (Sep (fun _ => False) w w7 [grow byE 5 (.slice A7 l7.length c7) l7, blk w.heap.size bx]) := Sep.tail h7
          have HL8 : Hid (l7 = roomsL s.r ++ ((pn : Int) :: progsL (s.ps.take (j + 1)))) := by show _ = _; rw [HL7.out, HL.out, HTK.out, progs_snoc, HZL.out]; simp
          clear h7 S6 HL7 HL
          go_wp2
          go_roundw
          case rel => exact ⟨j + 1, A7, c7, l7, by omega, rfl, by go_num, HL8, S7⟩
          case measure => simp [intOf]; omega
        · have d2 : decide ((j : Int) < (pn : Int)) = false := decide_eq_false (by omega)
          have d3 : decide (j < pn) = false := decide_eq_false (by omega)
          have HL2 : Hid (l = roomsL s.r ++ ((pn : Int) :: (progsL s.ps ++ itemsL (s.xs.take 0)))) := by show _ = _; rw [HL.out, List.take_of_length_le (by rw [← HPN.out]; exact h4)]; simp [itemsL]
          have m5 : wr.cell? ⟨w.heap.size, 5, none⟩ = some (.slice xA xn xc) := HB5.out _ (HS.out.blk_at 1 rfl)
          have S3 := Lib.hid HS.out
          clear HL hj h4 HS HLN
          go_wp2
          clear m5 d2 d3
          go_loopw [3, 47] (fun u v wr => ∃ (j : Nat) (A : Option Addr) (c : Nat) (l : List Int), j ≤ xn ∧ u = .slice A l.length c ∧ v = .int .i64 (j : Int) ∧ Hid (l = roomsL s.r ++ ((pn : Int) :: (progsL s.ps ++ itemsL (s.xs.take j)))) ∧ Hid (Sep (fun _ => False) w wr [grow byE 5 (.slice A l.length c) l, blk w.heap.size bx])) (fun _ v _ => xn - (intOf v).toNat)
          case atStart => exact ⟨0, _, _, l, Nat.zero_le _, rfl, rfl, HL2, S3⟩
          case round =>
            clear S3 HL2
            obtain ⟨j, A, c, l, hj, rfl, rfl, HL, HS⟩ := hrel
            have HLN : Hid (l.length ≤ 10000) := by
              have h1 := HLP.out pn
              rw [List.take_of_length_le (by rw [← HPN.out]; exact Nat.le_refl _)] at h1
              have h2 := HLR.out 4
              rw [List.take_of_length_le (by rw [HRR.out]; exact Nat.le_refl 4)] at h2
              have h3 := HLX.out j
              show _ ≤ _
              rw [HL.out, List.length_append, List.length_cons, List.length_append]
              omega
            rcases (by omega : j < xn ∨ xn ≤ j) with h4 | h4
            · obtain ⟨x, hx⟩ : ∃ x, s.xs[j]? = some x := ⟨_, List.getElem?_eq_getElem (by rw [← HXN.out]; exact h4)⟩
              obtain ⟨b, off, rfl, hb, z0, z1, z2⟩ := it_at HX.out hx
              have HTK : Hid (s.xs.take (j + 1) = s.xs.take j ++ [x]) := take_snocI _ j x hx
              obtain ⟨⟨o0, o1⟩, a0, a1⟩ := rightI_small (HXS.out x (List.mem_of_getElem? hx))
              have hB := HS.out.old
              have q0 := (hB.cell (p := ⟨b, off + j * 3, none⟩) hb).trans z0
              have q1 := (hB.cell (p := ⟨b, off + j * 3 + 1, none⟩) hb).trans z1
              have q2 := (hB.cell (p := ⟨b, off + j * 3 + 2, none⟩) hb).trans z2
              have i0 : (0 : Int) ≤ (j : Int) := by omega
              have i1 : (j : Int) < (xn : Int) := by omega
              have d2 : decide ((j : Int) < (xn : Int)) = true := decide_eq_true i1
              have d3 : decide (j < xn) = true := decide_eq_true h4
              have wd : IntKind.u8.wrap x.d = x.d := by rw [wrap8]; omega
              have wa : IntKind.u8.wrap x.a = x.a := by rw [wrap8]; omega
              have S2 := Lib.hid (HS.out.new (.cells #[.int .i64 x.d, .int .i64 x.a, .int .i64 x.n] 23))
              have S3 : Hid (Sep (fun _ => False) w ((wr.alloc (.cells #[.int .i64 x.d, .int .i64 x.a, .int .i64 x.n] 23)).alloc (.cells #[.int .u8 x.d, .int .u8 x.a] 5)) [told byE (.slice (some ⟨wr.heap.size + 1, 0, none⟩) 2 2) [x.d, x.a], blk wr.heap.size (.cells #[.int .i64 x.d, .int .i64 x.a, .int .i64 x.n] 23), grow byE 5 (.slice A l.length c) l, blk w.heap.size bx]) := by
                have h3 := S2.out.lit_told (E := byE) 5 [x.d, x.a] (cs := #[.int .u8 x.d, .int .u8 x.a]) rfl (by simp) rfl
                rw [show (wr.alloc (.cells #[.int .i64 x.d, .int .i64 x.a, .int .i64 x.n] 23)).heap.size = wr.heap.size + 1 by simp] at h3
                exact h3
              clear hx z0 z1 z2 hb hB S2 HS
              go_wp2_with (at_builtin; refine wpList_appS rfl _ _ byElem rfl rfl rfl S3.out 2 rfl (S3.out.rdL 0 rfl) (by have := HLN.out; simp; omega) ?_)
              intro A4 c4 w4 l4 HL4 h4'
              have S4 : Hid (Sep (fun _ => False) w w4 [blk wr.heap.size (.cells #[.int .i64 x.d, .int .i64 x.a, .int .i64 x.n] 23), grow byE 5 (.slice A4 l4.length c4) l4, blk w.heap.size bx]) := h4'.tail
              have k2 := (cell_block (S4.out.blk_at 0 rfl) 2).trans rfl
              have S5 : Hid (Sep (fun _ => False) w w4 [grow byE 5 (.slice A4 l4.length c4) l4, blk w.heap.size bx]) := S4.out.tail
              have HK4 : Hid (l4.length ≤ 20000) := by show _ ≤ _; rw [HL4.out]; have := HLN.out; simp; omega
              clear h4' S3
              go_wp2_with fail
              refine (append_k S5.out (by have := HK4.out; omega) x.n).mono ?_
              rintro e w5 ⟨A7, c7, l7, hl7, rfl, h7⟩
              have S7 := Lib.hid h7
              have HL8 : Hid (l7 = roomsL s.r ++ ((pn : Int) :: (progsL s.ps ++ itemsL (s.xs.take (j + 1))))) := by
                show _ = _
                rw [hl7, HL4.out, HL.out, HTK.out, items_snoc]
                unfold itL
                simp
              clear h7 S5 S4 k2 HL4 HK4 hl7 HL
              go_wp2
              go_roundw
              case rel => exact ⟨j + 1, A7, c7, l7, by omega, rfl, by go_num, HL8, S7⟩
              case measure => simp [intOf]; omega
            · have d2 : decide ((j : Int) < (xn : Int)) = false := decide_eq_false (by omega)
              have d3 : decide (j < xn) = false := decide_eq_false (by omega)
              have HF : Hid (l = bytesS s) := by
                show _ = _
                rw [HL.out, List.take_of_length_le (by rw [← HXN.out]; exact h4)]
                unfold bytesS
                rw [HPN.out]
              have S9 := Lib.hid HS.out.swap.tail
              clear HL hj h4 HS
              go_wp2
              go_ret
              exact ⟨_, _, l, HF.out, rfl, S9.out⟩
end Go.Proofs.YtolooaahaofflaaDoor.ScA
