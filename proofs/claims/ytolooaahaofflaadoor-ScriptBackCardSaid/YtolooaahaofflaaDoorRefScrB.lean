/-
  Contracts of the functions of package countermandref17 (the document's answer for layer 17), second part: Bytes. Condition: what the script reads as, and that it is small.
-/
import Derived.Test.YtolooaahaofflaaDoorRefScrA
namespace Go.Proofs.YtolooaahaofflaaDoor.RefScr
open Go.ChangeShapes Go.WideShapes Go.ChangeAt Go.RowKit Mem MutP CodeP ScriptP Hand RefCode CodeI Scr

theorem rooms_snoc (l : List Int) (x : Int) : roomsL (l ++ [x]) = roomsL l ++ eightL x := by unfold roomsL; rw [List.flatMap_append]; simp
theorem progs_snoc (l : List (List In)) (x : List In) : progsL (l ++ [x]) = progsL l ++ bytesL x := by unfold progsL; rw [List.flatMap_append]; simp
theorem items_snoc (l : List It) (x : It) : itemsL (l ++ [x]) = itemsL l ++ itL x := by unfold itemsL; rw [List.flatMap_append]; simp
theorem says_later {α : Type} {E : Enc α} {w w1 wk : World} {u : Value} {l : List α} (h : SaysL E w1 wk u l) (hb : Below w.heap.size w w1) : SaysL E w wk u l :=
  ⟨h.1.mono fun _ _ hk => Nat.le_trans hb.size hk, hb.trans (h.2.mono hb.size)⟩

set_option maxRecDepth 100000 in
set_option maxHeartbeats 2000000 in
theorem bytes_s {w : World} {G : Nat → Prop} {q : Sv} {s : Sc} (h : RdS w G q s) (hs : Small s) (hin : InSc s) :
    Calls Tryd.prog 9 #[.agg q.arr] w fun e w' => ∃ u, e = .returned (.tuple #[u, .int .i64 (bytesSE s)]) ∧ SaysL byE w w' u (bytesSR s) ∧ FitsV u := by
  obtain ⟨r0, r1, r2, r3, pA, pn, pc, xA, xn, xc⟩ := q
  have HCM := Lib.hid (may_s (h.below (new_below0 w (.cells #[.int .i64 r0, .int .i64 r1, .int .i64 r2, .int .i64 r3, .slice pA pn pc, .slice xA xn xc] 39))) hs)
  have hpn := h.pn
  have hxn := h.xn
  obtain ⟨hr, hp, hx, _, _⟩ := h
  simp only at hpn hxn hr hp hx
  have HP := Lib.hid hp
  have HX := Lib.hid hx
  have HRR := Lib.hid hr
  have HPN := Lib.hid hpn
  have HXN := Lib.hid hxn
  have HIN := Lib.hid hin
  unfold Sv.arr at *
  simp only at *
  have S0 : Hid (Sep (fun _ => False) w (w.alloc (.cells #[.int .i64 r0, .int .i64 r1, .int .i64 r2, .int .i64 r3, .slice pA pn pc, .slice xA xn xc] 39)) [blk w.heap.size (.cells #[.int .i64 r0, .int .i64 r1, .int .i64 r2, .int .i64 r3, .slice pA pn pc, .slice xA xn xc] 39)]) := (Sep.nil _ _).new _
  clear hp hx hr hpn hxn hs hin
  cases hm : mayS s with
  | false =>
    rw [hm] at HCM
    have HE : Hid (bytesSE s = 1 ∧ bytesSR s = []) := by show _ ∧ _; unfold bytesSE bytesSR; rw [hm]; exact ⟨rfl, rfl⟩
    clear hm
    go_enter Tryd.func9, Tryd.ntmps9
    go_wp2_with fail
    refine HCM.out.mono ?_
    rintro e w1 ⟨rfl, h1⟩
    have HB : Hid (Below w.heap.size w w1) := (S0.out.next h1).old
    clear h1
    go_wp2
    (try simp only [Exit.inBlock, Exit.then])
    refine bodyPost_ret (results_tmp2c rfl _ _ _) rfl ?_
    refine ⟨_, by rw [HE.out.1]; rfl, ?_⟩
    rw [HE.out.2]
    exact ⟨says_nil byE HB.out, fits_nil⟩
  | true =>
    rw [hm] at HCM
    have HE : Hid (bytesSE s = 0 ∧ bytesSR s = bytesS s) := by show _ ∧ _; unfold bytesSE bytesSR; rw [hm]; exact ⟨rfl, rfl⟩
    have HM := Lib.hid (mayS_iff.1 hm)
    have bpn : pn ≤ 8 := by rw [HPN.out]; exact HM.out.2.2.2.1.2
    have bxn : xn ≤ 200 := by rw [HXN.out]; exact HM.out.2.2.2.2.1
    have HLONG : Hid ((progsL s.ps).length ≤ 4000) := by have := HM.out.2.2.2.2.2; unfold longS at this; show _ ≤ _; omega
    clear hm
    go_enter Tryd.func9, Tryd.ntmps9
    go_wp2_with fail
    refine HCM.out.mono ?_
    rintro e w1 ⟨rfl, h1⟩
    have S1 := S0.out.next h1
    have HB1 : Hid (Below w.heap.size w w1) := S1.old
    have HK : Hid (w1.heap[w.heap.size]? = some (.cells #[.int .i64 r0, .int .i64 r1, .int .i64 r2, .int .i64 r3, .slice pA pn pc, .slice xA xn xc] 39)) := S1.blk_at 0 rfl
    have HG : Hid (w.heap.size < w1.heap.size) := lt_of_block HK.out
    have HP1 : Hid (RdN inE w1 G (.slice pA pn pc) s.ps) := HP.out.below HB1.out
    have HX1 : Hid (RdL itE w1 G (.slice xA xn xc) s.xs) := HX.out.below HB1.out
    have HCE : Hid (∀ V : World, Below w1.heap.size w1 V → ∀ j : Nat, V.cell? ⟨w.heap.size, j, none⟩ = #[Value.int .i64 r0, .int .i64 r1, .int .i64 r2, .int .i64 r3, .slice pA pn pc, .slice xA xn xc][j]?) := fun V hV j => (hV.cell (p := ⟨w.heap.size, j, none⟩) HG.out).trans (cell_block HK.out j)
    clear h1 HCM S0 HP HX S1 HK
    have S2 : Hid (Sep (fun _ => False) w1 (w1.alloc (.cells #[] 5)) [grow byE 5 (.slice (some ⟨w1.heap.size, 0, none⟩) 0 0) []]) := (Sep.nil (fun _ => False) w1).grow0 byE 5
    go_wp2
    go_loopw [4, 5] (fun u v wr => ∃ (i : Nat) (A : Option Addr) (c : Nat) (l : List Int), i ≤ 4 ∧ u = .slice A l.length c ∧ v = .int .i64 (i : Int) ∧ Hid (l = roomsL (s.r.take i)) ∧ Hid (Sep (fun _ => False) w1 wr [grow byE 5 (.slice A l.length c) l])) (fun _ v _ => 4 - (intOf v).toNat)
    case atStart => exact ⟨0, _, _, [], Nat.zero_le _, rfl, rfl, rfl, S2.out⟩
    case round =>
      obtain ⟨i, A, c, l, hi, rfl, rfl, HL, HS⟩ := hrel
      clear S2
      rcases (by omega : i < 4 ∨ 4 ≤ i) with h4 | h4
      · obtain ⟨x, hx, hk⟩ : ∃ x, s.r[i]? = some x ∧ wr.cell? ⟨w.heap.size, i, none⟩ = some (.int .i64 x) := by
          rw [HRR.out, HCE.out _ HS.out.old i]
          rcases (by omega : i = 0 ∨ i = 1 ∨ i = 2 ∨ i = 3) with rfl | rfl | rfl | rfl
          · exact ⟨r0, rfl, rfl⟩
          · exact ⟨r1, rfl, rfl⟩
          · exact ⟨r2, rfl, rfl⟩
          · exact ⟨r3, rfl, rfl⟩
        have i0 : (0 : Int) ≤ (i : Int) := by omega
        have i4 : (i : Int) < 4 := by omega
        have d0 : decide ((i : Int) < 4) = true := decide_eq_true i4
        have d1 : decide (i < 4) = true := decide_eq_true h4
        have HT : Hid (s.r.take (i + 1) = s.r.take i ++ [x]) := take_snocI _ i x hx
        have H64 : Hid (In64 x) := HIN.out.2.1 x (List.mem_of_getElem? hx)
        have HLN : Hid (l.length ≤ 40) := by show _ ≤ _; rw [HL.out, rooms_len, List.length_take]; omega
        clear hx
        go_wp2_with fail
        refine (eight_c HS.out x H64.out).mono ?_
        rintro e w5 ⟨gx, rfl, h5⟩
        have S6 : Hid (Sep (fun _ => False) w1 w5 [told byE (.slice (some ⟨gx, 0, none⟩) 8 8) (eightL x), grow byE 5 (.slice A l.length c) l]) := grow_told h5 (by rw [eight_len]; omega)
        clear h5 hk HS
        go_wp2_with (at_builtin; refine wpList_appS rfl _ _ byElem rfl rfl rfl S6.out 1 rfl (S6.out.rdL 0 rfl) (by rw [eight_len]; have := HLN.out; omega) ?_)
        intro A7 c7 w7 l7 HL7 h7
        have S7 := Lib.hid (Sep.tail h7)
        have HL8 : Hid (l7 = roomsL (s.r.take (i + 1))) := by show _ = _; rw [HL7.out, HL.out, HT.out, rooms_snoc]
        clear h7 S6 HL7 HL
        go_wp2
        go_roundw
        case rel => exact ⟨i + 1, A7, c7, l7, by omega, rfl, by go_num, HL8, S7⟩
        case measure => simp [intOf]; omega
      · have HL2 : Hid (l = roomsL s.r ∧ l.length = 32) := by
          have e : l = roomsL s.r := by rw [HL.out, List.take_of_length_le (by rw [HRR.out]; simpa using h4)]
          exact ⟨e, by rw [e, rooms_len, HRR.out]; rfl⟩
        have d0 : decide ((i : Int) < 4) = false := decide_eq_false (by omega)
        have d1 : decide (i < 4) = false := decide_eq_false (by omega)
        have k4 : wr.cell? ⟨w.heap.size, 4, none⟩ = some (.slice pA pn pc) := HCE.out _ HS.out.old 4
        have wpn : IntKind.u8.wrap (pn : Int) = (pn : Int) := by simp [IntKind.wrap, IntKind.bits, IntKind.signed]; omega
        have S3 : Hid (Sep (fun _ => False) w1 (wr.alloc (.cells #[.int .u8 (pn : Int)] 5)) [told byE (.slice (some ⟨wr.heap.size, 0, none⟩) 1 1) [(pn : Int)], grow byE 5 (.slice A l.length c) l]) := HS.out.lit_told (E := byE) 5 [(pn : Int)] (cs := #[.int .u8 (pn : Int)]) rfl (by simp) rfl
        clear HL hi h4 HS
        go_wp2_with (at_builtin; refine wpList_appS rfl _ _ byElem rfl rfl rfl S3.out 1 rfl (S3.out.rdL 0 rfl) (by have := HL2.out.2; simp; omega) ?_)
        intro A4 c4 w4 l4 HL4 h4
        have S4 := Lib.hid (Sep.tail h4)
        have HL5 : Hid (l4 = roomsL s.r ++ [(pn : Int)]) := by show _ = _; rw [HL4.out, HL2.out.1]
        clear h4 S3 HL4 k4 wpn
        go_wp2
        go_loopw [4, 6] (fun u v wr => ∃ (j : Nat) (A : Option Addr) (c : Nat) (l : List Int), j ≤ pn ∧ u = .slice A l.length c ∧ v = .int .i64 (j : Int) ∧ Hid (l = roomsL s.r ++ ((pn : Int) :: progsL (s.ps.take j))) ∧ Hid (Sep (fun _ => False) w1 wr [grow byE 5 (.slice A l.length c) l])) (fun _ v _ => pn - (intOf v).toNat)
        case atStart => exact ⟨0, _, _, l4, Nat.zero_le _, rfl, rfl, HL5.out, S4.out⟩
        case round =>
          obtain ⟨j, A, c, l, hj, rfl, rfl, HL, HS⟩ := hrel
          clear S4 HL5 HL2
          have k4 : wr.cell? ⟨w.heap.size, 4, none⟩ = some (.slice pA pn pc) := HCE.out _ HS.out.old 4
          rcases (by omega : j < pn ∨ pn ≤ j) with h4 | h4
          · obtain ⟨p, hp⟩ : ∃ p, s.ps[j]? = some p := ⟨_, List.getElem?_eq_getElem (by rw [← HPN.out]; exact h4)⟩
            obtain ⟨b, off, A', c', rfl, hb, _, e0, hrd⟩ := (HP1.out.below HS.out.old).at_ hp
            have HT : Hid (s.ps.take (j + 1) = s.ps.take j ++ [p]) := take_snocI _ j p hp
            have HME : Hid (p ∈ s.ps) := List.mem_of_getElem? hp
            have HPB : Hid (bytesE p = 0 ∧ bytesR p = bytesL p) := by
              have := HM.out.2.1 p HME.out
              show _ ∧ _
              unfold bytesE bytesR
              rw [this]
              exact ⟨rfl, rfl⟩
            have HC := Lib.hid (bytes_r hrd (HIN.out.2.2.1 p HME.out))
            have HLN : Hid (l.length + (bytesL p).length ≤ 10000) := by
              have h1 : (progsL (s.ps.take (j + 1))).length ≤ (progsL s.ps).length := by
                have e : progsL s.ps = progsL (s.ps.take (j + 1)) ++ progsL (s.ps.drop (j + 1)) := by unfold progsL; rw [← List.flatMap_append, List.take_append_drop]
                rw [e, List.length_append]; omega
              rw [HT.out, progs_snoc, List.length_append] at h1
              have := HLONG.out
              show _ ≤ _
              rw [HL.out, List.length_append, List.length_cons, rooms_len, HRR.out]
              simp only [List.length_cons, List.length_nil]
              omega
            have i0 : (0 : Int) ≤ (j : Int) := by omega
            have i1 : (j : Int) < (pn : Int) := by omega
            have d2 : decide ((j : Int) < (pn : Int)) = true := decide_eq_true i1
            have d3 : decide (j < pn) = true := decide_eq_true h4
            obtain ⟨m, hm⟩ : ∃ m, p.length = m := ⟨_, rfl⟩
            rw [hm] at e0 HC
            clear hp hb hrd hm
            go_wp2_with fail
            refine HC.out.mono ?_
            rintro e w5 ⟨u, rfl, hsy, _⟩
            rw [HPB.out.2] at hsy
            obtain ⟨Au, cu, rfl⟩ := hsy.1.form
            obtain ⟨z, hz⟩ : ∃ z, (bytesL p).length = z := ⟨_, rfl⟩
            have S6 : Hid (Sep (fun _ => False) w1 w5 [told byE (.slice Au (bytesL p).length cu) (bytesL p), grow byE 5 (.slice A l.length c) l]) := SaysL.sep HS.out hsy
            obtain ⟨zl, hzl⟩ : ∃ zl, bytesL p = zl := ⟨_, rfl⟩
            have HZL := Lib.hid hzl
            rw [hzl] at S6 HLN ⊢
            clear hsy HS k4 e0 hz hzl HC
            go_wp2_with (at_builtin; refine wpList_appS rfl _ _ byElem rfl rfl rfl S6.out 1 rfl (S6.out.rdL 0 rfl) (by have := HLN.out; omega) ?_)
            intro A7 c7 w7 l7 HL7 h7
            have S7 := Lib.hid (Sep.tail h7)
            have HL8 : Hid (l7 = roomsL s.r ++ ((pn : Int) :: progsL (s.ps.take (j + 1)))) := by show _ = _; rw [HL7.out, HL.out, HT.out, progs_snoc, HZL.out]; simp
            clear h7 S6 HL7 HL
            go_wp2
            go_roundw
            case rel => exact ⟨j + 1, A7, c7, l7, by omega, rfl, by go_num, HL8, S7⟩
            case measure => simp [intOf]; omega
          · have d2 : decide ((j : Int) < (pn : Int)) = false := decide_eq_false (by omega)
            have d3 : decide (j < pn) = false := decide_eq_false (by omega)
            have HL2 : Hid (l = roomsL s.r ++ ((pn : Int) :: progsL s.ps)) := by show _ = _; rw [HL.out, List.take_of_length_le (by rw [← HPN.out]; exact h4)]
            have S3 := Lib.hid HS.out
            clear HL hj h4 HS
            go_wp2
            clear k4
            go_loopw [4, 9] (fun u v wr => ∃ (j : Nat) (A : Option Addr) (c : Nat) (l : List Int), j ≤ xn ∧ u = .slice A l.length c ∧ v = .int .i64 (j : Int) ∧ Hid (l = roomsL s.r ++ ((pn : Int) :: (progsL s.ps ++ itemsL (s.xs.take j)))) ∧ Hid (Sep (fun _ => False) w1 wr [grow byE 5 (.slice A l.length c) l])) (fun _ v _ => xn - (intOf v).toNat)
            case atStart => exact ⟨0, _, _, l, Nat.zero_le _, rfl, rfl, by show _ = _; rw [HL2.out]; simp [itemsL], S3.out⟩
            case round =>
              clear S3 HL2
              obtain ⟨j, A, c, l, hj, rfl, rfl, HL, HS⟩ := hrel
              have k5 : wr.cell? ⟨w.heap.size, 5, none⟩ = some (.slice xA xn xc) := HCE.out _ HS.out.old 5
              rcases (by omega : j < xn ∨ xn ≤ j) with h4 | h4
              · obtain ⟨x, hx⟩ : ∃ x, s.xs[j]? = some x := ⟨_, List.getElem?_eq_getElem (by rw [← HXN.out]; exact h4)⟩
                obtain ⟨b, off, rfl, hb, e0, e1, e2⟩ := it_at HX1.out hx
                have HT : Hid (s.xs.take (j + 1) = s.xs.take j ++ [x]) := take_snocI _ j x hx
                have HME : Hid (x ∈ s.xs) := List.mem_of_getElem? hx
                obtain ⟨o0, a0⟩ := rightI_small (HM.out.2.2.1 x HME.out)
                have HXN64 : Hid (In64 x.n) := (HIN.out.2.2.2 x HME.out).2.2
                have HLN : Hid (l.length ≤ 10000) := by
                  have := HLONG.out
                  show _ ≤ _
                  rw [HL.out, List.length_append, List.length_cons, List.length_append, rooms_len, HRR.out, items_len, List.length_take]
                  simp only [List.length_cons, List.length_nil]
                  omega
                have HCL : Hid (∀ V : World, Below w1.heap.size w1 V → (fun V : World => V.cell? ⟨w.heap.size, 5, none⟩ = some (.slice (some ⟨b, off, none⟩) xn xc) ∧ V.cell? ⟨b, off + j * 3, none⟩ = some (.int .i64 x.d) ∧ V.cell? ⟨b, off + j * 3 + 1, none⟩ = some (.int .i64 x.a)) V) := fun V hV => ⟨HCE.out V hV 5, (hV.cell (p := ⟨b, off + j * 3, none⟩) hb).trans e0, (hV.cell (p := ⟨b, off + j * 3 + 1, none⟩) hb).trans e1⟩
                have HC3 : Hid (∀ V : World, Below w1.heap.size w1 V → V.cell? ⟨b, off + j * 3 + 2, none⟩ = some (.int .i64 x.n)) := fun V hV => (hV.cell (p := ⟨b, off + j * 3 + 2, none⟩) hb).trans e2
                have i0 : (0 : Int) ≤ (j : Int) := by omega
                have i1 : (j : Int) < (xn : Int) := by omega
                have d2 : decide ((j : Int) < (xn : Int)) = true := decide_eq_true i1
                have d3 : decide (j < xn) = true := decide_eq_true h4
                have wd : IntKind.u8.wrap x.d = x.d := by simp [IntKind.wrap, IntKind.bits, IntKind.signed]; omega
                have wa : IntKind.u8.wrap x.a = x.a := by simp [IntKind.wrap, IntKind.bits, IntKind.signed]; omega
                clear hx hb e0 e1 e2 o0 a0
                go_upto_region 17 with (fail)
                have S2 : Hid (Sep (fun _ => False) w1 wr.drew [grow byE 5 (.slice A l.length c) l]) := HS.out.drew
                clear k5
                refine Held.begin_ (fun V : World => V.cell? ⟨w.heap.size, 5, none⟩ = some (.slice (some ⟨b, off, none⟩) xn xc) ∧ V.cell? ⟨b, off + j * 3, none⟩ = some (.int .i64 x.d) ∧ V.cell? ⟨b, off + j * 3 + 1, none⟩ = some (.int .i64 x.a)) 17 (by kernel_rfl) ?_
                have hC : (fun V : World => V.cell? ⟨w.heap.size, 5, none⟩ = some (.slice (some ⟨b, off, none⟩) xn xc) ∧ V.cell? ⟨b, off + j * 3, none⟩ = some (.int .i64 x.d) ∧ V.cell? ⟨b, off + j * 3 + 1, none⟩ = some (.int .i64 x.a)) wr.drew := HCL.out _ S2.out.old
                refine Held.take 0 (v := ?_) hC rfl (by kernel_rfl) (by kernel_rfl) (by kernel_rfl) (by kernel_rfl) (fun _ _ _ h => h) ?_ ?_; rotate_left; · (intro W hW; obtain ⟨k0, k1, k2⟩ := hW; go_simp <;> with_reducible rfl)
                try simp only [Act.put, List.setIfInBounds_toArray, List.set_cons_zero, List.set_cons_succ]
                refine Held.take 1 (v := ?_) hC rfl (by kernel_rfl) (by kernel_rfl) (by kernel_rfl) (by kernel_rfl) (fun _ _ _ h => h) ?_ ?_; rotate_left; · (intro W hW; obtain ⟨k0, k1, k2⟩ := hW; go_simp <;> with_reducible rfl)
                try simp only [Act.put, List.setIfInBounds_toArray, List.set_cons_zero, List.set_cons_succ]
                refine Held.take 2 (v := ?_) hC rfl (by kernel_rfl) (by kernel_rfl) (by kernel_rfl) (by kernel_rfl) (fun _ _ _ h => h) ?_ ?_; rotate_left; · (intro W hW; obtain ⟨k0, k1, k2⟩ := hW; go_simp <;> with_reducible rfl)
                try simp only [Act.put, List.setIfInBounds_toArray, List.set_cons_zero, List.set_cons_succ]
                refine Held.take 3 (v := ?_) hC rfl (by kernel_rfl) (by kernel_rfl) (by kernel_rfl) (by kernel_rfl) (fun _ _ _ h => h) ?_ ?_; rotate_left; · (intro W hW; obtain ⟨k0, k1, k2⟩ := hW; go_simp <;> with_reducible rfl)
                try simp only [Act.put, List.setIfInBounds_toArray, List.set_cons_zero, List.set_cons_succ]
                refine Held.take 4 (v := ?_) hC rfl (by kernel_rfl) (by kernel_rfl) (by kernel_rfl) (by kernel_rfl) (fun _ _ _ h => h) ?_ ?_; rotate_left; · (intro W hW; obtain ⟨k0, k1, k2⟩ := hW; go_simp <;> with_reducible rfl)
                try simp only [Act.put, List.setIfInBounds_toArray, List.set_cons_zero, List.set_cons_succ]
                refine Held.take 5 (v := ?_) hC rfl (by kernel_rfl) (by kernel_rfl) (by kernel_rfl) (by kernel_rfl) (fun _ _ _ h => h) ?_ ?_; rotate_left; · (intro W hW; obtain ⟨k0, k1, k2⟩ := hW; go_simp <;> with_reducible rfl)
                try simp only [Act.put, List.setIfInBounds_toArray, List.set_cons_zero, List.set_cons_succ]
                refine Held.take 6 (v := ?_) hC rfl (by kernel_rfl) (by kernel_rfl) (by kernel_rfl) (by kernel_rfl) (fun _ _ _ h => h) ?_ ?_; rotate_left; · (intro W hW; obtain ⟨k0, k1, k2⟩ := hW; go_simp <;> with_reducible rfl)
                try simp only [Act.put, List.setIfInBounds_toArray, List.set_cons_zero, List.set_cons_succ]
                refine Held.take 7 (v := ?_) hC rfl (by kernel_rfl) (by kernel_rfl) (by kernel_rfl) (by kernel_rfl) (fun _ _ _ h => h) ?_ ?_; rotate_left; · (intro W hW; obtain ⟨k0, k1, k2⟩ := hW; go_simp <;> with_reducible rfl)
                try simp only [Act.put, List.setIfInBounds_toArray, List.set_cons_zero, List.set_cons_succ]
                refine Held.take 8 (v := ?_) hC rfl (by kernel_rfl) (by kernel_rfl) (by kernel_rfl) (by kernel_rfl) (fun _ _ _ h => h) ?_ ?_; rotate_left; · (intro W hW; obtain ⟨k0, k1, k2⟩ := hW; go_simp <;> with_reducible rfl)
                try simp only [Act.put, List.setIfInBounds_toArray, List.set_cons_zero, List.set_cons_succ]
                refine Held.take 9 (v := ?_) hC rfl (by kernel_rfl) (by kernel_rfl) (by kernel_rfl) (by kernel_rfl) (fun _ _ _ h => h) ?_ ?_; rotate_left; · (intro W hW; obtain ⟨k0, k1, k2⟩ := hW; go_simp <;> with_reducible rfl)
                try simp only [Act.put, List.setIfInBounds_toArray, List.set_cons_zero, List.set_cons_succ]
                refine Held.take 10 (v := ?_) hC rfl (by kernel_rfl) (by kernel_rfl) (by kernel_rfl) (by kernel_rfl) (fun _ _ _ h => h) ?_ ?_; rotate_left; · (intro W hW; obtain ⟨k0, k1, k2⟩ := hW; go_simp <;> with_reducible rfl)
                try simp only [Act.put, List.setIfInBounds_toArray, List.set_cons_zero, List.set_cons_succ]
                refine Held.take 11 (v := ?_) hC rfl (by kernel_rfl) (by kernel_rfl) (by kernel_rfl) (by kernel_rfl) (fun _ _ _ h => h) ?_ ?_; rotate_left; · (intro W hW; obtain ⟨k0, k1, k2⟩ := hW; go_simp <;> with_reducible rfl)
                try simp only [Act.put, List.setIfInBounds_toArray, List.set_cons_zero, List.set_cons_succ]
                refine Held.take 12 (v := ?_) hC rfl (by kernel_rfl) (by kernel_rfl) (by kernel_rfl) (by kernel_rfl) (fun _ _ _ h => h) ?_ ?_; rotate_left; · (intro W hW; obtain ⟨k0, k1, k2⟩ := hW; go_simp <;> with_reducible rfl)
                try simp only [Act.put, List.setIfInBounds_toArray, List.set_cons_zero, List.set_cons_succ]
                refine Held.take 13 (v := ?_) hC rfl (by kernel_rfl) (by kernel_rfl) (by kernel_rfl) (by kernel_rfl) (fun _ _ _ h => h) ?_ ?_; rotate_left; · (intro W hW; obtain ⟨k0, k1, k2⟩ := hW; go_simp <;> with_reducible rfl)
                try simp only [Act.put, List.setIfInBounds_toArray, List.set_cons_zero, List.set_cons_succ]
                refine Held.take 14 (v := ?_) hC rfl (by kernel_rfl) (by kernel_rfl) (by kernel_rfl) (by kernel_rfl) (fun _ _ _ h => h) ?_ ?_; rotate_left; · (intro W hW; obtain ⟨k0, k1, k2⟩ := hW; go_simp <;> with_reducible rfl)
                try simp only [Act.put, List.setIfInBounds_toArray, List.set_cons_zero, List.set_cons_succ]
                clear hC
                generalize wr.drew = w0 at *
                refine Held.only 15 (by kernel_rfl) rfl ?_
                intro K hK
                go_simp
                have S3 : Hid (Sep (fun _ => False) w1 (w0.alloc (.cells #[.int .u8 x.d, .int .u8 x.a] 5)) [told byE (.slice (some ⟨w0.heap.size, 0, none⟩) 2 2) [x.d, x.a], grow byE 5 (.slice A l.length c) l]) := S2.out.lit_told (E := byE) 5 [x.d, x.a] (cs := #[.int .u8 x.d, .int .u8 x.a]) rfl (by simp) rfl
                refine hK.out _ _ (fun _ => HCL.out _ S3.out.old) ?_
                clear hK K
                try simp only [Act.put, List.setIfInBounds_toArray, List.set_cons_zero, List.set_cons_succ]
                refine Held.only 16 (by kernel_rfl) rfl ?_
                intro K hK
                refine wp_appC (.tmp 58) (.tmp 73) byElem rfl rfl rfl S3.out 1 rfl (S3.out.rdL 0 rfl) (by have := HLN.out; simp; omega) ?_
                intro A4 c4 w4 l4 HL4 h4
                have S4 : Hid (Sep (fun _ => False) w1 w4 [told byE (.slice (some ⟨w0.heap.size, 0, none⟩) 2 2) [x.d, x.a], grow byE 5 (.slice A4 l4.length c4) l4]) := h4
                clear h4
                refine hK.out _ _ (fun _ => HCL.out _ S4.out.old) ?_
                clear hK K
                try simp only [Act.put, List.setIfInBounds_toArray, List.set_cons_zero, List.set_cons_succ]
                have S5 : Hid (Sep (fun _ => False) w1 w4 [grow byE 5 (.slice A4 l4.length c4) l4]) := S4.out.tail
                have HL4N : Hid (l4.length ≤ 10002) := by have := HLN.out; show _ ≤ _; rw [HL4.out]; simp; omega
                clear S4 S3 S2 HS
                refine Held.only 17 (by kernel_rfl) rfl ?_
                intro K hK
                go_simp
                refine hK.out _ _ (fun h => absurd rfl h) ?_
                clear hK K
                try simp only [Act.put]
                refine Held.done (by kernel_rfl) ?_ _
                have q3 := HC3.out _ S5.out.old
                have k5 : w4.cell? ⟨w.heap.size, 5, none⟩ = some (.slice (some ⟨b, off, none⟩) xn xc) := HCE.out _ S5.out.old 5
                go_wp2_with fail
                refine (eight_c S5.out x.n HXN64.out).mono ?_
                rintro e w5 ⟨gx, rfl, h5⟩
                have S6 : Hid (Sep (fun _ => False) w1 w5 [told byE (.slice (some ⟨gx, 0, none⟩) 8 8) (eightL x.n), grow byE 5 (.slice A4 l4.length c4) l4]) := grow_told h5 (by rw [eight_len]; omega)
                clear h5 q3 k5 S5
                go_wp2_with (at_builtin; refine wpList_appS rfl _ _ byElem rfl rfl rfl S6.out 1 rfl (S6.out.rdL 0 rfl) (by rw [eight_len]; have := HL4N.out; omega) ?_)
                intro A7 c7 w7 l7 HL7 h7
                have S7 := Lib.hid (Sep.tail h7)
                have HL8 : Hid (l7 = roomsL s.r ++ ((pn : Int) :: (progsL s.ps ++ itemsL (s.xs.take (j + 1))))) := by
                  show _ = _
                  rw [HL7.out, HL4.out, HL.out, HT.out, items_snoc]
                  unfold itL
                  simp
                clear h7 S6 HL7 HL HL4
                go_wp2
                go_roundw
                case rel => exact ⟨j + 1, A7, c7, l7, by omega, rfl, by go_num, HL8, S7⟩
                case measure => simp [intOf]; omega
              · have d2 : decide ((j : Int) < (xn : Int)) = false := decide_eq_false (by omega)
                have d3 : decide (j < xn) = false := decide_eq_false (by omega)
                have HF : Hid (l = bytesS s) := by
                  show _ = _
                  rw [HL.out, List.take_of_length_le (by rw [← HXN.out]; exact h4)]
                  unfold bytesS
                  rw [HPN.out]
                have HLN : Hid (l.length ≤ 10000) := by
                  have := HLONG.out
                  show _ ≤ _
                  rw [HL.out, List.length_append, List.length_cons, List.length_append, rooms_len, HRR.out, items_len, List.length_take]
                  simp only [List.length_cons, List.length_nil]
                  omega
                clear HL hj h4
                go_wp2
                (try simp only [Exit.inBlock, Exit.then])
                refine bodyPost_ret (results_tmp2c rfl _ _ _) rfl ?_
                refine ⟨_, by rw [HE.out.1]; rfl, ?_⟩
                rw [HE.out.2, ← HF.out]
                exact ⟨says_later (says_grow HS.out (by have := HLN.out; omega)) HB1.out, fits_grow HS.out⟩
end Go.Proofs.YtolooaahaofflaaDoor.RefScr
