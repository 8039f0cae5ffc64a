/-
  The walk of the law TreePaths over any package that meets 'Tr': it returns true and leaves old memory as it was. Conditions: none but 'Tr'.
-/
import Derived.Test.YtgmbpknmjeegiaaTreeReaches
namespace Go.Proofs.Ytgmbpknmjeegiaa.TreeI
open Go.ChangeShapes Go.WideShapes Go.ChangeAt Go.RowKit Mem TreeP RefTree Hand

theorem rd_take {w : World} {G : Nat → Prop} {A : Option Addr} {n c : Nat} {l : List Int} (h : Rd w G (.slice A n c) l) (k c' : Nat) (hk : k ≤ l.length) : Rd w G (.slice A k c') (l.take k) := by
  obtain ⟨A', c0, e, hm, hx⟩ := h
  injection e with e1
  subst e1
  have hl : (l.take k).length = k := by rw [List.length_take]; omega
  refine ⟨A, c', by rw [hl], by omega, fun hp => ?_⟩
  rw [hl] at hp
  obtain ⟨b, off, ha, hg, hb, hc⟩ := hx (by omega)
  refine ⟨b, off, ha, hg, hb, fun j hj => ?_⟩
  rw [hl] at hj
  have : (l.take k).getD j 0 = l.getD j 0 := by rw [List.getD_eq_getElem?_getD, List.getElem?_take_of_lt hj, ← List.getD_eq_getElem?_getD]
  rw [this]
  exact hc j (by omega)

set_option maxHeartbeats 4000000 in
set_option maxRecDepth 100000 in
theorem paths_walk (I : Tr) (A : Option Addr) (len cap : Nat) (zs : List (Bool × Bool × Int)) (a1 : Int) (w : World) (hlen : len ≤ 9223372036854775807) (h10 : 0 ≤ a1) (h11 : a1 ≤ 255)
    (hz : len ≤ 1000000 → zs.length = len ∧ RdL actE w (fun b => b < w.heap.size) (.slice A len cap) zs ∧ ∀ z ∈ zs, In64 z.2.2) :
    Calls Try.prog 5 #[.slice A len cap, .int .u8 a1] w fun e w' => e = .returned (.bool true) ∧ Below w.heap.size w w' := by
  have HZ := Lib.hid hz
  clear hz
  by_cases h40 : len ≤ 40
  · obtain ⟨hzl, hzr, hzo⟩ := HZ.out (by omega)
    have HZL := Lib.hid hzl
    have HZR := Lib.hid hzr
    have HZO := Lib.hid hzo
    clear hzl hzr hzo HZ
    go_enter Try.func5, Try.ntmps5
    go_wp2_with fail
    refine (awake_any I _).mono ?_
    rintro e w1 ⟨rfl, hb1⟩
    have S1 := Lib.hid ((Sep.nil (fun _ => False) w).next hb1)
    clear hb1
    go_wp2_with fail
    refine (t_new S1.out I 40 (by omega) (by omega)).mono ?_
    rintro e w2 ⟨a, rfl, h2⟩
    have S2 := Lib.hid h2
    clear h2 S1
    go_wp2
    go_loopw [28] (fun u wr => ∃ j : Nat, j ≤ len ∧ u = .int .i64 j ∧ Hid (∃ L, Sep (fun _ => False) w wr [tr I (.pointer (some a)) L 40])) (fun u _ => len - (intOf u).toNat)
    case atStart => exact ⟨0, Nat.zero_le _, rfl, _, S2.out⟩
    case round =>
      obtain ⟨j, hj, rfl, HS⟩ := hrel
      obtain ⟨L, hS⟩ := HS.out
      have SL := Lib.hid hS
      clear HS hS S2
      by_cases hlt : j < len
      · have hx : zs[j]? = some (zs[j]'(by rw [HZL.out]; exact hlt)) := List.getElem?_eq_getElem _
        generalize zs[j]'(by rw [HZL.out]; exact hlt) = z at hx
        have hze := HZO.out z (List.mem_of_getElem? hx)
        have HE := Lib.hid hze
        obtain ⟨bb, off, rfl, _, hbb, c0, c1, c2⟩ := act_cells HZR.out hx
        have hb := SL.out.old
        have q0 := (hb.cell (p := ⟨bb, off + j * 3, none⟩) hbb).trans c0
        have q1 := (hb.cell (p := ⟨bb, off + j * 3 + 1, none⟩) hbb).trans c1
        have q2 := (hb.cell (p := ⟨bb, off + j * 3 + 2, none⟩) hbb).trans c2
        obtain ⟨r, c, o⟩ := z
        have S4 := Lib.hid (SL.out.new (.cells #[.bool r, .bool c, .int .i64 o] 32))
        clear hx hze c0 c1 c2 hb SL
        go_wp2_with fail
        refine (t_do S4.out 1 rfl r c o HE.out rfl rfl rfl).mono ?_
        rintro e w6 ⟨rfl, h6⟩
        have S6 : Hid (∃ L, Sep (fun _ => False) w w6 [tr I (.pointer (some a)) L 40]) := ⟨_, h6.tail⟩
        clear h6 S4
        go_wp2
        go_roundw
        case rel => exact ⟨j + 1, by omega, by go_num, S6⟩
        case measure => simp [intOf]; omega
      · have hok := t_ok SL.out 0 rfl
        have HOK := Lib.hid hok
        have hm40 : (L.length : Int) ≤ 40 := hok.len
        clear hok
        go_wp2_with fail
        refine (t_len SL.out 0 rfl).mono ?_
        rintro e w5 ⟨rfl, h5⟩
        have S5 := Lib.hid h5
        clear h5 SL
        rcases Nat.eq_zero_or_pos L.length with hl | hl
        · have HL0 := Lib.hid hl
          rw [hl]
          clear hl
          go_wp2_with fail
          refine (t_len S5.out 0 rfl).mono ?_
          rintro e w6 ⟨rfl, h6⟩
          rw [HL0.out]
          have S6 := Lib.hid h6
          clear h6 S5
          go_wp2
          go_ret
          exact ⟨rfl, S6.out.old⟩
        · obtain ⟨m, hm⟩ : ∃ m, L.length = m := ⟨_, rfl⟩
          have HM := Lib.hid hm
          rw [hm] at hl hm40 ⊢
          obtain ⟨x, hx⟩ : ∃ x : Nat, a1.tmod (m : Int) = x := ⟨(a1.tmod m).toNat, by have := Int.tmod_nonneg (m : Int) h10; omega⟩
          have hx2 : a1 % (m : Int) = x := by rw [← Int.tmod_eq_emod_of_nonneg h10]; exact hx
          have hxm : x < m := by have := Int.tmod_lt_of_pos a1 (show (0 : Int) < m by omega); omega
          have htx : there L (x : Int) = true := there_iff.2 (by rw [HM.out]; omega)
          have hcp := chain_path HOK.out.wf x htx
          have hps := fun i k h => path_step HOK.out.wf (x : Int) i k h
          have hpl := path_len (L := L) (x : Int)
          have w1x : IntKind.i64.wrap a1 = a1 := IntWalk.i64_in _ (by omega)
          have m0 : ((m : Int) == 0) = false := by simp; omega
          have hml : decide ((m : Int) < 1) = false := by simp; omega
          have INX := Lib.hid (show In64 (x : Int) from ⟨by omega, by omega⟩)
          rw [HM.out] at hpl
          obtain ⟨r, hpr, hc1, hce, hcc⟩ := hcp
          have HPS := Lib.hid hps
          have HPR := Lib.hid hpr
          have HCE := Lib.hid hce
          have HCC := Lib.hid hcc
          clear hm htx hxm hps hpr hce hcc
          generalize hcy : chainT L (x : Int) = cy at *
          generalize hpy : pathT L (x : Int) = py at *
          have HCY := Lib.hid hcy
          have HPY := Lib.hid hpy
          have hlen2 : cy.length ≤ py.length := by rw [HPR.out, List.length_append]; omega
          clear hcy hpy
          go_wp2_with fail
          refine (t_len S5.out 0 rfl).mono ?_
          rintro e w6 ⟨rfl, h6⟩
          have S6 := Lib.hid h6
          rw [HM.out]
          clear h6 S5
          go_wp2_with fail
          clear w1x m0 hx hx2
          refine (t_path S6.out 0 rfl x INX.out HPY.out).mono ?_
          rintro e w7 ⟨A7, c7, rfl, h7, r7, _, hcap7⟩
          have S7 := Lib.hid h7
          have R7 := Lib.hid r7
          clear h7 r7 S6
          go_wp2_with fail
          refine (t_chain S7.out 0 rfl x INX.out HCY.out).mono ?_
          rintro e w8 ⟨A8, c8, rfl, h8, r8, b8, _⟩
          have S8 := Lib.hid h8
          have R8 := Lib.hid r8
          have R78 := Lib.hid (rd_below R7.out b8)
          clear h8 r8 b8 S7 R7
          obtain ⟨b7, o7, e7, _, _, _⟩ := Rd.cells R78.out (by omega)
          subst e7
          have RT8 := Lib.hid (rd_take R78.out cy.length c7 hlen2)
          have l1 : decide ((cy.length : Int) < 1) = false := by simp; omega
          have l2 : decide (py.length < cy.length) = false := by simp; omega
          have l3 : (cy.length : Int) ≤ (c7 : Int) := by omega
          have l4 : (0 : Int) ≤ (cy.length : Int) := by omega
          have HTK : Hid (py.take cy.length = cy) := by show _ = _; rw [HPR.out, List.take_left']; rfl
          go_wp2_with fail
          refine (SameI.same_any R8.out RT8.out).mono ?_
          rintro e w9 ⟨rfl, n9, rfl⟩
          rw [HTK.out]
          rw [show decide (cy = cy) = true from by simp]
          have S9 := Lib.hid (S8.out.drewN n9)
          have R79 : Hid (Rd (w8.drewN n9) (fun _ => True) (.slice (some ⟨b7, o7, none⟩) py.length c7) py) := R78.out
          have R89 : Hid (Rd (w8.drewN n9) (fun _ => True) (.slice A8 cy.length c8) cy) := R8.out
          generalize w8.drewN n9 = w9 at *
          clear S8 R8 R78 RT8 HTK
          go_wp2
          go_loopw [74] (fun t wr => ∃ i : Nat, i ≤ py.length ∧ t = .int .i64 i ∧ Hid (Sep (fun _ => False) w wr [tr I (.pointer (some a)) L 40]) ∧ Hid (Rd wr (fun _ => True) (.slice (some ⟨b7, o7, none⟩) py.length c7) py) ∧ Hid (Rd wr (fun _ => True) (.slice A8 cy.length c8) cy)) (fun t _ => py.length - (intOf t).toNat)
          case atStart => exact ⟨0, Nat.zero_le _, rfl, S9, R79, R89⟩
          case round =>
            clear S9 R79 R89
            obtain ⟨i, hi, rfl, SI, RP, RC⟩ := hrel
            by_cases hlt2 : i < py.length
            · have hk : py[i]? = some (py.getD i 0) := by rw [List.getD_eq_getElem?_getD, List.getElem?_eq_getElem hlt2]; rfl
              obtain ⟨hkt, hko⟩ := HPS.out i _ hk
              obtain ⟨b7', o7', e7', _, _, hc7⟩ := Rd.cells RP.out (by omega)
              injection e7' with e7'
              injection e7' with e71 e72
              subst e71 e72
              have q7 := hc7 i hlt2
              have hkb := there_iff.1 hkt
              rw [HM.out] at hkb
              by_cases hi1 : i + 1 < py.length
              · have q8 := hc7 (i + 1) hi1
                have ho : py[i + 1]? = some (py.getD (i + 1) 0) := by rw [List.getD_eq_getElem?_getD, List.getElem?_eq_getElem hi1]; rfl
                have hoe : py.getD (i + 1) (-1) = py.getD (i + 1) 0 := by rw [List.getD_eq_getElem?_getD, List.getD_eq_getElem?_getD, ho]; rfl
                have hot := (HPS.out (i + 1) _ ho).1
                rw [hoe] at hko
                have hob := there_iff.1 hot
                rw [HM.out] at hob
                have hone : (kidsT L (py.getD (i + 1) 0)).count (py.getD i 0) = 1 := count_one ((kids_sorted L _).imp fun h => by omega) (kids_mem hot hkt hko)
                have hcut : i + 1 < cy.length → cutT L (py.getD i 0) = false := fun hl => by
                  refine HCC.out i _ hl ?_
                  rw [← hk, HPR.out, List.getElem?_append_left (by omega)]
                have HCUT := Lib.hid hcut
                have HONE := Lib.hid hone
                have HKO := Lib.hid hko
                clear hcut hone hko hk ho hoe hkt hot hc7
                generalize py.getD i 0 = k at *
                generalize py.getD (i + 1) 0 = o at *
                have INK := Lib.hid (show In64 k from ⟨by omega, by omega⟩)
                have INO := Lib.hid (show In64 o from ⟨by omega, by omega⟩)
                have e1 : (o != o) = false := by simp
                have e2 : 0 ≤ o := by omega
                have ii1 : (i : Int) + 1 < (py.length : Int) := by omega
                obtain ⟨_, hkm⟩ := hkb
                obtain ⟨_, hom⟩ := hob
                go_wp2_with fail
                refine (t_overb SI.out 0 rfl k INK.out HKO.out).mono ?_
                rintro e w10 ⟨rfl, h10, b10⟩
                have S10 := Lib.hid h10
                have RP10 := Lib.hid (rd_below RP.out b10)
                have RC10 := Lib.hid (rd_below RC.out b10)
                clear h10 b10 SI RP RC q7 q8
                by_cases hic : i + 1 < cy.length
                · have d1 : (i : Int) < (cy.length : Int) - 1 := by omega
                  go_wp2_with fail
                  refine (t_cutb S10.out 0 rfl k INK.out (HCUT.out hic)).mono ?_
                  rintro e w11 ⟨rfl, h11, b11⟩
                  have S11 := Lib.hid h11
                  have RP11 := Lib.hid (rd_below RP10.out b11)
                  have RC11 := Lib.hid (rd_below RC10.out b11)
                  clear h11 b11 S10 RP10 RC10
                  go_wp2_with fail
                  refine (t_kids S11.out 0 rfl o INO.out rfl).mono ?_
                  rintro e wk ⟨Ak, ck, rfl, hk, rk, bk, _⟩
                  have SK := Lib.hid hk
                  have RK := Lib.hid rk
                  have RP2 := Lib.hid (rd_below RP11.out bk)
                  have RC2 := Lib.hid (rd_below RC11.out bk)
                  clear hk rk bk
                  go_wp2_with fail
                  refine (in_any RK.out k).mono ?_
                  rintro e wk2 ⟨rfl, rfl⟩
                  rw [HONE.out]
                  go_wp2
                  go_roundw
                  case rel => exact ⟨i + 1, by omega, by go_num, SK, RP2, RC2⟩
                  case measure => simp [intOf]; omega
                · have d1 : ¬ (i : Int) < (cy.length : Int) - 1 := by omega
                  go_wp2_with fail
                  refine (t_kids S10.out 0 rfl o INO.out rfl).mono ?_
                  rintro e wk ⟨Ak, ck, rfl, hk, rk, bk, _⟩
                  have SK := Lib.hid hk
                  have RK := Lib.hid rk
                  have RP2 := Lib.hid (rd_below RP10.out bk)
                  have RC2 := Lib.hid (rd_below RC10.out bk)
                  clear hk rk bk
                  go_wp2_with fail
                  refine (in_any RK.out k).mono ?_
                  rintro e wk2 ⟨rfl, rfl⟩
                  rw [HONE.out]
                  go_wp2
                  go_roundw
                  case rel => exact ⟨i + 1, by omega, by go_num, SK, RP2, RC2⟩
                  case measure => simp [intOf]; omega
              · have hko1 : overT L (py.getD i 0) = -1 := by rw [hko, List.getD_eq_getElem?_getD, List.getElem?_eq_none (by omega)]; rfl
                have HKO := Lib.hid hko1
                clear hko1 hko hk hkt hc7
                generalize py.getD i 0 = k at *
                have INK := Lib.hid (show In64 k from ⟨by omega, by omega⟩)
                have ii1 : ¬ (i : Int) + 1 < (py.length : Int) := by omega
                have d1 : ¬ (i : Int) < (cy.length : Int) - 1 := by omega
                go_wp2_with fail
                refine (t_overb SI.out 0 rfl k INK.out HKO.out).mono ?_
                rintro e w10 ⟨rfl, h10, b10⟩
                have S10 := Lib.hid h10
                have RP10 := Lib.hid (rd_below RP.out b10)
                have RC10 := Lib.hid (rd_below RC.out b10)
                clear h10 b10 SI RP RC q7
                go_wp2
                go_roundw
                case rel => exact ⟨i + 1, by omega, by go_num, S10, RP10, RC10⟩
                case measure => simp [intOf]; omega
            · rcases HCE.out with hr | ⟨kl, hkl, hkc⟩
              · have hll : cy.length = py.length := by rw [HPR.out, hr, List.append_nil]
                have e1 : ((cy.length : Int) == (py.length : Int)) = true := by rw [hll]; simp
                clear hll hr
                go_wp2
                go_ret
                exact ⟨rfl, SI.out.old⟩
              · by_cases hll : cy.length = py.length
                · have e1 : ((cy.length : Int) == (py.length : Int)) = true := by rw [hll]; simp
                  clear hll hkl hkc
                  go_wp2
                  go_ret
                  exact ⟨rfl, SI.out.old⟩
                · have e1 : ((cy.length : Int) == (py.length : Int)) = false := by simp; omega
                  obtain ⟨b8, o8, rfl, _, _, hc8⟩ := Rd.cells RC.out (by omega)
                  obtain ⟨n8, hn8⟩ : ∃ n8, n8 = cy.length - 1 := ⟨_, rfl⟩
                  have q8 := hc8 n8 (by omega)
                  rw [show cy.getD n8 0 = kl by rw [List.getD_eq_getElem?_getD, hn8, hkl]; rfl] at q8
                  have en : (cy.length : Int) - 1 = (n8 : Int) := by omega
                  have n0 : (0 : Int) ≤ (n8 : Int) := by omega
                  have n1 : (n8 : Int) < (cy.length : Int) := by omega
                  have hkm : 0 ≤ kl ∧ kl < 41 := by
                    have hm1 : kl ∈ chainT L (x : Int) := by rw [HCY.out]; exact List.mem_of_getElem? hkl
                    have := there_iff.1 (chain_there HOK.out.wf hm1).1
                    rw [HM.out] at this
                    omega
                  have INL := Lib.hid (show In64 kl from ⟨by omega, by omega⟩)
                  have HKC := Lib.hid hkc
                  clear hll hkl hkc hc8 hn8
                  go_wp2_with fail
                  refine (t_cutb SI.out 0 rfl kl INL.out HKC.out).mono ?_
                  rintro e w12 ⟨rfl, h12, _⟩
                  have S12 := Lib.hid h12
                  clear h12 SI
                  go_wp2
                  go_ret
                  exact ⟨rfl, S12.out.old⟩
  · go_enter Try.func5, Try.ntmps5
    go_wp2_with fail
    refine (awake_any I _).mono ?_
    rintro e w1 ⟨rfl, hb1⟩
    have HB := Lib.hid hb1
    clear hb1
    go_wp2
    go_ret
    exact ⟨rfl, HB.out⟩
end Go.Proofs.Ytgmbpknmjeegiaa.TreeI
