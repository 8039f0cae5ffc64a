/-
  The walk of the law CtxValues over any package that meets 'Cx': it returns true and leaves old memory as it was. Conditions: none but 'Cx'.
-/
import Derived.Test.YtidkppjhmgehoaaCtxDoes
import Derived.Test.YtidkppjhmgehoaaCtxR
namespace Go.Proofs.Ytidkppjhmgehoaa.CtxI
open Go.ChangeShapes Go.WideShapes Go.ChangeAt Go.RowKit Mem TreeP RefTree CtxP Hand TreeI RefCtx

theorem chain_at {T : List Nd} (hw : Wf T) {n : Int} {x : Nd} (ht : there T n = true) (hx : nd T n = x) : chainT T n = n :: (if x.cut = true then [] else chainT T x.over) := by
  subst hx
  rw [chain_eq hw, if_pos ht]
  unfold cutT overT
  rw [ht]
  simp
theorem path_at {T : List Nd} (hw : Wf T) {n : Int} {x : Nd} (ht : there T n = true) (hx : nd T n = x) : pathT T n = n :: pathT T x.over := by
  subst hx
  rw [path_eq hw, if_pos ht]
  unfold overT
  rw [if_pos ht]
theorem add_one {T : List Nd} {X : List Cn} {M : Int} {o : Int} (ho : there T o = true) (hM : (T.length : Int) < M) (cut : Bool) (x : Cn) (hx : x.has = false) (now : Int) :
    addV T M o = T.length ∧ addE T M o = 0 ∧ addL T M o cut = T ++ [⟨o, cut⟩] ∧ withX T X M o cut x now = X ++ [newC X o cut x] := by
  have hE : addE T M o = 0 := by unfold addE putE; rw [if_pos ho, if_pos hM]
  refine ⟨by unfold addV putV; rw [if_pos ho, if_pos hM], hE, by unfold addL putL; rw [if_pos ho, if_pos hM], ?_⟩
  unfold withX
  rw [if_pos hE, if_neg]
  have : (newC X o cut x).has = false := by unfold newC; split <;> exact hx
  unfold lateC
  rw [this]
  simp
theorem last_there {T : List Nd} {x : Nd} : there (T ++ [x]) (T.length : Nat) = true := by rw [there_iff]; simp; omega

/-- What is said of them. -/
theorem values_says {T : List Nd} {X : List Cn} (h : Inv T X) {o : Int} (ho : there T o = true) (key value : Int)
    {T1 T2 T3 T4 : List Nd} {X1 X2 X3 X4 : List Cn} (eT1 : T1 = T ++ [⟨o, false⟩]) (eX1 : X1 = X ++ [newC X o false zeroCn])
    (eT2 : T2 = T1 ++ [⟨T.length, false⟩]) (eX2 : X2 = X1 ++ [newC X1 T.length false (namedX key value)])
    (eT3 : T3 = T2 ++ [⟨T1.length, true⟩]) (eX3 : X3 = X2 ++ [newC X2 T1.length true zeroCn])
    (eT4 : T4 = T3 ++ [⟨T2.length, false⟩]) (eX4 : X4 = X3 ++ [newC X3 T2.length false zeroCn]) :
    valX T4 X4 T3.length key = (value, true) ∧ (dlX T4 X4 T3.length).2 = false ∧ Inv T4 X4 ∧
    (cn (endX T4 X4 T.length 10 3) T.length).e ≠ 0 ∧ (cn (endX T4 X4 T.length 10 3) T1.length).e ≠ 0 ∧ (cn (endX T4 X4 T.length 10 3) T2.length).e = 0 ∧ (cn (endX T4 X4 T.length 10 3) T3.length).e = 0 := by
  have t1 : there T1 (T.length : Nat) = true := by rw [eT1]; exact last_there
  have i1 : Inv T1 X1 := by rw [eT1, eX1]; exact inv_app h ⟨rfl, rfl⟩ ho
  have t2 : there T2 (T1.length : Nat) = true := by rw [eT2]; exact last_there
  have i2 : Inv T2 X2 := by rw [eT2, eX2]; exact inv_app i1 ⟨rfl, rfl⟩ t1
  have t3 : there T3 (T2.length : Nat) = true := by rw [eT3]; exact last_there
  have i3 : Inv T3 X3 := by rw [eT3, eX3]; exact inv_app i2 ⟨rfl, rfl⟩ t2
  have t4 : there T4 (T3.length : Nat) = true := by rw [eT4]; exact last_there
  have i4 : Inv T4 X4 := by rw [eT4, eX4]; exact inv_app i3 ⟨rfl, rfl⟩ t3
  have l1 : T1.length = T.length + 1 := by rw [eT1]; simp
  have l2 : T2.length = T.length + 2 := by rw [eT2]; simp [l1]
  have l3 : T3.length = T.length + 3 := by rw [eT3]; simp [l2]
  have l4 : T4.length = T.length + 4 := by rw [eT4]; simp [l3]
  have n1 := h.len
  have n2 := i1.len
  have n3 := i2.len
  have n4 := i3.len
  have at4 : nd T4 (T3.length : Nat) = ⟨T2.length, false⟩ := by rw [eT4]; exact nd_last
  have at3 : nd T4 (T2.length : Nat) = ⟨T1.length, true⟩ := by rw [eT4, nd_snoc (by omega), eT3]; exact nd_last
  have at2 : nd T4 (T1.length : Nat) = ⟨T.length, false⟩ := by rw [eT4, nd_snoc (by omega), eT3, nd_snoc (by omega), eT2]; exact nd_last
  have q1 : there T4 (T.length : Nat) = true := there_iff.2 (by omega)
  have q2 : there T4 (T1.length : Nat) = true := there_iff.2 (by omega)
  have q3 : there T4 (T2.length : Nat) = true := there_iff.2 (by omega)
  have c3 : chainT T4 (T2.length : Nat) = [(T2.length : Int)] := by rw [chain_at i4.wf q3 at3]; rfl
  have c4 : chainT T4 (T3.length : Nat) = [(T3.length : Int), (T2.length : Int)] := by rw [chain_at i4.wf t4 at4]; simp [c3]
  have c2 : (T.length : Int) ∈ chainT T4 (T1.length : Nat) := by
    rw [chain_at i4.wf q2 at2]
    simp
    exact .inr (chain_self i4.wf q1)
  have x4 : cn X4 (T3.length : Nat) = newC X3 T2.length false zeroCn := by rw [eX4, n4, cn_new]
  have x3 : cn X4 (T2.length : Nat) = zeroCn := by
    rw [eX4, cn_app (by omega) (by omega), eX3, n3, cn_new]
    unfold newC
    simp
  have x2 : cn X4 (T1.length : Nat) = newC X1 T.length false (namedX key value) := by
    rw [eX4, cn_app (by omega) (by omega), eX3, cn_app (by omega) (by omega), eX2, n2, cn_new]
  have x4' : cn X4 (T3.length : Nat) = zeroCn := by
    rw [x4]
    have : cn X3 (T2.length : Nat) = zeroCn := by
      rw [eX3, n3, cn_new]
      unfold newC
      simp
    unfold newC
    rw [this]
    simp [zeroCn]
  refine ⟨?_, ?_, i4, ?_, ?_, ?_, ?_⟩
  · unfold valX
    rw [path_at i4.wf t4 at4, path_at i4.wf q3 at3, path_at i4.wf q2 at2]
    have b4 : named X4 key (T3.length : Nat) = false := by unfold named; rw [x4']; rfl
    have b3 : named X4 key (T2.length : Nat) = false := by unfold named; rw [x3]; rfl
    have b2 : named X4 key (T1.length : Nat) = true := by unfold named; rw [x2]; unfold newC; split <;> simp [namedX]
    rw [List.find?_cons, b4, List.find?_cons, b3, List.find?_cons, b2]
    show ((cn X4 (T1.length : Nat)).value, true) = _
    rw [x2]
    unfold newC
    split <;> rfl
  · refine dl_none fun m hm => ?_
    rw [c4] at hm
    simp at hm
    rcases hm with rfl | rfl
    · rw [x4']; rfl
    · rw [x3]; rfl
  · rw [cn_end i4 _ _ _ _ q1]
    split
    · exact (by decide : (10 : Int) ≠ 0)
    · next hr => exact fun hz => hr ⟨reach_self i4.wf q1, hz⟩
  · rw [cn_end i4 _ _ _ _ q2]
    split
    · exact (by decide : (10 : Int) ≠ 0)
    · next hr => exact fun hz => hr ⟨(reach_iff i4.wf q1 q2).2 c2, hz⟩
  · rw [cn_end i4 _ _ _ _ q3, if_neg]
    · rw [x3]; rfl
    · rintro ⟨hr, _⟩
      have := (reach_iff i4.wf q1 q3).1 hr
      rw [c3] at this
      simp at this
      omega
  · rw [cn_end i4 _ _ _ _ t4, if_neg]
    · rw [x4']; rfl
    · rintro ⟨hr, _⟩
      have := (reach_iff i4.wf q1 t4).1 hr
      rw [c4] at this
      simp at this
      omega

theorem values_easy (I : Cx) (A : Option Addr) (len cap : Nat) (over key value : Int) (w : World) (_hlen : len ≤ 9223372036854775807) (hno : 56 < len) :
    Calls Try.prog 6 #[.slice A len cap, .int .u8 over, .int .i64 key, .int .i64 value] w fun e w' => e = .returned (.bool true) ∧ Below w.heap.size w w' := by
  go_enter Try.func6, Try.ntmps6
  go_wp2_with fail
  refine (awake_any I _).mono ?_
  rintro e w1 ⟨rfl, hb1⟩
  have HB := Lib.hid hb1
  clear hb1
  go_wp2
  go_ret
  exact ⟨rfl, HB.out⟩

set_option maxHeartbeats 8000000 in
set_option maxRecDepth 100000 in
theorem values_main (I : Cx) (A : Option Addr) (len cap : Nat) (zs : List Ac) (over key value : Int) (w : World) (h56 : len ≤ 56) (hov : 0 ≤ over ∧ over ≤ 255) (hkey : In64 key) (hval : In64 value)
    (hz : len ≤ 1000000 → zs.length = len ∧ RdL acE w (fun b => b < w.heap.size) (.slice A len cap) zs ∧ ∀ z ∈ zs, AcIn z) :
    Calls Try.prog 6 #[.slice A len cap, .int .u8 over, .int .i64 key, .int .i64 value] w fun e w' => e = .returned (.bool true) ∧ Below w.heap.size w w' := by
  obtain ⟨hzl, hzr, hzo⟩ := hz (by omega)
  have HZL := Lib.hid hzl
  have HZR := Lib.hid hzr
  have HZO := Lib.hid hzo
  have HKEY := Lib.hid hkey
  have HVAL := Lib.hid hval
  have HOV := Lib.hid hov
  clear hzl hzr hzo hz hkey hval hov
  go_enter Try.func6, Try.ntmps6
  go_wp2_with fail
  refine (awake_any I _).mono ?_
  rintro e w1 ⟨rfl, hb1⟩
  have S1 := Lib.hid ((Sep.nil (fun _ => False) w).next hb1)
  clear hb1
  go_wp2_with fail
  refine (x_new S1.out I 48 (by omega) (by omega)).mono ?_
  rintro e w2 ⟨a, rfl, h2'⟩
  have S2 := Lib.hid h2'
  clear h2' S1
  go_wp2
  go_loopw [38] (fun u wr => ∃ j : Nat, j ≤ len ∧ u = .int .i64 j ∧ Hid (∃ (T : List Nd) (X : List Cn), Sep (fun _ => False) w wr [cx I (.pointer (some a)) T X 48] ∧ Inv T X ∧ T.length ≤ 40)) (fun u _ => len - (intOf u).toNat)
  case atStart => exact ⟨0, Nat.zero_le _, rfl, _, _, S2.out, inv_new, by decide⟩
  case round =>
    obtain ⟨j, hj, rfl, HS⟩ := hrel
    obtain ⟨T, X, hS, hI, hL⟩ := HS.out
    have SL := Lib.hid hS
    have HI := Lib.hid hI
    clear HS hS S2 hI
    by_cases hlt : j < len
    · have hx : zs[j]? = some (zs[j]'(by rw [HZL.out]; exact hlt)) := List.getElem?_eq_getElem _
      generalize zs[j]'(by rw [HZL.out]; exact hlt) = z at hx
      have HE := Lib.hid (HZO.out z (List.mem_of_getElem? hx))
      obtain ⟨bb, off, rfl, hbb, c0, c1, c2, c3, c4⟩ := ac_cells HZR.out hx
      have hb := SL.out.old
      have q0 := (hb.cell (p := ⟨bb, off + j * 5, none⟩) hbb).trans c0
      have q1 := (hb.cell (p := ⟨bb, off + j * 5 + 1, none⟩) hbb).trans c1
      have q2 := (hb.cell (p := ⟨bb, off + j * 5 + 2, none⟩) hbb).trans c2
      have q3 := (hb.cell (p := ⟨bb, off + j * 5 + 3, none⟩) hbb).trans c3
      have q4 := (hb.cell (p := ⟨bb, off + j * 5 + 4, none⟩) hbb).trans c4
      obtain ⟨d, m, aa, ab, tz⟩ := z
      have S4 := Lib.hid (SL.out.new (.cells #[.int .i64 d, .int .i64 m, .int .i64 aa, .int .i64 ab, .int .i64 tz] 32))
      clear hx c0 c1 c2 c3 c4 hb SL
      go_wp2_with fail
      refine (x_len S4.out 1 rfl).mono ?_
      rintro e w5 ⟨rfl, h5⟩
      have S5 := Lib.hid h5
      have a0 := (cell_block (S5.out.blk_at 0 rfl) 0).trans rfl
      have a1 := (cell_block (S5.out.blk_at 0 rfl) 1).trans rfl
      have a2 := (cell_block (S5.out.blk_at 0 rfl) 2).trans rfl
      have a3 := (cell_block (S5.out.blk_at 0 rfl) 3).trans rfl
      have a4 := (cell_block (S5.out.blk_at 0 rfl) 4).trans rfl
      have hlt5 : wr.heap.size < w5.heap.size := lt_of_block (S5.out.blk_at 0 rfl)
      clear h5 S4 q0 q1 q2 q3 q4
      by_cases hl : T.length < 40
      · go_wp2_with fail
        refine (x_do S5.out 1 rfl d m aa ab tz HE.out.1 HE.out.2.1 HE.out.2.2.1 HE.out.2.2.2).mono ?_
        rintro e w6 ⟨A6, c6, rfl, h6⟩
        have SF : Hid (∃ (T : List Nd) (X : List Cn), Sep (fun _ => False) w w6 [cx I (.pointer (some a)) T X 48] ∧ Inv T X ∧ T.length ≤ 40) := ⟨_, _, h6.sub (.cons _ (.cons _ (.cons_cons _ (List.Sublist.refl _)))), inv_act HI.out 48 d m aa ab tz, by have := (act_len (T := T) (M := 48) (d := d) (n := m)).1; omega⟩
        clear h6 S5 HI
        go_wp2
        go_roundw
        case rel => exact ⟨j + 1, by omega, by go_num, SF⟩
        case measure => simp [intOf]; omega
      · have SF : Hid (∃ (T : List Nd) (X : List Cn), Sep (fun _ => False) w w5 [cx I (.pointer (some a)) T X 48] ∧ Inv T X ∧ T.length ≤ 40) := ⟨_, _, S5.out.sub (.cons _ (.cons_cons _ (List.Sublist.refl _))), HI.out, hL⟩
        clear S5 HI
        go_wp2
        go_roundw
        case rel => exact ⟨j + 1, by omega, by go_num, SF⟩
        case measure => simp [intOf]; omega
    · have h1 := HI.out.one
      go_wp2_with fail
      refine (x_len SL.out 0 rfl).mono ?_
      rintro e w5 ⟨rfl, h5⟩
      have S5 := Lib.hid h5
      clear h5 SL
      go_wp2_with fail
      refine (x_len S5.out 0 rfl).mono ?_
      rintro e w6 ⟨rfl, h6⟩
      have S6 := Lib.hid h6
      clear h6 S5
      go_wp2_with fail
      obtain ⟨o, ho⟩ : ∃ o, (wrap64 over).tmod (T.length : Int) = o := ⟨_, rfl⟩
      have hw : wrap64 over = over := by have := HOV.out; unfold wrap64; omega
      have hoi : 0 ≤ o ∧ o < T.length := by
        have h2 := HOV.out
        rw [← ho, hw]
        exact ⟨Int.tmod_nonneg _ h2.1, Int.tmod_lt_of_pos _ (by omega)⟩
      rw [ho]
      clear ho hw
      have HO : Hid (there T o = true) := there_iff.2 hoi
      have hol : Hid (In64 o) := ⟨by omega, by omega⟩
      obtain ⟨T1, eT1⟩ : ∃ T1, T1 = T ++ [(⟨o, false⟩ : Nd)] := ⟨_, rfl⟩
      obtain ⟨X1, eX1⟩ : ∃ X1, X1 = X ++ [newC X o false zeroCn] := ⟨_, rfl⟩
      obtain ⟨T2, eT2⟩ : ∃ T2, T2 = T1 ++ [(⟨T.length, false⟩ : Nd)] := ⟨_, rfl⟩
      obtain ⟨X2, eX2⟩ : ∃ X2, X2 = X1 ++ [newC X1 T.length false (namedX key value)] := ⟨_, rfl⟩
      obtain ⟨T3, eT3⟩ : ∃ T3, T3 = T2 ++ [(⟨T1.length, true⟩ : Nd)] := ⟨_, rfl⟩
      obtain ⟨X3, eX3⟩ : ∃ X3, X3 = X2 ++ [newC X2 T1.length true zeroCn] := ⟨_, rfl⟩
      obtain ⟨T4, eT4⟩ : ∃ T4, T4 = T3 ++ [(⟨T2.length, false⟩ : Nd)] := ⟨_, rfl⟩
      obtain ⟨X4, eX4⟩ : ∃ X4, X4 = X3 ++ [newC X3 T2.length false zeroCn] := ⟨_, rfl⟩
      have HV := Lib.hid (values_says HI.out HO.out key value eT1 eX1 eT2 eX2 eT3 eX3 eT4 eX4)
      have l1 : T1.length = T.length + 1 := by rw [eT1]; simp
      have l2 : T2.length = T.length + 2 := by rw [eT2]; simp [l1]
      have l3 : T3.length = T.length + 3 := by rw [eT3]; simp [l2]
      have g1 := Lib.hid (add_one (T := T) (X := X) (M := 48) HO.out (by omega) false zeroCn rfl 0)
      have g2 := Lib.hid (add_one (T := T1) (X := X1) (M := 48) (o := T.length) (there_iff.2 (by omega)) (by omega) false (namedX key value) rfl 0)
      have g3 := Lib.hid (add_one (T := T2) (X := X2) (M := 48) (o := T1.length) (there_iff.2 (by omega)) (by omega) true zeroCn rfl 0)
      have g4 := Lib.hid (add_one (T := T3) (X := X3) (M := 48) (o := T2.length) (there_iff.2 (by omega)) (by omega) false zeroCn rfl 0)
      rw [← eT1, ← eX1] at g1
      rw [← eT2, ← eX2] at g2
      rw [← eT3, ← eX3] at g3
      rw [← eT4, ← eX4] at g4
      have b0 : Hid (In64 (T.length : Int)) := ⟨by omega, by omega⟩
      have b1 : Hid (In64 (T1.length : Int)) := ⟨by omega, by omega⟩
      have b2 : Hid (In64 (T2.length : Int)) := ⟨by omega, by omega⟩
      have b3 : Hid (In64 (T3.length : Int)) := ⟨by omega, by omega⟩
      have hn0 : (T.length : Int) ≠ 0 := by omega
      generalize hm0 : (T.length : Int) = m0 at *
      generalize hm1 : (T1.length : Int) = m1 at *
      generalize hm2 : (T2.length : Int) = m2 at *
      generalize hm3 : (T3.length : Int) = m3 at *
      clear eT1 eX1 eT2 eX2 eT3 eX3 eT4 eX4 l1 l2 l3 h1 hoi hm0 hm1 hm2 hm3 hL
      refine (x_wc S6.out 0 rfl o hol.out g1.out.1 g1.out.2.1 g1.out.2.2.1 g1.out.2.2.2).mono ?_
      rintro e w7 ⟨rfl, h7⟩
      have S7 := Lib.hid h7
      clear h7 S6
      go_wp2_with fail
      refine (x_wv S7.out 0 rfl m0 key value b0.out HKEY.out HVAL.out g2.out.1 g2.out.2.1 g2.out.2.2.1 g2.out.2.2.2).mono ?_
      rintro e w8 ⟨rfl, h8⟩
      have S8 := Lib.hid h8
      clear h8 S7
      go_wp2_with fail
      refine (x_wo S8.out 0 rfl m1 b1.out g3.out.1 g3.out.2.1 g3.out.2.2.1 g3.out.2.2.2).mono ?_
      rintro e w9 ⟨rfl, h9⟩
      have S9 := Lib.hid h9
      clear h9 S8
      go_wp2_with fail
      refine (x_wc S9.out 0 rfl m2 b2.out g4.out.1 g4.out.2.1 g4.out.2.2.1 g4.out.2.2.2).mono ?_
      rintro e w10 ⟨rfl, h10⟩
      have S10 := Lib.hid h10
      clear h10 S9
      go_wp2_with fail
      refine (x_val S10.out 0 rfl m3 key b3.out HKEY.out HV.out.1).mono ?_
      rintro e w11 ⟨rfl, h11⟩
      have S11 := Lib.hid h11
      clear h11 S10
      obtain ⟨D1, hD1⟩ : ∃ D1, (dlX T4 X4 m3).1 = D1 := ⟨_, rfl⟩
      have HD : Hid (dlX T4 X4 m3 = (D1, false)) := by
        show _ = _
        rw [← hD1, ← HV.out.2.1]
      clear hD1
      go_wp2_with fail
      refine (x_dl S11.out 0 rfl m3 b3.out HD.out).mono ?_
      rintro e w12 ⟨rfl, h12⟩
      have S12 := Lib.hid h12
      clear h12 S11
      have HC : Hid (cancelX T4 X4 m0 3 = endX T4 X4 m0 10 3) := by
        show _ = _
        unfold cancelX
        rw [if_neg hn0]
      have HIE := Lib.hid (inv_end (n := m0) (e := 10) (c := 3) HV.out.2.2.1 (by decide) hn0)
      go_wp2_with fail
      refine (x_cancel S12.out 0 rfl m0 3 b0.out (in64s _ (by omega)) rfl HC.out).mono ?_
      rintro e w13 ⟨A13, c13, rfl, h13⟩
      have S13 := Lib.hid (h13.sub (show List.Sublist [cx I (.pointer (some a)) T4 (endX T4 X4 m0 10 3) 48] _ from .cons _ (List.Sublist.refl _)))
      have d0 : Hid (decide ((getX T4 (endX T4 X4 m0 10 3) m0).e ≠ 0) = true) := by show _ = _; rw [(get_cn HIE.out m0).1]; exact decide_eq_true HV.out.2.2.2.1
      have d1 : Hid (decide ((getX T4 (endX T4 X4 m0 10 3) m1).e ≠ 0) = true) := by show _ = _; rw [(get_cn HIE.out m1).1]; exact decide_eq_true HV.out.2.2.2.2.1
      have d2 : Hid (decide ((getX T4 (endX T4 X4 m0 10 3) m2).e ≠ 0) = false) := by show _ = _; rw [(get_cn HIE.out m2).1]; exact decide_eq_false (fun h => h HV.out.2.2.2.2.2.1)
      have d3 : Hid (decide ((getX T4 (endX T4 X4 m0 10 3) m3).e ≠ 0) = false) := by show _ = _; rw [(get_cn HIE.out m3).1]; exact decide_eq_false (fun h => h HV.out.2.2.2.2.2.2)
      clear h13 S12 HV HI g1 g2 g3 g4
      generalize endX T4 X4 m0 10 3 = Y at *
      generalize cancelO T4 X4 m0 = O at *
      go_wp2_with fail
      refine (x_done S13.out 0 rfl m0 b0.out d0.out).mono ?_
      rintro e w14 ⟨rfl, h14⟩
      have S14 := Lib.hid h14
      clear h14 S13
      go_wp2_with fail
      refine (x_done S14.out 0 rfl m1 b1.out d1.out).mono ?_
      rintro e w15 ⟨rfl, h15⟩
      have S15 := Lib.hid h15
      clear h15 S14
      go_wp2_with fail
      refine (x_done S15.out 0 rfl m2 b2.out d2.out).mono ?_
      rintro e w16 ⟨rfl, h16⟩
      have S16 := Lib.hid h16
      clear h16 S15
      go_wp2_with fail
      refine (x_done S16.out 0 rfl m3 b3.out d3.out).mono ?_
      rintro e w17 ⟨rfl, h17⟩
      have HB := Lib.hid h17.old
      clear h17 S16
      go_wp2
      go_ret
      exact ⟨rfl, HB.out⟩

theorem values_walk (I : Cx) (A : Option Addr) (len cap : Nat) (zs : List Ac) (over key value : Int) (w : World) (hlen : len ≤ 9223372036854775807) (hov : 0 ≤ over ∧ over ≤ 255) (hkey : In64 key) (hval : In64 value)
    (hz : len ≤ 1000000 → zs.length = len ∧ RdL acE w (fun b => b < w.heap.size) (.slice A len cap) zs ∧ ∀ z ∈ zs, AcIn z) :
    Calls Try.prog 6 #[.slice A len cap, .int .u8 over, .int .i64 key, .int .i64 value] w fun e w' => e = .returned (.bool true) ∧ Below w.heap.size w w' := by
  by_cases hno : 56 < len
  · exact values_easy I A len cap over key value w hlen hno
  · exact values_main I A len cap zs over key value w (by omega) hov hkey hval hz
end Go.Proofs.Ytidkppjhmgehoaa.CtxI
