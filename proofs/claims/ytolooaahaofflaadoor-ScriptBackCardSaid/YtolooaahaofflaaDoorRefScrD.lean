/-
  Contracts of the functions of package countermandref17 (the document's answer for layer 17), fourth part: Same. Condition: what the scripts read as.
-/
import Derived.Test.YtolooaahaofflaaDoorRefScrC
import Derived.Laws.StructEq
namespace Go.Proofs.YtolooaahaofflaaDoor.RefScr
open Go.ChangeShapes Go.WideShapes Go.ChangeAt Go.RowKit Mem MutP CodeP ScriptP Hand RefCode CodeI Scr

theorem itHeld : Tryd.prog.stoodInHeld 47 = false := by kernel_rfl
theorem itGuard : Tryd.prog.eqGuardType Tryd.prog.depth 47 = false := by kernel_rfl
/-- '!=' of two items. -/
theorem run_neq_it (W : World) (xd xa xn yd ya yn : Int) :
    (binOp .neq 47 (.agg #[.int .i64 xd, .int .i64 xa, .int .i64 xn]) (.agg #[.int .i64 yd, .int .i64 ya, .int .i64 yn])).run Tryd.prog W = .ok (.bool (!decide ((⟨xd, xa, xn⟩ : It) = ⟨yd, ya, yn⟩))) W := by
  have hut : Tryd.prog.underlying 47 = some (.struct (Tryd.prog.fieldsOf 47)) := by simp only [Program.fieldsOf, Tryd.underlying47]
  rw [run_neq_struct, run_equalIn_agg _ 9999 _ _ _ hut itHeld]
  simp only [Program.fieldsOf, Tryd.underlying47]
  have h3 := Tryd.underlying3
  have h4 := Tryd.underlying2
  simp [go_sem, h3, h4]
  by_cases e1 : xd = yd <;> by_cases e2 : xa = ya <;> by_cases e3 : xn = yn <;> simp [e1, e2, e3]

set_option maxRecDepth 100000 in
set_option maxHeartbeats 2000000 in
theorem same_s {w : World} {G G' : Nat → Prop} {q q' : Sv} {s t : Sc} (h : RdS w G q s) (h' : RdS w G' q' t) :
    Calls Tryd.prog 18 #[.agg q.arr, .agg q'.arr] w fun e w' => e = .returned (.bool (decide (s = t))) ∧ Below w.heap.size w w' := by
  obtain ⟨r0, r1, r2, r3, pA, pn, pc, xA, xn, xc⟩ := q
  obtain ⟨t0, t1, t2, t3, yA, yn, yc, zA, zn, zc⟩ := q'
  have hpn := h.pn
  have hxn := h.xn
  have hyn := h'.pn
  have hzn := h'.xn
  obtain ⟨hr, hp, hx, _, _⟩ := h
  obtain ⟨hr', hp', hx', _, _⟩ := h'
  simp only at hpn hxn hr hp hx hyn hzn hr' hp' hx'
  have HP := Lib.hid hp
  have HX := Lib.hid hx
  have HRR := Lib.hid hr
  have HPN := Lib.hid hpn
  have HXN := Lib.hid hxn
  have HP' := Lib.hid hp'
  have HX' := Lib.hid hx'
  have HRR' := Lib.hid hr'
  have HYN := Lib.hid hyn
  have HZN := Lib.hid hzn
  have bpn : pn ≤ 1000000 := by rw [hpn]; exact hp.le
  have bxn : xn ≤ 1000000 := by rw [hxn]; exact hx.le
  obtain ⟨r, hrr⟩ : ∃ r, decide (s = t) = r := ⟨_, rfl⟩
  have HM := Lib.hid hrr
  have HNO : Hid (s ≠ t → r = false) := fun hne => by rw [← hrr]; exact decide_eq_false hne
  unfold Sv.arr
  simp only
  rw [hrr]
  clear hp hx hr hpn hxn hp' hx' hr' hyn hzn hrr
  by_cases hpy : pn = yn
  · subst hpy
    by_cases hxz : xn = zn
    · subst hxz
      have S0 : Hid (Sep (fun _ => False) w ((w.alloc (.cells #[.int .i64 r0, .int .i64 r1, .int .i64 r2, .int .i64 r3, .slice pA pn pc, .slice xA xn xc] 39)).alloc (.cells #[.int .i64 t0, .int .i64 t1, .int .i64 t2, .int .i64 t3, .slice yA pn yc, .slice zA xn zc] 39)) [blk (w.heap.size + 1) (.cells #[.int .i64 t0, .int .i64 t1, .int .i64 t2, .int .i64 t3, .slice yA pn yc, .slice zA xn zc] 39), blk w.heap.size (.cells #[.int .i64 r0, .int .i64 r1, .int .i64 r2, .int .i64 r3, .slice pA pn pc, .slice xA xn xc] 39)]) := by
        have h1 := ((Sep.nil (fun _ => False) w).new (.cells #[.int .i64 r0, .int .i64 r1, .int .i64 r2, .int .i64 r3, .slice pA pn pc, .slice xA xn xc] 39)).new (.cells #[.int .i64 t0, .int .i64 t1, .int .i64 t2, .int .i64 t3, .slice yA pn yc, .slice zA xn zc] 39)
        rw [show (w.alloc (.cells #[.int .i64 r0, .int .i64 r1, .int .i64 r2, .int .i64 r3, .slice pA pn pc, .slice xA xn xc] 39)).heap.size = w.heap.size + 1 by simp] at h1
        exact h1
      go_enter Tryd.func18, Tryd.ntmps18
      go_wp2
      go_loopw [5] (fun u wr => ∃ i : Nat, i ≤ 4 ∧ u = .int .i64 (i : Int) ∧ Hid (s.r.take i = t.r.take i) ∧ Hid (Sep (fun _ => False) w wr [blk (w.heap.size + 1) (.cells #[.int .i64 t0, .int .i64 t1, .int .i64 t2, .int .i64 t3, .slice yA pn yc, .slice zA xn zc] 39), blk w.heap.size (.cells #[.int .i64 r0, .int .i64 r1, .int .i64 r2, .int .i64 r3, .slice pA pn pc, .slice xA xn xc] 39)])) (fun u _ => 4 - (intOf u).toNat)
      case atStart => exact ⟨0, Nat.zero_le _, rfl, rfl, S0.out⟩
      case round =>
        obtain ⟨i, hi, rfl, HA, HS⟩ := hrel
        clear S0
        rcases (by omega : i < 4 ∨ 4 ≤ i) with h4 | h4
        · obtain ⟨x, hx, hk⟩ : ∃ x, s.r[i]? = some x ∧ wr.cell? ⟨w.heap.size, i, none⟩ = some (.int .i64 x) := by
            have hb := HS.out.blk_at 1 rfl
            rw [HRR.out]
            rcases (by omega : i = 0 ∨ i = 1 ∨ i = 2 ∨ i = 3) with rfl | rfl | rfl | rfl
            · exact ⟨r0, rfl, (cell_block hb 0).trans rfl⟩
            · exact ⟨r1, rfl, (cell_block hb 1).trans rfl⟩
            · exact ⟨r2, rfl, (cell_block hb 2).trans rfl⟩
            · exact ⟨r3, rfl, (cell_block hb 3).trans rfl⟩
          obtain ⟨y, hy, hk'⟩ : ∃ y, t.r[i]? = some y ∧ wr.cell? ⟨w.heap.size + 1, i, none⟩ = some (.int .i64 y) := by
            have hb := HS.out.blk_at 0 rfl
            rw [HRR'.out]
            rcases (by omega : i = 0 ∨ i = 1 ∨ i = 2 ∨ i = 3) with rfl | rfl | rfl | rfl
            · exact ⟨t0, rfl, (cell_block hb 0).trans rfl⟩
            · exact ⟨t1, rfl, (cell_block hb 1).trans rfl⟩
            · exact ⟨t2, rfl, (cell_block hb 2).trans rfl⟩
            · exact ⟨t3, rfl, (cell_block hb 3).trans rfl⟩
          have i0 : (0 : Int) ≤ (i : Int) := by omega
          have i4 : (i : Int) < 4 := by omega
          have d0 : decide ((i : Int) < 4) = true := decide_eq_true i4
          have d1 : decide (i < 4) = true := decide_eq_true h4
          by_cases hxy : x = y
          · have hbz : (x != y) = false := by simpa using hxy
            have HE : Hid (s.r.take (i + 1) = t.r.take (i + 1)) := by show _ = _; rw [take_snocI _ i x hx, take_snocI _ i y hy, HA.out, hxy]
            clear hxy hx hy
            go_wp2
            go_quiet (fail)
            go_wp2
            go_roundw
            case rel => exact ⟨i + 1, by omega, by go_num, HE, by first | exact HS.out.drewN _ | exact HS.out.drew⟩
            case measure => simp [intOf]; omega
          · have hbz : (x != y) = true := by simpa using hxy
            have HF : Hid (r = false) := HNO.out fun e => hxy (by subst e; rw [hx] at hy; exact Option.some.inj hy)
            clear hxy hx hy
            go_wp2
            go_quiet (fail)
            go_wp2
            go_ret
            exact ⟨ret_bool HF.out.symm, by first | exact (HS.out.drewN _).old | exact HS.out.drew.old⟩
        · have HRE : Hid (s.r = t.r) := by
            have := HA.out
            rwa [List.take_of_length_le (by rw [HRR.out]; simpa using h4), List.take_of_length_le (by rw [HRR'.out]; simpa using h4)] at this
          have d0 : decide ((i : Int) < 4) = false := decide_eq_false (by omega)
          have d1 : decide (i < 4) = false := decide_eq_false (by omega)
          clear HA hi h4
          go_wp2
          clear d0 d1
          go_loopw [6] (fun u wr => ∃ j : Nat, j ≤ pn ∧ u = .int .i64 (j : Int) ∧ Hid (s.ps.take j = t.ps.take j) ∧ Hid (Sep (fun _ => False) w wr [blk (w.heap.size + 1) (.cells #[.int .i64 t0, .int .i64 t1, .int .i64 t2, .int .i64 t3, .slice yA pn yc, .slice zA xn zc] 39), blk w.heap.size (.cells #[.int .i64 r0, .int .i64 r1, .int .i64 r2, .int .i64 r3, .slice pA pn pc, .slice xA xn xc] 39)])) (fun u _ => pn - (intOf u).toNat)
          case atStart => exact ⟨0, Nat.zero_le _, rfl, rfl, HS⟩
          case round =>
            obtain ⟨j, hj, rfl, HA, HS2⟩ := hrel
            clear HS
            have k4 : wr.cell? ⟨w.heap.size, 4, none⟩ = some (.slice pA pn pc) := (cell_block (HS2.out.blk_at 1 rfl) 4).trans rfl
            have l4 : wr.cell? ⟨w.heap.size + 1, 4, none⟩ = some (.slice yA pn yc) := (cell_block (HS2.out.blk_at 0 rfl) 4).trans rfl
            rcases (by omega : j < pn ∨ pn ≤ j) with h4 | h4
            · obtain ⟨p, hp⟩ : ∃ p, s.ps[j]? = some p := ⟨_, List.getElem?_eq_getElem (by rw [← HPN.out]; exact h4)⟩
              obtain ⟨p', hp'⟩ : ∃ p', t.ps[j]? = some p' := ⟨_, List.getElem?_eq_getElem (by rw [← HYN.out]; exact h4)⟩
              obtain ⟨b, off, A1, c1, rfl, hb, _, e0, hrd⟩ := (HP.out.below HS2.out.old).at_ hp
              obtain ⟨b', off', A2, c2, rfl, hb', _, e0', hrd'⟩ := (HP'.out.below HS2.out.old).at_ hp'
              have HC := Lib.hid (fun nn : Nat => (same_c (hrd.drewN nn) (hrd'.drewN nn)).mono fun _ _ (hh : _ ∧ ∃ kk, _ = _) => (⟨hh.1, hh.2.elim fun kk hw => ⟨_, hw.trans (World.drewN_drewN _ _ _)⟩⟩ : _ ∧ ∃ mm, _ = wr.drewN mm))
              obtain ⟨m, hm⟩ : ∃ m, p.length = m := ⟨_, rfl⟩
              obtain ⟨m', hm'⟩ : ∃ m', p'.length = m' := ⟨_, rfl⟩
              rw [hm] at e0 HC
              rw [hm'] at e0' HC
              have i0 : (0 : Int) ≤ (j : Int) := by omega
              have i1 : (j : Int) < (pn : Int) := by omega
              have d0 : decide ((j : Int) < (pn : Int)) = true := decide_eq_true i1
              have d1 : decide (j < pn) = true := decide_eq_true h4
              by_cases hxy : p = p'
              · have HE : Hid (s.ps.take (j + 1) = t.ps.take (j + 1)) := by show _ = _; rw [take_snocI _ j p hp, take_snocI _ j p' hp', HA.out, hxy]
                rw [decide_eq_true hxy] at HC
                have HB1 : Hid (b < wr.heap.size) := hb
                clear hxy hp hp' hrd hrd' hm hm' hb hb'
                go_wp2
                go_quiet ((go_at_call 35; exact HC.out _))
                go_wp2
                go_roundw
                case rel => exact ⟨j + 1, by omega, by go_num, HE, by first | exact HS2.out.drewN _ | exact HS2.out.drew⟩
                case measure => simp [intOf]; omega
              · have HF : Hid (r = false) := HNO.out fun e => hxy (by subst e; rw [hp] at hp'; exact Option.some.inj hp')
                rw [decide_eq_false hxy] at HC
                clear hxy hp hp' hrd hrd' hm hm' hb hb'
                go_wp2
                go_quiet ((go_at_call 35; exact HC.out _))
                go_wp2
                go_ret
                exact ⟨ret_bool HF.out.symm, by first | exact (HS2.out.drewN _).old | exact HS2.out.drew.old⟩
            · have HPE : Hid (s.ps = t.ps) := by
                have := HA.out
                rwa [List.take_of_length_le (by rw [← HPN.out]; exact h4), List.take_of_length_le (by rw [← HYN.out]; exact h4)] at this
              have d0 : decide ((j : Int) < (pn : Int)) = false := decide_eq_false (by omega)
              have d1 : decide (j < pn) = false := decide_eq_false (by omega)
              clear HA hj h4
              go_wp2
              clear d0 d1 k4 l4
              go_loopw [7] (fun u wr => ∃ k : Nat, k ≤ xn ∧ u = .int .i64 (k : Int) ∧ Hid (s.xs.take k = t.xs.take k) ∧ Hid (Sep (fun _ => False) w wr [blk (w.heap.size + 1) (.cells #[.int .i64 t0, .int .i64 t1, .int .i64 t2, .int .i64 t3, .slice yA pn yc, .slice zA xn zc] 39), blk w.heap.size (.cells #[.int .i64 r0, .int .i64 r1, .int .i64 r2, .int .i64 r3, .slice pA pn pc, .slice xA xn xc] 39)])) (fun u _ => xn - (intOf u).toNat)
              case atStart => exact ⟨0, Nat.zero_le _, rfl, rfl, HS2⟩
              case round =>
                obtain ⟨k, hk, rfl, HA, HS3⟩ := hrel
                clear HS2
                have k5 : wr.cell? ⟨w.heap.size, 5, none⟩ = some (.slice xA xn xc) := (cell_block (HS3.out.blk_at 1 rfl) 5).trans rfl
                have l5 : wr.cell? ⟨w.heap.size + 1, 5, none⟩ = some (.slice zA xn zc) := (cell_block (HS3.out.blk_at 0 rfl) 5).trans rfl
                rcases (by omega : k < xn ∨ xn ≤ k) with h4 | h4
                · obtain ⟨x, hx⟩ : ∃ x, s.xs[k]? = some x := ⟨_, List.getElem?_eq_getElem (by rw [← HXN.out]; exact h4)⟩
                  obtain ⟨y, hy⟩ : ∃ y, t.xs[k]? = some y := ⟨_, List.getElem?_eq_getElem (by rw [← HZN.out]; exact h4)⟩
                  obtain ⟨b, off, rfl, _, e0, e1, e2⟩ := it_at (HX.out.below HS3.out.old) hx
                  obtain ⟨b', off', rfl, _, f0, f1, f2⟩ := it_at (HX'.out.below HS3.out.old) hy
                  have HXX := Lib.hid hx
                  have HYY := Lib.hid hy
                  clear hx hy
                  obtain ⟨xd, xa, xz⟩ := x
                  obtain ⟨yd, ya, yz⟩ := y
                  simp only at e0 e1 e2 f0 f1 f2
                  have i0 : (0 : Int) ≤ (k : Int) := by omega
                  have i1 : (k : Int) < (xn : Int) := by omega
                  have d0 : decide ((k : Int) < (xn : Int)) = true := decide_eq_true i1
                  have d1 : decide (k < xn) = true := decide_eq_true h4
                  have hgu := itGuard
                  by_cases hxy : (⟨xd, xa, xz⟩ : It) = ⟨yd, ya, yz⟩
                  · have hneq := fun W => run_neq_it W xd xa xz yd ya yz
                    rw [decide_eq_true hxy] at hneq
                    have HE : Hid (s.xs.take (k + 1) = t.xs.take (k + 1)) := by show _ = _; rw [take_snocI _ k _ HXX.out, take_snocI _ k _ HYY.out, HA.out, hxy]
                    clear hxy
                    go_wp2
                    go_quiet (fail)
                    go_wp2
                    go_roundw
                    case rel => exact ⟨k + 1, by omega, by go_num, HE, by first | exact HS3.out.drewN _ | exact HS3.out.drew⟩
                    case measure => simp [intOf]; omega
                  · have hneq := fun W => run_neq_it W xd xa xz yd ya yz
                    rw [decide_eq_false hxy] at hneq
                    have HF : Hid (r = false) := HNO.out fun e => hxy (by subst e; have := HXX.out; rw [HYY.out] at this; exact (Option.some.inj this).symm)
                    clear hxy
                    go_wp2
                    go_quiet (fail)
                    go_wp2
                    go_ret
                    exact ⟨ret_bool HF.out.symm, by first | exact (HS3.out.drewN _).old | exact HS3.out.drew.old⟩
                · have HXE : Hid (s.xs = t.xs) := by
                    have := HA.out
                    rwa [List.take_of_length_le (by rw [← HXN.out]; exact h4), List.take_of_length_le (by rw [← HZN.out]; exact h4)] at this
                  have d0 : decide ((k : Int) < (xn : Int)) = false := decide_eq_false (by omega)
                  have d1 : decide (k < xn) = false := decide_eq_false (by omega)
                  have HF : Hid (r = true) := HM.out.symm.trans (decide_eq_true ((sc_eq s t).2 ⟨HRE.out, HPE.out, HXE.out⟩))
                  go_wp2
                  go_ret
                  exact ⟨ret_bool HF.out.symm, HS3.out.old⟩
    · have HB : Hid (Below w.heap.size w ((w.alloc (.cells #[.int .i64 r0, .int .i64 r1, .int .i64 r2, .int .i64 r3, .slice pA pn pc, .slice xA xn xc] 39)).alloc (.cells #[.int .i64 t0, .int .i64 t1, .int .i64 t2, .int .i64 t3, .slice yA pn yc, .slice zA zn zc] 39))) := (new_below0 w _).alloc (by simp) _
      have HF : Hid (r = false) := HNO.out fun e => hxz (by rw [HXN.out, HZN.out, e])
      have hne : ((xn : Int) != (zn : Int)) = true := by rw [bne_iff_ne]; omega
      have hne2 : (xn != zn) = true := by rw [bne_iff_ne]; exact hxz
      clear hxz
      go_enter Tryd.func18, Tryd.ntmps18
      go_wp2
      go_ret
      exact ⟨ret_bool HF.out.symm, HB.out⟩
  · have HB : Hid (Below w.heap.size w ((w.alloc (.cells #[.int .i64 r0, .int .i64 r1, .int .i64 r2, .int .i64 r3, .slice pA pn pc, .slice xA xn xc] 39)).alloc (.cells #[.int .i64 t0, .int .i64 t1, .int .i64 t2, .int .i64 t3, .slice yA yn yc, .slice zA zn zc] 39))) := (new_below0 w _).alloc (by simp) _
    have HF : Hid (r = false) := HNO.out fun e => hpy (by rw [HPN.out, HYN.out, e])
    have hne : ((pn : Int) != (yn : Int)) = true := by rw [bne_iff_ne]; omega
    have hne2 : (pn != yn) = true := by rw [bne_iff_ne]; exact hpy
    clear hpy
    go_enter Tryd.func18, Tryd.ntmps18
    go_wp2
    go_ret
    exact ⟨ret_bool HF.out.symm, HB.out⟩
end Go.Proofs.YtolooaahaofflaaDoor.RefScr
