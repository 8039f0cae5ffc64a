/-
  Contracts of the functions of package after, as it landed, third part: begin, Fire, Rows, Waiting. Condition: the list is at hand.
-/
import Derived.Test.YtindcpcfilfnkaaAftD
namespace Go.Proofs.Ytindcpcfilfnkaa.AftC
open Go.ChangeShapes Go.WideShapes Go.ChangeAt Go.RowKit Mem AfterP Hand RefAfter

theorem rd_move {w w' : World} {G : Nat → Prop} {v : Value} {xs : List Int} (h : Rd w G v xs) (hk : ∀ k, G k → k < w'.heap.size ∧ w'.heap[k]? = w.heap[k]?) : Rd w' G v xs := by
  obtain ⟨A, c, e, hm, hx⟩ := h
  refine ⟨A, c, e, hm, fun hp => ?_⟩
  obtain ⟨b, off, ha, hg, hb, hc⟩ := hx hp
  exact ⟨b, off, ha, hg, (hk b hg).1, fun j hj => (World.cell?_of_block (w := w) (hk b hg).2).trans (hc j hj)⟩
section
variable {B : Nat → Prop} {w wk : World} {Rs : List Res} {p : Nat} {M : Int} {L : List Rg}
set_option maxRecDepth 100000 in
set_option maxHeartbeats 2000000 in
/-- begin(d): all that wait for d are begun. -/
theorem begin_s (h : Sep B w wk (la p L M :: Rs)) (d : Int) (hd : In64 d) :
    Calls Try.prog 26 #[.pointer (some ⟨p, 0, none⟩), .int .i64 d] wk fun e wn => ∃ A c, e = .returned (.slice A (waitsL L d).length c) ∧ Sep B w wn (grow intE 3 (.slice A (waitsL L d).length c) (waitsL L d) :: la p (fire1 L d) M :: Rs) := by
  obtain ⟨A, c, b, f, hs, hok⟩ := la_open h
  have HOK := Lib.hid (hok.fire1 d)
  have hl200 : L.length ≤ 200 := by have := hok.len; have := hok.m1; omega
  have k2 := (cell_block (hs.blk_at 0 rfl) 2).trans rfl
  have hlk := sm_look hs 2 rfl hd
  have S1 := lst_take hs d
  obtain ⟨Ao, co, hfo⟩ := (S1.own 3 rfl).form
  have hwl := waits_len L d
  have HME : Hid (∀ x ∈ waitsL L d, ∃ q : Nat, x = q ∧ q < L.length) := fun x hx => thereR_nat (mem_waits.1 hx).1
  have HND : Hid ((waitsL L d).Pairwise (· < ·)) := waits_sorted L d
  have HMW : Hid (markR L (waitsL L d) = fire1 L d) := markR_waits L d
  have HWF : Hid (∀ x, waitsL (fire1 L d) x = if x = d then [] else waitsL L x) := waits_fire L d
  have HD := Lib.hid hd
  have S0 : Hid (Sep B w wk (blk p (.cells #[.int .i64 M, .slice A L.length c, .map (some b)] 60) :: grow rgE 54 (.slice A L.length c) (markR L ((waitsL L d).take 0)) :: sm b L.length f :: grow intE 3 (.slice Ao (waitsL L d).length co) (waitsL L d) :: fam (fun x => x ≠ d) f (waitsL L) :: Rs)) := by
    rw [hfo] at S1
    show Sep _ _ _ _
    rw [List.take_zero, markR_nil]
    exact S1
  rw [hfo] at hlk
  clear h hs hok hfo S1 hd
  generalize hW : waitsL L d = l at *
  have HW := Lib.hid hW
  clear hW
  go_enter Try.func26, Try.ntmps26
  go_wp2
  go_loopw [16] (fun t wr => ∃ j : Nat, j ≤ l.length ∧ t = .int .i64 j ∧ Hid (Sep B w wr (blk p (.cells #[.int .i64 M, .slice A L.length c, .map (some b)] 60) :: grow rgE 54 (.slice A L.length c) (markR L (l.take j)) :: sm b L.length f :: grow intE 3 (.slice Ao l.length co) l :: fam (fun x => x ≠ d) f (waitsL L) :: Rs))) (fun t _ => l.length - (intOf t).toNat)
  case atStart => exact ⟨0, Nat.zero_le _, rfl, S0.out⟩
  case round =>
    obtain ⟨j, hj, rfl, HS⟩ := hrel
    clear S0 k2 hlk
    by_cases hlt : j < l.length
    · have hg : l[j]? = some (l.getD j 0) := by rw [List.getD_eq_getElem?_getD, List.getElem?_eq_getElem hlt]; rfl
      obtain ⟨q, hxq, hq⟩ := HME.out _ (List.mem_of_getElem? hg)
      have HTk : Hid (l.take (j + 1) = l.take j ++ [(q : Int)]) := by show _ = _; rw [List.take_add_one, hg, hxq]; rfl
      have hnq : (q : Int) ∉ l.take j := fun hm => by
        obtain ⟨t, ht, he⟩ := List.getElem_of_mem hm
        rw [List.length_take] at ht
        rw [List.getElem_take] at he
        have h1 := List.pairwise_iff_getElem.1 HND.out t j (by omega) hlt (by omega)
        have h2 : l[j] = (q : Int) := by rw [List.getElem?_eq_getElem hlt] at hg; injection hg with hg; rw [hg, hxq]
        omega
      obtain ⟨b1, o1, e1, _, _, hc1⟩ := Rd.cells7 (rd_of ((HS.out.own 3 rfl).rd (G := fun _ => True) (by omega) fun _ _ => trivial)) (by omega)
      have q0 := hc1 j hlt
      rw [hxq] at q0
      have hrow : (markR L (l.take j))[q]? = some (rg L q) := markR_at hq hnq
      obtain ⟨bb, cc, eA, _, hcc, hff⟩ := HS.out.elem 1 rfl hrow
      have c2 : wr.cell? ⟨bb, q * 3 + 2, none⟩ = some (.int .i64 (rg L q).st) := hcc 2 _ rfl
      have f2 := hff (q * 3 + 2)
      have k1 := (cell_block (HS.out.blk_at 0 rfl) 1).trans rfl
      obtain rfl : A = some ⟨bb, 0, none⟩ := by injection eA with e1
      subst e1
      have HN : Hid (Sep B w (wr.setCell ⟨bb, q * 3 + 2, none⟩ (.int .i64 2)) (blk p (.cells #[.int .i64 M, .slice (some ⟨bb, 0, none⟩) L.length c, .map (some b)] 60) :: grow rgE 54 (.slice (some ⟨bb, 0, none⟩) L.length c) (markR L (l.take (j + 1))) :: sm b L.length f :: grow intE 3 (.slice (some ⟨b1, o1, none⟩) l.length co) l :: fam (fun x => x ≠ d) f (waitsL L) :: Rs)) := by
        have h1 := HS.out.setc 1 rfl (x' := { rg L q with st := 2 }) (j := 2) (u := .int .i64 2) hrow (by show 2 < 3; omega) rfl
        rw [← markR_snoc hq, ← HTk.out] at h1
        exact h1
      have i0 : (0 : Int) ≤ (j : Int) := by omega
      have i1 : (j : Int) < (l.length : Int) := by omega
      have z0 : (0 : Int) ≤ (q : Int) := by omega
      have z1 : (q : Int) < (L.length : Int) := by omega
      clear hg hnq hc1 hrow hcc hff eA HS hxq HTk
      generalize (rg L q).st = st at *
      go_wp2
      go_roundw
      case rel => exact ⟨j + 1, by omega, by go_num, HN⟩
      case measure => simp [intOf]; omega
    · have HT : Hid (l.take j = l) := List.take_of_length_le (by omega)
      have S2 := HS.out
      rw [HT.out, HMW.out] at S2
      have S3 := Lib.hid S2
      have k2 := (cell_block (S2.blk_at 0 rfl) 2).trans rfl
      clear S2 HS
      go_wp2_with (at_delete; refine wp_sdel rfl _ _ rfl rfl rfl S3.out 2 rfl HD.out ?_)
      intro w3 h3
      have HFIN : Hid (Sep B w w3 (grow intE 3 (.slice Ao l.length co) l :: la p (fire1 L d) M :: Rs)) := by
        have h4 := lst_out (W' := waitsL (fire1 L d)) h3 rfl (by rw [HWF.out, if_pos rfl]) fun x hx => by rw [HWF.out, if_neg hx]
        have h5 := h4.perm (List.perm_middle (l₁ := lst p M (.slice A L.length c) b L.length (upd f d vN) (fire1 L d) (waitsL (fire1 L d))) (l₂ := Rs)).symm
        exact (la_close h5 (by rw [fire1_len]; exact Nat.le_refl _) HOK.out).swap
      clear h3 S3 k2
      go_wp2
      go_ret
      exact ⟨_, _, rfl, HFIN.out⟩

set_option maxRecDepth 100000 in
set_option maxHeartbeats 2000000 in
/-- Fire(on): one behind the other. -/
theorem fire_s (h : Sep B w wk (la p L M :: Rs)) {G : Nat → Prop} {u : Value} {on : List Int} (hr : Rd wk G u on) (hG : ∀ k, G k → k < w.heap.size ∧ ¬ B k) (hl : on.length ≤ 1000) (hin : ∀ x ∈ on, In64 x) :
    Calls Try.prog 21 #[.pointer (some ⟨p, 0, none⟩), u] wk fun e wn => ∃ A c, e = .returned (.slice A (fireO L on).length c) ∧ Sep B w wn (grow intE 3 (.slice A (fireO L on).length c) (fireO L on) :: la p (fireL L on) M :: Rs) := by
  obtain ⟨Au, cu, rfl⟩ := rd_form hr
  have hok := la_ok h
  have hl200 : L.length ≤ 200 := by have := hok.len; have := hok.m1; omega
  have HFL : Hid (∀ j, (fireO L (on.take j)).length ≤ 200000 ∧ (waitsL (fireL L (on.take j)) (on.getD j 0)).length ≤ 200) := fun j => by
    refine ⟨?_, ?_⟩
    · have h1 := fireO_len L (on.take j)
      have h2 : (on.take j).length ≤ 1000 := by rw [List.length_take]; omega
      exact Nat.le_trans h1 (Nat.le_trans (Nat.mul_le_mul hl200 h2) (by omega))
    · have h1 := waits_len (fireL L (on.take j)) (on.getD j 0)
      rw [fireL_len] at h1
      omega
  have HRD : Hid (∀ W Rs', Sep B w W Rs' → Rd W G (.slice Au on.length cu) on) := fun W Rs' hs => rd_move hr fun k hk => by
    obtain ⟨h1, h2⟩ := hG k hk
    exact ⟨Nat.lt_of_lt_of_le h1 hs.1.size, (hs.1.block k h1 h2).trans (h.1.block k h1 h2).symm⟩
  have HIN := Lib.hid hin
  have S0 : Hid (Sep B w wk (grow intE 3 (.slice none 0 0) (fireO L (on.take 0)) :: la p (fireL L (on.take 0)) M :: Rs)) := by
    show Sep _ _ _ _
    rw [List.take_zero]
    exact grow_none h intE 3
  clear h hr hok hin hl200
  go_enter Try.func21, Try.ntmps21
  go_wp2
  go_loopw [5, 10] (fun o t wr => ∃ j : Nat, j ≤ on.length ∧ t = .int .i64 j ∧ Hid (∃ A c, o = .slice A (fireO L (on.take j)).length c ∧ Sep B w wr (grow intE 3 (.slice A (fireO L (on.take j)).length c) (fireO L (on.take j)) :: la p (fireL L (on.take j)) M :: Rs))) (fun _ t _ => on.length - (intOf t).toNat)
  case atStart => exact ⟨0, Nat.zero_le _, rfl, _, _, rfl, S0.out⟩
  case round =>
    obtain ⟨j, hj, rfl, HS⟩ := hrel
    obtain ⟨A1, c1, rfl, hs⟩ := HS.out
    have S1 := Lib.hid hs
    clear HS hs S0
    by_cases hlt : j < on.length
    · have hg : on[j]? = some (on.getD j 0) := by rw [List.getD_eq_getElem?_getD, List.getElem?_eq_getElem hlt]; rfl
      obtain ⟨b1, o1, rfl, _, _, hc1⟩ := Rd.cells7 (HRD.out _ _ S1.out) (by omega)
      have q0 := hc1 j hlt
      have HX : Hid (In64 (on.getD j 0)) := HIN.out _ (List.mem_of_getElem? hg)
      obtain ⟨hf1, hf2⟩ := HFL.out j
      have HSN := fire_snoc L (on.take j) (on.getD j 0)
      have HTk : on.take (j + 1) = on.take j ++ [on.getD j 0] := by rw [List.take_add_one, hg]; rfl
      rw [← HTk] at HSN
      have HSN2 := Lib.hid HSN
      have i0 : (0 : Int) ≤ (j : Int) := by omega
      have i1 : (j : Int) < (on.length : Int) := by omega
      clear hg hc1 HSN HTk
      generalize on.getD j 0 = x at *
      generalize fireL L (on.take j) = L1 at *
      generalize fireO L (on.take j) = O1 at *
      go_wp2_with fail
      refine (begin_s S1.out.swap x HX.out).mono ?_
      rintro e w2 ⟨A2, c2, rfl, h2⟩
      have S2 := Lib.hid h2
      have HR2 : Hid (RdL intE w2 (fun _ => True) (.slice A2 (waitsL L1 x).length c2) (waitsL L1 x)) := (h2.own 0 rfl).rd (by omega) fun _ _ => trivial
      clear h2 S1
      go_wp2_with (at_builtin; refine wpList_appS rfl _ _ intElemL rfl rfl rfl S2.out 2 rfl HR2.out (by omega) ?_)
      intro A3 c3 w3 l3 hl3 h3
      have HN : Hid (∃ A c, (Value.slice A3 l3.length c3) = .slice A (fireO L (on.take (j + 1))).length c ∧ Sep B w w3 (grow intE 3 (.slice A (fireO L (on.take (j + 1))).length c) (fireO L (on.take (j + 1))) :: la p (fireL L (on.take (j + 1))) M :: Rs)) := by
        rw [HSN2.out.1, HSN2.out.2, ← hl3.out]
        exact ⟨_, _, rfl, (Sep.swap h3.tail)⟩
      clear h3 hl3 S2 HR2
      go_wp2
      go_roundw
      case rel => exact ⟨j + 1, by omega, by go_num, HN⟩
      case measure => simp [intOf]; omega
    · have HT : Hid (on.take j = on) := List.take_of_length_le (by omega)
      have S2 := S1.out
      rw [HT.out] at S2 ⊢
      have S3 := Lib.hid S2
      clear S2 S1
      go_wp2
      go_ret
      exact ⟨_, _, rfl, S3.out⟩

/-- Rows(): all. -/
theorem rowsL_s (h : Sep B w wk (la p L M :: Rs)) : Calls Try.prog 17 #[.pointer (some ⟨p, 0, none⟩)] wk fun e wn => ∃ u, e = .returned u ∧ RdL rgE wn (fun k => wk.heap.size ≤ k) u L ∧ Below wk.heap.size wk wn := by
  obtain ⟨A, c, b, f, hs, hok⟩ := la_open h
  have hl200 : L.length ≤ 200 := by have := hok.len; have := hok.m1; omega
  have k1 := (cell_block (hs.blk_at 0 rfl) 1).trans rfl
  have HR : Hid (RdL rgE wk (fun _ => True) (.slice A L.length c) L) := (hs.own 1 rfl).rd (by omega) fun _ _ => trivial
  clear h hs hok
  go_enter Try.func17, Try.ntmps17
  go_wp2_with fail
  refine (clone_r HR.out (by omega)).mono ?_
  rintro e w1 ⟨v, rfl, ho, hb⟩
  obtain ⟨A1, c1, rfl⟩ := ho.form
  have HO := Lib.hid (ho.rd (G := fun k => wk.heap.size ≤ k) (by omega) fun k hk => (ho.lt k hk).1)
  have HB := Lib.hid hb
  clear ho hb
  go_wp2
  go_ret
  exact ⟨_, rfl, HO.out, HB.out⟩
/-- Waiting(d): who waits for it. -/
theorem waitingL_s (h : Sep B w wk (la p L M :: Rs)) (d : Int) (hd : In64 d) : Calls Try.prog 18 #[.pointer (some ⟨p, 0, none⟩), .int .i64 d] wk fun e wn => ∃ u, e = .returned u ∧ Says wk wn u (waitsL L d) := by
  obtain ⟨A, c, b, f, hs, hok⟩ := la_open h
  have hl200 : L.length ≤ 200 := by have := hok.len; have := hok.m1; omega
  have k2 := (cell_block (hs.blk_at 0 rfl) 2).trans rfl
  have hlk := sm_look hs 2 rfl hd
  have S1 := lst_take hs d
  obtain ⟨Ao, co, hfo⟩ := (S1.own 3 rfl).form
  have hwl := waits_len L d
  rw [hfo] at hlk
  have HR : Hid (Rd wk (fun _ => True) (.slice Ao (waitsL L d).length co) (waitsL L d)) := by
    have h1 := rd_of ((S1.own 3 rfl).rd (G := fun _ => True) (by omega) fun _ _ => trivial)
    rw [hfo] at h1
    exact h1
  clear h hs hok S1 hfo hd
  generalize waitsL L d = l at *
  go_enter Try.func18, Try.ntmps18
  go_wp2_with fail
  refine (clone_n HR.out (by omega)).mono ?_
  rintro e w1 ⟨v, rfl, ho, hb⟩
  obtain ⟨A1, c1, rfl⟩ := ho.form
  have HO := Lib.hid (rd_of (ho.rd (G := fun k => wk.heap.size ≤ k) (by omega) fun k hk => (ho.lt k hk).1))
  have HB := Lib.hid hb
  clear ho hb
  go_wp2
  go_ret
  exact ⟨_, rfl, HO.out, HB.out⟩
end
end Go.Proofs.Ytindcpcfilfnkaa.AftC
