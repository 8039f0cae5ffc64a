/-
  The law's own helpers of layer 17: Own, Large; scripts as they came in. Condition: what the scripts read as.
-/
import Derived.Test.YtolooaahaofflaaDoorRefScrD
namespace Go.Proofs.YtolooaahaofflaaDoor.RefScr
open Go.ChangeShapes Go.WideShapes Go.ChangeAt Go.RowKit Mem MutP CodeP ScriptP Hand RefCode CodeI Scr

set_option maxRecDepth 100000 in
set_option maxHeartbeats 2000000 in
/-- Own(s): the document's, in new memory. -/
theorem own_s {w : World} {G : Nat → Prop} {q : Sv} {s : Sc} (h : RdS w G q s) (hs : Small s) :
    Calls Tryd.prog 10 #[.agg q.arr] w fun e w' => ∃ q', e = .returned (.agg q'.arr) ∧ SaysS w w' q' s := by
  obtain ⟨r0, r1, r2, r3, pA, pn, pc, xA, xn, xc⟩ := q
  have hpn := h.pn
  have hxn := h.xn
  obtain ⟨hr, hp, hx, _, _⟩ := h
  simp only at hpn hxn hr hp hx
  have HP := Lib.hid hp
  have HX := Lib.hid hx
  have HRR := Lib.hid hr
  have HPN := Lib.hid hpn
  have HXN := Lib.hid hxn
  have HSM := Lib.hid hs
  have bpn : pn ≤ 20 := by rw [hpn]; exact hs.1
  have bxn : xn ≤ 220 := by rw [hxn]; exact hs.2.2
  have S0 : Hid (Sep (fun _ => False) w (((w.alloc (.cells #[.int .i64 r0, .int .i64 r1, .int .i64 r2, .int .i64 r3, .slice pA pn pc, .slice xA xn xc] 28)).alloc (.cells #[.int .i64 0, .int .i64 0, .int .i64 0, .int .i64 0, .slice none 0 0, .slice none 0 0] 39)).alloc (.cells #[.int .i64 r0, .int .i64 r1, .int .i64 r2, .int .i64 r3, .slice none 0 0, .slice none 0 0] 39)) [blk (w.heap.size + 1 + 1) (.cells #[.int .i64 r0, .int .i64 r1, .int .i64 r2, .int .i64 r3, .slice none 0 0, .slice none 0 0] 39), blk (w.heap.size + 1) (.cells #[.int .i64 0, .int .i64 0, .int .i64 0, .int .i64 0, .slice none 0 0, .slice none 0 0] 39), blk w.heap.size (.cells #[.int .i64 r0, .int .i64 r1, .int .i64 r2, .int .i64 r3, .slice pA pn pc, .slice xA xn xc] 28), grow plE 64 (.slice none 0 0) ([] : List (Pl In)), readsP inE []]) := by
    have h1 := (((Sep.nil (fun _ => False) w).new (.cells #[.int .i64 r0, .int .i64 r1, .int .i64 r2, .int .i64 r3, .slice pA pn pc, .slice xA xn xc] 28)).new (.cells #[.int .i64 0, .int .i64 0, .int .i64 0, .int .i64 0, .slice none 0 0, .slice none 0 0] 39)).new (.cells #[.int .i64 r0, .int .i64 r1, .int .i64 r2, .int .i64 r3, .slice none 0 0, .slice none 0 0] 39)
    simp only [World.size_alloc] at h1
    have h2 := grow_none (h1.readsP_nil inE) (plE (α := In)) 64
    exact h2.perm (List.perm_append_comm (l₁ := [grow plE 64 (.slice none 0 0) ([] : List (Pl In)), readsP inE []]) (l₂ := [blk (w.heap.size + 1 + 1) (.cells #[.int .i64 r0, .int .i64 r1, .int .i64 r2, .int .i64 r3, .slice none 0 0, .slice none 0 0] 39), blk (w.heap.size + 1) (.cells #[.int .i64 0, .int .i64 0, .int .i64 0, .int .i64 0, .slice none 0 0, .slice none 0 0] 39), blk w.heap.size (.cells #[.int .i64 r0, .int .i64 r1, .int .i64 r2, .int .i64 r3, .slice pA pn pc, .slice xA xn xc] 28)]))
  unfold Sv.arr
  simp only
  clear hp hx hr hpn hxn hs
  go_enter Tryd.func10, Tryd.ntmps10
  go_wp2
  go_loopw [14] (fun v wr => ∃ (i : Nat) (qs : List (Pl In)) (Ap : Option Addr) (cp : Nat), i ≤ pn ∧ v = .int .i64 (i : Int) ∧ Hid (qs.map Pl.l = s.ps.take i ∧ qs.length = i) ∧ Hid (Sep (fun _ => False) w wr [blk (w.heap.size + 1 + 1) (.cells #[.int .i64 r0, .int .i64 r1, .int .i64 r2, .int .i64 r3, .slice Ap qs.length cp, .slice none 0 0] 39), blk (w.heap.size + 1) (.cells #[.int .i64 0, .int .i64 0, .int .i64 0, .int .i64 0, .slice none 0 0, .slice none 0 0] 39), blk w.heap.size (.cells #[.int .i64 r0, .int .i64 r1, .int .i64 r2, .int .i64 r3, .slice pA pn pc, .slice xA xn xc] 28), grow plE 64 (.slice Ap qs.length cp) qs, readsP inE qs])) (fun v _ => pn - (intOf v).toNat)
  case atStart => exact ⟨0, [], none, 0, Nat.zero_le _, rfl, ⟨rfl, rfl⟩, S0.out⟩
  case round =>
    obtain ⟨i, qs, Ap, cp, hi, rfl, HQ, HS⟩ := hrel
    clear S0
    rcases (by omega : i < pn ∨ pn ≤ i) with h4 | h4
    · obtain ⟨p, hp⟩ : ∃ p, s.ps[i]? = some p := ⟨_, List.getElem?_eq_getElem (by rw [← HPN.out]; exact h4)⟩
      obtain ⟨b, off, A', c', rfl, hb, _, e0, hrd⟩ := (HP.out.below HS.out.old).at_ hp
      have HT : Hid (s.ps.take (i + 1) = s.ps.take i ++ [p]) := take_snocI _ i p hp
      have HC := Lib.hid (own_f hrd.drew (by have := HSM.out.2.1 p (List.mem_of_getElem? hp); omega))
      obtain ⟨m, hm⟩ : ∃ m, p.length = m := ⟨_, rfl⟩
      have HPM := Lib.hid hm
      rw [hm] at e0 HC
      have i0 : (0 : Int) ≤ (i : Int) := by omega
      have i1 : (i : Int) < (pn : Int) := by omega
      have d0 : decide ((i : Int) < (pn : Int)) = true := decide_eq_true i1
      have d1 : decide (i < pn) = true := decide_eq_true h4
      have HQL : Hid (qs.length ≤ 20) := by have := HQ.out.2; show _ ≤ _; omega
      have S2 := Lib.hid HS.out.drew
      clear hp hm hb hrd
      go_upto_region 5 with (fail)
      clear e0
      refine Held.begin_ (fun V : World => V.cell? ⟨(w.heap.size + 1 + 1), 4, none⟩ = some (.slice Ap qs.length cp)) 7 (by kernel_rfl) ?_
      have hC : (fun V : World => V.cell? ⟨(w.heap.size + 1 + 1), 4, none⟩ = some (.slice Ap qs.length cp)) wr.drew := (cell_block (S2.out.blk_at 0 rfl) 4).trans rfl
      refine Held.take 0 (v := ?_) hC rfl (by kernel_rfl) (by kernel_rfl) (by kernel_rfl) (by kernel_rfl) (fun _ _ _ h => h) ?_ ?_; rotate_left; · (intro W hW; go_simp <;> with_reducible rfl)
      try simp only [Act.put, List.setIfInBounds_toArray, List.set_cons_zero, List.set_cons_succ]
      refine Held.take 1 (v := ?_) hC rfl (by kernel_rfl) (by kernel_rfl) (by kernel_rfl) (by kernel_rfl) (fun _ _ _ h => h) ?_ ?_; rotate_left; · (intro W hW; go_simp <;> with_reducible rfl)
      try simp only [Act.put, List.setIfInBounds_toArray, List.set_cons_zero, List.set_cons_succ]
      refine Held.take 2 (v := ?_) hC rfl (by kernel_rfl) (by kernel_rfl) (by kernel_rfl) (by kernel_rfl) (fun _ _ _ h => h) ?_ ?_; rotate_left; · (intro W hW; go_simp <;> with_reducible rfl)
      try simp only [Act.put, List.setIfInBounds_toArray, List.set_cons_zero, List.set_cons_succ]
      clear hC HS
      generalize wr.drew = w0 at *
      refine Held.only 3 (by kernel_rfl) rfl ?_
      intro K hK
      go_simp
      refine HC.out.mono ?_
      rintro e w5 ⟨u, rfl, hsy, hfu⟩
      obtain ⟨Au, cu, rfl⟩ := hsy.1.form
      have hfc := hfu _ _ _ rfl
      obtain ⟨z, hz⟩ : ∃ z : Pl In, z = ⟨Au, cu, p⟩ := ⟨_, rfl⟩
      have hqv : z.v = .slice Au m cu := by rw [hz, ← HPM.out]; rfl
      have HZ : Hid (z.l = p ∧ z.l.length ≤ z.c) := by rw [hz]; exact ⟨rfl, hfc⟩
      have hsy2 : SaysL inE w0 w5 z.v z.l := by rw [hz]; exact hsy
      have S5 := Lib.hid (SaysL.sep S2.out hsy2)
      rw [HPM.out]
      refine hK.out _ _ (fun _ => (cell_block (S5.out.blk_at 1 rfl) 4).trans rfl) ?_
      clear hK K
      try simp only [Act.put, List.setIfInBounds_toArray, List.set_cons_zero, List.set_cons_succ]
      refine Held.only 4 (by kernel_rfl) rfl ?_
      intro K hK
      go_simp
      have S6 : Hid (Sep (fun _ => False) w (w5.alloc (.cells #[.slice Au m cu] 64)) (told plE (.slice (some ⟨w5.heap.size, 0, none⟩) 1 1) [z] :: told inE z.v z.l :: [blk (w.heap.size + 1 + 1) (.cells #[.int .i64 r0, .int .i64 r1, .int .i64 r2, .int .i64 r3, .slice Ap qs.length cp, .slice none 0 0] 39), blk (w.heap.size + 1) (.cells #[.int .i64 0, .int .i64 0, .int .i64 0, .int .i64 0, .slice none 0 0, .slice none 0 0] 39), blk w.heap.size (.cells #[.int .i64 r0, .int .i64 r1, .int .i64 r2, .int .i64 r3, .slice (some ⟨b, off, none⟩) pn pc, .slice xA xn xc] 28), grow plE 64 (.slice Ap qs.length cp) qs, readsP inE qs])) := by
        rw [← hqv]
        exact S5.out.lit_told (E := plE) 64 [z] (cs := #[z.v]) rfl (by simp) rfl
      refine hK.out _ _ (fun _ => (cell_block (S6.out.blk_at 2 rfl) 4).trans rfl) ?_
      clear hK K
      try simp only [Act.put, List.setIfInBounds_toArray, List.set_cons_zero, List.set_cons_succ]
      refine Held.only 5 (by kernel_rfl) rfl ?_
      intro K hK
      refine wp_appC (.tmp 19) (.tmp 22) r17P rfl rfl rfl S6.out 5 rfl (S6.out.rdL 0 rfl) (by have := HQL.out; simp; omega) ?_
      intro A7 c7 w7 l7 HL7 h7
      have S7 : Hid (Sep (fun _ => False) w w7 (told inE z.v z.l :: [blk (w.heap.size + 1 + 1) (.cells #[.int .i64 r0, .int .i64 r1, .int .i64 r2, .int .i64 r3, .slice Ap qs.length cp, .slice none 0 0] 39), blk (w.heap.size + 1) (.cells #[.int .i64 0, .int .i64 0, .int .i64 0, .int .i64 0, .slice none 0 0, .slice none 0 0] 39), blk w.heap.size (.cells #[.int .i64 r0, .int .i64 r1, .int .i64 r2, .int .i64 r3, .slice (some ⟨b, off, none⟩) pn pc, .slice xA xn xc] 28), grow plE 64 (.slice A7 l7.length c7) l7, readsP inE qs])) := Sep.tail h7
      clear h7
      refine hK.out _ _ (fun _ => (cell_block (S7.out.blk_at 1 rfl) 4).trans rfl) ?_
      clear hK K
      try simp only [Act.put, List.setIfInBounds_toArray, List.set_cons_zero, List.set_cons_succ]
      have y4 : w7.cell? ⟨(w.heap.size + 1 + 1), 4, none⟩ = some (.slice Ap qs.length cp) := (cell_block (S7.out.blk_at 1 rfl) 4).trans rfl
      have yf := frozen_block (S7.out.blk_at 1 rfl) 4
      have S8 : Hid (Sep (fun _ => False) w (w7.setCell ⟨(w.heap.size + 1 + 1), 4, none⟩ (.slice A7 l7.length c7)) [blk (w.heap.size + 1 + 1) (.cells #[.int .i64 r0, .int .i64 r1, .int .i64 r2, .int .i64 r3, .slice A7 l7.length c7, .slice none 0 0] 39), blk (w.heap.size + 1) (.cells #[.int .i64 0, .int .i64 0, .int .i64 0, .int .i64 0, .slice none 0 0, .slice none 0 0] 39), blk w.heap.size (.cells #[.int .i64 r0, .int .i64 r1, .int .i64 r2, .int .i64 r3, .slice (some ⟨b, off, none⟩) pn pc, .slice xA xn xc] 28), grow plE 64 (.slice A7 l7.length c7) l7, readsP inE l7]) := by
        have h8 := S7.out.set 1 rfl 4 (.slice A7 l7.length c7)
        have h9 : Sep (fun _ => False) w (w7.setCell ⟨(w.heap.size + 1 + 1), 4, none⟩ (.slice A7 l7.length c7)) (told inE z.v z.l :: readsP inE qs :: [blk (w.heap.size + 1 + 1) (.cells #[.int .i64 r0, .int .i64 r1, .int .i64 r2, .int .i64 r3, .slice A7 l7.length c7, .slice none 0 0] 39), blk (w.heap.size + 1) (.cells #[.int .i64 0, .int .i64 0, .int .i64 0, .int .i64 0, .slice none 0 0, .slice none 0 0] 39), blk w.heap.size (.cells #[.int .i64 r0, .int .i64 r1, .int .i64 r2, .int .i64 r3, .slice (some ⟨b, off, none⟩) pn pc, .slice xA xn xc] 28), grow plE 64 (.slice A7 l7.length c7) l7]) := h8.perm ((List.perm_append_comm (l₁ := [blk (w.heap.size + 1 + 1) (.cells #[.int .i64 r0, .int .i64 r1, .int .i64 r2, .int .i64 r3, .slice A7 l7.length c7, .slice none 0 0] 39), blk (w.heap.size + 1) (.cells #[.int .i64 0, .int .i64 0, .int .i64 0, .int .i64 0, .slice none 0 0, .slice none 0 0] 39), blk w.heap.size (.cells #[.int .i64 r0, .int .i64 r1, .int .i64 r2, .int .i64 r3, .slice (some ⟨b, off, none⟩) pn pc, .slice xA xn xc] 28), grow plE 64 (.slice A7 l7.length c7) l7]) (l₂ := [readsP inE qs])).cons _)
        have h10 := h9.readsP_add HZ.out.2
        rw [← HL7.out] at h10
        exact h10.perm (List.perm_append_comm (l₁ := [readsP inE l7]) (l₂ := [blk (w.heap.size + 1 + 1) (.cells #[.int .i64 r0, .int .i64 r1, .int .i64 r2, .int .i64 r3, .slice A7 l7.length c7, .slice none 0 0] 39), blk (w.heap.size + 1) (.cells #[.int .i64 0, .int .i64 0, .int .i64 0, .int .i64 0, .slice none 0 0, .slice none 0 0] 39), blk w.heap.size (.cells #[.int .i64 r0, .int .i64 r1, .int .i64 r2, .int .i64 r3, .slice (some ⟨b, off, none⟩) pn pc, .slice xA xn xc] 28), grow plE 64 (.slice A7 l7.length c7) l7]))
      have HQ2 : Hid (l7.map Pl.l = s.ps.take (i + 1) ∧ l7.length = i + 1) := by
        refine ⟨?_, ?_⟩
        · rw [HL7.out, List.map_append, List.map_cons, List.map_nil, HZ.out.1, HQ.out.1, HT.out]
        · rw [HL7.out, List.length_append, HQ.out.2]; rfl
      clear S7 S6 S5 hsy hsy2 hz hqv hfu hfc S2
      refine Held.only 6 (by kernel_rfl) rfl ?_
      intro K hK
      go_simp
      refine hK.out _ _ (fun _ => y4) ?_
      clear hK K
      try simp only [Act.put, List.setIfInBounds_toArray, List.set_cons_zero, List.set_cons_succ]
      refine Held.only 7 (by kernel_rfl) rfl ?_
      intro K hK
      go_simp
      refine hK.out _ _ (fun h => absurd rfl h) ?_
      clear hK K
      try simp only [Act.put]
      refine Held.done (by kernel_rfl) ?_ _
      go_wp2_with fail
      go_roundw
      case rel => exact ⟨i + 1, l7, A7, c7, by omega, by go_num, HQ2, S8⟩
      case measure => simp [intOf]; omega
    · have HPS : Hid (qs.map Pl.l = s.ps) := by
        show _ = _
        rw [HQ.out.1, List.take_of_length_le (by rw [← HPN.out]; exact h4)]
      have HQL : Hid (qs.length ≤ 20) := by have := HQ.out.2; show _ ≤ _; omega
      have k5 : wr.cell? ⟨w.heap.size, 5, none⟩ = some (.slice xA xn xc) := (cell_block (HS.out.blk_at 2 rfl) 5).trans rfl
      have d0 : decide ((i : Int) < (pn : Int)) = false := decide_eq_false (by omega)
      have d1 : decide (i < pn) = false := decide_eq_false (by omega)
      have S3 : Hid (Sep (fun _ => False) w wr [blk (w.heap.size + 1 + 1) (.cells #[.int .i64 r0, .int .i64 r1, .int .i64 r2, .int .i64 r3, .slice Ap qs.length cp, .slice none 0 0] 39), blk (w.heap.size + 1) (.cells #[.int .i64 0, .int .i64 0, .int .i64 0, .int .i64 0, .slice none 0 0, .slice none 0 0] 39), grow plE 64 (.slice Ap qs.length cp) qs, readsP inE qs, grow itE 47 (.slice none 0 0) ([] : List It)]) := by
        have h1 : Sep (fun _ => False) w wr [blk (w.heap.size + 1 + 1) (.cells #[.int .i64 r0, .int .i64 r1, .int .i64 r2, .int .i64 r3, .slice Ap qs.length cp, .slice none 0 0] 39), blk (w.heap.size + 1) (.cells #[.int .i64 0, .int .i64 0, .int .i64 0, .int .i64 0, .slice none 0 0, .slice none 0 0] 39), grow plE 64 (.slice Ap qs.length cp) qs, readsP inE qs] := HS.out.sub (.cons_cons _ (.cons_cons _ (.cons _ (List.Sublist.refl _))))
        exact (grow_none h1 itE 47).perm (List.perm_append_comm (l₁ := [grow itE 47 (.slice none 0 0) ([] : List It)]) (l₂ := [blk (w.heap.size + 1 + 1) (.cells #[.int .i64 r0, .int .i64 r1, .int .i64 r2, .int .i64 r3, .slice Ap qs.length cp, .slice none 0 0] 39), blk (w.heap.size + 1) (.cells #[.int .i64 0, .int .i64 0, .int .i64 0, .int .i64 0, .slice none 0 0, .slice none 0 0] 39), grow plE 64 (.slice Ap qs.length cp) qs, readsP inE qs]))
      clear HQ hi h4
      go_wp2
      clear d0 d1 k5 HS
      go_loopw [29] (fun v wr => ∃ (j : Nat) (Ax : Option Addr) (cx : Nat), j ≤ xn ∧ v = .int .i64 (j : Int) ∧ Hid (Sep (fun _ => False) w wr [blk (w.heap.size + 1 + 1) (.cells #[.int .i64 r0, .int .i64 r1, .int .i64 r2, .int .i64 r3, .slice Ap qs.length cp, .slice Ax j cx] 39), blk (w.heap.size + 1) (.cells #[.int .i64 0, .int .i64 0, .int .i64 0, .int .i64 0, .slice none 0 0, .slice none 0 0] 39), grow plE 64 (.slice Ap qs.length cp) qs, readsP inE qs, grow itE 47 (.slice Ax j cx) (s.xs.take j)])) (fun v _ => xn - (intOf v).toNat)
      case atStart => exact ⟨0, none, 0, Nat.zero_le _, rfl, S3.out⟩
      case round =>
        obtain ⟨j, Ax, cx, hj, rfl, HS⟩ := hrel
        clear S3
        rcases (by omega : j < xn ∨ xn ≤ j) with h4 | h4
        · obtain ⟨x, hx⟩ : ∃ x, s.xs[j]? = some x := ⟨_, List.getElem?_eq_getElem (by rw [← HXN.out]; exact h4)⟩
          obtain ⟨b, off, rfl, hb, e0, e1, e2⟩ := it_at (HX.out.below HS.out.old) hx
          have HT : Hid (s.xs.take (j + 1) = s.xs.take j ++ [x]) := take_snocI _ j x hx
          have HLT : Hid ((s.xs.take j).length = j) := by show _ = _; rw [List.length_take, ← HXN.out]; omega
          have i0 : (0 : Int) ≤ (j : Int) := by omega
          have i1 : (j : Int) < (xn : Int) := by omega
          have d0 : decide ((j : Int) < (xn : Int)) = true := decide_eq_true i1
          have d1 : decide (j < xn) = true := decide_eq_true h4
          have S5 : Hid (Sep (fun _ => False) w (wr.alloc (.cells #[.int .i64 x.d, .int .i64 x.a, .int .i64 x.n] 23)) [blk wr.heap.size (.cells #[.int .i64 x.d, .int .i64 x.a, .int .i64 x.n] 23), blk (w.heap.size + 1 + 1) (.cells #[.int .i64 r0, .int .i64 r1, .int .i64 r2, .int .i64 r3, .slice Ap qs.length cp, .slice Ax j cx] 39), blk (w.heap.size + 1) (.cells #[.int .i64 0, .int .i64 0, .int .i64 0, .int .i64 0, .slice none 0 0, .slice none 0 0] 39), grow plE 64 (.slice Ap qs.length cp) qs, readsP inE qs, grow itE 47 (.slice Ax j cx) (s.xs.take j)]) := HS.out.new _
          have S6 : Hid (Sep (fun _ => False) w ((wr.alloc (.cells #[.int .i64 x.d, .int .i64 x.a, .int .i64 x.n] 23)).alloc (.cells #[.int .i64 x.d, .int .i64 x.a, .int .i64 x.n] 47)) [told itE (.slice (some ⟨wr.heap.size + 1, 0, none⟩) 1 1) [x], blk wr.heap.size (.cells #[.int .i64 x.d, .int .i64 x.a, .int .i64 x.n] 23), blk (w.heap.size + 1 + 1) (.cells #[.int .i64 r0, .int .i64 r1, .int .i64 r2, .int .i64 r3, .slice Ap qs.length cp, .slice Ax j cx] 39), blk (w.heap.size + 1) (.cells #[.int .i64 0, .int .i64 0, .int .i64 0, .int .i64 0, .slice none 0 0, .slice none 0 0] 39), grow plE 64 (.slice Ap qs.length cp) qs, readsP inE qs, grow itE 47 (.slice Ax j cx) (s.xs.take j)]) := by
            have h6 := S5.out.lit_told (E := itE) 47 [x] (cs := #[.int .i64 x.d, .int .i64 x.a, .int .i64 x.n]) rfl (by simp) rfl
            rw [show (wr.alloc (.cells #[.int .i64 x.d, .int .i64 x.a, .int .i64 x.n] 23)).heap.size = wr.heap.size + 1 by simp] at h6
            exact h6
          have k5 : (wr.alloc (.cells #[.int .i64 x.d, .int .i64 x.a, .int .i64 x.n] 23)).cell? ⟨(w.heap.size + 1 + 1), 5, none⟩ = some (.slice Ax j cx) := (cell_block (S5.out.blk_at 1 rfl) 5).trans rfl
          clear hx hb HS S5
          go_wp2_with (at_builtin; refine wpList_appS rfl _ _ r17X rfl rfl rfl S6.out 6 rfl (S6.out.rdL 0 rfl) (by rw [HLT.out]; simp; omega) ?_)
          intro A8 c8 w8 l8 HL8 h8
          have S8 : Hid (Sep (fun _ => False) w w8 [blk (w.heap.size + 1 + 1) (.cells #[.int .i64 r0, .int .i64 r1, .int .i64 r2, .int .i64 r3, .slice Ap qs.length cp, .slice Ax j cx] 39), blk (w.heap.size + 1) (.cells #[.int .i64 0, .int .i64 0, .int .i64 0, .int .i64 0, .slice none 0 0, .slice none 0 0] 39), grow plE 64 (.slice Ap qs.length cp) qs, readsP inE qs, grow itE 47 (.slice A8 l8.length c8) l8]) := (Sep.tail h8).tail
          have HL9 : Hid (l8 = s.xs.take (j + 1) ∧ l8.length = j + 1) := by
            have e : l8 = s.xs.take (j + 1) := by rw [HL8.out, HT.out]
            exact ⟨e, by rw [e, List.length_take, ← HXN.out]; omega⟩
          rw [HL9.out.2] at S8 ⊢
          rw [HL9.out.1] at S8
          have y5 : w8.cell? ⟨(w.heap.size + 1 + 1), 5, none⟩ = some (.slice Ax j cx) := (cell_block (S8.out.blk_at 0 rfl) 5).trans rfl
          have yf := frozen_block (S8.out.blk_at 0 rfl) 5
          have S9 : Hid (Sep (fun _ => False) w (w8.setCell ⟨(w.heap.size + 1 + 1), 5, none⟩ (.slice A8 (j + 1) c8)) [blk (w.heap.size + 1 + 1) (.cells #[.int .i64 r0, .int .i64 r1, .int .i64 r2, .int .i64 r3, .slice Ap qs.length cp, .slice A8 (j + 1) c8] 39), blk (w.heap.size + 1) (.cells #[.int .i64 0, .int .i64 0, .int .i64 0, .int .i64 0, .slice none 0 0, .slice none 0 0] 39), grow plE 64 (.slice Ap qs.length cp) qs, readsP inE qs, grow itE 47 (.slice A8 (j + 1) c8) (s.xs.take (j + 1))]) := S8.out.set 0 rfl 5 (.slice A8 (j + 1) c8)
          clear h8 S6 HL8 S8 k5 e0 e1 e2
          go_wp2
          go_roundw
          case rel => exact ⟨j + 1, A8, c8, by omega, by go_num, S9⟩
          case measure => simp [intOf]; omega
        · have HXW : Hid (s.xs.take j = s.xs) := List.take_of_length_le (by rw [← HXN.out]; exact h4)
          rw [HXW.out] at HS
          obtain rfl : j = xn := by omega
          have d0 : decide ((j : Int) < (j : Int)) = false := decide_eq_false (by omega)
          have k0 := (cell_block (HS.out.blk_at 0 (g := (w.heap.size + 1 + 1)) (o := (.cells #[.int .i64 r0, .int .i64 r1, .int .i64 r2, .int .i64 r3, .slice Ap qs.length cp, .slice Ax j cx] 39)) rfl) 0).trans rfl
          have k1 := (cell_block (HS.out.blk_at 0 (g := (w.heap.size + 1 + 1)) (o := (.cells #[.int .i64 r0, .int .i64 r1, .int .i64 r2, .int .i64 r3, .slice Ap qs.length cp, .slice Ax j cx] 39)) rfl) 1).trans rfl
          have k2 := (cell_block (HS.out.blk_at 0 (g := (w.heap.size + 1 + 1)) (o := (.cells #[.int .i64 r0, .int .i64 r1, .int .i64 r2, .int .i64 r3, .slice Ap qs.length cp, .slice Ax j cx] 39)) rfl) 2).trans rfl
          have k3 := (cell_block (HS.out.blk_at 0 (g := (w.heap.size + 1 + 1)) (o := (.cells #[.int .i64 r0, .int .i64 r1, .int .i64 r2, .int .i64 r3, .slice Ap qs.length cp, .slice Ax j cx] 39)) rfl) 3).trans rfl
          have k4 := (cell_block (HS.out.blk_at 0 (g := (w.heap.size + 1 + 1)) (o := (.cells #[.int .i64 r0, .int .i64 r1, .int .i64 r2, .int .i64 r3, .slice Ap qs.length cp, .slice Ax j cx] 39)) rfl) 4).trans rfl
          have k5 := (cell_block (HS.out.blk_at 0 (g := (w.heap.size + 1 + 1)) (o := (.cells #[.int .i64 r0, .int .i64 r1, .int .i64 r2, .int .i64 r3, .slice Ap qs.length cp, .slice Ax j cx] 39)) rfl) 5).trans rfl
          have m0 := (cell_block (HS.out.blk_at 1 (g := (w.heap.size + 1)) (o := (.cells #[.int .i64 0, .int .i64 0, .int .i64 0, .int .i64 0, .slice none 0 0, .slice none 0 0] 39)) rfl) 0).trans rfl
          have m1 := (cell_block (HS.out.blk_at 1 (g := (w.heap.size + 1)) (o := (.cells #[.int .i64 0, .int .i64 0, .int .i64 0, .int .i64 0, .slice none 0 0, .slice none 0 0] 39)) rfl) 1).trans rfl
          have m2 := (cell_block (HS.out.blk_at 1 (g := (w.heap.size + 1)) (o := (.cells #[.int .i64 0, .int .i64 0, .int .i64 0, .int .i64 0, .slice none 0 0, .slice none 0 0] 39)) rfl) 2).trans rfl
          have m3 := (cell_block (HS.out.blk_at 1 (g := (w.heap.size + 1)) (o := (.cells #[.int .i64 0, .int .i64 0, .int .i64 0, .int .i64 0, .slice none 0 0, .slice none 0 0] 39)) rfl) 3).trans rfl
          have m4 := (cell_block (HS.out.blk_at 1 (g := (w.heap.size + 1)) (o := (.cells #[.int .i64 0, .int .i64 0, .int .i64 0, .int .i64 0, .slice none 0 0, .slice none 0 0] 39)) rfl) 4).trans rfl
          have m5 := (cell_block (HS.out.blk_at 1 (g := (w.heap.size + 1)) (o := (.cells #[.int .i64 0, .int .i64 0, .int .i64 0, .int .i64 0, .slice none 0 0, .slice none 0 0] 39)) rfl) 5).trans rfl
          have f0 := frozen_block (HS.out.blk_at 1 (g := (w.heap.size + 1)) (o := (.cells #[.int .i64 0, .int .i64 0, .int .i64 0, .int .i64 0, .slice none 0 0, .slice none 0 0] 39)) rfl) 0
          have f1 := frozen_block (HS.out.blk_at 1 (g := (w.heap.size + 1)) (o := (.cells #[.int .i64 0, .int .i64 0, .int .i64 0, .int .i64 0, .slice none 0 0, .slice none 0 0] 39)) rfl) 1
          have f2 := frozen_block (HS.out.blk_at 1 (g := (w.heap.size + 1)) (o := (.cells #[.int .i64 0, .int .i64 0, .int .i64 0, .int .i64 0, .slice none 0 0, .slice none 0 0] 39)) rfl) 2
          have f3 := frozen_block (HS.out.blk_at 1 (g := (w.heap.size + 1)) (o := (.cells #[.int .i64 0, .int .i64 0, .int .i64 0, .int .i64 0, .slice none 0 0, .slice none 0 0] 39)) rfl) 3
          have f4 := frozen_block (HS.out.blk_at 1 (g := (w.heap.size + 1)) (o := (.cells #[.int .i64 0, .int .i64 0, .int .i64 0, .int .i64 0, .slice none 0 0, .slice none 0 0] 39)) rfl) 4
          have f5 := frozen_block (HS.out.blk_at 1 (g := (w.heap.size + 1)) (o := (.cells #[.int .i64 0, .int .i64 0, .int .i64 0, .int .i64 0, .slice none 0 0, .slice none 0 0] 39)) rfl) 5
          have T1 := (((((HS.out.set 1 rfl 0 (.int .i64 r0)).set 1 rfl 1 (.int .i64 r1)).set 1 rfl 2 (.int .i64 r2)).set 1 rfl 3 (.int .i64 r3)).set 1 rfl 4 (.slice Ap qs.length cp)).set 1 rfl 5 (.slice Ax j cx)
          obtain ⟨wz, hwz⟩ : ∃ wz : World, wz = ((((((wr.setCell ⟨(w.heap.size + 1), 0, none⟩ (.int .i64 r0)).setCell ⟨(w.heap.size + 1), 1, none⟩ (.int .i64 r1)).setCell ⟨(w.heap.size + 1), 2, none⟩ (.int .i64 r2)).setCell ⟨(w.heap.size + 1), 3, none⟩ (.int .i64 r3)).setCell ⟨(w.heap.size + 1), 4, none⟩ (.slice Ap qs.length cp)).setCell ⟨(w.heap.size + 1), 5, none⟩ (.slice Ax j cx)) := ⟨_, rfl⟩
          rw [← hwz] at T1
          have TS : Hid (Sep (fun _ => False) w wz [blk (w.heap.size + 1 + 1) (.cells #[.int .i64 r0, .int .i64 r1, .int .i64 r2, .int .i64 r3, .slice Ap qs.length cp, .slice Ax j cx] 39), blk (w.heap.size + 1) (.cells #[.int .i64 r0, .int .i64 r1, .int .i64 r2, .int .i64 r3, .slice Ap qs.length cp, .slice Ax j cx] 39), grow plE 64 (.slice Ap qs.length cp) qs, readsP inE qs, grow itE 47 (.slice Ax j cx) s.xs]) := T1
          have HWZ := Lib.hid hwz
          clear T1 hwz h4 HS
          go_wp2
          rw [← HWZ.out]
          have z0 := (cell_block (TS.out.blk_at 1 (g := (w.heap.size + 1)) (o := (.cells #[.int .i64 r0, .int .i64 r1, .int .i64 r2, .int .i64 r3, .slice Ap qs.length cp, .slice Ax j cx] 39)) rfl) 0).trans rfl
          have z1 := (cell_block (TS.out.blk_at 1 (g := (w.heap.size + 1)) (o := (.cells #[.int .i64 r0, .int .i64 r1, .int .i64 r2, .int .i64 r3, .slice Ap qs.length cp, .slice Ax j cx] 39)) rfl) 1).trans rfl
          have z2 := (cell_block (TS.out.blk_at 1 (g := (w.heap.size + 1)) (o := (.cells #[.int .i64 r0, .int .i64 r1, .int .i64 r2, .int .i64 r3, .slice Ap qs.length cp, .slice Ax j cx] 39)) rfl) 2).trans rfl
          have z3 := (cell_block (TS.out.blk_at 1 (g := (w.heap.size + 1)) (o := (.cells #[.int .i64 r0, .int .i64 r1, .int .i64 r2, .int .i64 r3, .slice Ap qs.length cp, .slice Ax j cx] 39)) rfl) 3).trans rfl
          have z4 := (cell_block (TS.out.blk_at 1 (g := (w.heap.size + 1)) (o := (.cells #[.int .i64 r0, .int .i64 r1, .int .i64 r2, .int .i64 r3, .slice Ap qs.length cp, .slice Ax j cx] 39)) rfl) 4).trans rfl
          have z5 := (cell_block (TS.out.blk_at 1 (g := (w.heap.size + 1)) (o := (.cells #[.int .i64 r0, .int .i64 r1, .int .i64 r2, .int .i64 r3, .slice Ap qs.length cp, .slice Ax j cx] 39)) rfl) 5).trans rfl
          refine bodyPost_ret (v := .agg #[.int .i64 r0, .int .i64 r1, .int .i64 r2, .int .i64 r3, .slice Ap qs.length cp, .slice Ax j cx]) (by simp [results, Tryd.results10, go_sem, z0, z1, z2, z3, z4, z5]) rfl ?_
          refine ⟨⟨r0, r1, r2, r3, Ap, qs.length, cp, Ax, j, cx⟩, rfl, ?_⟩
          have hfp : qs.length ≤ cp := fits_ownL (TS.out.own 2 rfl) _ _ _ rfl
          have hfx : j ≤ cx := fits_ownL (TS.out.own 4 rfl) _ _ _ rfl
          have t1 : Sep (fun _ => False) w wz [toldN inE (.slice Ap qs.length cp) (qs.map Pl.l), grow itE 47 (.slice Ax j cx) s.xs] := growN_told (TS.out.tail.tail) (by have := HQL.out; omega)
          rw [HPS.out] at t1
          have t2 : Sep (fun _ => False) w wz [told itE (.slice Ax j cx) s.xs, toldN inE (.slice Ap qs.length cp) s.ps] := grow_told t1.swap (by have := HSM.out.2.2; omega)
          exact saysS_of (scr_of (q := ⟨r0, r1, r2, r3, Ap, qs.length, cp, Ax, j, cx⟩) (s := s) t2.swap HRR.out hfp hfx)
end Go.Proofs.YtolooaahaofflaaDoor.RefScr
