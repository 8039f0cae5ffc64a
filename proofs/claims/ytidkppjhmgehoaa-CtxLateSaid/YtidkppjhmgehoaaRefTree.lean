/-
  Contracts of the functions of package countermandref05 (the document's answer for layer 5): a tree of the reference, as the list of its nodes. Condition: the pointer's blocks are as 'RT' says.
-/
import Derived.Test.YtidkppjhmgehoaaRows
import Derived.Test.YtidkppjhmgehoaaNode
import Derived.Test.YtidkppjhmgehoaaHeld
import Derived.Deep.QuietTactic
import Derived.BigQuiet
namespace Go.Proofs.Ytidkppjhmgehoaa.RefTree
open Go.ChangeShapes Go.WideShapes Go.ChangeAt Go.RowKit Mem TreeP

theorem intElem : IntElem Try.prog 33 3 := intElem_of Try.underlying33 (by kernel_rfl)
theorem nodeElem : Elem nodeE Try.prog 105 109 := elem_of (z := .agg #[.int .i64 0, .bool false]) (bytes := 16) Try.underlying105 (by kernel_rfl) rfl (by omega)

/-- The reference's tree behind the pointer to block p. -/
def RT (w : World) (G : Nat → Prop) (p : Nat) (L : List Nd) (M : Int) : Prop :=
  ∃ v, w.heap[p]? = some (.cells #[v, .int .i64 M] 107 (0, 0)) ∧ G p ∧ RdL nodeE w (fun b => G b ∧ b ≠ p) v L

section
variable {w w' : World} {G G' : Nat → Prop} {p : Nat} {L : List Nd} {M : Int}
theorem RT.keep (h : RT w G p L M) (hs : w.heap.size ≤ w'.heap.size) (hk : ∀ k, k < w.heap.size → G k → w'.heap[k]? = w.heap[k]?) : RT w' G p L M := by
  obtain ⟨v, hp, gp, hr⟩ := h
  exact ⟨v, (hk p (lt_of_block hp) gp).trans hp, gp, hr.keep hs fun k hb hg => hk k hb hg.1⟩
theorem RT.mono (h : RT w G p L M) (hG : ∀ k, k < w.heap.size → G k → G' k) : RT w G' p L M := by
  obtain ⟨v, hp, gp, hr⟩ := h
  exact ⟨v, hp, hG p (lt_of_block hp) gp, hr.mono fun k hb hg => ⟨hG k hb hg.1, hg.2⟩⟩
theorem RT.below (h : RT w G p L M) (hb : Below w.heap.size w w') : RT w' G p L M := h.keep hb.size fun k hk _ => hb.block k hk
theorem RT.lt (h : RT w G p L M) : p < w.heap.size := by obtain ⟨v, hp, _⟩ := h; exact lt_of_block hp
theorem RT.head (h : RT w G p L M) :
    ∃ A c, w.cell? ⟨p, 0, none⟩ = some (.slice A L.length c) ∧ w.cell? ⟨p, 1, none⟩ = some (.int .i64 M) ∧ w.frozen? ⟨p, 0, none⟩ = false ∧ L.length ≤ 1000000 ∧ RdL nodeE w (fun b => G b ∧ b ≠ p) (.slice A L.length c) L := by
  obtain ⟨v, hp, gp, hr⟩ := h
  obtain ⟨A, c, rfl⟩ := hr.form
  exact ⟨A, c, (cell_block hp 0).trans rfl, (cell_block hp 1).trans rfl, frozen_block hp 0, hr.le, hr⟩
theorem RT.set (h : RT w G p L M) {L' : List Nd} {v : Value} (hv : RdL nodeE w (fun b => G b ∧ b ≠ p) v L') : RT (w.setCell ⟨p, 0, none⟩ v) G p L' M := by
  obtain ⟨u, hp, gp, _⟩ := h
  refine ⟨v, ?_, gp, hv.keep (by simp [World.setCell]) fun k _ hk => Below.heap_setCell w _ _ k hk.2⟩
  simp [World.setCell, Array.getElem?_modify, hp]
/-- One node's cells. -/
theorem RT.node (h : RT w G p L M) {i : Nat} {a : Nd} (hi : L[i]? = some a) : ∃ b off c, w.cell? ⟨p, 0, none⟩ = some (.slice (some ⟨b, off, none⟩) L.length c) ∧ w.cell? ⟨b, off + i * 2, none⟩ = some (.int .i64 a.over) ∧ w.cell? ⟨b, off + i * 2 + 1, none⟩ = some (.bool a.cut) := by
  obtain ⟨A, c, h0, _, _, _, hr⟩ := h.head
  obtain ⟨b, off, rfl, _, _, c0, c1⟩ := node_cells hr hi
  exact ⟨b, off, c, h0, c0, c1⟩
end

section
variable {w : World} {G : Nat → Prop} {p : Nat} {L : List Nd} {M : Int} (h : RT w G p L M)
include h
theorem there_any (n : Int) : Calls Try.prog 43 #[.pointer (some ⟨p, 0, none⟩), .int .i64 n] w fun e w' => e = .returned (.bool (there L n)) ∧ w = w' := by
  obtain ⟨A, c, h0, _, _, hm, _⟩ := h.head
  clear h
  unfold there
  by_cases hr : 0 ≤ n
  all_goals
    go_enter Try.func43, Try.ntmps43
    go_wp2
    all_goals
      go_ret
      exact ⟨ret_bool (by rw [Bool.eq_iff_iff]; simp; try omega), rfl⟩
omit h in
/-- What Kids has gathered of the first m nodes. -/
theorem gathered (n : Int) : (if there L n = true then kidsTo L n L.length else []) = kidsT L n := rfl
theorem kids_any (n : Int) : Calls Try.prog 72 #[.pointer (some ⟨p, 0, none⟩), .int .i64 n] w fun e w' => ∃ u, e = .returned u ∧ Rd w' (fun k => w.heap.size ≤ k) u (kidsT L n) ∧ Below w.heap.size w w' := by
  obtain ⟨A, c, h0, _, _, hm, _⟩ := h.head
  have hp := h.lt
  have H := Lib.hid h
  have HH0 := Lib.hid h0
  clear h h0
  go_enter Try.func72, Try.ntmps72
  go_wp2
  go_loopw [5, 6] (fun v t wr => ∃ i : Nat, i ≤ L.length ∧ t = .int .i64 i ∧ Hid (Own wr w.heap.size 3 v (if there L n = true then kidsTo L n i else [])) ∧ Hid (Below w.heap.size w wr)) (fun _ t _ => L.length - (intOf t).toNat)
  case atStart => exact ⟨0, Nat.zero_le _, rfl, by
    have : (if there L n = true then kidsTo L n 0 else []) = ([] : List Int) := by split <;> rfl
    show Own _ _ _ _ _
    rw [this]
    exact Own.lit0 w _ _ (Nat.le_refl _), new_below0 w _⟩
  case round =>
    obtain ⟨i, hi, rfl, HO, HB⟩ := hrel
    have hbs : w.heap.size ≤ wr.heap.size := HB.out.size
    have HR := Lib.hid (H.out.below HB.out)
    have k0 := (HB.out.cell (p := ⟨p, 0, none⟩) hp).trans HH0.out
    have hol : (if there L n = true then kidsTo L n i else []).length ≤ i := by
      split
      · exact kids_len ..
      · simp
    by_cases hlt : i < L.length
    · have ii : (i : Int) < (L.length : Int) := by omega
      rcases ht : there L n with _ | _
      · have HT := Lib.hid ht
        have HK : Hid (kidsT L n = []) := by show _ = _; unfold kidsT; rw [if_neg (by rw [ht]; simp)]
        have HO2 : Hid (∀ v, Own wr w.heap.size 3 v (if there L n = true then kidsTo L n i else []) → Own wr w.heap.size 3 v []) := fun v h => by rw [if_neg (by rw [ht]; simp)] at h; exact h
        clear ht hol
        go_wp2_with fail
        refine (there_any HR.out n).mono ?_
        rintro e w1 ⟨rfl, rfl⟩
        rw [HT.out]
        go_wp2
        go_ret
        exact ⟨_, rfl, by rw [HK.out]; exact (HO2.out _ HO.out).rd (by simp) fun g hg => (World.ownsRow.lt (HO2.out _ HO.out) g hg).1, HB.out⟩
      · have HT := Lib.hid ht
        have hg : ∀ m, (if there L n = true then kidsTo L n m else []) = kidsTo L n m := fun m => by rw [if_pos ht]
        rw [hg] at hol
        have HO2 : Hid (∀ v, Own wr w.heap.size 3 v (if there L n = true then kidsTo L n i else []) → Own wr w.heap.size 3 v (kidsTo L n i)) := fun v h => by rw [hg] at h; exact h
        have HO3 := Lib.hid (HO2.out _ HO.out)
        have HS := Lib.hid (kidsTo_snoc L n i)
        obtain ⟨b, off, c', q0, q1, _⟩ := HR.out.node (nd_at hlt)
        have hAc : A = some ⟨b, off, none⟩ ∧ c = c' := by
          rw [k0] at q0
          injection q0 with q0
          injection q0 with e1 e2 e3
          exact ⟨e1, e3⟩
        obtain ⟨rfl, rfl⟩ := hAc
        clear ht hg HO HO2 q0
        have i0 : (0 : Int) ≤ (i : Int) := by omega
        by_cases hk : (nd L (i : Nat)).over = n
        · have e1 : ((nd L (i : Nat)).over == n) = true := by simpa using hk
          have HS2 : Hid (kidsTo L n (i + 1) = kidsTo L n i ++ [(i : Int)]) := by show _ = _; rw [HS.out, if_pos hk]
          clear hk HS
          generalize (nd L (i : Nat)).over = o at *
          generalize kidsTo L n i = ks at *
          go_wp2_with fail
          refine (there_any HR.out n).mono ?_
          rintro e w1 ⟨rfl, rfl⟩
          rw [HT.out]
          go_wp2_with (at_builtin; refine wpList_app rfl _ _ intElem rfl rfl rfl (HO3.out.alloc _) (Rd.lit1 wr _ (i : Int) (fun _ => True) trivial) (by simp; omega) (by simp; omega) ?_)
          intro v' w1 hown1 hgrow hat
          have hb1 : Below w.heap.size w w1 := Below.grown (HB.out.alloc hbs _) hgrow (by simp; omega) (fun g hg' => (World.ownsRow.lt HO3.out g hg').1)
          have HO4 := Lib.hid hown1
          have HB4 := Lib.hid hb1
          clear hown1 hb1 hgrow hat
          go_wp2
          go_roundw
          case rel => exact ⟨i + 1, by omega, by go_num, by show Own _ _ _ _ _; rw [HS2.out]; exact HO4.out, HB4⟩
          case measure => simp [intOf]; omega
        · have e1 : ((nd L (i : Nat)).over == n) = false := by simpa using hk
          have HS2 : Hid (kidsTo L n (i + 1) = kidsTo L n i) := by show _ = _; rw [HS.out, if_neg hk, List.append_nil]
          clear hk HS
          generalize (nd L (i : Nat)).over = o at *
          generalize kidsTo L n i = ks at *
          go_wp2_with fail
          refine (there_any HR.out n).mono ?_
          rintro e w1 ⟨rfl, rfl⟩
          rw [HT.out]
          go_wp2
          go_roundw
          case rel => exact ⟨i + 1, by omega, by go_num, by show Own _ _ _ _ _; rw [HS2.out]; exact HO3.out, HB⟩
          case measure => simp [intOf]; omega
    · obtain rfl : i = L.length := by omega
      have hlk := kidsT_len (L := L) n
      have HO2 : Hid (∀ v, Own wr w.heap.size 3 v (if there L n = true then kidsTo L n L.length else []) → Own wr w.heap.size 3 v (kidsT L n)) := fun v h => h
      clear hol
      go_wp2
      go_ret
      exact ⟨_, rfl, (HO2.out _ HO.out).rd (by omega) fun g hg => (World.ownsRow.lt (HO2.out _ HO.out) g hg).1, HB.out⟩
theorem path_any (hw : Wf L) (n : Int) : Calls Try.prog 47 #[.pointer (some ⟨p, 0, none⟩), .int .i64 n] w fun e w' => ∃ u, e = .returned u ∧ Rd w' (fun k => w.heap.size ≤ k) u (pathT L n) ∧ Below w.heap.size w w' := by
  have H := Lib.hid h
  have hm : L.length ≤ 1000000 := by obtain ⟨A, c, _, _, _, hm, _⟩ := h.head; exact hm
  have HW := Lib.hid hw
  clear h hw
  go_enter Try.func47, Try.ntmps47
  go_wp2
  go_loopw [1, 5] (fun t v wr => ∃ (k : Int) (l : List Int), t = .int .i64 k ∧ Hid (pathT L n = l ++ pathT L k) ∧ Hid (Own wr w.heap.size 3 v l) ∧ Hid (Below w.heap.size w wr)) (fun t _ _ => (intOf t + 1).toNat)
  case atStart => exact ⟨n, [], rfl, rfl, Own.lit0 w _ _ (Nat.le_refl _), new_below0 w _⟩
  case round =>
    obtain ⟨k, l, rfl, HP, HO, HB⟩ := hrel
    have hbs : w.heap.size ≤ wr.heap.size := HB.out.size
    have HR := Lib.hid (H.out.below HB.out)
    have hpl := path_len (L := L) n
    have hl : l.length ≤ L.length := by rw [HP.out, List.length_append] at hpl; omega
    clear hpl
    rcases ht : there L k with _ | _
    · have HT := Lib.hid ht
      have HE : Hid (pathT L n = l) := by show _ = _; rw [HP.out, path_eq HW.out k, if_neg (by rw [ht]; simp), List.append_nil]
      clear ht
      go_wp2_with fail
      refine (there_any HR.out k).mono ?_
      rintro e w1 ⟨rfl, rfl⟩
      rw [HT.out]
      go_wp2
      go_ret
      exact ⟨_, rfl, by rw [HE.out]; exact HO.out.rd (by omega) fun g hg => (World.ownsRow.lt HO.out g hg).1, HB.out⟩
    · have hov := HW.out.over ht
      have hpe := path_eq HW.out k
      rw [if_pos ht] at hpe
      obtain ⟨i, rfl, hi⟩ := there_nat ht
      have HO1 : Hid (overT L i = (nd L i).over) := by show _ = _; unfold overT; rw [if_pos ht]
      have HP2 : Hid (pathT L n = (l ++ [(i : Int)]) ++ pathT L (overT L i)) := by show _ = _; rw [HP.out, hpe]; simp
      have HT := Lib.hid ht
      have hpl := path_len (L := L) n
      have hl2 : l.length + 1 ≤ L.length := by rw [HP2.out, List.length_append, List.length_append, List.length_singleton] at hpl; omega
      clear hpl
      generalize overT L (i : Nat) = o at *
      have i0 : (0 : Int) ≤ (i : Int) := by omega
      have i1 : (i : Int) < (L.length : Int) := by omega
      clear ht hpe
      go_wp2_with fail
      refine (there_any HR.out i).mono ?_
      rintro e w1 ⟨rfl, rfl⟩
      rw [HT.out]
      go_wp2_with (at_builtin; refine wpList_app rfl _ _ intElem rfl rfl rfl (HO.out.alloc _) (Rd.lit1 wr _ (i : Int) (fun _ => True) trivial) (by simp; omega) (by simp; omega) ?_)
      intro v' w1 hown1 hgrow hat
      have hb1 : Below w.heap.size w w1 := Below.grown (HB.out.alloc hbs _) hgrow (by simp; omega) (fun g hg' => (World.ownsRow.lt HO.out g hg').1)
      have HO4 := Lib.hid hown1
      have HB4 := Lib.hid hb1
      have HR4 := Lib.hid (H.out.below hb1)
      obtain ⟨A4, c4, e4⟩ := hown1.form
      subst e4
      clear hown1 hb1 hgrow hat
      obtain ⟨b, off, c, q0, q1, _⟩ := HR4.out.node (nd_at hi)
      rw [show (nd L (i : Nat)).over = o from HO1.out.symm] at q1
      go_wp2
      go_roundw
      case rel => exact ⟨o, _, rfl, HP2, HO4, HB4⟩
      case measure => simp [intOf]; omega
theorem chain_any (hw : Wf L) (n : Int) : Calls Try.prog 45 #[.pointer (some ⟨p, 0, none⟩), .int .i64 n] w fun e w' => ∃ u, e = .returned u ∧ Rd w' (fun k => w.heap.size ≤ k) u (chainT L n) ∧ Below w.heap.size w w' := by
  have H := Lib.hid h
  have hm : L.length ≤ 1000000 := by obtain ⟨A, c, _, _, _, hm, _⟩ := h.head; exact hm
  have HW := Lib.hid hw
  clear h hw
  go_enter Try.func45, Try.ntmps45
  go_wp2
  go_loopw [1, 5] (fun t v wr => ∃ (k : Int) (l : List Int), t = .int .i64 k ∧ Hid (chainT L n = l ++ chainT L k) ∧ Hid (Own wr w.heap.size 3 v l) ∧ Hid (Below w.heap.size w wr)) (fun t _ _ => (intOf t + 1).toNat)
  case atStart => exact ⟨n, [], rfl, rfl, Own.lit0 w _ _ (Nat.le_refl _), new_below0 w _⟩
  case round =>
    obtain ⟨k, l, rfl, HP, HO, HB⟩ := hrel
    have hbs : w.heap.size ≤ wr.heap.size := HB.out.size
    have HR := Lib.hid (H.out.below HB.out)
    have hpl := chain_len HW.out n
    have hl : l.length ≤ L.length := by rw [HP.out, List.length_append] at hpl; omega
    clear hpl
    rcases ht : there L k with _ | _
    · have HT := Lib.hid ht
      have HE : Hid (chainT L n = l) := by show _ = _; rw [HP.out, chain_eq HW.out k, if_neg (by rw [ht]; simp), List.append_nil]
      clear ht
      go_wp2_with fail
      refine (there_any HR.out k).mono ?_
      rintro e w1 ⟨rfl, rfl⟩
      rw [HT.out]
      go_wp2
      go_ret
      exact ⟨_, rfl, by rw [HE.out]; exact HO.out.rd (by omega) fun g hg => (World.ownsRow.lt HO.out g hg).1, HB.out⟩
    · have hov := HW.out.over ht
      have hpe := chain_eq HW.out k
      rw [if_pos ht] at hpe
      obtain ⟨i, rfl, hi⟩ := there_nat ht
      have HO1 : Hid (overT L i = (nd L i).over) := by show _ = _; unfold overT; rw [if_pos ht]
      have HT := Lib.hid ht
      have hl2 : l.length + 1 ≤ L.length := by
        have hpl := chain_len HW.out n
        rw [HP.out, hpe, List.length_append, List.length_cons] at hpl
        omega
      have HCT : Hid (cutT L i = (nd L i).cut) := by show _ = _; unfold cutT; rw [ht, Bool.true_and]
      have i0 : (0 : Int) ≤ (i : Int) := by omega
      have i1 : (i : Int) < (L.length : Int) := by omega
      cases hcc : cutT L i with
      | true =>
        have HC := Lib.hid hcc
        have HE : Hid (chainT L n = l ++ [(i : Int)]) := by show _ = _; rw [HP.out, hpe, hcc]; rfl
        clear ht hpe hcc
        go_wp2_with fail
        refine (there_any HR.out i).mono ?_
        rintro e w1 ⟨rfl, rfl⟩
        rw [HT.out]
        go_wp2_with (at_builtin; refine wpList_app rfl _ _ intElem rfl rfl rfl (HO.out.alloc _) (Rd.lit1 wr _ (i : Int) (fun _ => True) trivial) (by simp; omega) (by simp; omega) ?_)
        intro v' w1 hown1 hgrow hat
        have hb1 : Below w.heap.size w w1 := Below.grown (HB.out.alloc hbs _) hgrow (by simp; omega) (fun g hg' => (World.ownsRow.lt HO.out g hg').1)
        have HO4 := Lib.hid hown1
        have HB4 := Lib.hid hb1
        have HR4 := Lib.hid (H.out.below hb1)
        obtain ⟨A4, c4, e4⟩ := hown1.form
        subst e4
        clear hown1 hb1 hgrow hat
        obtain ⟨b, off, c, q0, q1, q2⟩ := HR4.out.node (nd_at hi)
        rw [show (nd L (i : Nat)).cut = true from HCT.out.symm.trans HC.out] at q2
        go_wp2
        go_ret
        exact ⟨_, rfl, by rw [HE.out]; exact HO4.out.rd (by simp; omega) fun g hg => (World.ownsRow.lt HO4.out g hg).1, HB4.out⟩
      | false =>
        have HC := Lib.hid hcc
        have HP2 : Hid (chainT L n = (l ++ [(i : Int)]) ++ chainT L (overT L i)) := by show _ = _; rw [HP.out, hpe, hcc]; simp
        generalize overT L (i : Nat) = o at *
        clear ht hpe hcc
        go_wp2_with fail
        refine (there_any HR.out i).mono ?_
        rintro e w1 ⟨rfl, rfl⟩
        rw [HT.out]
        go_wp2_with (at_builtin; refine wpList_app rfl _ _ intElem rfl rfl rfl (HO.out.alloc _) (Rd.lit1 wr _ (i : Int) (fun _ => True) trivial) (by simp; omega) (by simp; omega) ?_)
        intro v' w1 hown1 hgrow hat
        have hb1 : Below w.heap.size w w1 := Below.grown (HB.out.alloc hbs _) hgrow (by simp; omega) (fun g hg' => (World.ownsRow.lt HO.out g hg').1)
        have HO4 := Lib.hid hown1
        have HB4 := Lib.hid hb1
        have HR4 := Lib.hid (H.out.below hb1)
        obtain ⟨A4, c4, e4⟩ := hown1.form
        subst e4
        clear hown1 hb1 hgrow hat
        obtain ⟨b, off, c, q0, q1, q2⟩ := HR4.out.node (nd_at hi)
        rw [show (nd L (i : Nat)).over = o from HO1.out.symm] at q1
        rw [show (nd L (i : Nat)).cut = false from HCT.out.symm.trans HC.out] at q2
        go_wp2
        go_roundw
        case rel => exact ⟨o, _, rfl, HP2, HO4, HB4⟩
        case measure => simp [intOf]; omega
end

theorem own_of_blocks {w w' : World} {base : Nat} {e : TypeId} {v : Value} {xs : List Int} (h : Own w base e v xs) (hk : ∀ g, v.ownBlock = some g → g < w.heap.size → w'.heap[g]? = w.heap[g]?) : Own w' base e v xs := by
  refine ⟨h.1, ?_⟩
  rcases h.2 with h0 | ⟨g, cap, cur, rfl, hb, hg, rest⟩
  · exact .inl h0
  · exact .inr ⟨g, cap, cur, rfl, hb, (hk g rfl (lt_of_block hg)).trans hg, rest⟩
set_option maxHeartbeats 1000000 in
theorem reach_any {G : Nat → Prop} {p : Nat} {L : List Nd} {M : Int} (hw : Wf L) : ∀ (f : Nat) (n : Int) (w : World), RT w G p L M → 0 ≤ n → (L.length : Int) - n ≤ f →
    Calls Try.prog 63 #[.pointer (some ⟨p, 0, none⟩), .int .i64 n] w fun e w' => ∃ u, e = .returned u ∧ Rd w' (fun k => w.heap.size ≤ k) u (reachT L n) ∧ Below w.heap.size w w' := by
  intro f
  induction f with
  | zero =>
    intro n w h h0 hf
    have ht : there L n = false := by rw [Bool.eq_false_iff]; intro h; have := there_iff.1 h; omega
    have HE : Hid (reachT L n = []) := by show _ = _; rw [reach_eq hw, if_neg (by rw [ht]; simp)]
    have H1 := Lib.hid (h.below (new_below0 w (.cells #[] 3)))
    have HT := Lib.hid ht
    clear ht h
    go_enter Try.func63, Try.ntmps63
    go_wp2_with fail
    refine (there_any H1.out n).mono ?_
    rintro e w1 ⟨rfl, rfl⟩
    rw [HT.out]
    go_wp2
    go_ret
    exact ⟨_, rfl, by rw [HE.out]; exact Rd.nil _ _ _ _, new_below0 w _⟩
  | succ f ih =>
    intro n w h h0 hf
    have IH := Lib.hid ih
    clear ih
    have hm : L.length ≤ 1000000 := by obtain ⟨A, c, _, _, _, hm, _⟩ := h.head; exact hm
    have HW := Lib.hid hw
    have H1 := Lib.hid (h.below (new_below0 w (.cells #[] 3)))
    have H := Lib.hid h
    clear h hw
    rcases ht : there L n with _ | _
    · have HE : Hid (reachT L n = []) := by show _ = _; rw [reach_eq HW.out, if_neg (by rw [ht]; simp)]
      have HT := Lib.hid ht
      clear ht
      go_enter Try.func63, Try.ntmps63
      go_wp2_with fail
      refine (there_any H1.out n).mono ?_
      rintro e w1 ⟨rfl, rfl⟩
      rw [HT.out]
      go_wp2
      go_ret
      exact ⟨_, rfl, by rw [HE.out]; exact Rd.nil _ _ _ _, new_below0 w _⟩
    · have HE : Hid (reachT L n = n :: reachBy L (kidsT L n)) := by show _ = _; rw [reach_eq HW.out, if_pos ht]; rfl
      have hlen := reach_len HW.out n
      rw [HE.out, List.length_cons] at hlen
      have HT := Lib.hid ht
      have hn1 := there_iff.1 ht
      have HKID : Hid (∀ k ∈ kidsT L n, there L k = true ∧ n < k) := fun k hk => ⟨(mem_kids hk).2.1, kid_gt HW.out hk⟩
      have HLE := Lib.hid (fun i => reachBy_le L (kidsT L n) i)
      have hkl := kidsT_len (L := L) n
      clear ht
      generalize hks : kidsT L n = ks at *
      have HKE := Lib.hid hks
      clear hks
      obtain ⟨hn2, hn3⟩ := hn1
      go_enter Try.func63, Try.ntmps63
      go_wp2_with fail
      refine (there_any H1.out n).mono ?_
      rintro e w1 ⟨rfl, rfl⟩
      rw [HT.out]
      have HRL : Hid (Rd ((w.alloc (.cells #[] 3)).alloc (.cells #[.int .i64 n] 3)) (fun _ => True) (.slice (some ⟨w.heap.size + 1, 0, none⟩) 1 1) [n]) := by
        have hl := Rd.lit1 (w.alloc (.cells #[] 3)) 3 n (fun _ => True) trivial
        have es : (w.alloc (.cells #[] 3)).heap.size = w.heap.size + 1 := by simp
        rw [es] at hl
        exact hl
      go_wp2_with (at_builtin; refine wpList_app rfl _ _ intElem rfl rfl rfl ((Own.lit0 w w.heap.size _ (Nat.le_refl _)).alloc _) HRL.out (by simp) (by simp <;> omega) ?_)
      intro v1 w3 hown1 hgrow hat
      have hb3 : Below w.heap.size w w3 := Below.grown ((new_below0 w _).alloc (by simp) _) hgrow (by simp; omega) (fun g hg' => by simp [Value.ownBlock] at hg'; omega)
      have HO3 := Lib.hid hown1
      have HB3 := Lib.hid hb3
      have HR3 := Lib.hid (H.out.below hb3)
      obtain ⟨A3, c3, e3⟩ := hown1.form
      subst e3
      clear hown1 hb3 hgrow hat H1
      go_wp2_with fail
      refine (kids_any HR3.out n).mono ?_
      rintro e w4 ⟨u4, rfl, hr4, hb4⟩
      rw [HKE.out] at hr4
      obtain ⟨A4, c4, e4⟩ : ∃ A c, u4 = .slice A ks.length c := by obtain ⟨A, c, e, _⟩ := hr4; exact ⟨A, c, e⟩
      subst e4
      have HK4 : Hid (Rd w4 (fun k => w3.heap.size ≤ k ∧ k < w4.heap.size) (.slice A4 ks.length c4) ks) := hr4.mono fun k hk hg => ⟨hg, hk⟩
      have HB4 : Hid (Below w.heap.size w w4) := HB3.out.trans (hb4.mono HB3.out.size)
      have HO4 : Hid (Own w4 w.heap.size 3 (.slice A3 ([] ++ [n]).length c3) ([] ++ [n])) := own_of_blocks HO3.out fun g _ hl => hb4.block g hl
      have HAP : Hid (∀ g, (Value.slice A3 ([] ++ [n]).length c3).ownBlock = some g → g < w3.heap.size ∨ w4.heap.size ≤ g) := fun g hg => .inl (World.ownsRow.lt HO3.out g hg).2
      have hw34 : w3.heap.size ≤ w4.heap.size := hb4.size
      clear hr4 hb4 HO3 HR3
      go_wp2
      have HK5 : Hid (Rd w4 (fun k => w3.heap.size ≤ k ∧ k < w4.heap.size) (.slice A4 ks.length c4) ks) := HK4.out
      go_loopw [5, 7] (fun v t wr => ∃ i : Nat, i ≤ ks.length ∧ t = .int .i64 i ∧ Hid (Own wr w.heap.size 3 v (n :: reachBy L (ks.take i))) ∧ Hid (Below w.heap.size w wr) ∧ Hid (Rd wr (fun k => w3.heap.size ≤ k ∧ k < w4.heap.size) (.slice A4 ks.length c4) ks) ∧ Hid (∀ g, v.ownBlock = some g → g < w3.heap.size ∨ w4.heap.size ≤ g) ∧ w4.heap.size ≤ wr.heap.size) (fun _ t _ => ks.length - (intOf t).toNat)
      case atStart => exact ⟨0, Nat.zero_le _, rfl, HO4.out, HB4, HK5, HAP, Nat.le_refl _⟩
      case round =>
        clear HK4 HK5 HO4 HB4 HAP HRL HB3 HT
        obtain ⟨i, hi, rfl, HO, HB, HK, HAP, hws⟩ := hrel
        have hbs : w.heap.size ≤ wr.heap.size := HB.out.size
        have hlt1 := HLE.out i
        by_cases hlt : i < ks.length
        · have hx : ks[i]? = some ks[i] := List.getElem?_eq_getElem hlt
          have hgd : ks.getD i 0 = ks[i] := by rw [List.getD_eq_getElem?_getD, hx]; rfl
          have hkid := HKID.out ks[i] (List.getElem_mem hlt)
          have HTS := Lib.hid (take_snocI ks i _ hx)
          obtain ⟨b4, o4, rfl, hK4, hbl4, hc4⟩ := Rd.cells HK.out (by omega)
          have q4 := hc4 i hlt
          rw [hgd] at q4
          generalize ks[i] = k at *
          obtain ⟨j, rfl, hj⟩ := there_nat hkid.1
          have hnj := hkid.2
          have HKT := Lib.hid hkid.1
          have HR := Lib.hid (H.out.below HB.out)
          obtain ⟨b, off, c, p0, p1, p2⟩ := HR.out.node (nd_at hj)
          have HCT : Hid (cutT L j = (nd L j).cut) := by show _ = _; unfold cutT; rw [HKT.out, Bool.true_and]
          have HSN : Hid (n :: reachBy L (ks.take (i + 1)) = (n :: reachBy L (ks.take i)) ++ (if cutT L j = true then [] else reachT L j)) := by show _ = _; rw [HTS.out, reachBy_snoc]; rfl
          have hl2 := HLE.out (i + 1)
          rw [HTS.out, reachBy_snoc, List.length_append] at hl2
          have i0 : (0 : Int) ≤ (i : Int) := by omega
          have i1 : (i : Int) < (ks.length : Int) := by omega
          have j0 : (0 : Int) ≤ (j : Int) := by omega
          have j1 : (j : Int) < (L.length : Int) := by omega
          clear hx hgd hkid hc4 HTS p1
          cases hcc : cutT L j with
          | true =>
            rw [hcc] at HSN
            rw [← HCT.out, hcc] at p2
            have HSN2 : Hid (n :: reachBy L (ks.take (i + 1)) = n :: reachBy L (ks.take i)) := by show _ = _; rw [HSN.out]; simp
            clear hcc hl2 HSN HCT
            go_wp2
            go_quiet (fail)
            go_wp2
            go_roundw
            case rel => exact ⟨i + 1, by omega, by go_num, by show Own _ _ _ _ _; rw [HSN2.out]; exact HO.out.drewN _, below_drewN HB.out _, HK.out.keep (Nat.le_refl _) fun _ _ _ => rfl, HAP, hws⟩
            case measure => simp [intOf]; omega
          | false =>
            rw [hcc] at HSN hl2
            rw [← HCT.out, hcc] at p2
            have HSN2 : Hid (n :: reachBy L (ks.take (i + 1)) = (n :: reachBy L (ks.take i)) ++ reachT L j) := by show _ = _; rw [HSN.out]; rfl
            have hl3 : (reachBy L (ks.take i)).length + (reachT L j).length ≤ (reachBy L ks).length := by simpa using hl2
            clear hcc hl2 HSN HCT
            go_wp2
            go_quiet (fail)
            go_wp2_with fail
            refine (IH.out j _ (HR.out.below (below_drewN (Below.refl _ _) _)) (by omega) (by omega)).mono ?_
            rintro e w5 ⟨z5, rfl, hr5, hb5⟩
            have hs5 : wr.heap.size ≤ w5.heap.size := hb5.size
            have HB5 : Hid (Below w.heap.size w w5) := (below_drewN HB.out _).trans (hb5.mono hbs)
            have HO5 : Hid (Own w5 w.heap.size 3 u5 (n :: reachBy L (ks.take i))) := own_of_blocks (HO.out.drewN _) fun g _ hl => hb5.block g hl
            have HK5 : Hid (Rd w5 (fun k => w3.heap.size ≤ k ∧ k < w4.heap.size) (.slice (some ⟨b4, o4, none⟩) ks.length c4) ks) := HK.out.keep hs5 fun k hk _ => hb5.block k hk
            have HZ5 := Lib.hid hr5
            clear hr5 hb5 q4 p0 p2
            go_wp2_with (at_builtin; refine wpList_app rfl _ _ intElem rfl rfl rfl HO5.out HZ5.out (by simp; omega) (by omega) ?_)
            intro v6 w6 hown6 hgrow hat
            have hb6 : Below w.heap.size w w6 := Below.grown HB5.out hgrow HB5.out.size (fun g hg' => (World.ownsRow.lt HO5.out g hg').1)
            have HB6 := Lib.hid hb6
            have HO6 := Lib.hid hown6
            have hs6 : w5.heap.size ≤ w6.heap.size := hgrow.size
            have HK6 : Hid (Rd w6 (fun k => w3.heap.size ≤ k ∧ k < w4.heap.size) (.slice (some ⟨b4, o4, none⟩) ks.length c4) ks) := HK5.out.grown hgrow fun k hk hK => by have := HAP.out k hk; omega
            have HAP6 : Hid (∀ g, v6.ownBlock = some g → g < w3.heap.size ∨ w4.heap.size ≤ g) := fun g hg => by
              rcases hat with e | e
              · exact HAP.out g (e ▸ hg)
              · rw [e] at hg
                have := Option.some.inj hg
                omega
            clear hb6 hown6 hgrow hat
            go_wp2
            go_roundw
            case rel => exact ⟨i + 1, by omega, by go_num, by show Own _ _ _ _ _; rw [HSN2.out]; exact HO6.out, HB6, HK6, HAP6, by omega⟩
            case measure => simp [intOf]; omega
        · have HTK : Hid (ks.take i = ks) := List.take_of_length_le (by omega)
          go_wp2
          go_ret
          have hO := HO.out
          rw [HTK.out, ← HE.out] at hO
          have hrl := reach_len HW.out n
          exact ⟨_, rfl, hO.rd (by omega) fun g hg => (World.ownsRow.lt hO g hg).1, HB.out⟩

section
variable {w : World} {G : Nat → Prop} {p : Nat} {L : List Nd} {M : Int} (h : RT w G p L M) (hG : ∀ b, w.heap.size ≤ b → G b)
include h hG
theorem put_any (hlen : L.length ≤ 100000) (o : Int) (c : Bool) : Calls Try.prog 34 #[.pointer (some ⟨p, 0, none⟩), .int .i64 o, .bool c] w fun e w' => e = .returned (.tuple #[.int .i64 (putV L M), .int .i64 (putE L M)]) ∧ RT w' G p (putL L M ⟨o, c⟩) M ∧ Only (fun b => b = p) w w' := by
  have hp := h.lt
  obtain ⟨A, cc, h0, h1, hf, hm, hr⟩ := h.head
  have H := Lib.hid h
  have HR := Lib.hid hr
  have HG := Lib.hid hG
  clear h hr hG
  by_cases hlt : (L.length : Int) < M
  · have HE : Hid (putE L M = 0 ∧ putV L M = L.length ∧ putL L M ⟨o, c⟩ = L ++ [⟨o, c⟩]) := by unfold putE putV putL; rw [if_pos hlt, if_pos hlt, if_pos hlt]; exact ⟨rfl, rfl, rfl⟩
    have hd : decide (M ≤ (L.length : Int)) = false := by simpa using hlt
    go_enter Try.func34, Try.ntmps34
    go_wp2
    go_quiet (fail)
    have HB0 : Hid (Below w.heap.size w (w.drewN nq)) := below_drewN (Below.refl _ _) _
    have hz0 : (w.drewN nq).heap.size = w.heap.size := rfl
    generalize w.drewN nq = w0 at *
    have HZ := Lib.hid hz0
    clear hz0 hd h0 h1 hf
    have H0 := Lib.hid (H.out.below HB0.out)
    obtain ⟨A0, cc0, h0, h1, hf, _, hr0⟩ := H0.out.head
    have HR0 : Hid (RdL nodeE (w0.alloc (.cells #[] 109)) (fun b => G b ∧ b ≠ p) (.slice A0 L.length cc0) L) := hr0.alloc _
    have hp0 : p < w0.heap.size := by rw [HZ.out]; exact hp
    clear hr0
    go_wp2_with (at_builtin; refine wpList_appL rfl _ _ nodeElem rfl rfl rfl (OwnL.lit0 (E := nodeE) w0 w0.heap.size _ (Nat.le_refl _)) HR0.out (by simp; omega) (by simp) ?_)
    intro v1 w1 hown1 hgrow hat
    have hb1 : Below w0.heap.size w0 w1 := Below.grown (new_below0 w0 _) hgrow (by simp) (fun k hk => by simp [Value.ownBlock] at hk; omega)
    have HB1 := Lib.hid hb1
    have hown1' : OwnL nodeE w1 w0.heap.size 109 v1 L := hown1
    have HO1 := Lib.hid hown1'
    obtain ⟨A1, c1, e1⟩ := hown1'.form
    subst e1
    have hs1 : w0.heap.size ≤ w1.heap.size := hb1.size
    clear hown1 hown1' hgrow hat hb1
    go_wp2_with (at_builtin; refine wpList_appL rfl _ _ nodeElem rfl rfl rfl (HO1.out.alloc _) (RdL.lit1 (E := nodeE) w1 _ (⟨o, c⟩ : Nd) rfl (fun _ => True) trivial) (by simp; omega) (by simp; omega) ?_)
    intro v2 w2 hown2 hgrow hat
    have hb2 : Below w0.heap.size w0 w2 := Below.grown (HB1.out.alloc hs1 _) hgrow (by simp; omega) (fun k hk => (HO1.out.lt k hk).1)
    have HB2 := Lib.hid hb2
    have HO2 := Lib.hid hown2
    obtain ⟨A2, c2, e2⟩ := hown2.form
    subst e2
    have H2 := Lib.hid (H0.out.below hb2)
    have g0 := (hb2.cell (p := ⟨p, 0, none⟩) hp0).trans h0
    have g1 := (hb2.frozen (p := ⟨p, 0, none⟩) hp0).trans hf
    clear hown2 hgrow hat hb2 h0 h1 hf
    go_wp2
    go_ret2
    refine ⟨by rw [HE.out.1, HE.out.2.1]; simp, ?_, Only.setCell (F := fun b => b = p) (a := ⟨p, 0, none⟩) (Only.of_below (HB0.out.trans (HB2.out.mono (by rw [HZ.out]; exact Nat.le_refl _)))) (.inl rfl) _⟩
    rw [HE.out.2.2]
    have hO := HO2.out
    rw [show (L ++ [(⟨o, c⟩ : Nd)]).length = L.length + 1 by simp] at hO
    refine H2.out.set (hO.rd (by simp; omega) fun k hk => ?_)
    have := (hO.lt k hk).1
    rw [HZ.out] at this
    exact ⟨HG.out k this, by omega⟩
  · have HE : Hid (putE L M = 2 ∧ putV L M = -1 ∧ putL L M ⟨o, c⟩ = L) := by unfold putE putV putL; rw [if_neg hlt, if_neg hlt, if_neg hlt]; exact ⟨rfl, rfl, rfl⟩
    have hd : decide (M ≤ (L.length : Int)) = true := by simpa using hlt
    go_enter Try.func34, Try.ntmps34
    go_wp2
    go_quiet (fail)
    go_wp2
    go_ret2
    exact ⟨by rw [HE.out.1, HE.out.2.1]; rfl, by rw [HE.out.2.2]; exact H.out.below (below_drewN (Below.refl _ _) _), (Only.refl _ _).drewN _⟩
theorem add_any (hlen : L.length ≤ 100000) (o : Int) (c : Bool) : Calls Try.prog 62 #[.pointer (some ⟨p, 0, none⟩), .int .i64 o, .bool c] w fun e w' => e = .returned (.tuple #[.int .i64 (addV L M o), .int .i64 (addE L M o)]) ∧ RT w' G p (addL L M o c) M ∧ Only (fun b => b = p) w w' := by
  have H := Lib.hid h
  have HG := Lib.hid hG
  clear h hG
  rcases ht : there L o with _ | _
  · have HE : Hid (addE L M o = 3 ∧ addV L M o = -1 ∧ addL L M o c = L) := by unfold addE addV addL; rw [ht]; exact ⟨rfl, rfl, rfl⟩
    have HT := Lib.hid ht
    clear ht
    go_enter Try.func62, Try.ntmps62
    go_wp2_with fail
    refine (there_any H.out o).mono ?_
    rintro e w1 ⟨rfl, rfl⟩
    rw [HT.out]
    go_wp2
    go_ret2
    exact ⟨by rw [HE.out.1, HE.out.2.1]; rfl, by rw [HE.out.2.2]; exact H.out, Only.refl _ _⟩
  · have HE : Hid (addE L M o = putE L M ∧ addV L M o = putV L M ∧ addL L M o c = putL L M ⟨o, c⟩) := by unfold addE addV addL; rw [ht]; exact ⟨rfl, rfl, rfl⟩
    have HT := Lib.hid ht
    clear ht
    go_enter Try.func62, Try.ntmps62
    go_wp2_with fail
    refine (there_any H.out o).mono ?_
    rintro e w1 ⟨rfl, rfl⟩
    rw [HT.out]
    go_wp2_with fail
    refine (put_any H.out HG.out hlen o c).mono ?_
    rintro e w2 ⟨rfl, h2, o2⟩
    have H2 := Lib.hid h2
    have O2 := Lib.hid o2
    clear h2 o2
    generalize putE L M = e1 at *
    generalize putV L M = v1 at *
    go_wp2
    go_ret2
    exact ⟨by rw [HE.out.1, HE.out.2.1]; rfl, by rw [HE.out.2.2]; exact H2.out, O2.out⟩
end
theorem new_no (n : Int) (w : World) (h : n < 1 ∨ 200 < n) :
    Calls Try.prog 33 #[.int .i64 n] w fun e w' => e = .returned (.tuple #[.pointer none, .int .i64 1]) ∧ w = w' := by
  rcases (by omega : n < 1 ∨ (1 ≤ n ∧ 200 < n)) with h1 | ⟨h1, h2⟩
  all_goals
    clear h
    go_enter Try.func33, Try.ntmps33
    go_wp2
    go_ret2
    exact ⟨rfl, rfl⟩
theorem new_yes (n : Int) (w : World) (h1 : 1 ≤ n) (h2 : n ≤ 200) :
    Calls Try.prog 33 #[.int .i64 n] w fun e w' => ∃ p, e = .returned (.tuple #[.pointer (some ⟨p, 0, none⟩), .int .i64 0]) ∧ RT w' (fun b => w.heap.size ≤ b) p [] n ∧ Below w.heap.size w w' := by
  go_enter Try.func33, Try.ntmps33
  go_wp2
  go_ret2
  exact ⟨w.heap.size, rfl, ⟨.slice none 0 0, heap_alloc_new w _, Nat.le_refl _, RdL.nil _ _ _ _⟩, (Below.refl _ _).alloc (Nat.le_refl _) _⟩
end Go.Proofs.Ytidkppjhmgehoaa.RefTree
