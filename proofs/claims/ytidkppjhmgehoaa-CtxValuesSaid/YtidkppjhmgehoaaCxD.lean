/-
  Contracts of the functions of package ctx, as it landed, fourth part: the next deadline, the effective one, a value by its key. Condition: the arena is as 'Sees' says, and its numbers are of 64 bits.
-/
import Derived.Test.YtidkppjhmgehoaaCxC
import Derived.Test.YtidkppjhmgehoaaCtxR
namespace Go.Proofs.Ytidkppjhmgehoaa.CxC
open Go.ChangeShapes Go.WideShapes Go.ChangeAt Go.RowKit Mem TreeP CtxP Hand TreeC CtxI

theorem least_fold : ∀ (l : List Int) (a : Int), (l.foldl (fun a b => if b < a then b else a) a ≤ a ∧ ∀ x ∈ l, l.foldl (fun a b => if b < a then b else a) a ≤ x) ∧ (l.foldl (fun a b => if b < a then b else a) a = a ∨ l.foldl (fun a b => if b < a then b else a) a ∈ l)
  | [], a => by simp
  | y :: l, a => by
    obtain ⟨⟨h1, h2⟩, h3⟩ := least_fold l (if y < a then y else a)
    rw [List.foldl_cons]
    have ha : (if y < a then y else a) ≤ a ∧ (if y < a then y else a) ≤ y ∧ ((if y < a then y else a) = a ∨ (if y < a then y else a) = y) := by
      by_cases h : y < a
      · rw [if_pos h]; exact ⟨by omega, by omega, .inr rfl⟩
      · rw [if_neg h]; exact ⟨by omega, by omega, .inl rfl⟩
    refine ⟨⟨by omega, fun x hx => ?_⟩, ?_⟩
    · rcases List.mem_cons.1 hx with rfl | hx
      · omega
      · exact h2 x hx
    · rcases h3 with h3 | h3
      · rcases ha.2.2 with h4 | h4
        · exact .inl (h3.trans h4)
        · exact .inr (by rw [h3, h4]; exact List.mem_cons_self ..)
      · exact .inr (List.mem_cons_of_mem _ h3)
theorem least_is {l : List Int} {a : Int} (ha : a ∈ l ∨ (l = [] ∧ a = 9223372036854775807)) (hle : ∀ x ∈ l, a ≤ x) (hm : a ≤ 9223372036854775807) : leastL l = a := by
  obtain ⟨⟨_, h2⟩, h3⟩ := least_fold l 9223372036854775807
  unfold leastL
  rcases ha with ha | ⟨rfl, rfl⟩
  · have := h2 a ha
    rcases h3 with h3 | h3
    · omega
    · have := hle _ h3; omega
  · rfl
theorem mem_und {X : List Cn} {k : Int} : ∀ {m : Nat}, k ∈ undTo X m ↔ ∃ j : Nat, j < m ∧ k = j ∧ (cn X (j : Nat)).e = 0
  | 0 => by simp [undTo]
  | m + 1 => by
    rw [undTo, List.mem_append, mem_und (m := m)]
    constructor
    · rintro (⟨j, h1, h2, h3⟩ | h)
      · exact ⟨j, by omega, h2, h3⟩
      · split at h
        · next h0 => simp at h; exact ⟨m, by omega, h, h0⟩
        · simp at h
    · rintro ⟨j, h1, h2, h3⟩
      by_cases hj : j < m
      · exact .inl ⟨j, hj, h2, h3⟩
      · obtain rfl : j = m := by omega
        right
        rw [if_pos h3, h2]
        simp
theorem mem_dls {X : List Cn} {l : List Int} {t : Int} : t ∈ dlsL X l ↔ ∃ k ∈ l, (cn X k).has = true ∧ (cn X k).at_ = t := by
  unfold dlsL
  rw [List.mem_map]
  constructor
  · rintro ⟨k, hk, rfl⟩
    rw [List.mem_filter] at hk
    exact ⟨k, hk.1, hk.2, rfl⟩
  · rintro ⟨k, h1, h2, rfl⟩
    exact ⟨k, List.mem_filter.2 ⟨h1, h2⟩, rfl⟩
theorem at_le {X : List Cn} (hX : ∀ x ∈ X, CIn x) (k : Int) : (cn X k).at_ ≤ 9223372036854775807 := by
  unfold cn
  rw [List.getD_eq_getElem?_getD]
  cases h : X[k.toNat]? with
  | none => show (0 : Int) ≤ _; omega
  | some x => exact (hX x (List.mem_of_getElem? h)).at_.2
theorem next_is {X : List Cn} (hX : ∀ x ∈ X, CIn x) : leastL (dlsL X (undTo X X.length)) = nextX X := by
  have hf := first_in X
  unfold nextX
  by_cases h0 : firstX X < 0
  · rw [if_pos h0]
    refine least_is (.inr ⟨?_, rfl⟩) (fun x hx => ?_) (Int.le_refl _)
    · rw [List.eq_nil_iff_forall_not_mem]
      intro t ht
      obtain ⟨k, hk, h1, _⟩ := mem_dls.1 ht
      obtain ⟨j, hj, rfl, h2⟩ := mem_und.1 hk
      have := (firstTo_min X X.length j hj h1 h2).1
      unfold firstX at h0
      omega
    · obtain ⟨k, hk, h1, _⟩ := mem_dls.1 hx
      obtain ⟨j, hj, rfl, h2⟩ := mem_und.1 hk
      have := (firstTo_min X X.length j hj h1 h2).1
      unfold firstX at h0
      omega
  · rw [if_neg h0]
    obtain ⟨h1, h2⟩ := first_live (by omega : 0 ≤ firstX X)
    obtain ⟨j, hj⟩ := Int.eq_ofNat_of_zero_le (by omega : 0 ≤ firstX X)
    refine least_is (.inl (mem_dls.2 ⟨firstX X, mem_und.2 ⟨j, by omega, hj, by rw [← hj]; exact h2⟩, h1, rfl⟩)) (fun x hx => ?_) (at_le hX _)
    obtain ⟨k, hk, h3, rfl⟩ := mem_dls.1 hx
    obtain ⟨i, hi, rfl, h4⟩ := mem_und.1 hk
    exact (firstTo_min X X.length i hi h3 h4).2
theorem fold_none {X : List Cn} : ∀ (l : List Int) (s : Int × Bool), dlsL X l = [] → l.foldl (dlS X) s = s
  | [], s, _ => rfl
  | k :: l, s, h => by
    have hk : (cn X k).has = false := by
      cases hh : (cn X k).has with
      | false => rfl
      | true =>
        have : (cn X k).at_ ∈ dlsL X (k :: l) := mem_dls.2 ⟨k, List.mem_cons_self .., hh, rfl⟩
        rw [h] at this; simp at this
    have hl : dlsL X l = [] := by
      unfold dlsL at h ⊢
      rw [List.filter_cons, if_neg (by rw [hk]; simp)] at h
      exact h
    rw [List.foldl_cons, show dlS X s k = s from by unfold dlS; rw [if_neg (by rw [hk]; simp)], fold_none l s hl]
theorem dl_is {X : List Cn} (hX : ∀ x ∈ X, CIn x) {T : List Nd} {n : Int} (h : dlsL X (chainT T n) ≠ []) : dlX T X n = (leastL (dlsL X (chainT T n)), true) := by
  obtain ⟨d1, _, d3, d4⟩ := dl_fold X (chainT T n) (0, false)
  obtain ⟨t, ht⟩ := List.exists_mem_of_ne_nil _ h
  obtain ⟨k, hk, h1, _⟩ := mem_dls.1 ht
  have h2 : (dlX T X n).2 = true := d1.2 (.inr ⟨k, hk, h1⟩)
  rcases d4 h2 with h3 | ⟨m, hm, h3, h4⟩
  · exact absurd h3.1 (by simp)
  · have h5 : leastL (dlsL X (chainT T n)) = (dlX T X n).1 := by
      refine least_is (.inl (mem_dls.2 ⟨m, hm, h3, h4⟩)) (fun x hx => ?_) (by show ((chainT T n).foldl (dlS X) (0, false)).1 ≤ _; rw [← h4]; exact at_le hX _)
      obtain ⟨i, hi, h6, rfl⟩ := mem_dls.1 hx
      exact d3 i hi h6
    rw [h5]
    exact Prod.ext rfl h2

section
variable {w : World} {p : Nat} {T : List Nd} {X : List Cn} {M : Int} {q : Nat} {A : Option Addr} {c : Nat} {G : Nat → Prop} (h : Sees w p T X M q A c G)
include h
theorem next_c (hX : ∀ x ∈ X, CIn x) : Calls Try.prog 14 #[.pointer (some ⟨p, 0, none⟩)] w fun e w' => e = .returned (.int .i64 (nextX X)) ∧ Below w.heap.size w w' := by
  have H := Lib.hid h
  have hl := h.len
  have HN := Lib.hid (next_is hX)
  have HTH : Hid (∀ k ∈ undTo X X.length, there T k = true) := fun k hk => by
    obtain ⟨j, hj, rfl, _⟩ := mem_und.1 hk
    rw [there_iff]; omega
  have hul := undTo_len X X.length
  have hm := small h
  have HU := Lib.hid (undone_c h)
  clear h hX
  generalize undTo X X.length = l at *
  go_enter Try.func14, Try.ntmps14
  go_wp2_with fail
  refine HU.out.mono ?_
  rintro e w1 ⟨u, rfl, A1, c1, rfl, ho, hb⟩
  have HO := Lib.hid (rd_of (ho.rd (G := fun _ => True) (by omega) fun _ _ => trivial))
  have HB := Lib.hid hb
  clear ho hb HU
  go_wp2_with fail
  refine (deadlines_c (H.out.below HB.out) HO.out HTH.out).mono ?_
  rintro e w2 ⟨A2, c2, rfl, hr, hb⟩
  have HR := Lib.hid hr
  have HB2 := Lib.hid (HB.out.trans (hb.mono HB.out.size))
  clear hr hb
  go_wp2_with fail
  refine (least_c HR.out).mono ?_
  rintro e w3 ⟨rfl, rfl⟩
  go_wp2
  go_ret
  exact ⟨ret_int HN.out, HB2.out⟩
theorem deadline_c (hX : ∀ x ∈ X, CIn x) (n : Int) : Calls Try.prog 17 #[.pointer (some ⟨p, 0, none⟩), .int .i64 n] w fun e w' => e = .returned (.tuple #[.int .i64 (dlX T X n).1, .bool (dlX T X n).2]) ∧ Below w.heap.size w w' := by
  have H := Lib.hid h
  have hm : T.length ≤ 200 := by have := h.ok.len; have := h.ok.m1; omega
  have hcl := chain_len h.ok.wf n
  have HD : Hid (∀ L, dlsL X (chainT T n) = L → dlX T X n = if L.length = 0 then (0, false) else (leastL L, true)) := by
    rintro L rfl
    by_cases he : dlsL X (chainT T n) = []
    · rw [if_pos (by rw [he]; rfl)]; exact fold_none _ _ he
    · rw [if_neg (by intro hz; exact he (List.eq_nil_of_length_eq_zero hz))]; exact dl_is hX he
  have HTH : Hid (∀ k ∈ chainT T n, there T k = true) := fun k hk => (chain_there h.ok.wf hk).1
  have HC := Lib.hid (chain_c h.tree h.ok.wf (by omega) n)
  have k0 := h.c0
  clear h hX
  generalize chainT T n = l at *
  go_enter Try.func17, Try.ntmps17
  go_wp2_with fail
  refine HC.out.mono ?_
  rintro e w1 ⟨u, rfl, A1, c1, rfl, ho, hb⟩
  have HO := Lib.hid (rd_of (ho.rd (G := fun _ => True) (by omega) fun _ _ => trivial))
  have HB := Lib.hid hb
  clear ho hb HC k0
  go_wp2_with fail
  refine (deadlines_c (H.out.below HB.out) HO.out HTH.out).mono ?_
  rintro e w2 ⟨A2, c2, rfl, hr, hb⟩
  have HR := Lib.hid hr
  have HB2 := Lib.hid (HB.out.trans (hb.mono HB.out.size))
  have HD2 := Lib.hid (HD.out _ rfl)
  have hdl := dls_len X l
  clear hr hb HD
  generalize dlsL X l = L at *
  by_cases hz : L.length = 0
  · have hd : ((L.length : Int) == 0) = true := by simpa using hz
    have HE : Hid (dlX T X n = (0, false)) := by show _ = _; rw [HD2.out, if_pos hz]
    clear HD2
    generalize L.length = nl at *
    subst hz
    go_wp2
    go_ret2
    rw [HE.out]
    exact ⟨rfl, HB2.out⟩
  · have hd : ((L.length : Int) == 0) = false := by rw [beq_eq_false_iff_ne]; omega
    have HE : Hid (dlX T X n = (leastL L, true)) := by show _ = _; rw [HD2.out, if_neg hz]
    clear HD2
    go_wp2_with fail
    refine (least_c HR.out).mono ?_
    rintro e w3 ⟨rfl, rfl⟩
    go_wp2
    go_ret2
    rw [HE.out]
    exact ⟨rfl, HB2.out⟩

set_option maxRecDepth 100000 in
set_option maxHeartbeats 1000000 in
theorem value_c (n key : Int) : Calls Try.prog 19 #[.pointer (some ⟨p, 0, none⟩), .int .i64 n, .int .i64 key] w fun e w' => e = .returned (.tuple #[.int .i64 (valX T X n key).1, .bool (valX T X n key).2]) ∧ Below w.heap.size w w' := by
  have H := Lib.hid h
  have hm : T.length ≤ 200 := by have := h.ok.len; have := h.ok.m1; omega
  have hcl := path_len (L := T) n
  have hlen := h.len
  have HTH : Hid (∀ (i : Nat) (k : Int), (pathT T n)[i]? = some k → there T k = true) := fun i k hk => (path_step h.ok.wf n i k hk).1
  have HC := Lib.hid (path_c h.tree h.ok.wf (by omega) n)
  have HV : Hid (valX T X n key = match (pathT T n).find? (named X key) with | some k => ((cn X k).value, true) | none => (0, false)) := rfl
  have k0 := h.c0
  clear h
  generalize pathT T n = l at *
  go_enter Try.func19, Try.ntmps19
  go_wp2_with fail
  refine HC.out.mono ?_
  rintro e w1 ⟨u, rfl, A1, c1, rfl, ho, hb⟩
  have HR1 := Lib.hid (rd_of (ho.rd (G := fun _ => True) (by omega) fun _ _ => trivial))
  have HB1 := Lib.hid hb
  have H1 := Lib.hid (H.out.below hb)
  clear ho hb HC k0 H
  go_wp2
  go_loopw [18] (fun t W => ∃ i : Nat, i ≤ l.length ∧ t = .int .i64 i ∧ Hid ((l.take i).find? (named X key) = none) ∧ Hid (Below w1.heap.size w1 W)) (fun t _ => l.length - (intOf t).toNat)
  case atStart => exact ⟨0, Nat.zero_le _, rfl, rfl, Below.refl _ _⟩
  case round =>
    obtain ⟨i, hi, rfl, HN, HB⟩ := hrel
    by_cases hlt : i < l.length
    · obtain ⟨b1, o1, e1, _, hbl1, hc1⟩ := Rd.cells HR1.out (by omega)
      subst e1
      have q0 := (HB.out.cell (p := ⟨b1, o1 + i, none⟩) hbl1).trans (hc1 i hlt)
      have hg : l[i]? = some (l.getD i 0) := by rw [List.getD_eq_getElem?_getD, List.getElem?_eq_getElem hlt]; rfl
      have hth := HTH.out i _ hg
      have HTk : Hid (l.take (i + 1) = l.take i ++ [l.getD i 0]) := by show _ = _; rw [List.take_add_one, hg]; rfl
      have HDk : Hid (l = l.take i ++ l.getD i 0 :: l.drop (i + 1)) := by
        show _ = _
        have : l.getD i 0 = l[i] := by rw [List.getD_eq_getElem?_getD, List.getElem?_eq_getElem hlt]; rfl
        rw [this, ← List.drop_eq_getElem_cons hlt, List.take_append_drop]
      obtain ⟨j, hj, hjl⟩ := there_nat hth
      rw [hj] at q0 HTk HDk
      have hjX : j < X.length := by omega
      have hw := H1.out.below HB.out
      have k1 := hw.c1
      obtain ⟨bb, off, rfl, _, hbl, d0, d1, d2, d3, d4, d5, d6, d7, d8⟩ := x_cells hw.rd (cn_at hjX)
      have i0 : (0 : Int) ≤ (i : Int) := by omega
      have i1 : (i : Int) < (l.length : Int) := by omega
      have j0 : (0 : Int) ≤ (j : Int) := by omega
      have j1 : (j : Int) < (X.length : Int) := by omega
      have HNM : Hid (named X key (j : Nat) = ((cn X (j : Nat)).named && decide ((cn X (j : Nat)).key = key))) := rfl
      have HVJ : Hid (∀ k, k = (j : Int) → cn X k = cn X (j : Nat)) := fun k hk => by rw [hk]
      clear hc1 hg hth hj hw
      generalize cn X (j : Nat) = x at *
      generalize lateE x = le at *
      generalize lateZ x = lz at *
      have HB2 := Lib.hid (HB.out.alloc HB.out.size (.cells #[.bool x.has, .int .i64 x.at_, .int .i64 le, .int .i64 lz, .bool x.named, .int .i64 x.key, .int .i64 x.value, .int .i64 x.e, .int .i64 x.cause] 76))
      rcases hh : x.named with _ | _
      · rw [hh] at d4 HB2
        have HN2 : Hid ((l.take (i + 1)).find? (named X key) = none) := by show _ = _; rw [HTk.out, List.find?_append, HN.out]; simp [HNM.out, hh]
        clear hh
        go_wp2
        go_roundw
        case rel => exact ⟨i + 1, by omega, by go_num, HN2, HB2⟩
        case measure => simp [intOf]; omega
      · rw [hh] at d4 HB2
        by_cases hk : x.key = key
        · have e1 : (x.key == key) = true := by simpa using hk
          have HN2 : Hid (valX T X n key = (x.value, true)) := by
            show _ = _
            rw [HV.out, HDk.out, List.find?_append, HN.out]
            simp only [Option.none_or, List.find?_cons]
            rw [HNM.out, hh, hk]
            simp [HVJ.out _ rfl]
          clear hh hk
          go_wp2
          go_ret2
          rw [HN2.out]
          exact ⟨rfl, HB1.out.trans (HB2.out.mono HB1.out.size)⟩
        · have e1 : (x.key == key) = false := by simpa using hk
          have HN2 : Hid ((l.take (i + 1)).find? (named X key) = none) := by show _ = _; rw [HTk.out, List.find?_append, HN.out]; simp [HNM.out, hk]
          clear hh hk
          go_wp2
          go_roundw
          case rel => exact ⟨i + 1, by omega, by go_num, HN2, HB2⟩
          case measure => simp [intOf]; omega
    · have HN2 : Hid (valX T X n key = (0, false)) := by
        show _ = _
        have := HN.out
        rw [List.take_of_length_le (by omega)] at this
        rw [HV.out, this]
      go_wp2
      go_ret2
      rw [HN2.out]
      exact ⟨rfl, HB1.out.trans (HB.out.mono HB1.out.size)⟩
end
end Go.Proofs.Ytidkppjhmgehoaa.CxC
