/-
  The walk of the law RWOne over any package that meets 'Rw': it returns true and leaves old memory as it was. Conditions: none but 'Rw'.
-/
import Derived.Test.YtmlicljoadcoeaaRwDoes
import Derived.Test.YtmlicljoadcoeaaTally
namespace Go.Proofs.Ytmlicljoadcoeaa.RwI
open Go.ChangeShapes Go.WideShapes Go.ChangeAt Go.RowKit Mem MutP RwP Hand RefMut RefRw Acts

/-- Who writes, as a list. -/
def holdL (s : St) : List Int := if s.w < 0 then [] else [s.w]
/-- The three rows, one by one; and what lies ahead of each. -/
def rowL (s : St) (i : Nat) : List Int := if i = 0 then s.r else if i = 1 then s.p else s.q
def preL (s : St) (i : Nat) : List Int := if i = 0 then holdL s else if i = 1 then holdL s ++ s.r else if i = 2 then holdL s ++ s.r ++ s.p else holdL s ++ s.r ++ s.p ++ s.q
theorem pre_step (s : St) (i : Nat) (h : i < 3) : preL s (i + 1) = preL s i ++ rowL s i := by
  rcases (by omega : i = 0 ∨ i = 1 ∨ i = 2) with rfl | rfl | rfl <;> rfl
theorem all_in {s : St} (hok : RwP.Ok s) : ∀ x ∈ preL s 3, 0 ≤ x ∧ x < s.n := by
  intro x hx
  have hx : x ∈ holdL s ++ s.r ++ s.p ++ s.q := hx
  simp only [List.mem_append] at hx
  rcases hx with ((hx | hx) | hx) | hx
  · unfold holdL at hx
    split at hx
    · cases hx
    · rw [List.mem_singleton] at hx
      subst hx
      exact ⟨by omega, hok.h1⟩
  · exact hok.br x hx
  · exact hok.bp x hx
  · exact hok.bq x hx
theorem all_once {s : St} (hok : RwP.Ok s) : (preL s 3).Nodup := by
  show (holdL s ++ s.r ++ s.p ++ s.q).Nodup
  have hw : ∀ x ∈ holdL s, x = s.w ∧ 0 ≤ s.w := by
    intro x hx
    unfold holdL at hx
    split at hx
    · cases hx
    · rw [List.mem_singleton] at hx
      exact ⟨hx, by omega⟩
  rw [List.nodup_append, List.nodup_append, List.nodup_append]
  refine ⟨⟨⟨?_, hok.nr, ?_⟩, hok.np, ?_⟩, hok.nq, ?_⟩
  · unfold holdL
    split
    · exact .nil
    · simp
  · intro a ha b hb
    obtain ⟨_, h0⟩ := hw a ha
    rw [hok.alone h0] at hb
    cases hb
  · intro a ha b hb
    rcases List.mem_append.1 ha with ha | ha
    · obtain ⟨rfl, _⟩ := hw a ha
      rintro rfl
      exact hok.wp hb
    · rintro rfl
      exact hok.pr a hb ha
  · intro a ha b hb
    rcases List.mem_append.1 ha with ha | ha
    · rcases List.mem_append.1 ha with ha | ha
      · obtain ⟨rfl, _⟩ := hw a ha
        rintro rfl
        exact hok.wq hb
      · rintro rfl
        exact hok.qr a hb ha
    · rintro rfl
      exact hok.pq a ha hb
/-- What lies ahead of a row, and of it what was gone through, is without the next. -/
theorem next_new {s : St} (hok : RwP.Ok s) (i k : Nat) (hi : i < 3) {x : Int} (hx : (rowL s i)[k]? = some x) : x ∉ preL s i ++ (rowL s i).take k ∧ (0 ≤ x ∧ x < s.n) ∧ (rowL s i).take (k + 1) = (rowL s i).take k ++ [x] := by
  have hsub : (preL s i ++ rowL s i).Sublist (preL s 3) := by
    rw [← pre_step s i hi]
    rcases (by omega : i = 0 ∨ i = 1 ∨ i = 2) with rfl | rfl | rfl
    · show (holdL s ++ s.r).Sublist (holdL s ++ s.r ++ s.p ++ s.q)
      rw [List.append_assoc]
      exact List.sublist_append_left _ _
    · show (holdL s ++ s.r ++ s.p).Sublist (holdL s ++ s.r ++ s.p ++ s.q)
      exact List.sublist_append_left _ _
    · exact List.Sublist.refl _
  have hn := (all_once hok).sublist hsub
  have hk : (rowL s i).take (k + 1) = (rowL s i).take k ++ [x] := by
    rw [List.take_add_one, hx]; rfl
  have hn2 : (preL s i ++ ((rowL s i).take k ++ [x])).Nodup := by
    rw [← hk]
    exact hn.sublist (List.Sublist.append (List.Sublist.refl _) (List.take_sublist _ _))
  rw [← List.append_assoc, List.nodup_append] at hn2
  exact ⟨fun h => hn2.2.2 x h x (List.mem_singleton.2 rfl) rfl, all_in hok x (hsub.subset (List.mem_append.2 (.inr (List.mem_of_getElem? hx)))), hk⟩
theorem all_len {s : St} (hok : RwP.Ok s) : (preL s 3).length ≤ 1000 := by
  have h0 := hok.n0
  have h1 := hok.n1
  have := len_of_ids s.n.toNat (preL s 3) (all_once hok) fun x hx => by have := all_in hok x hx; omega
  omega
theorem pre_len (s : St) (i : Nat) (hi : i < 3) : (preL s i).length + (rowL s i).length ≤ (preL s 3).length := by
  rcases (by omega : i = 0 ∨ i = 1 ∨ i = 2) with rfl | rfl | rfl
  · show (holdL s).length + s.r.length ≤ (holdL s ++ s.r ++ s.p ++ s.q).length
    simp only [List.length_append]; omega
  · show (holdL s ++ s.r).length + s.p.length ≤ (holdL s ++ s.r ++ s.p ++ s.q).length
    simp only [List.length_append]; omega
  · show (holdL s ++ s.r ++ s.p).length + s.q.length ≤ (holdL s ++ s.r ++ s.p ++ s.q).length
    simp only [List.length_append]; omega
/-- Nobody beside a writer; nobody waits where it could be given. -/
theorem one_cases {s : St} (hok : RwP.Ok s) :
    (s.w < 0 ∧ s.r.length = 0 ∧ s.p.length = 0 ∧ s.q.length = 0) ∨ (s.w < 0 ∧ 0 < s.r.length ∧ s.p.length = 0 ∧ s.q.length = 0) ∨ (s.w < 0 ∧ 0 < s.r.length ∧ 0 < s.q.length) ∨ (0 ≤ s.w ∧ s.r.length = 0) := by
  by_cases hw : s.w < 0
  · by_cases hr : s.r = []
    · have hq := hok.free hw hr
      have hp := hok.idle hw hq
      exact .inl ⟨hw, by rw [hr]; rfl, by rw [hp]; rfl, by rw [hq]; rfl⟩
    · by_cases hq : s.q = []
      · have hp := hok.idle hw hq
        exact .inr (.inl ⟨hw, List.length_pos_iff.2 hr, by rw [hp]; rfl, by rw [hq]; rfl⟩)
      · exact .inr (.inr (.inl ⟨hw, List.length_pos_iff.2 hr, List.length_pos_iff.2 hq⟩))
  · exact .inr (.inr (.inr ⟨by omega, by rw [hok.alone (by omega)]; rfl⟩))

set_option maxHeartbeats 8000000 in
set_option maxRecDepth 100000 in
theorem one_walk (I : Rw) (A : Option Addr) (len cap : Nat) (zs : List Ac) (w : World) (hlen : len ≤ 9223372036854775807) (hz : ZsIn w A len cap zs) :
    Calls Try.prog 4 #[.slice A len cap] w fun e w' => e = .returned (.bool true) ∧ Below w.heap.size w w' := by
  have HZ := Lib.hid hz
  clear hz
  by_cases h60 : 120 < len
  · go_enter Try.func4, Try.ntmps4
    go_wp2_with fail
    refine (awake_any I _).mono ?_
    rintro e w1 ⟨rfl, hb1⟩
    have HB := Lib.hid hb1
    clear hb1
    go_wp2
    go_ret
    exact ⟨rfl, HB.out⟩
  · obtain ⟨hzl, hzr, hzo⟩ := HZ.out (by omega)
    subst hzl
    have HZR := Lib.hid hzr
    have HZO := Lib.hid hzo
    clear hzr hzo HZ
    go_enter Try.func4, Try.ntmps4
    go_wp2_with fail
    refine (awake_any I _).mono ?_
    rintro e w1 ⟨rfl, hb1⟩
    have S1 := Lib.hid ((Sep.nil (fun _ => False) w).next hb1)
    clear hb1
    go_wp2_with fail
    refine (m_new S1.out I 20 (by omega) (by omega)).mono ?_
    rintro e w2 ⟨a, rfl, h2'⟩
    have S2 := Lib.hid h2'
    clear h2' S1
    go_wp2
    go_loopw [32] (fun u wr => ∃ j : Nat, j ≤ zs.length ∧ u = .int .i64 j ∧ Hid (∃ (s : St), s.n = 20 ∧ Sep (fun _ => False) w wr [ob I.O (.pointer (some a)) s])) (fun u _ => zs.length - (intOf u).toNat)
    case atStart => exact ⟨0, Nat.zero_le _, rfl, _, rfl, S2.out⟩
    case round =>
      obtain ⟨j, hj, rfl, HS⟩ := hrel
      obtain ⟨s0, hn0, hS⟩ := HS.out
      have SL := Lib.hid hS
      clear HS hS S2
      by_cases hlt : j < zs.length
      · have hx : zs[j]? = some zs[j] := List.getElem?_eq_getElem hlt
        generalize zs[j] = z at hx
        obtain ⟨hd64, ht64⟩ := HZO.out z (List.mem_of_getElem? hx)
        obtain ⟨bb, off, rfl, hbb, c0, c1⟩ := ac_cells HZR.out hx
        have hb := SL.out.old
        have q0 := (hb.cell (p := ⟨bb, off + j * 2, none⟩) hbb).trans c0
        have q1 := (hb.cell (p := ⟨bb, off + j * 2 + 1, none⟩) hbb).trans c1
        obtain ⟨d, t⟩ := z
        simp only at q0 q1 ht64
        have S4 := Lib.hid (SL.out.new (.cells #[.int .i64 d, .int .i64 t] 32))
        have HT64 := Lib.hid ht64
        have hN : (actS s0 d t).n = 20 := (act_n s0 d t).trans hn0
        obtain ⟨s, hs⟩ : ∃ s, actS s0 d t = s := ⟨_, rfl⟩
        have KS := Lib.hid hs
        rw [hs] at hN
        have HN := Lib.hid hN
        clear hx c0 c1 hb SL hd64 ht64 hs hN hn0
        go_wp2_with fail
        refine (m_do S4.out 1 rfl d t HT64.out).mono ?_
        rintro e w5 ⟨A5, c5, rfl, h5⟩
        rw [KS.out] at h5
        have S5 : Hid (Sep (fun _ => False) w w5 [ob I.O (.pointer (some a)) s]) := h5.tail.tail
        clear h5 S4 q0 q1 KS
        have HOK := Lib.hid (m_ok S5.out 0 rfl)
        go_wp2_with fail
        refine (m_readers S5.out 0 rfl).mono ?_
        rintro e w6 ⟨A6, c6, rfl, h6, _⟩
        have S6 := Lib.hid h6
        clear h6 S5
        go_wp2_with fail
        refine (m_writer S6.out 1 rfl).mono ?_
        rintro e w7 ⟨rfl, h7, _⟩
        have S7 := Lib.hid h7
        clear h7 S6
        go_wp2_with fail
        refine (m_waiting S7.out 1 rfl).mono ?_
        rintro e w8 ⟨A8, c8, B8, d8, rfl, h8, _⟩
        have S8 := Lib.hid h8
        clear h8 S7
        obtain ⟨fr, hfr⟩ : ∃ fr, (decide (s.w < 0) && decide (s.r.length = 0)) = fr := ⟨_, rfl⟩
        have KF := Lib.hid hfr
        clear hfr
        go_upto_region 14 with (fail)
        go_cut [11] (fun s11 wx => s11 = .bool fr ∧ w8 = wx)
        case first => as_aux_lemma =>
          by_cases hw : s.w < 0
          · have e1 : decide (s.w < 0) = true := decide_eq_true hw
            by_cases hr : s.r.length = 0
            · have e2 : (((s.r.length : Nat) : Int) == 0) = true := by rw [beq_iff_eq]; omega
              have hk : Hid (true = fr) := by show _ = _; rw [← KF.out]; simp [hw, hr]
              clear hw hr KF
              go_wp2
              go_meet
              exact ⟨by rw [← hk.out], rfl⟩
            · have e2 : (((s.r.length : Nat) : Int) == 0) = false := by rw [beq_eq_false_iff_ne]; omega
              have hk : Hid (false = fr) := by show _ = _; rw [← KF.out, decide_eq_false hr]; simp
              clear hw hr KF
              go_wp2
              go_meet
              exact ⟨by rw [← hk.out], rfl⟩
          · have e1 : decide (s.w < 0) = false := decide_eq_false hw
            have hk : Hid (false = fr) := by show _ = _; rw [← KF.out]; simp [hw]
            clear hw KF
            go_wp2
            go_meet
            exact ⟨by rw [← hk.out], rfl⟩
        case rest => as_aux_lemma =>
          obtain ⟨rfl, rfl⟩ := hcut
          go_upto_region 15 with (fail)
          go_cut [86] (fun s86 wx => s86 = .bool false ∧ w8 = wx)
          case first => as_aux_lemma =>
            rcases one_cases HOK.out with ⟨hw, hr, hp, hq⟩ | ⟨hw, hr, hp, hq⟩ | ⟨hw, hr, hq⟩ | ⟨hw, hr⟩
            all_goals
              first | have ew : decide (s.w < 0) = true := decide_eq_true hw | have ew : decide (s.w < 0) = false := decide_eq_false (by omega)
              first | have ew2 : decide (s.w ≥ 0) = false := decide_eq_false (by omega) | have ew2 : decide (s.w ≥ 0) = true := decide_eq_true hw
              first | have ew3 : decide (0 ≤ s.w) = false := decide_eq_false (by omega) | have ew3 : decide (0 ≤ s.w) = true := decide_eq_true hw
              first | have er : decide (0 < ((s.r.length : Nat) : Int)) = true := decide_eq_true (by omega) | have er : decide (0 < ((s.r.length : Nat) : Int)) = false := decide_eq_false (by omega)
              first | have er3 : decide (0 < s.r.length) = true := decide_eq_true (by omega) | have er3 : decide (0 < s.r.length) = false := decide_eq_false (by omega)
              first | have ep : decide (0 < ((s.p.length : Nat) : Int)) = false := decide_eq_false (by omega) | skip
              first | have eq : (((s.q.length : Nat) : Int) == 0) = true := by rw [beq_iff_eq]; omega | have eq : (((s.q.length : Nat) : Int) == 0) = false := by rw [beq_eq_false_iff_ne]; omega | skip
              first | have ep2 : decide (0 < s.p.length) = false := decide_eq_false (by omega) | skip
              first | have ea1 : IntKind.i64.wrap (((s.p.length : Nat) : Int) + ((s.q.length : Nat) : Int)) = 0 := by rw [hp, hq]; rfl | skip
              first | have ea2 : wrap64 (((s.p.length : Nat) : Int) + ((s.q.length : Nat) : Int)) = 0 := by rw [hp, hq]; rfl | skip
              first | have er2 : decide (s.r.length = 0) = true := decide_eq_true hr | have er2 : decide (s.r.length = 0) = false := decide_eq_false (by omega)
              have hk := KF.out
              rw [ew, er2] at hk
              subst hk
              clear er2
              clear KF HOK hw hr
              first | clear hp | skip
              first | clear hq | skip
              go_wp2
              go_meet
              exact ⟨rfl, rfl⟩
          case rest => as_aux_lemma =>
            obtain ⟨rfl, rfl⟩ := hcut
            clear KF
            have hlr : s.r.length ≤ 1000 := HOK.out.toOk0.lens.1
            have h0 := tally_new S8.out
            generalize hb0 : w8.heap.size = b0 at *
            have S9 := Lib.hid h0
            clear h0 S8
            have hmm := @run_makeMap Try.prog
            go_upto_if 89 with (fail)
            clear hb0 hmm
            go_cut [] (fun wx => Hid (Sep (fun _ => False) w wx [tally b0 (holdL s).length (holdL s), nums2 (.slice A8 s.p.length c8) (.slice B8 s.q.length d8) s.p s.q, nums (.slice A6 s.r.length c6) s.r, ob I.O (.pointer (some a)) s]))
            case first => as_aux_lemma =>
              by_cases hw : s.w < 0
              · have hL : holdL s = [] := if_pos hw
                have S10 : Hid (Sep (fun _ => False) w (w8.alloc (.map #[] 0)) [tally b0 (holdL s).length (holdL s), nums2 (.slice A8 s.p.length c8) (.slice B8 s.q.length d8) s.p s.q, nums (.slice A6 s.r.length c6) s.r, ob I.O (.pointer (some a)) s]) := by
                  show Sep _ _ _ _
                  rw [hL]
                  exact S9.out
                clear S9 HOK HN hL
                go_wp2
                go_meet
                exact S10
              · have hL : holdL s = [s.w] := if_neg hw
                have hw2 : s.w < 20 := by have := HOK.out.h1; rw [HN.out] at this; exact this
                obtain ⟨D, ho, ht⟩ := tally_is S9.out 0 rfl
                have HO := Lib.hid ho
                have HT := Lib.hid ht
                have HL := Lib.hid hL
                have hw0 : decide (s.w ≥ 0) = true := decide_eq_true (by omega)
                have hw1 : decide (0 ≤ s.w) = true := decide_eq_true (by omega)
                clear ho ht hL HOK HN
                go_wp2_with (first | (at_lookup; refine wp_tally_look rfl _ _ rfl rfl HO.out HT.out ⟨by omega, by omega⟩ rfl (by simp) ?_) | (at_mapUpdate; refine wp_tally_put rfl _ _ _ rfl rfl HO.out HT.out (by unfold maxLen; omega) ⟨by omega, by omega⟩ rfl rfl ?_; intro w10 D10 ho10 ht10 hg10))
                have S10 : Hid (Sep (fun _ => False) w w10 [tally b0 (holdL s).length (holdL s), nums2 (.slice A8 s.p.length c8) (.slice B8 s.q.length d8) s.p s.q, nums (.slice A6 s.r.length c6) s.r, ob I.O (.pointer (some a)) s]) := by
                  show Sep _ _ _ _
                  rw [HL.out]
                  exact tally_to S9.out 0 rfl ho10 ht10 hg10
                clear S9 HO HT HL ho10 ht10 hg10
                go_wp2
                go_meet
                exact S10
            case rest => as_aux_lemma =>
              clear S9
              have hall : (preL s 3).length ≤ 1000 := all_len HOK.out
              go_wp2
              go_loopw [98] (fun u wn => ∃ i : Nat, i ≤ 3 ∧ u = .int .i64 i ∧ Hid (Sep (fun _ => False) w wn [tally b0 (preL s i).length (preL s i), nums2 (.slice A8 s.p.length c8) (.slice B8 s.q.length d8) s.p s.q, nums (.slice A6 s.r.length c6) s.r, ob I.O (.pointer (some a)) s])) (fun u _ => 3 - (intOf u).toNat)
              case atStart => exact ⟨0, by omega, rfl, hcut⟩
              case round => as_aux_lemma =>
                obtain ⟨i, hi, rfl, S11⟩ := hrel
                clear hcut
                by_cases hi3 : i < 3
                · have hpl := pre_len s i hi3
                  go_upto_region 22 with (fail)
                  go_cut [14] (fun s14 wx => wr = wx ∧ ∃ A9 c9, s14 = .slice A9 (rowL s i).length c9 ∧ Hid (∀ (n : Nat) (L : List Int) (wn : World), Sep (fun _ => False) w wn [tally b0 n L, nums2 (.slice A8 s.p.length c8) (.slice B8 s.q.length d8) s.p s.q, nums (.slice A6 s.r.length c6) s.r, ob I.O (.pointer (some a)) s] → Rd wn (fun _ => True) (.slice A9 (rowL s i).length c9) (rowL s i)))
                  case first => as_aux_lemma =>
                    rcases (by omega : i = 0 ∨ i = 1 ∨ i = 2) with rfl | rfl | rfl
                    · have H0 : Hid (∀ (n : Nat) (L : List Int) (wn : World), Sep (fun _ => False) w wn [tally b0 n L, nums2 (.slice A8 s.p.length c8) (.slice B8 s.q.length d8) s.p s.q, nums (.slice A6 s.r.length c6) s.r, ob I.O (.pointer (some a)) s] → Rd wn (fun _ => True) (.slice A6 s.r.length c6) s.r) := fun _ _ _ h => h.rd 2 rfl
                      have hix : ∀ wz, (Instr.index 51 (.agg #[.slice A6 s.r.length c6, .slice A8 s.p.length c8, .slice B8 s.q.length d8]) (.int .i64 0)).run Try.prog wz = .ok (.slice A6 s.r.length c6) wz := fun _ => by kernel_rfl
                      clear hpl HOK HN S11
                      go_wp2
                      go_meet
                      exact ⟨rfl, _, _, rfl, H0⟩
                    · have H0 : Hid (∀ (n : Nat) (L : List Int) (wn : World), Sep (fun _ => False) w wn [tally b0 n L, nums2 (.slice A8 s.p.length c8) (.slice B8 s.q.length d8) s.p s.q, nums (.slice A6 s.r.length c6) s.r, ob I.O (.pointer (some a)) s] → Rd wn (fun _ => True) (.slice A8 s.p.length c8) s.p) := fun _ _ _ h => (h.rd2 1 rfl).1
                      have hix : ∀ wz, (Instr.index 51 (.agg #[.slice A6 s.r.length c6, .slice A8 s.p.length c8, .slice B8 s.q.length d8]) (.int .i64 1)).run Try.prog wz = .ok (.slice A8 s.p.length c8) wz := fun _ => by kernel_rfl
                      clear hpl HOK HN S11
                      go_wp2
                      go_meet
                      exact ⟨rfl, _, _, rfl, H0⟩
                    · have H0 : Hid (∀ (n : Nat) (L : List Int) (wn : World), Sep (fun _ => False) w wn [tally b0 n L, nums2 (.slice A8 s.p.length c8) (.slice B8 s.q.length d8) s.p s.q, nums (.slice A6 s.r.length c6) s.r, ob I.O (.pointer (some a)) s] → Rd wn (fun _ => True) (.slice B8 s.q.length d8) s.q) := fun _ _ _ h => (h.rd2 1 rfl).2
                      have hix : ∀ wz, (Instr.index 51 (.agg #[.slice A6 s.r.length c6, .slice A8 s.p.length c8, .slice B8 s.q.length d8]) (.int .i64 2)).run Try.prog wz = .ok (.slice B8 s.q.length d8) wz := fun _ => by kernel_rfl
                      clear hpl HOK HN S11
                      go_wp2
                      go_meet
                      exact ⟨rfl, _, _, rfl, H0⟩
                  case rest => as_aux_lemma =>
                    obtain ⟨rfl, A9, c9, rfl, HR⟩ := hcut
                    have hstep := pre_step s i hi3
                    have hnext : Hid (∀ (k : Nat) (x : Int), (rowL s i)[k]? = some x → x ∉ preL s i ++ (rowL s i).take k ∧ (0 ≤ x ∧ x < 20) ∧ (rowL s i).take (k + 1) = (rowL s i).take k ++ [x]) := by
                      show ∀ _ _, _
                      intro k x hx
                      obtain ⟨p1, p2, p3⟩ := next_new HOK.out i k hi3 hx
                      rw [HN.out] at p2
                      exact ⟨p1, p2, p3⟩
                    have HST := Lib.hid hstep
                    clear hstep HOK
                    generalize hRW : rowL s i = RW at *
                    generalize hPR : preL s i = PR at *
                    generalize hP2 : preL s (i + 1) = P2 at *
                    have HP2 := Lib.hid hP2
                    clear hRW hPR hP2
                    go_wp2
                    go_loopw [103] (fun u wn => ∃ k : Nat, k ≤ RW.length ∧ u = .int .i64 k ∧ Hid (Sep (fun _ => False) w wn [tally b0 (PR.length + k) (PR ++ RW.take k), nums2 (.slice A8 s.p.length c8) (.slice B8 s.q.length d8) s.p s.q, nums (.slice A6 s.r.length c6) s.r, ob I.O (.pointer (some a)) s])) (fun u _ => RW.length - (intOf u).toNat)
                    case atStart => exact ⟨0, Nat.zero_le _, rfl, by show Hid _; rw [List.take_zero, List.append_nil]; exact S11⟩
                    case round => as_aux_lemma =>
                      obtain ⟨k, hk, rfl, S12⟩ := hrel
                      clear S11
                      by_cases hlk : k < RW.length
                      · obtain ⟨g, og, hA, _, qk, hxk⟩ := rd_at (HR.out _ _ _ S12.out) hlk
                        subst hA
                        generalize RW.getD k 0 = x at qk hxk
                        obtain ⟨hnew, ⟨x0, x1⟩, htk⟩ := hnext.out k x hxk
                        obtain ⟨D, ho, ht⟩ := tally_is S12.out 0 rfl
                        have HO := Lib.hid ho
                        have HT := Lib.hid ht
                        have HNEW := Lib.hid hnew
                        have HTK := Lib.hid htk
                        clear ho ht hnew htk hxk hnext HR HST HP2 HN
                        go_wp2_with (first | (at_lookup; refine wp_tally_look rfl _ _ rfl rfl HO.out HT.out ⟨by omega, by omega⟩ rfl HNEW.out ?_) | (at_mapUpdate; refine wp_tally_put rfl _ _ _ rfl rfl HO.out HT.out (by unfold maxLen; omega) ⟨by omega, by omega⟩ rfl rfl ?_; intro w13 D13 ho13 ht13 hg13))
                        have S13 : Hid (Sep (fun _ => False) w w13 [tally b0 (PR.length + (k + 1)) (PR ++ RW.take (k + 1)), nums2 (.slice A8 s.p.length c8) (.slice B8 s.q.length d8) s.p s.q, nums (.slice A6 s.r.length c6) s.r, ob I.O (.pointer (some a)) s]) := by
                          show Sep _ _ _ _
                          rw [HTK.out, ← List.append_assoc]
                          exact tally_to S12.out 0 rfl ho13 ht13 hg13
                        clear S12 HO HT HNEW HTK ho13 ht13 hg13
                        go_wp2
                        go_roundw
                        case rel => exact ⟨k + 1, by omega, by go_num, S13⟩
                        case measure => simp [intOf]; omega
                      · have S13 : Hid (Sep (fun _ => False) w wr [tally b0 (preL s (i + 1)).length (preL s (i + 1)), nums2 (.slice A8 s.p.length c8) (.slice B8 s.q.length d8) s.p s.q, nums (.slice A6 s.r.length c6) s.r, ob I.O (.pointer (some a)) s]) := by
                          have h := S12.out
                          have hkl : k = RW.length := by omega
                          subst hkl
                          rw [List.take_length, ← List.length_append, ← HST.out] at h
                          show Sep _ _ _ _
                          rw [HP2.out]
                          exact h
                        clear S12 HR HST HP2 HN hnext
                        go_wp2
                        go_roundw
                        case rel => exact ⟨i + 1, by omega, by go_num, S13⟩
                        case measure => simp [intOf]; omega
                · have hi4 : i = 3 := by omega
                  subst hi4
                  have HIN : Hid (∀ x ∈ preL s 3, 0 ≤ x ∧ x < 20) := by
                    have h := all_in HOK.out
                    rw [HN.out] at h
                    exact h
                  clear HOK
                  generalize preL s 3 = PR at *
                  obtain ⟨D, ho, ht⟩ := tally_is S11.out 0 rfl
                  have HO := Lib.hid ho
                  have HT := Lib.hid ht
                  clear ho ht
                  go_wp2_with (at_range; refine wpList_range_own _ rfl _ 50 rfl 3 3 lawI Try.underlying50 (plainElem Try.prog 3) b0 PR.length D rfl HO.out ?_; intro w12 hrg12 hgr12 hsz12)
                  go_frame
                  have h12 := tally_range S11.out 0 rfl hrg12 hgr12
                  have S12 := Lib.hid h12
                  clear hrg12 hgr12 hsz12 h12 S11 HO
                  generalize hr0 : wr.heap.size = r0 at *
                  clear hr0
                  go_loopw [17] (fun _ wn => ∃ left cnt, Hid (Sep (fun _ => False) w wn [tallied b0 r0 PR.length D left cnt, nums2 (.slice A8 s.p.length c8) (.slice B8 s.q.length d8) s.p s.q, nums (.slice A6 s.r.length c6) s.r, ob I.O (.pointer (some a)) s])) (fun _ wn => wn.rangeLeft b0 r0)
                  case atStart => exact ⟨_, _, S12⟩
                  case round => as_aux_lemma =>
                    obtain ⟨left, cnt, S13⟩ := hrel
                    have HR := Lib.hid (tallied_is S13.out 0 rfl)
                    clear S12
                    go_wp2_with (at_next; refine wp_tally_next rfl _ rfl rfl HR.out HT.out ?_ ?_)
                    · have SF : Hid (∃ (s : St), s.n = 20 ∧ Sep (fun _ => False) w wr [ob I.O (.pointer (some a)) s]) := ⟨_, HN.out, S13.out.tail.tail.tail⟩
                      clear S13 HR HN HT HIN
                      go_wp2
                      go_roundw
                      case rel => exact ⟨j + 1, by omega, by go_num, SF⟩
                      case measure => simp [intOf]; omega
                    · intro x w14 left14 cnt14 hx hrg14 hlt14 hgr14 hen14
                      obtain ⟨x0, x1⟩ := HIN.out x hx
                      have S14 := Lib.hid (tally_next S13.out 0 rfl hrg14 hgr14)
                      have HLT : Hid (cnt14 < cnt) := hlt14
                      have HRL : Hid (wr.rangeLeft b0 r0 = cnt) := HR.out.left_eq
                      have e1 : decide (x < 0) = false := decide_eq_false (by omega)
                      have e2 : decide (20 ≤ x) = false := decide_eq_false (by omega)
                      have e3 : decide (x ≥ 20) = false := decide_eq_false (by omega)
                      clear hx hrg14 hlt14 hgr14 S13 HR HIN HN
                      go_wp2
                      go_roundw
                      case rel => exact ⟨_, _, _, _, _, _, _, _, _, _, _, _, _, _, _, _, _, _, ⟨left14, cnt14, S14⟩, rfl⟩
                      case measure => rw [(tallied_is S14.out 0 rfl).left_eq, HRL.out]; exact HLT.out
      · have HB := Lib.hid SL.out.old
        go_wp2
        go_ret
        exact ⟨rfl, HB.out⟩
end Go.Proofs.Ytmlicljoadcoeaa.RwI
