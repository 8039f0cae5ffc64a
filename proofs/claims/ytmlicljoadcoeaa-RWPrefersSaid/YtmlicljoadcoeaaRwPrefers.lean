/-
  The walk of the law RWPrefers over any package that meets 'Rw': it returns true and leaves old memory as it was. Conditions: none but 'Rw'.
-/
import Derived.Test.YtmlicljoadcoeaaRwDoes
namespace Go.Proofs.Ytmlicljoadcoeaa.RwI
open Go.ChangeShapes Go.WideShapes Go.ChangeAt Go.RowKit Mem MutP RwP Hand RefMut RefRw Acts

theorem give_keeps {m : St} (h : m.q ≠ []) : (giveS m).r = m.r := by
  unfold giveS
  split
  · rfl
  · split
    · next c => exact (h c.2).elim
    · rfl
theorem give_writer (m : St) : (giveS m).w = m.w ∨ (m.q ≠ [] ∧ (giveS m).w = m.q.headD (-1)) := by
  unfold giveS
  split
  · next c => exact .inr ⟨c.2.2, rfl⟩
  · split <;> exact .inl rfl
theorem give_told (m : St) : ∀ x ∈ giveV m, (giveS m).w = x ∨ x ∈ (giveS m).r := by
  unfold giveS giveV
  split
  · intro x hx
    rw [List.mem_singleton] at hx
    exact .inl hx.symm
  · split
    · intro x hx
      exact .inr (List.mem_append.2 (.inr hx))
    · intro x hx
      cases hx
/-- Who waits to write, behind the act, but for whom the act itself put there. -/
def leftL (s : St) (d t : Int) : List Int := if d = 3 ∧ actB s d t = true then withoutL s.q t else s.q
/-- Nobody begins to read while one waits to write; who waits first to write writes first; who asks gets it at once where it can be given; who is told holds it. -/
theorem prefers_plain {s : St} (hok : RwP.Ok s) (d t : Int) :
    (leftL s d t ≠ [] → ∀ x ∈ (actS s d t).r, x ∈ s.r) ∧
    ((actS s d t).w < 0 ∨ (actS s d t).w = s.w ∨ leftL s d t = [] ∨ (leftL s d t).headD (-1) = (actS s d t).w) ∧
    (d = 0 → actE s d t = 0 → actB s d t = (decide (s.w < 0) && decide (s.q = []))) ∧
    (d = 1 → actE s d t = 0 → actB s d t = (decide (s.w < 0) && decide (s.q = []) && decide (s.r = []))) ∧
    (∀ x ∈ actV s d t, (actS s d t).w = x ∨ x ∈ (actS s d t).r) := by
  rcases (by omega : d = 0 ∨ d = 1 ∨ d = 2 ∨ d = 3 ∨ (d ≠ 0 ∧ d ≠ 1 ∧ d ≠ 2 ∧ d ≠ 3)) with rfl | rfl | rfl | rfl | ⟨d0, d1, d2, d3⟩
  · have hL : leftL s 0 t = s.q := if_neg (by omega)
    have hS : actS s 0 t = askS s t false := rfl
    have hV : actV s 0 t = [] := rfl
    have hE : actE s 0 t = askE s t := rfl
    have hB : actB s 0 t = askB s t false := rfl
    rw [hL, hS, hV, hE, hB]
    refine ⟨?_, ?_, ?_, fun h => by omega, fun x hx => by cases hx⟩
    · intro hq x hx
      unfold askS at hx
      split at hx
      · rwa [give_keeps (m := putS s t false) hq] at hx
      · exact hx
    · unfold askS
      split
      · rcases give_writer (putS s t false) with h | ⟨_, h⟩
        · exact .inr (.inl h)
        · exact .inr (.inr (.inr h.symm))
      · exact .inr (.inl rfl)
    · intro _ h0
      obtain ⟨_, _, _, hw, hr⟩ := ask0 h0
      unfold askB
      rw [if_pos h0]
      unfold giveS holdsB inL
      have c1 : ¬ ((putS s t false).w < 0 ∧ (putS s t false).r = [] ∧ (putS s t false).q ≠ []) := fun h => h.2.2 (hok.free h.1 h.2.1)
      rw [if_neg c1]
      by_cases c2 : s.w < 0 ∧ s.q = []
      · rw [if_pos (show (putS s t false).w < 0 ∧ (putS s t false).q = [] from c2)]
        have : t ∈ s.r ++ (s.p ++ [t]) := by simp
        show (decide (s.w = t) || decide (t ∈ s.r ++ (s.p ++ [t]))) = _
        rw [decide_eq_true this, decide_eq_true c2.1, decide_eq_true c2.2]
        simp
      · rw [if_neg (show ¬ ((putS s t false).w < 0 ∧ (putS s t false).q = []) from c2)]
        show (decide (s.w = t) || decide (t ∈ s.r)) = _
        rw [decide_eq_false hw, decide_eq_false hr]
        by_cases c3 : s.w < 0
        · rw [decide_eq_false fun h => c2 ⟨c3, h⟩]; simp
        · rw [decide_eq_false c3]; rfl
  · have hL : leftL s 1 t = s.q := if_neg (by omega)
    have hS : actS s 1 t = askS s t true := rfl
    have hV : actV s 1 t = [] := rfl
    have hE : actE s 1 t = askE s t := rfl
    have hB : actB s 1 t = askB s t true := rfl
    rw [hL, hS, hV, hE, hB]
    refine ⟨?_, ?_, fun h => by omega, ?_, fun x hx => by cases hx⟩
    · intro hq x hx
      unfold askS at hx
      split at hx
      · rwa [give_keeps (m := putS s t true) (by show s.q ++ [t] ≠ []; simp)] at hx
      · exact hx
    · unfold askS
      split
      · rcases give_writer (putS s t true) with h | ⟨_, h⟩
        · exact .inr (.inl h)
        · by_cases hq : s.q = []
          · exact .inr (.inr (.inl hq))
          · refine .inr (.inr (.inr ?_))
            rw [h]
            show s.q.headD (-1) = (s.q ++ [t]).headD (-1)
            cases hs : s.q with
            | nil => exact (hq hs).elim
            | cons x q => rfl
      · exact .inr (.inl rfl)
    · intro _ h0
      obtain ⟨_, _, _, hw, hr⟩ := ask0 h0
      unfold askB
      rw [if_pos h0]
      unfold giveS holdsB inL
      by_cases c1 : s.w < 0 ∧ s.r = []
      · have hq := hok.free c1.1 c1.2
        rw [if_pos (show (putS s t true).w < 0 ∧ (putS s t true).r = [] ∧ (putS s t true).q ≠ [] from ⟨c1.1, c1.2, by show s.q ++ [t] ≠ []; simp⟩)]
        show (decide ((s.q ++ [t]).headD (-1) = t) || decide (t ∈ s.r)) = _
        rw [hq, c1.2, decide_eq_true c1.1]
        simp
      · rw [if_neg (show ¬ ((putS s t true).w < 0 ∧ (putS s t true).r = [] ∧ (putS s t true).q ≠ []) from fun h => c1 ⟨h.1, h.2.1⟩)]
        have c2 : ¬ ((putS s t true).w < 0 ∧ (putS s t true).q = []) := fun h => by
          have : s.q ++ [t] = [] := h.2
          simp at this
        rw [if_neg c2]
        show (decide (s.w = t) || decide (t ∈ s.r)) = _
        rw [decide_eq_false hw, decide_eq_false hr]
        by_cases c3 : s.w < 0
        · rw [decide_eq_false (p := s.r = []) fun h => c1 ⟨c3, h⟩]; simp
        · rw [decide_eq_false c3]; simp
  · have hL : leftL s 2 t = s.q := if_neg (by omega)
    have hS : actS s 2 t = unlS s t := rfl
    have hV : actV s 2 t = relV s t := rfl
    rw [hL, hS, hV]
    refine ⟨?_, ?_, fun h => by omega, fun h => by omega, ?_⟩
    · intro hq x hx
      unfold unlS at hx
      split at hx
      · rw [give_keeps (m := outS s t) hq] at hx
        exact (mem_without.1 hx).1
      · exact hx
    · unfold unlS
      split
      · rcases give_writer (outS s t) with h | ⟨_, h⟩
        · by_cases hw : s.w = t
          · refine .inl ?_
            rw [h]
            show (if s.w = t then (-1 : Int) else s.w) < 0
            rw [if_pos hw]; omega
          · refine .inr (.inl ?_)
            rw [h]
            exact if_neg hw
        · exact .inr (.inr (.inr h.symm))
      · exact .inr (.inl rfl)
    · unfold unlS relV
      split
      · exact give_told _
      · intro x hx; cases hx
  · have hS : actS s 3 t = leaveS s t := rfl
    have hV : actV s 3 t = leaveV s t := rfl
    have hB : actB s 3 t = waitsR s t := rfl
    have hL : leftL s 3 t = if waitsR s t = true then withoutL s.q t else s.q := by
      unfold leftL
      rw [hB]
      simp
    rw [hL, hS, hV]
    refine ⟨?_, ?_, fun h => by omega, fun h => by omega, ?_⟩
    · unfold leaveS
      split
      · intro hq x hx
        rwa [give_keeps (m := goS s t) hq] at hx
      · intro _ x hx; exact hx
    · unfold leaveS
      split
      · rcases give_writer (goS s t) with h | ⟨_, h⟩
        · exact .inr (.inl h)
        · exact .inr (.inr (.inr h.symm))
      · exact .inr (.inl rfl)
    · unfold leaveS leaveV
      split
      · exact give_told _
      · intro x hx; cases hx
  · have hS : actS s d t = s := by unfold actS; rw [if_neg d0, if_neg d1, if_neg d2, if_neg d3]
    have hV : actV s d t = [] := by unfold actV; rw [if_neg d2, if_neg d3]
    rw [hS, hV]
    exact ⟨fun _ x hx => hx, .inr (.inl rfl), fun h => (d0 h).elim, fun h => (d1 h).elim, fun x hx => by cases hx⟩
/-- Of two lists that were told, the second. -/
theorem Sep_second {B : Nat → Prop} {w wk : World} {Rs : List Res} {v v' : Value} {xs ys : List Int} (h : Sep B w wk (nums2 v v' xs ys :: Rs)) : Sep B w wk (nums v' ys :: Rs) := by
  obtain ⟨ho, F1, F2, ⟨h1, h1', hl⟩, h2, s1, s2, d⟩ := h
  exact ⟨ho, F1, F2, ⟨h1', hl⟩, h2, s1, s2, d⟩

set_option maxHeartbeats 8000000 in
set_option maxRecDepth 100000 in
theorem prefers_walk (I : Rw) (A : Option Addr) (len cap : Nat) (zs : List Ac) (w : World) (hlen : len ≤ 9223372036854775807) (hz : ZsIn w A len cap zs) :
    Calls Try.prog 5 #[.slice A len cap] w fun e w' => e = .returned (.bool true) ∧ Below w.heap.size w w' := by
  have HZ := Lib.hid hz
  clear hz
  by_cases h60 : 120 < len
  · go_enter Try.func5, Try.ntmps5
    go_wp2_with fail
    refine (awake_any I _).mono ?_
    rintro e w1 ⟨rfl, hb1⟩
    have HB := Lib.hid hb1
    clear hb1
    go_wp2
    go_ret
    exact ⟨rfl, HB.out⟩
  · obtain ⟨hzl, hzr, hzo⟩ := HZ.out (by omega)
    subst hzl
    have HZR := Lib.hid hzr
    have HZO := Lib.hid hzo
    clear hzr hzo HZ
    go_enter Try.func5, Try.ntmps5
    go_wp2_with fail
    refine (awake_any I _).mono ?_
    rintro e w1 ⟨rfl, hb1⟩
    have S1 := Lib.hid ((Sep.nil (fun _ => False) w).next hb1)
    clear hb1
    go_wp2_with fail
    refine (m_new S1.out I 20 (by omega) (by omega)).mono ?_
    rintro e w2 ⟨a, rfl, h2'⟩
    have S2 := Lib.hid h2'
    clear h2' S1
    go_wp2
    go_loopw [34] (fun u wr => ∃ j : Nat, j ≤ zs.length ∧ u = .int .i64 j ∧ Hid (∃ (s : St), Sep (fun _ => False) w wr [ob I.O (.pointer (some a)) s])) (fun u _ => zs.length - (intOf u).toNat)
    case atStart => exact ⟨0, Nat.zero_le _, rfl, _, S2.out⟩
    case round =>
      obtain ⟨j, hj, rfl, HS⟩ := hrel
      obtain ⟨s, hS⟩ := HS.out
      have SL := Lib.hid hS
      clear HS hS S2
      by_cases hlt : j < zs.length
      · have hx : zs[j]? = some zs[j] := List.getElem?_eq_getElem hlt
        generalize zs[j] = z at hx
        obtain ⟨hd64, ht64⟩ := HZO.out z (List.mem_of_getElem? hx)
        obtain ⟨bb, off, rfl, hbb, c0, c1⟩ := ac_cells HZR.out hx
        have hb := SL.out.old
        have q0 := (hb.cell (p := ⟨bb, off + j * 2, none⟩) hbb).trans c0
        have q1 := (hb.cell (p := ⟨bb, off + j * 2 + 1, none⟩) hbb).trans c1
        obtain ⟨d, t⟩ := z
        simp only at q0 q1 ht64
        have S4 := Lib.hid (SL.out.new (.cells #[.int .i64 d, .int .i64 t] 32))
        have HT64 := Lib.hid ht64
        have hok := m_ok SL.out 0 rfl
        have HP := Lib.hid (prefers_plain hok d t)
        clear hx c0 c1 hb SL hd64 ht64 hok
        go_wp2_with fail
        refine (m_readers S4.out 1 rfl).mono ?_
        rintro e w5 ⟨A5, c5, rfl, h5, _⟩
        have S5 := Lib.hid h5
        clear h5 S4 q0 q1
        go_wp2_with fail
        refine (m_writer S5.out 2 rfl).mono ?_
        rintro e w6 ⟨rfl, h6, _⟩
        have S6 := Lib.hid h6
        clear h6 S5
        go_wp2_with fail
        refine (m_waiting S6.out 2 rfl).mono ?_
        rintro e w7 ⟨A7, c7, B7, d7, rfl, h7, _⟩
        have S7 := Lib.hid h7
        have a0 : w7.cell? ⟨wr.heap.size, 0, none⟩ = some (.int .i64 d) := (cell_block (S7.out.blk_at 2 rfl) 0).trans rfl
        have a1 : w7.cell? ⟨wr.heap.size, 1, none⟩ = some (.int .i64 t) := (cell_block (S7.out.blk_at 2 rfl) 1).trans rfl
        clear h7 S6
        obtain ⟨E, hE⟩ : ∃ E, actE s d t = E := ⟨_, rfl⟩
        obtain ⟨V, hV⟩ : ∃ V, actV s d t = V := ⟨_, rfl⟩
        obtain ⟨Bo, hBo⟩ : ∃ Bo, actB s d t = Bo := ⟨_, rfl⟩
        obtain ⟨s2, hs2⟩ : ∃ s2, actS s d t = s2 := ⟨_, rfl⟩
        have hLl : leftL s d t = if d = 3 ∧ Bo = true then withoutL s.q t else s.q := by unfold leftL; rw [hBo]
        obtain ⟨L, hL⟩ : ∃ L, leftL s d t = L := ⟨_, rfl⟩
        rw [hL] at hLl
        have KL := Lib.hid hLl
        have KE := Lib.hid hE
        have KV := Lib.hid hV
        have KB := Lib.hid hBo
        have KS := Lib.hid hs2
        rw [hE, hV, hBo, hs2, hL] at HP
        clear hE hV hBo hs2 hL hLl
        go_wp2_with fail
        refine (m_do S7.out 3 rfl d t HT64.out).mono ?_
        rintro e w8 ⟨A8, c8, rfl, h8⟩
        rw [KE.out, KB.out]
        rw [KV.out] at h8 ⊢
        rw [KS.out] at h8
        have S8 : Hid (Sep (fun _ => False) w w8 [nums (.slice A8 V.length c8) V, nums2 (.slice A7 s.p.length c7) (.slice B7 s.q.length d7) s.p s.q, nums (.slice A5 s.r.length c5) s.r, blk wr.heap.size (.cells #[.int .i64 d, .int .i64 t] 32), ob I.O (.pointer (some a)) s2]) := h8
        have a0 : w8.cell? ⟨wr.heap.size, 0, none⟩ = some (.int .i64 d) := (cell_block (S8.out.blk_at 3 rfl) 0).trans rfl
        have a1 : w8.cell? ⟨wr.heap.size, 1, none⟩ = some (.int .i64 t) := (cell_block (S8.out.blk_at 3 rfl) 1).trans rfl
        clear h8 S7 KV KE KB KS
        go_upto_region 15 with (fail)
        go_cut [60] (fun s60 wx => s60 = .bool (decide (d = 3) && Bo) ∧ wx = w8)
        case first => as_aux_lemma =>
          by_cases h3 : d = 3
          · subst h3
            clear KL HP
            go_wp2
            go_meet
            exact ⟨by simp, rfl⟩
          · have e3 : (d == 3) = false := by simpa using h3
            clear KL HP
            go_wp2
            go_meet
            exact ⟨by rw [decide_eq_false h3]; rfl, rfl⟩
        case rest => as_aux_lemma =>
          obtain ⟨rfl, rfl⟩ := hcut
          go_upto_if 60 with (fail)
          go_cut [14] (fun s14 wx => ∃ A9 c9, s14 = .slice A9 L.length c9 ∧ Hid (Sep (fun _ => False) w wx [nums (.slice A9 L.length c9) L, nums (.slice A8 V.length c8) V, nums (.slice A5 s.r.length c5) s.r, blk wr.heap.size (.cells #[.int .i64 d, .int .i64 t] 32), ob I.O (.pointer (some a)) s2]))
          case first => as_aux_lemma =>
            by_cases h3 : d = 3 ∧ Bo = true
            · obtain ⟨rfl, rfl⟩ := h3
              have KL2 := Lib.hid (KL.out.trans (if_pos ⟨rfl, rfl⟩))
              clear KL HP
              go_wp2_with fail
              refine (without_s S8.out (S8.out.rd2 1 rfl).2 t).mono ?_
              rintro e w9 ⟨A9, c9, rfl, h9, _, _⟩
              rw [← KL2.out] at h9 ⊢
              have S9 := Lib.hid (h9.sub (.cons_cons _ (.cons_cons _ (.cons _ (List.Sublist.refl _)))))
              clear h9 S8
              go_wp2
              go_meet
              exact ⟨_, _, rfl, S9⟩
            · have e3 : (decide (d = 3) && Bo) = false := by
                cases Bo with
                | false => simp
                | true => simpa using h3
              have KL2 : L = s.q := KL.out.trans (if_neg h3)
              have S9 := Lib.hid (Sep_second (S8.out.sub (.cons _ (List.Sublist.refl _))))
              have S10 : Hid (Sep (fun _ => False) w wc [nums (.slice B7 L.length d7) L, nums (.slice A8 V.length c8) V, nums (.slice A5 s.r.length c5) s.r, blk wr.heap.size (.cells #[.int .i64 d, .int .i64 t] 32), ob I.O (.pointer (some a)) s2]) := by
                show Sep _ _ _ _
                rw [KL2]
                exact (Sep_second (S8.out.perm (.swap ..)))
              clear KL HP S8 S9
              go_wp2
              go_meet
              exact ⟨_, _, by rw [KL2], S10⟩
          case rest => as_aux_lemma =>
            obtain ⟨A9, c9, rfl, S9⟩ := hcut
            clear S8 KL
            go_wp2_with fail
            refine (m_readers S9.out 4 rfl).mono ?_
            rintro e w10 ⟨A10, c10, rfl, h10, _⟩
            have S10 := Lib.hid h10
            clear h10 S9
            have hlr : s2.r.length ≤ 1000 := (m_ok S10.out 5 rfl).toOk0.lens.1
            have hz : L = [] ∨ (0 < L.length ∧ ∀ x ∈ s2.r, inL s.r x = true) := by
              by_cases h : L = []
              · exact .inl h
              · exact .inr ⟨List.length_pos_iff.2 h, fun x hx => decide_eq_true (HP.out.1 h x hx)⟩
            have HZ := Lib.hid hz
            clear hz
            go_wp2
            go_loopw [69] (fun u wn => ∃ k : Nat, k ≤ s2.r.length ∧ u = .int .i64 k ∧ w10 = wn) (fun u _ => s2.r.length - (intOf u).toNat)
            case atStart => exact ⟨0, Nat.zero_le _, rfl, rfl⟩
            case round => as_aux_lemma =>
              obtain ⟨k, hk, rfl, rfl⟩ := hrel
              by_cases hlk : k < s2.r.length
              · obtain ⟨g, og, hA, _, qk, hxk⟩ := rd_at (S10.out.rd 0 rfl) hlk
                subst hA
                generalize s2.r.getD k 0 = x at qk hxk
                have hx : x ∈ s2.r := List.mem_of_getElem? hxk
                have HX := Lib.hid hx
                have HIN := Lib.hid (in_any (S10.out.rd 3 rfl) x)
                clear hx hxk
                go_upto_region 21 with (fail)
                go_cut [81] (fun s81 wx => s81 = .bool false ∧ w10 = wx)
                case first => as_aux_lemma =>
                  rcases HZ.out with rfl | ⟨h0, hall⟩
                  · clear HZ HP
                    simp only [List.length_nil]
                    go_wp2
                    go_meet
                    exact ⟨rfl, rfl⟩
                  · have e0 : decide (0 < (L.length : Int)) = true := decide_eq_true (by omega)
                    have hin := Lib.hid (hall x HX.out)
                    clear hall HP HZ
                    go_wp2_with fail
                    refine HIN.out.mono ?_
                    rintro e w11 ⟨rfl, rfl⟩
                    rw [hin.out]
                    go_wp2
                    go_meet
                    exact ⟨rfl, rfl⟩
                case rest => as_aux_lemma =>
                  obtain ⟨rfl, rfl⟩ := hcut
                  go_wp2
                  go_roundw
                  case rel => exact ⟨k + 1, by omega, by go_num, trivial⟩
                  case measure => simp [intOf]; omega
              · clear HZ
                have hz : s2.w < 0 ∨ (0 ≤ s2.w ∧ s2.w = s.w) ∨ (0 ≤ s2.w ∧ s2.w ≠ s.w ∧ L.length = 0) ∨ (0 ≤ s2.w ∧ s2.w ≠ s.w ∧ 0 < L.length ∧ L.getD 0 0 = s2.w) := by
                  by_cases h1 : s2.w < 0
                  · exact .inl h1
                  · by_cases h2 : s2.w = s.w
                    · exact .inr (.inl ⟨by omega, h2⟩)
                    · cases L with
                      | nil => exact .inr (.inr (.inl ⟨by omega, h2, rfl⟩))
                      | cons x L =>
                        rcases HP.out.2.1 with h | h | h | h
                        · exact (h1 h).elim
                        · exact (h2 h).elim
                        · cases h
                        · exact .inr (.inr (.inr ⟨by omega, h2, by simp, h⟩))
                have HZ := Lib.hid hz
                clear hz
                go_wp2_with fail
                refine (m_writer S10.out 5 rfl).mono ?_
                rintro e w11 ⟨rfl, h11, _⟩
                have S11 := Lib.hid h11
                clear h11 S10
                go_upto_region 25 with (fail)
                go_cut [103] (fun s103 wx => s103 = .bool false ∧ w11 = wx)
                case first => as_aux_lemma =>
                  rcases HZ.out with h1 | ⟨h1, h2⟩ | ⟨h1, h2, h3⟩ | ⟨h1, h2, h3, h4⟩
                  · clear HP HZ
                    go_wp2
                    go_meet
                    exact ⟨rfl, rfl⟩
                  · have e2 : (s2.w != s.w) = false := by simpa using h2
                    clear HP HZ h2
                    go_wp2
                    go_meet
                    exact ⟨rfl, rfl⟩
                  · have e2 : (s2.w != s.w) = true := by simpa using h2
                    have e3 : decide (0 < (L.length : Int)) = false := decide_eq_false (by omega)
                    clear HP HZ h2
                    go_wp2
                    go_meet
                    exact ⟨rfl, rfl⟩
                  · have e2 : (s2.w != s.w) = true := by simpa using h2
                    have e3 : decide (0 < (L.length : Int)) = true := decide_eq_true (by omega)
                    obtain ⟨g, og, hA, _, qk, _⟩ := rd_at (S11.out.rd 1 rfl) h3
                    subst hA
                    rw [h4] at qk
                    have qk : w11.cell? ⟨g, og, none⟩ = some (.int .i64 s2.w) := qk
                    clear HP HZ h2 h4
                    go_wp2
                    go_meet
                    exact ⟨rfl, rfl⟩
                case rest => as_aux_lemma =>
                  obtain ⟨rfl, rfl⟩ := hcut
                  clear HZ
                  have a0 : w11.cell? ⟨wr.heap.size, 0, none⟩ = some (.int .i64 d) := (cell_block (S11.out.blk_at 4 rfl) 0).trans rfl
                  have hz : (d = 0 ∧ E = 0 ∧ s.w < 0 ∧ s.q.length = 0 ∧ Bo = true) ∨ (d = 0 ∧ E = 0 ∧ s.w < 0 ∧ 0 < s.q.length ∧ Bo = false) ∨ (d = 0 ∧ E = 0 ∧ 0 ≤ s.w ∧ Bo = false) ∨ (d = 0 ∧ E ≠ 0) ∨ (d = 1 ∧ E = 0 ∧ s.w < 0 ∧ s.q.length = 0 ∧ s.r.length = 0 ∧ Bo = true) ∨ (d = 1 ∧ E = 0 ∧ s.w < 0 ∧ s.q.length = 0 ∧ 0 < s.r.length ∧ Bo = false) ∨ (d = 1 ∧ E = 0 ∧ s.w < 0 ∧ 0 < s.q.length ∧ Bo = false) ∨ (d = 1 ∧ E = 0 ∧ 0 ≤ s.w ∧ Bo = false) ∨ (d = 1 ∧ E ≠ 0) ∨ (d ≠ 0 ∧ d ≠ 1) := by
                    obtain ⟨_, _, p3, p4, _⟩ := HP.out
                    by_cases h0 : d = 0
                    · by_cases hE : E = 0
                      · have p := p3 h0 hE
                        by_cases hw : s.w < 0
                        · by_cases hq : s.q = []
                          · exact .inl ⟨h0, hE, hw, by rw [hq]; rfl, by rw [p, decide_eq_true hw, decide_eq_true hq]; rfl⟩
                          · exact .inr (.inl ⟨h0, hE, hw, List.length_pos_iff.2 hq, by rw [p, decide_eq_true hw, decide_eq_false hq]; rfl⟩)
                        · exact .inr (.inr (.inl ⟨h0, hE, by omega, by rw [p, decide_eq_false hw]; rfl⟩))
                      · exact .inr (.inr (.inr (.inl ⟨h0, hE⟩)))
                    · by_cases h1 : d = 1
                      · by_cases hE : E = 0
                        · have p := p4 h1 hE
                          by_cases hw : s.w < 0
                          · by_cases hq : s.q = []
                            · by_cases hr : s.r = []
                              · exact .inr (.inr (.inr (.inr (.inl ⟨h1, hE, hw, by rw [hq]; rfl, by rw [hr]; rfl, by rw [p, decide_eq_true hw, decide_eq_true hq, decide_eq_true hr]; rfl⟩))))
                              · exact .inr (.inr (.inr (.inr (.inr (.inl ⟨h1, hE, hw, by rw [hq]; rfl, List.length_pos_iff.2 hr, by rw [p, decide_eq_true hw, decide_eq_true hq, decide_eq_false hr]; rfl⟩)))))
                            · exact .inr (.inr (.inr (.inr (.inr (.inr (.inl ⟨h1, hE, hw, List.length_pos_iff.2 hq, by rw [p, decide_eq_true hw, decide_eq_false hq]; rfl⟩))))))
                          · exact .inr (.inr (.inr (.inr (.inr (.inr (.inr (.inl ⟨h1, hE, by omega, by rw [p, decide_eq_false hw]; rfl⟩)))))))
                        · exact .inr (.inr (.inr (.inr (.inr (.inr (.inr (.inr (.inl ⟨h1, hE⟩))))))))
                      · exact .inr (.inr (.inr (.inr (.inr (.inr (.inr (.inr (.inr ⟨h0, h1⟩))))))))
                  have HZ := Lib.hid hz
                  clear hz
                  go_upto_region 27 with (fail)
                  go_cut [146] (fun s146 wx => s146 = .bool false ∧ w11 = wx)
                  case first => as_aux_lemma =>
                    have HT := HP.out.2.2.2.2
                    clear HP HT
                    rcases HZ.out with ⟨rfl, rfl, hw, hq, rfl⟩ | ⟨rfl, rfl, hw, hq, rfl⟩ | ⟨rfl, rfl, hw, rfl⟩ | ⟨rfl, hE⟩ | ⟨rfl, rfl, hw, hq, hr, rfl⟩ | ⟨rfl, rfl, hw, hq, hr, rfl⟩ | ⟨rfl, rfl, hw, hq, rfl⟩ | ⟨rfl, rfl, hw, rfl⟩ | ⟨rfl, hE⟩ | ⟨h0, h1⟩
                    all_goals
                      clear HZ
                      first | have eE : (E == 0) = false := by simpa using hE | skip
                      first | have e0 : (d == 0) = false := by simpa using h0 | skip
                      first | have e1 : (d == 1) = false := by simpa using h1 | skip
                      first | have ew : decide (s.w < 0) = true := decide_eq_true hw | have ew : decide (s.w < 0) = false := decide_eq_false (by omega) | skip
                      first | have eq : (((s.q.length : Nat) : Int) == 0) = true := by rw [beq_iff_eq]; omega | have eq : (((s.q.length : Nat) : Int) == 0) = false := by rw [beq_eq_false_iff_ne]; omega | skip
                      first | have er : (((s.r.length : Nat) : Int) == 0) = true := by rw [beq_iff_eq]; omega | have er : (((s.r.length : Nat) : Int) == 0) = false := by rw [beq_eq_false_iff_ne]; omega | skip
                      first | clear hr | skip
                      first | clear hq | skip
                      first | clear hw | skip
                      go_wp2
                      go_meet
                      exact ⟨rfl, rfl⟩
                  case rest => as_aux_lemma =>
                    obtain ⟨rfl, rfl⟩ := hcut
                    have HV := Lib.hid HP.out.2.2.2.2
                    have hlv : V.length ≤ 1000000 := by obtain ⟨_, _, _, hm, _⟩ := S11.out.rd 2 rfl; exact hm
                    have S12 : Hid (Sep (fun _ => False) w w11 [nums (.slice A10 s2.r.length c10) s2.r, nums (.slice A8 V.length c8) V, ob I.O (.pointer (some a)) s2]) := S11.out.sub (.cons_cons _ (.cons _ (.cons_cons _ (.cons _ (.cons _ (.cons_cons _ .slnil))))))
                    clear HZ HP a0 a1 S11
                    go_wp2
                    go_loopw [149] (fun u wn => ∃ k : Nat, k ≤ V.length ∧ u = .int .i64 k ∧ Hid (Sep (fun _ => False) w wn [nums (.slice A10 s2.r.length c10) s2.r, nums (.slice A8 V.length c8) V, ob I.O (.pointer (some a)) s2])) (fun u _ => V.length - (intOf u).toNat)
                    case atStart => exact ⟨0, Nat.zero_le _, rfl, S12⟩
                    case round => as_aux_lemma =>
                      obtain ⟨q, hq, rfl, S13⟩ := hrel
                      clear S12
                      by_cases hlq : q < V.length
                      · obtain ⟨g, og, hA, _, qk, hxk⟩ := rd_at (S13.out.rd 1 rfl) hlq
                        subst hA
                        generalize V.getD q 0 = x at qk hxk
                        have hx : s2.w = x ∨ inL s2.r x = true := (HV.out x (List.mem_of_getElem? hxk)).imp id fun h => decide_eq_true h
                        have HX := Lib.hid hx
                        clear hx hxk HV
                        go_upto_region 32 with (fail)
                        go_cut [162] (fun s162 wx => s162 = .bool false ∧ Hid (Sep (fun _ => False) w wx [nums (.slice A10 s2.r.length c10) s2.r, nums (.slice (some ⟨g, og, none⟩) V.length c8) V, ob I.O (.pointer (some a)) s2]))
                        case first => as_aux_lemma =>
                          go_wp2_with fail
                          refine (m_writer S13.out 2 rfl).mono ?_
                          rintro e w13 ⟨rfl, h13, _⟩
                          have S14 := Lib.hid h13
                          clear h13 S13 qk
                          by_cases hw : x = s2.w
                          · have e1 : (x != s2.w) = false := by simpa using hw
                            clear hw HX
                            go_wp2
                            go_meet
                            exact ⟨rfl, S14⟩
                          · have e1 : (x != s2.w) = true := by simpa using hw
                            have HI := Lib.hid (HX.out.resolve_left fun h => hw h.symm)
                            have HIN := Lib.hid (in_any (S14.out.rd 0 rfl) x)
                            clear hw HX
                            go_wp2_with fail
                            refine HIN.out.mono ?_
                            rintro e w14 ⟨rfl, rfl⟩
                            rw [HI.out]
                            go_wp2
                            go_meet
                            exact ⟨rfl, S14⟩
                        case rest => as_aux_lemma =>
                          obtain ⟨rfl, S14⟩ := hcut
                          clear S13 qk
                          go_wp2
                          go_roundw
                          case rel => exact ⟨q + 1, by omega, by go_num, S14⟩
                          case measure => simp [intOf]; omega
                      · have SF : Hid (∃ (s : St), Sep (fun _ => False) w wr [ob I.O (.pointer (some a)) s]) := ⟨_, S13.out.tail.tail⟩
                        clear S13 HV
                        go_wp2
                        go_roundw
                        case rel => exact ⟨j + 1, by omega, by go_num, SF⟩
                        case measure => simp [intOf]; omega
      · have HB := Lib.hid SL.out.old
        go_wp2
        go_ret
        exact ⟨rfl, HB.out⟩
end Go.Proofs.Ytmlicljoadcoeaa.RwI
