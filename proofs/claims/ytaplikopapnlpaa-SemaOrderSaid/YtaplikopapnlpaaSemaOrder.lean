/-
  The walk of the law SemaOrder over any package that meets 'Sg'. Condition: what the arguments read as.
-/
import Derived.Test.YtaplikopapnlpaaSemaM
import Derived.Test.YtaplikopapnlpaaActs3
import Derived.Test.YtaplikopapnlpaaSlide
import Derived.Deep.DeepCutAuto
import Derived.Deep.CutBlock
namespace Go.Proofs.Ytaplikopapnlpaa.Hand
open Go.ChangeShapes Go.WideShapes Go.ChangeAt Go.RowKit Mem
def offA (A : Option Addr) (m c : Nat) : Option Addr := if c = m then A else A.map (·.add (m * 1))
/-- l[:m] and l[m:]. -/
theorem run_take {P : Program} {t : TypeId} (ht : P.underlying t = some (.slice (P.elem t))) (hz : ∀ w, (sizeOf (P.elem t)).run P w = .ok 1 w) (A : Option Addr) (n c m : Nat) (hc : m ≤ c) :
    (∀ w, (Instr.sliceAt t (.slice A n c) none (some (.int .i64 m)) none).run P w = .ok (.slice (offA A 0 c) m c) w) ∧ ∀ w, (Instr.slice t (.slice A n c) none (some (.int .i64 m)) none).run P w = .ok (.slice (offA A 0 c) m c) w := by
  refine ⟨fun w => ?_, fun w => ?_⟩
  · rw [run_sliceAt_slice (h := ht), run_slice_h (ht := ht) (h0 := by omega) (h2 := by omega), hz]
    rfl
  · rw [run_slice_h (ht := ht) (h0 := by omega) (h2 := by omega), hz]
    rfl
theorem run_drop {P : Program} {t : TypeId} (ht : P.underlying t = some (.slice (P.elem t))) (hz : ∀ w, (sizeOf (P.elem t)).run P w = .ok 1 w) (A : Option Addr) (n c m : Nat) (hc : m ≤ n) :
    (∀ w, (Instr.sliceAt t (.slice A n c) (some (.int .i64 m)) none none).run P w = .ok (.slice (offA A m c) (n - m) (c - m)) w) ∧ ∀ w, (Instr.slice t (.slice A n c) (some (.int .i64 m)) none none).run P w = .ok (.slice (offA A m c) (n - m) (c - m)) w := by
  refine ⟨fun w => ?_, fun w => ?_⟩
  · rw [run_sliceAt_slice (h := ht), run_slice_l (ht := ht) (h0 := by omega) (h1 := by omega), hz]
    rfl
  · rw [run_slice_l (ht := ht) (h0 := by omega) (h1 := by omega), hz]
    rfl
theorem off_zero (A : Option Addr) (c : Nat) (h : ∀ a, A = some a → a.spot = none) : offA A 0 c = A := by
  unfold offA
  split
  · rfl
  · cases A with
    | none => rfl
    | some a =>
      obtain ⟨b, o, s⟩ := a
      have := h _ rfl
      simp only at this
      subst this
      rfl
section
variable {B : Nat → Prop} {w wk : World} {Rs : List Res} {e : TypeId} {xs : List Int} {A : Option Addr} {n c : Nat}
/-- Its first ones, as they read; and what is left of it. -/
theorem Sep.scut (h : Sep B w wk Rs) (i : Nat) (hi : Rs[i]? = some (Hand.slide e (.slice A n c) xs)) (m : Nat) (hm : m ≤ xs.length) (hl : xs.length ≤ 1000000) :
    n = xs.length ∧ n ≤ c ∧ Rd wk (fun _ => True) (.slice (offA A 0 c) m c) (xs.take m) ∧ Sep B w wk (Rs.set i (Hand.slide e (.slice (offA A m c) (n - m) (c - m)) (xs.drop m))) := by
  obtain ⟨F, h1, _, hn⟩ := h.upd i hi
  have hrd := slid_rd h1 hl
  rcases h1 with ⟨e1, e2, e3⟩ | ⟨g, off, cap, cur, e1, rfl, hg, hnc, hsz, hx⟩
  · injection e1 with e4 e5 e6
    subst e2 e4 e5 e6
    have hm0 : m = 0 := by simpa using hm
    subst hm0
    exact ⟨rfl, Nat.le_refl _, Rd.nil _ _ _ _, hn (Hand.slide e _ _) (F' := F) (.inl ⟨rfl, rfl, e3⟩) (.refl _ _) fun k hk => .inl hk⟩
  · injection e1 with e4 e5 e6
    subst e4 e5 e6
    have hz : offA (some ⟨g, off, none⟩) 0 c = some ⟨g, off, none⟩ := off_zero _ _ fun a ha => by injection ha with ha; subst ha; rfl
    refine ⟨rfl, hnc, ?_, ?_⟩
    · rw [hz]
      obtain ⟨A', c0, e7, hm', hx'⟩ := hrd
      injection e7 with e7
      subst e7
      have htl : (xs.take m).length = m := by rw [List.length_take]; omega
      refine ⟨_, c, by rw [htl], by omega, fun hp => ?_⟩
      rw [htl] at hp
      obtain ⟨b, o, ha, _, hb, hc'⟩ := hx' (by omega)
      refine ⟨b, o, ha, trivial, hb, fun j hj => ?_⟩
      rw [htl] at hj
      have : (xs.take m).getD j 0 = xs.getD j 0 := by rw [List.getD_eq_getElem?_getD, List.getElem?_take_of_lt hj, ← List.getD_eq_getElem?_getD]
      rw [this]
      exact hc' j (by omega)
    · refine hn (Hand.slide e _ (xs.drop m)) (F' := fun k => k = g) ?_ (.refl _ _) fun k hk => .inl hk
      by_cases hcm : c = m
      · refine .inr ⟨g, off, c - m, cur, by unfold offA; rw [if_pos hcm, List.length_drop], rfl, hg, by rw [List.length_drop]; omega, by omega, fun j hj => ?_⟩
        rw [List.length_drop] at hj
        omega
      · refine .inr ⟨g, off + m, c - m, cur, by unfold offA; rw [if_neg hcm, List.length_drop]; simp [Addr.add], rfl, hg, by rw [List.length_drop]; omega, by omega, fun j hj => ?_⟩
        rw [List.length_drop] at hj
        have h3 := hx (m + j) (by omega)
        rw [show off + m + j = off + (m + j) by omega, h3]
        rw [List.getD_eq_getElem?_getD, List.getD_eq_getElem?_getD, List.getElem?_drop]
end
end Go.Proofs.Ytaplikopapnlpaa.Hand
namespace Go.Proofs.Ytaplikopapnlpaa.SemaI
open Go.ChangeShapes Go.WideShapes Go.ChangeAt Go.RowKit Mem MutP SemaP Hand RefMut RefSema FitsC Acts3

theorem act_C' (s : St) (d t k : Int) : (actS s d t k).C = s.C := by
  unfold actS
  split
  · rcases SemaP.ask_cases s t k true with ⟨_, _, e⟩ | ⟨_, _, _, _, _, e⟩ | ⟨_, _, _, _, _, e⟩ | ⟨_, _, _, _, _, e⟩ | ⟨_, _, _, _, _, _, e⟩ <;> rw [e]
  · split
    · rcases SemaP.ask_cases s t k false with ⟨_, _, e⟩ | ⟨_, _, _, _, _, e⟩ | ⟨_, _, _, _, _, e⟩ | ⟨_, _, _, _, _, e⟩ | ⟨_, _, _, _, _, _, e⟩ <;> rw [e]
    · split
      · unfold relS; split <;> rfl
      · split
        · unfold lvS; split <;> rfl
        · rfl
/-- The row that the law keeps, behind who leaves; and behind who comes. -/
def rowA (s : St) (d t k : Int) : List Int := if d = 3 ∧ actB s d t k = true then withoutL s.W t else s.W
def rowB (s : St) (d t k : Int) : List Int := if d = 0 ∧ actE s d t k = 0 ∧ actB s d t k = false ∧ k ≤ s.C then rowA s d t k ++ [t] else rowA s d t k
theorem order_plain (s : St) (d t k : Int) : actL s d t k ++ (actS s d t k).W = rowB s d t k ∧ ((d = 0 ∨ d = 1) → actE s d t k = 0 → actB s d t k = true → s.W = []) := by
  rcases (by omega : d = 0 ∨ d = 1 ∨ d = 2 ∨ d = 3 ∨ (d ≠ 0 ∧ d ≠ 1 ∧ d ≠ 2 ∧ d ≠ 3)) with rfl | rfl | rfl | rfl | ⟨d0, d1, d2, d3⟩
  · have he : actE s 0 t k = askE s t k := rfl
    have hs : actS s 0 t k = askS s t k true := rfl
    have hb : actB s 0 t k = askB s t k := rfl
    have hl : actL s 0 t k = [] := rfl
    have hA : rowA s 0 t k = s.W := by unfold rowA; rw [if_neg (by omega)]
    unfold rowB
    rw [hA, he, hs, hb, hl, List.nil_append]
    rcases SemaP.ask_cases s t k true with ⟨e1, e2, e3⟩ | ⟨e1, e2, e3, e4, e5, e6⟩ | ⟨_, _, _, _, e, _⟩ | ⟨e1, e2, e3, _, e4, e5⟩ | ⟨e1, e2, e3, _, _, e4, e5⟩
    · exact ⟨by rw [if_neg fun h => e1 h.2.1, e3], fun _ h => absurd h e1⟩
    · exact ⟨by rw [if_neg (by rw [e2]; simp), e6], fun _ _ _ => e3⟩
    · cases e
    · exact ⟨by rw [if_neg (by omega), e5], fun _ _ h => by rw [e2] at h; cases h⟩
    · exact ⟨by rw [if_pos ⟨rfl, e1, e2, e4⟩, e5], fun _ _ h => by rw [e2] at h; cases h⟩
  · have he : actE s 1 t k = askE s t k := rfl
    have hs : actS s 1 t k = askS s t k false := rfl
    have hb : actB s 1 t k = askB s t k := rfl
    have hl : actL s 1 t k = [] := rfl
    have hA : rowA s 1 t k = s.W := by unfold rowA; rw [if_neg (by omega)]
    have hB : rowB s 1 t k = s.W := by unfold rowB; rw [if_neg (by omega), hA]
    rw [hB, he, hs, hb, hl, List.nil_append]
    rcases SemaP.ask_cases s t k false with ⟨e1, e2, e3⟩ | ⟨e1, e2, e3, e4, e5, e6⟩ | ⟨e1, e2, e3, _, _, e4⟩ | ⟨_, _, _, e, _⟩ | ⟨_, _, _, e, _⟩
    · exact ⟨by rw [e3], fun _ h => absurd h e1⟩
    · exact ⟨by rw [e6], fun _ _ _ => e3⟩
    · exact ⟨by rw [e4], fun _ _ h => by rw [e2] at h; cases h⟩
    · cases e
    · cases e
  · have hA : rowA s 2 t k = s.W := by unfold rowA; rw [if_neg (by omega)]
    have hB : rowB s 2 t k = s.W := by unfold rowB; rw [if_neg (by omega), hA]
    have hs : actS s 2 t k = relS s k := rfl
    have hl : actL s 2 t k = relL s k := rfl
    rw [hB, hs, hl]
    refine ⟨?_, fun h => by omega⟩
    unfold relL relS
    by_cases h : relE s k = 0
    · rw [if_pos h, if_pos h]; exact giv_app _ _ _ _
    · rw [if_neg h, if_neg h]; rfl
  · have hb : actB s 3 t k = SemaP.waitsB s t := rfl
    have hs : actS s 3 t k = lvS s t := rfl
    have hl : actL s 3 t k = lvL s t := rfl
    have hB : rowB s 3 t k = rowA s 3 t k := by unfold rowB; rw [if_neg (by omega)]
    rw [hB, hs, hl]
    refine ⟨?_, fun h => by omega⟩
    unfold rowA lvL lvS
    rw [hb]
    by_cases h : SemaP.waitsB s t = true
    · rw [if_pos h, if_pos h, if_pos ⟨rfl, h⟩]; exact giv_app _ _ _ _
    · rw [if_neg h, if_neg h, if_neg fun e => h e.2]; rfl
  · obtain ⟨r1, r2, r3, r4⟩ := act_no (s := s) (t := t) (k := k) d0 d1 d2 d3
    have hA : rowA s d t k = s.W := by unfold rowA; rw [if_neg fun h => d3 h.1]
    have hB : rowB s d t k = s.W := by unfold rowB; rw [if_neg fun h => d0 h.1, hA]
    rw [hB, r1, r4]
    exact ⟨rfl, fun h => by omega⟩

set_option maxHeartbeats 1000000 in
set_option maxRecDepth 100000 in
theorem order_walk (I : Sg) (room : Int) (A : Option Addr) (len cap : Nat) (zs : List Ac) (w : World) (hroom : In64 room) (hlen : len ≤ 9223372036854775807) (hz : ZsIn w A len cap zs) :
    Calls Try.prog 5 #[.int .i64 room, .slice A len cap] w fun e w' => e = .returned (.bool true) ∧ Below w.heap.size w w' := by
  have HZ := Lib.hid hz
  obtain ⟨r0, r1⟩ := hroom
  clear hz
  rcases (by omega : 100 < len ∨ (len ≤ 100 ∧ room < 0) ∨ (len ≤ 100 ∧ 0 ≤ room)) with h60 | ⟨h60, hr⟩ | ⟨h60, hr⟩
  · go_enter Try.func5, Try.ntmps5
    go_wp2_with fail
    refine (awake_any I _).mono ?_
    rintro e w1 ⟨rfl, hb1⟩
    have HB := Lib.hid hb1
    clear hb1
    go_wp2
    go_ret
    exact ⟨rfl, HB.out⟩
  · go_enter Try.func5, Try.ntmps5
    go_wp2_with fail
    refine (awake_any I _).mono ?_
    rintro e w1 ⟨rfl, hb1⟩
    have HB := Lib.hid hb1
    clear hb1
    go_wp2
    go_ret
    exact ⟨rfl, HB.out⟩
  · obtain ⟨hzl, hzr, hzo⟩ := HZ.out (by omega)
    subst hzl
    have HZR := Lib.hid hzr
    have HZO := Lib.hid hzo
    clear hzr hzo HZ
    go_enter Try.func5, Try.ntmps5
    go_wp2_with fail
    refine (awake_any I _).mono ?_
    rintro e w1 ⟨rfl, hb1⟩
    have S1 := Lib.hid ((Sep.nil (fun _ => False) w).next hb1)
    clear hb1
    go_wp2_with fail
    refine (m_new S1.out I 20 room (by omega) (by omega) hr r1).mono ?_
    rintro e w2 ⟨a, rfl, h2'⟩
    have S2 : Hid (Sep (fun _ => False) w (w2.alloc (.cells #[] 3)) [slide 3 (.slice (some ⟨w2.heap.size, 0, none⟩) 0 0) [], ob I.O (.pointer (some a)) (newS room 20)]) := (h2'.grow0 intE 3).slide 0 rfl
    clear h2' S1
    go_wp2
    go_loopw [7, 35] (fun u7 u wr => ∃ j : Nat, j ≤ zs.length ∧ u = .int .i64 j ∧ ∃ (s : St) (Ar : Option Addr) (cr : Nat), u7 = .slice Ar s.W.length cr ∧ Hid (s.C = room) ∧ Hid (Sep (fun _ => False) w wr [slide 3 (.slice Ar s.W.length cr) s.W, ob I.O (.pointer (some a)) s])) (fun _ u _ => zs.length - (intOf u).toNat)
    case atStart => exact ⟨0, Nat.zero_le _, rfl, newS room 20, _, 0, rfl, rfl, S2.out⟩
    case round =>
      obtain ⟨j, hj, rfl, s, Ar, cr, rfl, HSC, SL⟩ := hrel
      clear S2
      by_cases hlt : j < zs.length
      · have hx : zs[j]? = some zs[j] := List.getElem?_eq_getElem hlt
        generalize zs[j] = z at hx
        obtain ⟨hd64, ht64, hk64⟩ := HZO.out z (List.mem_of_getElem? hx)
        obtain ⟨bb, off, rfl, hbb, c0, c1, c2⟩ := ac_cells HZR.out hx
        have hb := SL.out.old
        have q0 := (hb.cell (p := ⟨bb, off + j * 3, none⟩) hbb).trans c0
        have q1 := (hb.cell (p := ⟨bb, off + j * 3 + 1, none⟩) hbb).trans c1
        have q2 := (hb.cell (p := ⟨bb, off + j * 3 + 2, none⟩) hbb).trans c2
        obtain ⟨d, t, k⟩ := z
        simp only at q0 q1 q2 ht64 hk64
        have S4 := Lib.hid (SL.out.new (.cells #[.int .i64 d, .int .i64 t, .int .i64 k] 32))
        have HT64 := Lib.hid ht64
        have HK64 := Lib.hid hk64
        have hok := m_ok SL.out 1 rfl
        have hwl : s.W.length ≤ 1000 := by have := hok.1.len; omega
        have HLL := Lib.hid (actL_len hok d t k)
        have HP := Lib.hid (order_plain s d t k)
        have HAC := Lib.hid ((act_C' s d t k).trans HSC.out)
        clear hx c0 c1 c2 hb SL hd64 ht64 hk64 hok
        obtain ⟨E, hE⟩ : ∃ E, actE s d t k = E := ⟨_, rfl⟩
        obtain ⟨Bo, hBo⟩ : ∃ Bo, actB s d t k = Bo := ⟨_, rfl⟩
        obtain ⟨L2, hL2⟩ : ∃ L2, actL s d t k = L2 := ⟨_, rfl⟩
        obtain ⟨s2, hs2⟩ : ∃ s2, actS s d t k = s2 := ⟨_, rfl⟩
        obtain ⟨R1, hR1⟩ : ∃ R1, rowA s d t k = R1 := ⟨_, rfl⟩
        obtain ⟨R2, hR2⟩ : ∃ R2, rowB s d t k = R2 := ⟨_, rfl⟩
        have KE := Lib.hid hE
        have KB := Lib.hid hBo
        have KL := Lib.hid hL2
        have KS := Lib.hid hs2
        have KA : Hid (R1 = if d = 3 ∧ Bo = true then withoutL s.W t else s.W) := by show _ = _; rw [← hR1, ← hBo]; rfl
        have KR : Hid (R2 = if d = 0 ∧ E = 0 ∧ Bo = false ∧ k ≤ room then R1 ++ [t] else R1) := by show _ = _; rw [← hR2, ← hR1, ← hBo, ← hE, ← HSC.out]; rfl
        simp only [hE, hBo, hL2, hs2, hR2] at HP HLL HAC
        clear hE hBo hL2 hs2 hR1 hR2
        go_wp2_with fail
        refine (m_do S4.out 2 rfl d t k HT64.out HK64.out KL.out KB.out KE.out KS.out).mono ?_
        rintro e w5 ⟨Ao, co, rfl, h5⟩
        have S6 : Hid (Sep (fun _ => False) w w5 [slide 3 (.slice Ar s.W.length cr) s.W, nums (.slice Ao L2.length co) L2, blk wr.heap.size (.cells #[.int .i64 d, .int .i64 t, .int .i64 k] 32), ob I.O (.pointer (some a)) s2]) := Sep.perm h5 (by exact (List.perm_append_comm (l₁ := [_, _]) (l₂ := [_])).append_right [_])
        have a0 : w5.cell? ⟨wr.heap.size, 0, none⟩ = some (.int .i64 d) := (cell_block (S6.out.blk_at 2 rfl) 0).trans rfl
        have a1 : w5.cell? ⟨wr.heap.size, 1, none⟩ = some (.int .i64 t) := (cell_block (S6.out.blk_at 2 rfl) 1).trans rfl
        clear h5 S4 q0 q1 q2 KE KB KL KS
        obtain ⟨b3, hb3⟩ : ∃ b, decide (d = 3 ∧ Bo = true) = b := ⟨_, rfl⟩
        have HB3 := Lib.hid hb3
        clear hb3
        go_upto_region 14 with (fail)
        go_cut [53] (fun s53 wx => s53 = .bool b3 ∧ wx = w5)
        case first => as_aux_lemma =>
          by_cases h3 : d = 3
          · subst h3
            have hb : Hid (Bo = b3) := by show _ = _; rw [← HB3.out]; simp
            clear HB3 HP HLL HAC KA KR
            go_wp2
            go_meet
            exact ⟨by rw [hb.out], rfl⟩
          · have hb : Hid (false = b3) := by show _ = _; rw [← HB3.out]; simp [h3]
            have e3 : (d == 3) = false := by simpa using h3
            clear HB3 HP HLL HAC KA KR h3
            go_wp2
            go_meet
            exact ⟨by rw [hb.out], rfl⟩
        case rest => as_aux_lemma =>
        obtain ⟨rfl, rfl⟩ := hcut
        go_upto_if 53 with (fail)
        go_cut [7] (fun s7 wx => ∃ A7 c7, s7 = .slice A7 R1.length c7 ∧ Hid (Sep (fun _ => False) w wx [slide 3 (.slice A7 R1.length c7) R1, nums (.slice Ao L2.length co) L2, blk wr.heap.size (.cells #[.int .i64 d, .int .i64 t, .int .i64 k] 32), ob I.O (.pointer (some a)) s2]))
        case first => as_aux_lemma =>
          cases hbb : b3 with
          | true =>
            have h3 : d = 3 ∧ Bo = true := of_decide_eq_true (HB3.out.trans hbb)
            have hr1 : R1 = withoutL s.W t := by rw [KA.out, if_pos h3]
            obtain ⟨rfl, rfl⟩ := h3
            have HR1 := Lib.hid hr1
            clear HP HLL HAC KA KR HB3 hbb hr1
            go_wp2_with fail
            refine (without_g S6.out (S6.out.srd 0 rfl (by omega)) t).mono ?_
            rintro e w6 ⟨A6, c6, rfl, h6, _, _⟩
            have S7 := Lib.hid ((h6.slide 0 rfl).sub (.cons_cons _ (.cons _ (List.Sublist.refl _))))
            clear h6 S6
            go_wp2
            go_meet
            obtain rfl := HR1.out
            exact ⟨_, _, rfl, S7.out⟩
          | false =>
            have h3 : ¬ (d = 3 ∧ Bo = true) := of_decide_eq_false (HB3.out.trans hbb)
            have hr1 : R1 = s.W := by rw [KA.out, if_neg h3]
            have HR1 := Lib.hid hr1
            clear HP HLL HAC KA KR HB3 hbb hr1 h3
            go_wp2
            go_meet
            obtain rfl := HR1.out
            exact ⟨_, _, rfl, S6.out⟩
        case rest => as_aux_lemma =>
        obtain ⟨A7, c7, rfl, S7⟩ := hcut
        have HR1L : Hid (R1.length ≤ 1000) := by
          show _ ≤ _
          rw [KA.out]
          split
          · exact Nat.le_trans (List.length_filter_le _ _) hwl
          · exact hwl
        clear S6 a0 a1 HB3 KA
        have a0 : wc.cell? ⟨wr.heap.size, 0, none⟩ = some (.int .i64 d) := (cell_block (S7.out.blk_at 2 rfl) 0).trans rfl
        have a1 : wc.cell? ⟨wr.heap.size, 1, none⟩ = some (.int .i64 t) := (cell_block (S7.out.blk_at 2 rfl) 1).trans rfl
        have a2 : wc.cell? ⟨wr.heap.size, 2, none⟩ = some (.int .i64 k) := (cell_block (S7.out.blk_at 2 rfl) 2).trans rfl
        obtain ⟨b9, hb9⟩ : ∃ b, decide ((d = 0 ∨ d = 1) ∧ E = 0) = b := ⟨_, rfl⟩
        have HB9 := Lib.hid hb9
        clear hb9
        go_upto_region 16 with (fail)
        go_cut [69] (fun s69 wx => s69 = .bool b9 ∧ wx = wc)
        case first => as_aux_lemma =>
          rcases (by omega : d = 0 ∨ d = 1 ∨ (d ≠ 0 ∧ d ≠ 1)) with rfl | rfl | ⟨d0, d1⟩
          · have hb : Hid ((E == 0) = b9) := by show _ = _; rw [← HB9.out]; rw [Bool.eq_iff_iff]; simp
            clear HB9 HP HLL HAC KR HR1L
            go_wp2
            go_meet
            exact ⟨by rw [hb.out], rfl⟩
          · have hb : Hid ((E == 0) = b9) := by show _ = _; rw [← HB9.out]; rw [Bool.eq_iff_iff]; simp
            clear HB9 HP HLL HAC KR HR1L
            go_wp2
            go_meet
            exact ⟨by rw [hb.out], rfl⟩
          · have hb : Hid (false = b9) := by show _ = _; rw [← HB9.out]; rw [decide_eq_false]; omega
            have e0 : (d == 0) = false := by simpa using d0
            have e1 : (d == 1) = false := by simpa using d1
            clear HB9 HP HLL HAC KR HR1L d0 d1
            go_wp2
            go_meet
            exact ⟨by rw [hb.out], rfl⟩
        case rest => as_aux_lemma =>
        obtain ⟨rfl, rfl⟩ := hcut
        go_upto_if 69 with (fail)
        go_cut [7] (fun s7 wx => ∃ A7 c7, s7 = .slice A7 R2.length c7 ∧ Hid (Sep (fun _ => False) w wx [slide 3 (.slice A7 R2.length c7) R2, nums (.slice Ao L2.length co) L2, blk wr.heap.size (.cells #[.int .i64 d, .int .i64 t, .int .i64 k] 32), ob I.O (.pointer (some a)) s2]))
        case first => as_aux_lemma =>
          cases hbb : b9 with
          | true =>
            obtain ⟨h01, hE⟩ : (d = 0 ∨ d = 1) ∧ E = 0 := of_decide_eq_true (HB9.out.trans hbb)
            have hW : Bo = true → s.W = [] := HP.out.2 h01 hE
            have hR := KR.out
            cases Bo with
            | true =>
              have HR1 : Hid (R2 = R1) := by show _ = _; rw [hR, if_neg (by simp)]
              have hz : s.W.length = 0 := by rw [hW rfl]; rfl
              have i0 : decide ((s.W.length : Int) > 0) = false := decide_eq_false (by omega)
              have i1 : decide (0 < s.W.length) = false := decide_eq_false (by omega)
              have i2 : decide ((0 : Int) < (s.W.length : Int)) = false := decide_eq_false (by omega)
              clear hz
              clear HB9 hbb hW hR HP HLL HAC KR HR1L h01 hE
              go_wp2
              go_meet
              obtain rfl := HR1.out
              exact ⟨_, _, rfl, S7.out⟩
            | false =>
              rcases h01 with rfl | rfl
              · by_cases hk : k ≤ room
                · have HR1 : Hid (R2 = R1 ++ [t]) := by show _ = _; rw [hR, if_pos ⟨rfl, hE, rfl, hk⟩]
                  have ik : decide (k ≤ room) = true := decide_eq_true hk
                  have HY : Hid ((wc.alloc (.cells #[.int .i64 t] 3)).cell? ⟨wc.heap.size, 0, none⟩ = some (.int .i64 t)) := by show _ = _; rw [cell_block (heap_alloc_new wc _)]; rfl
                  have hrl := HR1L.out
                  clear HB9 hbb hW hR HP HLL HAC KR HR1L hE hk
                  go_wp2_with (at_builtin; refine wpList_appQ rfl _ _ intElemL rfl rfl rfl (S7.out.next (new_below0 _ _)) 0 rfl HY.out (by omega) ?_; intro A3 c3 w6 l3 HL3 h3)
                  have S8 := Lib.hid h3
                  clear h3
                  go_wp2
                  go_meet
                  obtain rfl := HR1.out
                  have hl := HL3.out
                  subst hl
                  exact ⟨_, _, rfl, S8.out⟩
                · have HR1 : Hid (R2 = R1) := by show _ = _; rw [hR, if_neg (by omega)]
                  have ik : decide (k ≤ room) = false := decide_eq_false hk
                  clear HB9 hbb hW hR HP HLL HAC KR HR1L hE hk
                  go_wp2
                  go_meet
                  obtain rfl := HR1.out
                  exact ⟨_, _, rfl, S7.out⟩
              · have HR1 : Hid (R2 = R1) := by show _ = _; rw [hR, if_neg (by omega)]
                clear HB9 hbb hW hR HP HLL HAC KR HR1L hE
                go_wp2
                go_meet
                obtain rfl := HR1.out
                exact ⟨_, _, rfl, S7.out⟩
          | false =>
            have h01 : ¬ ((d = 0 ∨ d = 1) ∧ E = 0) := of_decide_eq_false (HB9.out.trans hbb)
            have HR1 : Hid (R2 = R1) := by show _ = _; rw [KR.out, if_neg fun h => h01 ⟨.inl h.1, h.2.1⟩]
            clear HB9 hbb HP HLL HAC KR HR1L h01
            go_wp2
            go_meet
            obtain rfl := HR1.out
            exact ⟨_, _, rfl, S7.out⟩
        case rest => as_aux_lemma =>
        obtain ⟨A8, c8, rfl, S8⟩ := hcut
        clear S7 a0 a1 a2 HB9 KR HR1L
        have hs2l : s2.W.length ≤ 1000 := by have := (m_ok S8.out 3 rfl).1.len; omega
        have hRL : R2.length = L2.length + s2.W.length := by rw [← HP.out.1, List.length_append]
        have hL2l := HLL.out
        obtain ⟨_, hnc, hrd, hs⟩ := S8.out.scut 0 rfl L2.length (by omega) (by omega)
        obtain ⟨t1, t2⟩ := run_take und1 size1 A8 R2.length c8 L2.length (by omega)
        obtain ⟨t3, t4⟩ := run_drop und1 size1 A8 R2.length c8 L2.length (by omega)
        have hd1 : R2.drop L2.length = s2.W := by rw [← HP.out.1, List.drop_left]
        have hd2 : R2.length - L2.length = s2.W.length := by omega
        have HTK : Hid (L2 = R2.take L2.length) := by show _ = _; rw [← HP.out.1, List.take_left]
        rw [hd1, hd2] at hs
        rw [hd2] at t3 t4
        have S9 : Hid (Sep (fun _ => False) w wc [slide 3 (.slice (offA A8 L2.length c8) s2.W.length (c8 - L2.length)) s2.W, nums (.slice Ao L2.length co) L2, blk wr.heap.size (.cells #[.int .i64 d, .int .i64 t, .int .i64 k] 32), ob I.O (.pointer (some a)) s2]) := hs
        have HSM := Lib.hid (same_d (S9.out.rd 1 rfl) hrd HTK.out)
        have dg : decide ((L2.length : Int) > (R2.length : Int)) = false := decide_eq_false (by omega)
        have dg1 : decide (R2.length < L2.length) = false := decide_eq_false (by omega)
        have dg2 : decide ((R2.length : Int) < (L2.length : Int)) = false := decide_eq_false (by omega)
        clear hs hrd hd1 hd2 S8 HTK HP hRL hnc
        generalize offA A8 0 c8 = A80 at *
        generalize offA A8 L2.length c8 = A9 at *
        generalize c8 - L2.length = c9 at *
        go_wp2_with fail
        refine HSM.out.mono ?_
        rintro e w10 ⟨rfl, hb10⟩
        have S10 := Lib.hid (S9.out.next hb10)
        clear hb10 S9 HSM
        go_wp2_with fail
        refine (m_waiting S10.out 3 rfl).mono ?_
        rintro e w11 ⟨A11, c11, A11', c11', rfl, h11, _⟩
        have S11 : Hid (Sep (fun _ => False) w w11 [nums2 (.slice A11 s2.W.length c11) (.slice A11' s2.D.length c11') s2.W s2.D, slide 3 (.slice A9 s2.W.length c9) s2.W, nums (.slice Ao L2.length co) L2, blk wr.heap.size (.cells #[.int .i64 d, .int .i64 t, .int .i64 k] 32), ob I.O (.pointer (some a)) s2]) := h11
        clear h11 S10 t1 t2 t3 t4
        go_wp2_with fail
        refine (same_d (S11.out.rd2 0 rfl).1 (S11.out.srd 1 rfl (by omega)) rfl).mono ?_
        rintro e w12 ⟨rfl, hb12⟩
        have SF : Hid (Sep (fun _ => False) w w12 [slide 3 (.slice A9 s2.W.length c9) s2.W, ob I.O (.pointer (some a)) s2]) := (S11.out.next hb12).sub (.cons _ (.cons_cons _ (.cons _ (.cons _ (.cons_cons _ (List.Sublist.refl _))))))
        clear hb12 S11
        go_wp2
        go_roundw
        case rel => exact ⟨j + 1, by omega, by go_num, s2, A9, c9, rfl, HAC, SF⟩
        case measure => simp [intOf]; omega
      · have HB := Lib.hid SL.out.old
        go_wp2
        go_ret
        exact ⟨rfl, HB.out⟩
end Go.Proofs.Ytaplikopapnlpaa.SemaI
