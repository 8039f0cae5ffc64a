/-
  The walk of the law RWMisuse over any package that meets 'Rw': it returns true and leaves old memory as it was. Conditions: none but 'Rw'.
-/
import Derived.Test.YtmlicljoadcoeaaRwDoes
namespace Go.Proofs.Ytmlicljoadcoeaa.RwI
open Go.ChangeShapes Go.WideShapes Go.ChangeAt Go.RowKit Mem MutP RwP Hand RefMut RefRw Acts

/-- What has an error changes nothing; who holds the lock gives it back, and nobody else. -/
theorem misuse_plain {s : St} (hok : RwP.Ok s) (d t : Int) :
    (actE s d t ≠ 0 → actS s d t = s ∧ actV s d t = [] ∧ actB s d t = false) ∧
    (d = 2 → decide (actE s d t = 0) = (decide (0 ≤ t) && holdsB s t)) := by
  refine ⟨?_, ?_⟩
  · rcases (by omega : d = 0 ∨ d = 1 ∨ d = 2 ∨ (d ≠ 0 ∧ d ≠ 1 ∧ d ≠ 2)) with rfl | rfl | rfl | ⟨d0, d1, d2⟩
    · intro h
      have h : askE s t ≠ 0 := h
      exact ⟨if_neg h, rfl, if_neg h⟩
    · intro h
      have h : askE s t ≠ 0 := h
      exact ⟨if_neg h, rfl, if_neg h⟩
    · intro h
      have h : relE s t ≠ 0 := h
      exact ⟨if_neg h, if_neg h, rfl⟩
    · intro h
      have d01 : ¬ (d = 0 ∨ d = 1) := by omega
      exact (h (by unfold actE; rw [if_neg d01, if_neg d2])).elim
  · rintro rfl
    show decide (relE s t = 0) = _
    unfold relE
    cases hn : nameM s.n t with
    | false =>
      have h1 : ¬ (0 ≤ t ∧ t < s.n) := fun h => by rw [name_iff.2 h] at hn; cases hn
      rw [if_pos rfl]
      by_cases h0 : 0 ≤ t
      · have hh : holdsB s t = false := by
          unfold holdsB MutP.inL
          rw [decide_eq_false, decide_eq_false]
          · rfl
          · exact fun hr => h1 (hok.br t hr)
          · intro hw
            have := hok.h1
            omega
        simp [hh]
      · simp [h0]
    | true =>
      have h1 := name_iff.1 hn
      rw [if_neg (by simp)]
      cases hh : holdsB s t
      · simp
      · simp [h1.1]

set_option maxHeartbeats 8000000 in
set_option maxRecDepth 100000 in
theorem misuse_walk (I : Rw) (A : Option Addr) (len cap : Nat) (zs : List Ac) (d t : Int) (w : World) (hlen : len ≤ 9223372036854775807) (hz : ZsIn w A len cap zs) (ht : In64 t) :
    Calls Try.prog 6 #[.slice A len cap, .agg #[.int .i64 d, .int .i64 t]] w fun e w' => e = .returned (.bool true) ∧ Below w.heap.size w w' := by
  have HT := Lib.hid ht
  have HZ := Lib.hid hz
  have S0 := Lib.hid ((Sep.nil (fun _ => False) w).new (.cells #[.int .i64 d, .int .i64 t] 32))
  clear hz ht
  by_cases h60 : 120 < len
  · go_enter Try.func6, Try.ntmps6
    go_wp2_with fail
    refine (awake_any I _).mono ?_
    rintro e w1 ⟨rfl, hb1⟩
    have S1 := Lib.hid (S0.out.next hb1)
    clear hb1
    go_wp2
    go_ret
    exact ⟨rfl, S1.out.old⟩
  · obtain ⟨hzl, hzr, hzo⟩ := HZ.out (by omega)
    subst hzl
    have HZR := Lib.hid hzr
    have HZO := Lib.hid hzo
    clear hzr hzo HZ
    go_enter Try.func6, Try.ntmps6
    go_wp2_with fail
    refine (awake_any I _).mono ?_
    rintro e w1 ⟨rfl, hb1⟩
    have S1 := Lib.hid (S0.out.next hb1)
    clear hb1 S0
    go_wp2_with fail
    refine (m_new S1.out I 20 (by omega) (by omega)).mono ?_
    rintro e w2 ⟨a, rfl, h2'⟩
    have S2 := Lib.hid h2'
    clear h2' S1
    go_wp2
    go_loopw [33] (fun u wr => ∃ j : Nat, j ≤ zs.length ∧ u = .int .i64 j ∧ Hid (∃ (s : St), Sep (fun _ => False) w wr [ob I.O (.pointer (some a)) s, blk w.heap.size (.cells #[.int .i64 d, .int .i64 t] 32)])) (fun u _ => zs.length - (intOf u).toNat)
    case atStart => exact ⟨0, Nat.zero_le _, rfl, _, S2.out⟩
    case round =>
      obtain ⟨j, hj, rfl, HS⟩ := hrel
      obtain ⟨s, hS⟩ := HS.out
      have SL := Lib.hid hS
      clear HS hS S2
      by_cases hlt : j < zs.length
      · have hx : zs[j]? = some zs[j] := List.getElem?_eq_getElem hlt
        generalize zs[j] = z at hx
        obtain ⟨hd64, ht64⟩ := HZO.out z (List.mem_of_getElem? hx)
        obtain ⟨bb, off, rfl, hbb, c0, c1⟩ := ac_cells HZR.out hx
        have hb := SL.out.old
        have q0 := (hb.cell (p := ⟨bb, off + j * 2, none⟩) hbb).trans c0
        have q1 := (hb.cell (p := ⟨bb, off + j * 2 + 1, none⟩) hbb).trans c1
        obtain ⟨zd, zt⟩ := z
        simp only at q0 q1 ht64
        have S4 := Lib.hid (SL.out.new (.cells #[.int .i64 zd, .int .i64 zt] 32))
        have HT64 := Lib.hid ht64
        clear hx c0 c1 hb SL hd64 ht64
        go_wp2_with fail
        refine (m_do S4.out 1 rfl zd zt HT64.out).mono ?_
        rintro e w5 ⟨A5, c5, rfl, h5⟩
        have SF : Hid (∃ (s : St), Sep (fun _ => False) w w5 [ob I.O (.pointer (some a)) s, blk w.heap.size (.cells #[.int .i64 d, .int .i64 t] 32)]) := ⟨_, h5.tail.tail⟩
        clear h5 S4 q0 q1
        go_wp2
        go_roundw
        case rel => exact ⟨j + 1, by omega, by go_num, SF⟩
        case measure => simp [intOf]; omega
      · have HP := Lib.hid (misuse_plain (m_ok SL.out 0 rfl) d t)
        clear HZR HZO
        go_wp2_with fail
        refine (m_readers SL.out 0 rfl).mono ?_
        rintro e w4 ⟨A4, c4, rfl, h4, _⟩
        have S4 := Lib.hid h4
        clear h4 SL
        go_wp2_with fail
        refine (m_writer S4.out 1 rfl).mono ?_
        rintro e w5 ⟨rfl, h5, _⟩
        have S5 := Lib.hid h5
        clear h5 S4
        go_wp2_with fail
        refine (m_waiting S5.out 1 rfl).mono ?_
        rintro e w6 ⟨A6, c6, B6, d6, rfl, h6, _⟩
        have S6 := Lib.hid h6
        have a0 : w6.cell? ⟨w.heap.size, 0, none⟩ = some (.int .i64 d) := (cell_block (S6.out.blk_at 3 rfl) 0).trans rfl
        have a1 : w6.cell? ⟨w.heap.size, 1, none⟩ = some (.int .i64 t) := (cell_block (S6.out.blk_at 3 rfl) 1).trans rfl
        clear h6 S5
        obtain ⟨hb, hhb⟩ : ∃ hb, (decide (0 ≤ t) && holdsB s t) = hb := ⟨_, rfl⟩
        have KH := Lib.hid hhb
        rw [hhb] at HP
        clear hhb
        go_upto_region 15 with (fail)
        go_cut [13] (fun s13 wx => s13 = .bool hb ∧ wx = w6)
        case first => as_aux_lemma =>
          have HIN := Lib.hid (in_any (S6.out.rd 1 rfl) t)
          by_cases h0 : 0 ≤ t
          · by_cases hw : s.w = t
            · have hk : Hid (true = hb) := by show _ = _; rw [← KH.out]; unfold holdsB; simp [h0, hw]
              have e1 : (s.w == t) = true := by simpa using hw
              clear KH HP hw
              go_wp2
              go_meet
              exact ⟨by rw [← hk.out], rfl⟩
            · have hk : Hid (MutP.inL s.r t = hb) := by show _ = _; rw [← KH.out]; unfold holdsB; simp [h0, hw]
              have e1 : (s.w == t) = false := by simpa using hw
              clear KH HP hw
              go_wp2_with fail
              refine HIN.out.mono ?_
              rintro e w7 ⟨rfl, rfl⟩
              rw [hk.out]
              go_wp2
              go_meet
              exact ⟨rfl, rfl⟩
          · have hk : Hid (false = hb) := by show _ = _; rw [← KH.out]; simp [h0]
            clear KH HP
            go_wp2
            go_meet
            exact ⟨by rw [← hk.out], rfl⟩
        case rest => as_aux_lemma =>
          obtain ⟨rfl, rfl⟩ := hcut
          clear KH
          obtain ⟨E, hE⟩ : ∃ E, actE s d t = E := ⟨_, rfl⟩
          obtain ⟨V, hV⟩ : ∃ V, actV s d t = V := ⟨_, rfl⟩
          obtain ⟨Bo, hBo⟩ : ∃ Bo, actB s d t = Bo := ⟨_, rfl⟩
          obtain ⟨s2, hs2⟩ : ∃ s2, actS s d t = s2 := ⟨_, rfl⟩
          have KE := Lib.hid hE
          have KV := Lib.hid hV
          have KB := Lib.hid hBo
          have KS := Lib.hid hs2
          rw [hE, hV, hBo, hs2] at HP
          clear hE hV hBo hs2
          go_wp2_with fail
          refine (m_do S6.out 2 rfl d t HT.out).mono ?_
          rintro e w7 ⟨A7, c7, rfl, h7⟩
          rw [KE.out, KB.out]
          rw [KV.out] at h7 ⊢
          rw [KS.out] at h7
          have S7 : Hid (Sep (fun _ => False) w w7 [nums (.slice A7 V.length c7) V, nums2 (.slice A6 s.p.length c6) (.slice B6 s.q.length d6) s.p s.q, nums (.slice A4 s.r.length c4) s.r, ob I.O (.pointer (some a)) s2, blk w.heap.size (.cells #[.int .i64 d, .int .i64 t] 32)]) := h7
          clear h7 S6 KV KE KB KS a0 a1
          go_wp2_with fail
          refine (m_waiting S7.out 3 rfl).mono ?_
          rintro e w8 ⟨A8, c8, B8, d8, rfl, h8, _⟩
          have S8 := Lib.hid h8
          clear h8 S7
          obtain ⟨sm, hsm⟩ : ∃ sm, decide (s2.w = s.w ∧ s2.r = s.r ∧ s2.p = s.p ∧ s2.q = s.q) = sm := ⟨_, rfl⟩
          have KS := Lib.hid hsm
          clear hsm
          go_upto_region 18 with (fail)
          go_cut [19] (fun s19 wx => s19 = .bool sm ∧ Hid (Sep (fun _ => False) w wx [blk w.heap.size (.cells #[.int .i64 d, .int .i64 t] 32)]))
          case first => as_aux_lemma =>
            go_wp2_with fail
            refine (m_writer S8.out 4 rfl).mono ?_
            rintro e w9 ⟨rfl, h9, _⟩
            have S9 := Lib.hid h9
            clear h9 S8
            by_cases hw : s2.w = s.w
            · have e1 : (s2.w == s.w) = true := by simpa using hw
              have hw' := Lib.hid hw
              clear hw
              go_wp2_with fail
              refine (m_readers S9.out 4 rfl).mono ?_
              rintro e w10 ⟨A10, c10, rfl, h10, _⟩
              have S10 := Lib.hid h10
              clear h10 S9
              go_wp2_with fail
              refine (same_b (S10.out.rd 0 rfl) (S10.out.rd 4 rfl)).mono ?_
              rintro e w11 ⟨rfl, hb11⟩
              have S11 := Lib.hid (S10.out.next hb11)
              clear hb11 S10
              by_cases hr : s2.r = s.r
              · rw [decide_eq_true hr]
                have hr' := Lib.hid hr
                clear hr
                go_wp2_with fail
                refine (same_b (S11.out.rd2 1 rfl).1 (S11.out.rd2 3 rfl).1).mono ?_
                rintro e w12 ⟨rfl, hb12⟩
                have S12 := Lib.hid (S11.out.next hb12)
                clear hb12 S11
                by_cases hp : s2.p = s.p
                · have hk : Hid (decide (s2.q = s.q) = sm) := by have := KS.out; simp only [hw'.out, hr'.out, hp, true_and] at this; exact this
                  rw [decide_eq_true hp]
                  clear hp hr' hw' KS HP
                  go_wp2_with fail
                  refine (same_b (S12.out.rd2 1 rfl).2 (S12.out.rd2 3 rfl).2).mono ?_
                  rintro e w13 ⟨rfl, hb13⟩
                  rw [hk.out]
                  have S13 := Lib.hid (S12.out.next hb13).tail.tail.tail.tail.tail.tail
                  clear hb13 S12
                  go_wp2
                  go_meet
                  exact ⟨rfl, S13⟩
                · have hk : Hid (false = sm) := by have := KS.out; simp only [hp, false_and, and_false, decide_false] at this; exact this
                  rw [decide_eq_false hp]
                  have S13 := Lib.hid S12.out.tail.tail.tail.tail.tail.tail
                  clear S12 KS HP hp
                  go_wp2
                  go_meet
                  exact ⟨by rw [← hk.out], S13⟩
              · have hk : Hid (false = sm) := by have := KS.out; simp only [hr, false_and, and_false, decide_false] at this; exact this
                rw [decide_eq_false hr]
                have S13 := Lib.hid S11.out.tail.tail.tail.tail.tail.tail
                clear S11 KS HP hr
                go_wp2
                go_meet
                exact ⟨by rw [← hk.out], S13⟩
            · have hk : Hid (false = sm) := by have := KS.out; simp only [hw, false_and, decide_false] at this; exact this
              have e1 : (s2.w == s.w) = false := by simpa using hw
              have S13 := Lib.hid S9.out.tail.tail.tail.tail.tail
              clear S9 KS HP hw
              go_wp2
              go_meet
              exact ⟨by rw [← hk.out], S13⟩
          case rest => as_aux_lemma =>
            obtain ⟨rfl, S9⟩ := hcut
            clear S8
            have a0 : wc.cell? ⟨w.heap.size, 0, none⟩ = some (.int .i64 d) := (cell_block (S9.out.blk_at 0 rfl) 0).trans rfl
            obtain ⟨p1, p2⟩ := HP.out
            have hx : E ≠ 0 → sm = true ∧ V = [] ∧ Bo = false := fun h => by
              obtain ⟨x1, x2, x3⟩ := p1 h
              exact ⟨by rw [← KS.out, x1]; simp, x2, x3⟩
            have hz : (d ≠ 2 ∧ E = 0) ∨ (d ≠ 2 ∧ E ≠ 0 ∧ sm = true ∧ V = [] ∧ Bo = false) ∨ (d = 2 ∧ E = 0 ∧ hb = true) ∨ (d = 2 ∧ E ≠ 0 ∧ sm = true ∧ V = [] ∧ Bo = false ∧ hb = false) := by
              by_cases hd : d = 2
              · have h3 := p2 hd
                by_cases hE : E = 0
                · exact .inr (.inr (.inl ⟨hd, hE, by rw [← h3, decide_eq_true hE]⟩))
                · obtain ⟨x1, x2, x3⟩ := hx hE
                  exact .inr (.inr (.inr ⟨hd, hE, x1, x2, x3, by rw [← h3, decide_eq_false hE]⟩))
              · by_cases hE : E = 0
                · exact .inl ⟨hd, hE⟩
                · exact .inr (.inl ⟨hd, hE, hx hE⟩)
            clear hx p1 p2 KS HP
            rcases hz with ⟨hd, rfl⟩ | ⟨hd, hE, rfl, rfl, rfl⟩ | ⟨rfl, rfl, rfl⟩ | ⟨rfl, hE, rfl, rfl, rfl, rfl⟩
            all_goals
              first | have e2 : (d != 2) = true := by simpa using hd | skip
              first | have e3 : (E != 0) = true := by simpa using hE | skip
              first | have e4 : (E == 0) = false := by simpa using hE | skip
              (first | simp only [List.length_nil] | skip)
              go_wp2
              go_ret
              exact ⟨rfl, S9.out.old⟩
end Go.Proofs.Ytmlicljoadcoeaa.RwI
