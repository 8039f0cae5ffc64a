/-
  The walk of the law MutexMisuse over any package that meets 'Mu': it returns true and leaves old memory as it was. Conditions: none but 'Mu'.
-/
import Derived.Test.YtjgfiiehanggoaaMutDoes
namespace Go.Proofs.Ytjgfiiehanggoaa.MutI
open Go.ChangeShapes Go.WideShapes Go.ChangeAt Go.RowKit Mem MutP Hand RefMut

/-- What has an error changes nothing; who tries never waits. -/
theorem misuse_plain {H : Int} {W : List Int} {N : Int} (hok : Ok H W N) (d t : Int) :
    (actE H W N d t ≠ 0 → actH H W N d t = H ∧ actW H W N d t = W) ∧
    (d = 1 → actW H W N d t = W ∧ actB H W N d t = (decide (actE H W N d t = 0) && decide (H < 0)) ∧ (actB H W N d t = false → actH H W N d t = H)) ∧
    (d = 2 → (decide (actE H W N d t = 0)) = (decide (0 ≤ H) && decide (H = t))) := by
  have hlk : lockB H W N t = (decide (lockE W N t = 0) && decide (H < 0)) := by
    unfold lockB lockE
    cases nameM N t <;> cases inL W t <;> simp
  have hH : lockB H W N t = false → lockH H W N t = H := fun h => by unfold lockH; rw [if_neg (by rw [h]; simp)]
  have hW : lockE W N t ≠ 0 → ∀ b, lockW H W N t b = W := fun h b => by
    unfold lockW waitsB
    unfold lockE at h
    cases hn : nameM N t <;> cases hi : inL W t <;> simp_all
  have hB : lockE W N t ≠ 0 → lockB H W N t = false := fun h => by rw [hlk]; simp [h]
  refine ⟨?_, ?_, ?_⟩
  · rcases (by omega : d = 0 ∨ d = 1 ∨ d = 2 ∨ (d ≠ 0 ∧ d ≠ 1 ∧ d ≠ 2)) with rfl | rfl | rfl | ⟨d0, d1, d2⟩
    · exact fun h => ⟨hH (hB h), hW h true⟩
    · exact fun h => ⟨hH (hB h), rfl⟩
    · intro h
      have h : unlE H N t ≠ 0 := h
      have hn : ¬ (nameM N t = true ∧ H = t) := fun ⟨h1, h2⟩ => h (by unfold unlE; rw [if_neg (by rw [h1]; simp), if_pos h2])
      exact ⟨by show unlH H W N t = H; unfold unlH; rw [if_neg hn], by show unlW H W N t = W; unfold unlW; rw [if_neg hn]⟩
    · intro h
      have d01 : ¬ (d = 0 ∨ d = 1) := by omega
      exact (h (by unfold actE; rw [if_neg d01, if_neg d2])).elim
  · rintro rfl
    exact ⟨rfl, hlk, hH⟩
  · rintro rfl
    show decide (unlE H N t = 0) = _
    have h0 := hok.h1
    by_cases hn : 0 ≤ t ∧ t < N
    · unfold unlE
      rw [if_neg (by rw [name_iff.2 hn]; simp)]
      by_cases hHt : H = t
      · simp [hHt]; omega
      · simp [hHt]
    · have h1 : nameM N t = false := by have := mt name_iff.1 hn; simpa using this
      unfold unlE
      rw [if_pos h1]
      by_cases h2 : 0 ≤ H
      · have : H ≠ t := by rintro rfl; exact hn ⟨h2, h0⟩
        simp [this]
      · simp [h2]

section
variable {I : Mu} {B : Nat → Prop} {w wk : World} {Rs : List Res} {v : Value} {H : Int} {W : List Int} {N : Int}
/-- Same of the list that is told now and one that was told. -/
theorem same_at (h : Sep B w wk Rs) {u u' : Value} {l l' : List Int} (i k : Nat) (hi : Rs[i]? = some (nums u l)) (hk : Rs[k]? = some (nums u' l')) :
    Calls Try.prog 14 #[u, u'] wk fun e wn => e = .returned (.bool (decide (l = l'))) ∧ Sep B w wn Rs := by
  refine (same_b (h.rd i hi) (h.rd k hk)).mono ?_
  rintro e wn ⟨rfl, hb⟩
  exact ⟨rfl, h.next hb⟩
end

set_option maxHeartbeats 8000000 in
set_option maxRecDepth 100000 in
theorem misuse_walk (I : Mu) (A : Option Addr) (len cap : Nat) (zs : List Ac) (d t : Int) (w : World) (hlen : len ≤ 9223372036854775807) (hz : ZsIn w A len cap zs) (ht : In64 t) :
    Calls Try.prog 5 #[.slice A len cap, .agg #[.int .i64 d, .int .i64 t]] w fun e w' => e = .returned (.bool true) ∧ Below w.heap.size w w' := by
  have HT := Lib.hid ht
  have HZ := Lib.hid hz
  have S0 := Lib.hid ((Sep.nil (fun _ => False) w).new (.cells #[.int .i64 d, .int .i64 t] 32))
  clear hz ht
  by_cases h60 : 120 < len
  · go_enter Try.func5, Try.ntmps5
    go_wp2_with fail
    refine (awake_any I _).mono ?_
    rintro e w1 ⟨rfl, hb1⟩
    have S1 := Lib.hid (S0.out.next hb1)
    clear hb1
    go_wp2
    go_ret
    exact ⟨rfl, S1.out.old⟩
  · obtain ⟨hzl, hzr, hzo⟩ := HZ.out (by omega)
    subst hzl
    have HZR := Lib.hid hzr
    have HZO := Lib.hid hzo
    clear hzr hzo HZ
    go_enter Try.func5, Try.ntmps5
    go_wp2_with fail
    refine (awake_any I _).mono ?_
    rintro e w1 ⟨rfl, hb1⟩
    have S1 := Lib.hid (S0.out.next hb1)
    clear hb1 S0
    go_wp2_with fail
    refine (m_new S1.out I 20 (by omega) (by omega)).mono ?_
    rintro e w2 ⟨a, rfl, h2'⟩
    have S2 := Lib.hid h2'
    clear h2' S1
    go_wp2
    go_loopw [28] (fun u wr => ∃ j : Nat, j ≤ zs.length ∧ u = .int .i64 j ∧ Hid (∃ (H : Int) (W : List Int), Sep (fun _ => False) w wr [ob I.O (.pointer (some a)) (H, W, 20), blk w.heap.size (.cells #[.int .i64 d, .int .i64 t] 32)])) (fun u _ => zs.length - (intOf u).toNat)
    case atStart => exact ⟨0, Nat.zero_le _, rfl, _, _, S2.out⟩
    case round =>
      obtain ⟨j, hj, rfl, HS⟩ := hrel
      obtain ⟨H, W, hS⟩ := HS.out
      have SL := Lib.hid hS
      clear HS hS S2
      by_cases hlt : j < zs.length
      · have hx : zs[j]? = some zs[j] := List.getElem?_eq_getElem hlt
        generalize zs[j] = z at hx
        obtain ⟨hd64, ht64⟩ := HZO.out z (List.mem_of_getElem? hx)
        obtain ⟨bb, off, rfl, hbb, c0, c1⟩ := ac_cells HZR.out hx
        have hb := SL.out.old
        have q0 := (hb.cell (p := ⟨bb, off + j * 2, none⟩) hbb).trans c0
        have q1 := (hb.cell (p := ⟨bb, off + j * 2 + 1, none⟩) hbb).trans c1
        obtain ⟨zd, zt⟩ := z
        simp only at q0 q1 ht64
        have S4 := Lib.hid (SL.out.new (.cells #[.int .i64 zd, .int .i64 zt] 32))
        have HT64 := Lib.hid ht64
        clear hx c0 c1 hb SL hd64 ht64
        go_wp2_with fail
        refine (m_do S4.out 1 rfl zd zt HT64.out).mono ?_
        rintro e w5 ⟨rfl, h5⟩
        have SF : Hid (∃ (H : Int) (W : List Int), Sep (fun _ => False) w w5 [ob I.O (.pointer (some a)) (H, W, 20), blk w.heap.size (.cells #[.int .i64 d, .int .i64 t] 32)]) := ⟨_, _, h5.tail⟩
        clear h5 S4 q0 q1
        go_wp2
        go_roundw
        case rel => exact ⟨j + 1, by omega, by go_num, SF⟩
        case measure => simp [intOf]; omega
      · have HP := Lib.hid (misuse_plain (m_ok SL.out 0 rfl) d t)
        clear HZR HZO
        go_wp2_with fail
        refine (m_holder SL.out 0 rfl).mono ?_
        rintro e w5 ⟨rfl, h5, _⟩
        have S5 := Lib.hid h5
        clear h5 SL
        go_wp2_with fail
        refine (m_waiting S5.out 0 rfl).mono ?_
        rintro e w6 ⟨A6, c6, rfl, h6, _⟩
        have S6 := Lib.hid h6
        have a0 : w6.cell? ⟨w.heap.size, 0, none⟩ = some (.int .i64 d) := (cell_block (S6.out.blk_at 2 rfl) 0).trans rfl
        have a1 : w6.cell? ⟨w.heap.size, 1, none⟩ = some (.int .i64 t) := (cell_block (S6.out.blk_at 2 rfl) 1).trans rfl
        clear h6 S5
        obtain ⟨E, hE⟩ : ∃ E, actE H W 20 d t = E := ⟨_, rfl⟩
        obtain ⟨V, hV⟩ : ∃ V, actK H W 20 d t = V := ⟨_, rfl⟩
        obtain ⟨Bo, hBo⟩ : ∃ Bo, actB H W 20 d t = Bo := ⟨_, rfl⟩
        obtain ⟨H2, hH2⟩ : ∃ H2, actH H W 20 d t = H2 := ⟨_, rfl⟩
        obtain ⟨W2, hW2⟩ : ∃ W2, actW H W 20 d t = W2 := ⟨_, rfl⟩
        have KE := Lib.hid hE
        have KV := Lib.hid hV
        have KB := Lib.hid hBo
        have KH := Lib.hid hH2
        have KW := Lib.hid hW2
        rw [hE, hBo, hH2, hW2] at HP
        clear hE hV hBo hH2 hW2
        go_wp2_with fail
        refine (m_do S6.out 1 rfl d t HT.out).mono ?_
        rintro e w7 ⟨rfl, h7⟩
        rw [KV.out, KE.out, KB.out]
        rw [KH.out, KW.out] at h7
        have S7 : Hid (Sep (fun _ => False) w w7 [nums (.slice A6 W.length c6) W, ob I.O (.pointer (some a)) (H2, W2, 20), blk w.heap.size (.cells #[.int .i64 d, .int .i64 t] 32)]) := h7
        clear h7 S6 KV KE KB KH KW a0 a1
        obtain ⟨sm, hsm⟩ : ∃ sm, decide (H2 = H ∧ W2 = W) = sm := ⟨_, rfl⟩
        have KS := Lib.hid hsm
        clear hsm
        go_upto_region 15 with (fail)
        go_cut [14] (fun s14 wx => s14 = .bool sm ∧ Hid (Sep (fun _ => False) w wx [nums (.slice A6 W.length c6) W, ob I.O (.pointer (some a)) (H2, W2, 20), blk w.heap.size (.cells #[.int .i64 d, .int .i64 t] 32)]))
        case first => as_aux_lemma =>
          go_wp2_with fail
          refine (m_holder S7.out 1 rfl).mono ?_
          rintro e w8 ⟨rfl, h8, _⟩
          have S8 := Lib.hid h8
          clear h8 S7
          by_cases hh : H2 = H
          · have e1 : (H2 == H) = true := by simpa using hh
            have hsm : Hid (decide (W2 = W) = sm) := by have := KS.out; simp only [hh, true_and] at this; exact this
            go_wp2_with fail
            refine (m_waiting S8.out 1 rfl).mono ?_
            rintro e w9 ⟨A9, c9, rfl, h9, _⟩
            have S9 := Lib.hid h9
            clear h9 S8
            go_wp2_with fail
            refine (same_at S9.out 0 1 rfl rfl).mono ?_
            rintro e w10 ⟨rfl, h10⟩
            rw [hsm.out]
            have S10 := Lib.hid h10.tail
            clear h10 S9
            go_wp2
            go_meet
            exact ⟨rfl, S10⟩
          · have e1 : (H2 == H) = false := by simpa using hh
            have hsm : Hid (false = sm) := by have := KS.out; simp only [hh, false_and, decide_false] at this; exact this
            go_wp2
            go_meet
            exact ⟨by rw [← hsm.out], S8⟩
        case rest => as_aux_lemma =>
          obtain ⟨rfl, S8⟩ := hcut
          clear S7
          have a0 : wc.cell? ⟨w.heap.size, 0, none⟩ = some (.int .i64 d) := (cell_block (S8.out.blk_at 2 rfl) 0).trans rfl
          have a1 : wc.cell? ⟨w.heap.size, 1, none⟩ = some (.int .i64 t) := (cell_block (S8.out.blk_at 2 rfl) 1).trans rfl
          by_cases h1 : d = 1
          · subst h1
            obtain ⟨p1, p2, _⟩ := HP.out
            obtain ⟨p3, p4, p5⟩ := p2 rfl
            subst p3
            have hx : E ≠ 0 → sm = true := fun h => by rw [← KS.out]; exact decide_eq_true (p1 h)
            have hy : Bo = false → sm = true := fun h => by rw [← KS.out]; exact decide_eq_true ⟨p5 h, rfl⟩
            have hz : (E = 0 ∧ H < 0 ∧ Bo = true) ∨ (E = 0 ∧ ¬ H < 0 ∧ Bo = false ∧ sm = true) ∨ (E ≠ 0 ∧ Bo = false ∧ sm = true) := by
              by_cases hE : E = 0
              · by_cases hH : H < 0
                · exact .inl ⟨hE, hH, by rw [p4]; simp [hE, hH]⟩
                · have hb : Bo = false := by rw [p4]; simp [hH]
                  exact .inr (.inl ⟨hE, hH, hb, hy hb⟩)
              · exact .inr (.inr ⟨hE, by rw [p4]; simp [hE], hx hE⟩)
            clear hx hy p1 p2 p4 p5 KS HP
            rcases hz with ⟨rfl, hH, rfl⟩ | ⟨rfl, hH, rfl, rfl⟩ | ⟨hE, rfl, rfl⟩
            all_goals
              first | have e1 : (E != 0) = true := by simpa using hE | skip
              first | have e2 : (E == 0) = false := by simpa using hE | skip
              go_wp2_with fail
              refine (m_waiting S8.out 1 rfl).mono ?_
              rintro e w9 ⟨A9, c9, rfl, h9, _⟩
              have S9 := Lib.hid h9
              clear h9 S8
              go_wp2_with fail
              refine (same_at S9.out 0 1 rfl rfl).mono ?_
              rintro e w10 ⟨rfl, h10⟩
              rw [decide_eq_true rfl]
              have S10 := Lib.hid h10.tail
              have a0 : w10.cell? ⟨w.heap.size, 0, none⟩ = some (.int .i64 1) := (cell_block (S10.out.blk_at 2 rfl) 0).trans rfl
              have a1 : w10.cell? ⟨w.heap.size, 1, none⟩ = some (.int .i64 t) := (cell_block (S10.out.blk_at 2 rfl) 1).trans rfl
              clear h10 S9
              go_wp2
              go_ret
              exact ⟨rfl, S10.out.old⟩
          · have e1 : (d == 1) = false := by simpa using h1
            obtain ⟨p1, _, p3⟩ := HP.out
            have hx : E ≠ 0 → sm = true := fun h => by rw [← KS.out]; exact decide_eq_true (p1 h)
            have hz : (d ≠ 2 ∧ E = 0) ∨ (d ≠ 2 ∧ E ≠ 0 ∧ sm = true) ∨ (d = 2 ∧ E = 0 ∧ 0 ≤ H ∧ H = t) ∨ (d = 2 ∧ E ≠ 0 ∧ sm = true ∧ ¬ 0 ≤ H) ∨ (d = 2 ∧ E ≠ 0 ∧ sm = true ∧ 0 ≤ H ∧ H ≠ t) := by
              by_cases hd : d = 2
              · have h3 := p3 hd
                by_cases hE : E = 0
                · simp [hE] at h3
                  exact .inr (.inr (.inl ⟨hd, hE, h3.1, h3.2⟩))
                · by_cases h0 : 0 ≤ H
                  · refine .inr (.inr (.inr (.inr ⟨hd, hE, hx hE, h0, fun h => ?_⟩)))
                    rw [decide_eq_false hE, decide_eq_true h0, decide_eq_true h] at h3
                    cases h3
                  · exact .inr (.inr (.inr (.inl ⟨hd, hE, hx hE, h0⟩)))
              · by_cases hE : E = 0
                · exact .inl ⟨hd, hE⟩
                · exact .inr (.inl ⟨hd, hE, hx hE⟩)
            clear hx p1 p3 KS HP h1
            rcases hz with ⟨hd, rfl⟩ | ⟨hd, hE, rfl⟩ | ⟨rfl, rfl, h0, rfl⟩ | ⟨rfl, hE, rfl, h0⟩ | ⟨rfl, hE, rfl, h0, hh⟩
            all_goals
              first | have e2 : (d != 2) = true := by simpa using hd | skip
              first | have e3 : (E != 0) = true := by simpa using hE | skip
              first | have e4 : (E == 0) = false := by simpa using hE | skip
              first | have e5 : (H == t) = false := by simpa using hh | skip
              go_wp2
              go_ret
              exact ⟨rfl, S8.out.old⟩
end Go.Proofs.Ytjgfiiehanggoaa.MutI
