/-
  The walk of the law MutexOne over any package that meets 'Mu': it returns true and leaves old memory as it was. Conditions: none but 'Mu'.
-/
import Derived.Test.YtjgfiiehanggoaaMutMisuse
import Derived.Test.YtjgfiiehanggoaaSlide
namespace Go.Proofs.Ytjgfiiehanggoaa.MutI
open Go.ChangeShapes Go.WideShapes Go.ChangeAt Go.RowKit Mem MutP Hand RefMut

/-- What an act makes of who holds it and who waits, as the law tells it. -/
theorem one_plain {H : Int} {W : List Int} {N : Int} (hok : Ok H W N) (d t : Int) :
    (actE H W N d t ≠ 0 ∧ actH H W N d t = H ∧ actW H W N d t = W) ∨
    (actE H W N d t = 0 ∧ d = 0 ∧ actB H W N d t = false ∧ actH H W N d t = H ∧ actW H W N d t = W ++ [t]) ∨
    (actE H W N d t = 0 ∧ (d = 0 ∨ d = 1) ∧ actB H W N d t = true ∧ H < 0 ∧ W = [] ∧ actH H W N d t = t ∧ actW H W N d t = []) ∨
    (actE H W N d t = 0 ∧ d = 2 ∧ H = t ∧ actK H W N d t = W.headD (-1) ∧ actH H W N d t = W.headD (-1) ∧ actW H W N d t = W.tail) ∨
    (actE H W N d t = 0 ∧ d = 3 ∧ actB H W N d t = true ∧ actH H W N d t = H ∧ actW H W N d t = withoutL W t) ∨
    (actE H W N d t = 0 ∧ (d = 1 ∨ d = 3 ∨ (d ≠ 0 ∧ d ≠ 1 ∧ d ≠ 2 ∧ d ≠ 3)) ∧ actB H W N d t = false ∧ actH H W N d t = H ∧ actW H W N d t = W) := by
  by_cases hE : actE H W N d t = 0
  · rcases (by omega : d = 0 ∨ d = 1 ∨ d = 2 ∨ d = 3 ∨ (d ≠ 0 ∧ d ≠ 1 ∧ d ≠ 2 ∧ d ≠ 3)) with rfl | rfl | rfl | rfl | ⟨d0, d1, d2, d3⟩
    · have hE' : lockE W N t = 0 := hE
      have hn : nameM N t = true ∧ inL W t = false := by
        unfold lockE at hE'
        cases h1 : nameM N t <;> cases h2 : inL W t <;> simp_all
      by_cases hH : H < 0
      · have hb : lockB H W N t = true := by unfold lockB; rw [hn.1, hn.2]; simpa using hH
        have hw : W = [] := hok.idle hH
        exact .inr (.inr (.inl ⟨hE, .inl rfl, hb, hH, hw, by show lockH H W N t = t; unfold lockH; rw [if_pos hb], by show lockW H W N t true = []; unfold lockW waitsB; rw [if_neg (by simp [hH]), hw]⟩))
      · have hb : lockB H W N t = false := by unfold lockB; simp [hH]
        exact .inr (.inl ⟨hE, rfl, hb, by show lockH H W N t = H; unfold lockH; rw [if_neg (by rw [hb]; simp)], by show lockW H W N t true = W ++ [t]; unfold lockW waitsB; rw [if_pos (by simp [hn.1, hn.2, hH])]⟩)
    · have hE' : lockE W N t = 0 := hE
      have hn : nameM N t = true ∧ inL W t = false := by
        unfold lockE at hE'
        cases h1 : nameM N t <;> cases h2 : inL W t <;> simp_all
      by_cases hH : H < 0
      · have hb : lockB H W N t = true := by unfold lockB; rw [hn.1, hn.2]; simpa using hH
        have hw : W = [] := hok.idle hH
        exact .inr (.inr (.inl ⟨hE, .inr rfl, hb, hH, hw, by show lockH H W N t = t; unfold lockH; rw [if_pos hb], hw⟩))
      · have hb : lockB H W N t = false := by unfold lockB; simp [hH]
        exact .inr (.inr (.inr (.inr (.inr ⟨hE, .inl rfl, hb, by show lockH H W N t = H; unfold lockH; rw [if_neg (by rw [hb]; simp)], rfl⟩))))
    · have hE' : unlE H N t = 0 := hE
      have hn : nameM N t = true ∧ H = t := by
        unfold unlE at hE'
        cases h1 : nameM N t <;> by_cases h2 : H = t <;> simp_all
      exact .inr (.inr (.inr (.inl ⟨hE, rfl, hn.2, by show unlV H W N t = _; unfold unlV; rw [if_pos hn], by show unlH H W N t = _; unfold unlH; rw [if_pos hn], by show unlW H W N t = _; unfold unlW; rw [if_pos hn]⟩)))
    · cases hb : inL W t with
      | true => exact .inr (.inr (.inr (.inr (.inl ⟨hE, rfl, hb, rfl, rfl⟩))))
      | false =>
        refine .inr (.inr (.inr (.inr (.inr ⟨hE, .inr (.inl rfl), hb, rfl, ?_⟩))))
        show withoutL W t = W
        unfold withoutL
        refine List.filter_eq_self.2 fun x hx => ?_
        have h1 : t ∉ W := by unfold inL at hb; simpa using hb
        simp only [decide_eq_true_eq]
        rintro rfl
        exact h1 hx
    · have d01 : ¬ (d = 0 ∨ d = 1) := by omega
      refine .inr (.inr (.inr (.inr (.inr ⟨hE, .inr (.inr ⟨d0, d1, d2, d3⟩), by unfold actB; rw [if_neg d01, if_neg d3], by unfold actH; rw [if_neg d01, if_neg d2], by unfold actW; rw [if_neg d0, if_neg d2, if_neg d3]⟩))))
  · exact .inl ⟨hE, (misuse_plain hok d t).1 hE⟩

set_option maxHeartbeats 8000000 in
set_option maxRecDepth 100000 in
theorem one_walk (I : Mu) (A : Option Addr) (len cap : Nat) (zs : List Ac) (w : World) (hlen : len ≤ 9223372036854775807) (hz : ZsIn w A len cap zs) :
    Calls Try.prog 4 #[.slice A len cap] w fun e w' => e = .returned (.bool true) ∧ Below w.heap.size w w' := by
  have HZ := Lib.hid hz
  clear hz
  by_cases h60 : 120 < len
  · go_enter Try.func4, Try.ntmps4
    go_wp2_with fail
    refine (awake_any I _).mono ?_
    rintro e w1 ⟨rfl, hb1⟩
    have HB := Lib.hid hb1
    clear hb1
    go_wp2
    go_ret
    exact ⟨rfl, HB.out⟩
  · obtain ⟨hzl, hzr, hzo⟩ := HZ.out (by omega)
    subst hzl
    have HZR := Lib.hid hzr
    have HZO := Lib.hid hzo
    clear hzr hzo HZ
    go_enter Try.func4, Try.ntmps4
    go_wp2_with fail
    refine (awake_any I _).mono ?_
    rintro e w1 ⟨rfl, hb1⟩
    have S1 := Lib.hid ((Sep.nil (fun _ => False) w).next hb1)
    clear hb1
    go_wp2_with fail
    refine (m_new S1.out I 20 (by omega) (by omega)).mono ?_
    rintro e w2 ⟨a, rfl, h2'⟩
    have S2 := Lib.hid ((h2'.grow0 intE 3).slide 0 rfl)
    clear h2' S1
    go_wp2
    go_loopw [5, 6, 26] (fun u5 u6 u wr => ∃ j : Nat, j ≤ zs.length ∧ u = .int .i64 j ∧ ∃ (H : Int) (W : List Int) (Ar : Option Addr) (cr : Nat), u5 = .int .i64 H ∧ u6 = .slice Ar W.length cr ∧ Hid (Sep (fun _ => False) w wr [slide 3 (.slice Ar W.length cr) W, ob I.O (.pointer (some a)) (H, W, 20)])) (fun _ _ u _ => zs.length - (intOf u).toNat)
    case atStart => exact ⟨0, Nat.zero_le _, rfl, -1, [], _, 0, rfl, rfl, S2.out⟩
    case round =>
      obtain ⟨j, hj, rfl, H, W, Ar, cr, rfl, rfl, SL⟩ := hrel
      clear S2
      by_cases hlt : j < zs.length
      · have hx : zs[j]? = some zs[j] := List.getElem?_eq_getElem hlt
        generalize zs[j] = z at hx
        obtain ⟨hd64, ht64⟩ := HZO.out z (List.mem_of_getElem? hx)
        obtain ⟨bb, off, rfl, hbb, c0, c1⟩ := ac_cells HZR.out hx
        have hb := SL.out.old
        have q0 := (hb.cell (p := ⟨bb, off + j * 2, none⟩) hbb).trans c0
        have q1 := (hb.cell (p := ⟨bb, off + j * 2 + 1, none⟩) hbb).trans c1
        obtain ⟨d, t⟩ := z
        simp only at q0 q1 ht64
        have S4 := Lib.hid (SL.out.new (.cells #[.int .i64 d, .int .i64 t] 32))
        have HT64 := Lib.hid ht64
        have hok := m_ok SL.out 1 rfl
        have hwl := hok.wlen
        have HP := Lib.hid (one_plain hok d t)
        clear hx c0 c1 hb SL hd64 ht64 hok
        obtain ⟨V, hV⟩ : ∃ V, actK H W 20 d t = V := ⟨_, rfl⟩
        obtain ⟨E, hE⟩ : ∃ E, actE H W 20 d t = E := ⟨_, rfl⟩
        obtain ⟨Bo, hBo⟩ : ∃ Bo, actB H W 20 d t = Bo := ⟨_, rfl⟩
        obtain ⟨H2, hH2⟩ : ∃ H2, actH H W 20 d t = H2 := ⟨_, rfl⟩
        obtain ⟨W2, hW2⟩ : ∃ W2, actW H W 20 d t = W2 := ⟨_, rfl⟩
        have KV := Lib.hid hV
        have KE := Lib.hid hE
        have KB := Lib.hid hBo
        have KH := Lib.hid hH2
        have KW := Lib.hid hW2
        rw [hV, hE, hBo, hH2, hW2] at HP
        clear hV hE hBo hH2 hW2
        go_wp2_with fail
        refine (m_do S4.out 2 rfl d t HT64.out).mono ?_
        rintro e w5 ⟨rfl, h5⟩
        rw [KV.out, KE.out, KB.out]
        rw [KH.out, KW.out] at h5
        have S6 : Hid (Sep (fun _ => False) w w5 [slide 3 (.slice Ar W.length cr) W, blk wr.heap.size (.cells #[.int .i64 d, .int .i64 t] 32), ob I.O (.pointer (some a)) (H2, W2, 20)]) := Sep.swap h5
        have a0 : w5.cell? ⟨wr.heap.size, 0, none⟩ = some (.int .i64 d) := (cell_block (S6.out.blk_at 1 rfl) 0).trans rfl
        have a1 : w5.cell? ⟨wr.heap.size, 1, none⟩ = some (.int .i64 t) := (cell_block (S6.out.blk_at 1 rfl) 1).trans rfl
        clear h5 S4 q0 q1 KV KE KB KH KW
        go_upto_block 2 with (fail)
        go_cut [5, 6] (fun s5 s6 wx => s5 = .int .i64 H2 ∧ ∃ A6 c6, s6 = .slice A6 W2.length c6 ∧ Hid (Sep (fun _ => False) w wx [slide 3 (.slice A6 W2.length c6) W2, ob I.O (.pointer (some a)) (H2, W2, 20)]))
        case first => as_aux_lemma =>
          have HSub : Hid (∀ {wx : World} {v : Value} {l : List Int}, Sep (fun _ => False) w wx [slide 3 v l, blk wr.heap.size (.cells #[.int .i64 d, .int .i64 t] 32), ob I.O (.pointer (some a)) (H2, W2, 20)] → Sep (fun _ => False) w wx [slide 3 v l, ob I.O (.pointer (some a)) (H2, W2, 20)]) := fun h => h.sub (.cons_cons _ (.cons _ (List.Sublist.refl _)))
          rcases HP.out with ⟨hE, rfl, rfl⟩ | ⟨rfl, rfl, rfl, rfl, rfl⟩ | ⟨rfl, hd, rfl, hH, rfl, rfl, rfl⟩ | ⟨rfl, rfl, rfl, rfl, rfl, rfl⟩ | ⟨rfl, rfl, rfl, rfl, rfl⟩ | ⟨rfl, hd, rfl, rfl, rfl⟩
          · have e1 : (E != 0) = true := by simpa using hE
            clear HP
            go_wp2
            go_meet
            exact ⟨rfl, _, _, rfl, HSub.out S6.out⟩
          · clear HP
            have HY : Hid ((w5.alloc (.cells #[.int .i64 t] 3)).cell? ⟨w5.heap.size, 0, none⟩ = some (.int .i64 t)) := by show _ = _; rw [cell_block (heap_alloc_new w5 _)]; rfl
            go_wp2_with (at_builtin; refine wpList_appQ rfl _ _ intElemL rfl rfl rfl (S6.out.next (new_below0 _ _)) 0 rfl HY.out (by omega) ?_; intro A3 c3 w6 l3 HL3 h3)
            have S7 := Lib.hid h3
            clear h3
            go_wp2
            go_meet
            have hl := HL3.out
            subst hl
            exact ⟨rfl, _, _, rfl, HSub.out S7.out⟩
          · clear HP
            have e1 : decide (H ≥ 0) = false := by simp; omega
            rcases hd with rfl | rfl
            all_goals
              go_wp2
              go_meet
              exact ⟨rfl, _, _, rfl, HSub.out S6.out⟩
          · clear HP
            cases W with
            | nil =>
              go_wp2
              go_meet
              exact ⟨rfl, _, _, rfl, HSub.out S6.out⟩
            | cons x W =>
              obtain ⟨g, og, rfl, _, hcap, hs⟩ := Sep.snext S6.out 0 rfl
              obtain ⟨g', og', he, _, qg, _⟩ := rd_at (S6.out.srd 0 rfl (by omega)) (i := 0) (by simp)
              injection he with he
              injection he with he1 he2
              subst he1 he2
              have qg : w5.cell? ⟨g, og, none⟩ = some (.int .i64 x) := qg
              have HS := Lib.hid hs
              clear hs
              simp only [List.length_cons, List.headD_cons, List.tail_cons] at *
              go_wp2
              all_goals
                go_meet
                first
                  | exact ⟨rfl, _, _, rfl, HSub.out (HS.out _ (.inl rfl))⟩
                  | (first | subst h | (rename_i h; subst h)); exact ⟨rfl, _, _, rfl, HSub.out (HS.out _ (.inr ⟨rfl, rfl⟩))⟩
          · clear HP
            go_wp2_with fail
            refine (without_g S6.out (S6.out.srd 0 rfl (by omega)) t).mono ?_
            rintro e w6 ⟨A6, c6, rfl, h6, _, _⟩
            have S7 := Lib.hid ((h6.slide 0 rfl).sub (.cons_cons _ (.cons _ (List.Sublist.refl _))))
            clear h6
            go_wp2
            go_meet
            exact ⟨rfl, _, _, rfl, HSub.out S7.out⟩
          · clear HP
            rcases hd with rfl | rfl | ⟨d0, d1, d2, d3⟩
            · go_wp2
              go_meet
              exact ⟨rfl, _, _, rfl, HSub.out S6.out⟩
            · go_wp2
              go_meet
              exact ⟨rfl, _, _, rfl, HSub.out S6.out⟩
            · have e0 : (d == 0) = false := by simpa using d0
              have e1 : (d == 1) = false := by simpa using d1
              have e2 : (d == 2) = false := by simpa using d2
              have e3 : (d == 3) = false := by simpa using d3
              go_wp2
              go_meet
              exact ⟨rfl, _, _, rfl, HSub.out S6.out⟩
        case rest => as_aux_lemma =>
          obtain ⟨rfl, A6, c6, rfl, S7⟩ := hcut
          clear S6 a0 a1 HP
          have hok := m_ok S7.out 1 rfl
          have hwl2 := hok.wlen
          have hidl : H2 < 0 → W2 = [] := hok.idle
          have HID := Lib.hid hidl
          clear hok hidl
          go_wp2_with fail
          refine (m_holder S7.out 1 rfl).mono ?_
          rintro e w6 ⟨rfl, h6, _⟩
          have S8 := Lib.hid h6
          clear h6 S7
          go_wp2_with fail
          refine (m_waiting S8.out 1 rfl).mono ?_
          rintro e w7 ⟨A7, c7, rfl, h7, _⟩
          have S9 := Lib.hid h7
          clear h7 S8
          go_wp2_with fail
          refine (same_d (S9.out.rd 0 rfl) (S9.out.srd 1 rfl (by omega)) rfl).mono ?_
          rintro e w8 ⟨rfl, hb8⟩
          have SF := Lib.hid (S9.out.next hb8).tail
          clear hb8 S9
          have hz : (H2 < 0 ∧ W2 = []) ∨ ¬ H2 < 0 := by by_cases h : H2 < 0; exact .inl ⟨h, HID.out h⟩; exact .inr h
          clear HID
          rcases hz with ⟨hz1, rfl⟩ | hz
          · simp only [List.length_nil] at *
            go_wp2
            go_roundw
            case rel => exact ⟨j + 1, by omega, by go_num, H2, [], A6, c6, rfl, rfl, SF⟩
            case measure => simp [intOf]; omega
          · go_wp2
            go_roundw
            case rel => exact ⟨j + 1, by omega, by go_num, _, _, _, _, rfl, rfl, SF⟩
            case measure => simp [intOf]; omega
      · have HB := Lib.hid SL.out.old
        go_wp2
        go_ret
        exact ⟨rfl, HB.out⟩
end Go.Proofs.Ytjgfiiehanggoaa.MutI
