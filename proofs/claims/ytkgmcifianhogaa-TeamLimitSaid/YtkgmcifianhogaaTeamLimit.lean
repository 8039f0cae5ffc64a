/-
  The walk of the law TeamLimit over any package that meets 'Tm'. Condition: what the arguments read as.
-/
import Derived.Test.YtkgmcifianhogaaTeamMisuse
import Derived.Test.YtkgmcifianhogaaSlide
namespace Go.Proofs.Ytkgmcifianhogaa.TeamI
open Go.ChangeShapes Go.WideShapes Go.ChangeAt Go.RowKit Mem MutP TeamP Hand RefMut RefTeam Acts3

/-- What an act makes, as the law tells it. -/
theorem limit_plain {s : St} (d t k : Int) :
    (actE s d t ≠ 0 ∧ actS s d t k = s) ∨
    (actE s d t = 0 ∧ (d = 0 ∨ d = 1) ∧ actB s d t = true ∧ actS s d t k = { s with A := s.A + 1 }) ∨
    (actE s d t = 0 ∧ d = 1 ∧ actB s d t = false ∧ actS s d t k = s) ∨
    (actE s d t = 0 ∧ d = 0 ∧ actB s d t = false ∧ actS s d t k = { s with C := s.C ++ [t] }) ∨
    (actE s d t = 0 ∧ d = 3 ∧ actB s d t = true ∧ s.A = 0 ∧ actS s d t k = s) ∨
    (actE s d t = 0 ∧ d = 3 ∧ actB s d t = false ∧ s.A ≠ 0 ∧ actS s d t k = { s with W := s.W ++ [t] }) ∨
    (actE s d t = 0 ∧ d = 4 ∧ actB s d t = true ∧ actS s d t k = lvS s t) ∨
    (actE s d t = 0 ∧ d = 4 ∧ actB s d t = false ∧ actS s d t k = s) ∨
    (actE s d t = 0 ∧ d = 2 ∧ s.A ≠ 0 ∧ actS s d t k = endS s k ∧ actR s d k = endR s k) ∨
    (actE s d t = 0 ∧ (d ≠ 0 ∧ d ≠ 1 ∧ d ≠ 2 ∧ d ≠ 3 ∧ d ≠ 4) ∧ (actS s d t k).A = s.A ∧ (actS s d t k).E = s.E ∧ (actS s d t k).C = s.C ∧ (actS s d t k).W = s.W) := by
  rcases (by omega : d = 0 ∨ d = 1 ∨ d = 2 ∨ d = 3 ∨ d = 4 ∨ d = 5 ∨ (d ≠ 0 ∧ d ≠ 1 ∧ d ≠ 2 ∧ d ≠ 3 ∧ d ≠ 4 ∧ d ≠ 5)) with rfl | rfl | rfl | rfl | rfl | rfl | ⟨d0, d1, d2, d3, d4, d5⟩
  · have he : actE s 0 t = askE s t := rfl
    have hs : actS s 0 t k = goS s t := rfl
    have hb : actB s 0 t = goB s t := rfl
    rw [he, hs, hb]
    rcases go_cases s t with ⟨e1, e2, e3⟩ | ⟨e1, _, e2, e3⟩ | ⟨e1, _, e2, e3⟩
    · exact .inl ⟨e1, e3⟩
    · exact .inr (.inl ⟨e1, .inl rfl, e2, e3⟩)
    · exact .inr (.inr (.inr (.inl ⟨e1, rfl, e2, e3⟩)))
  · have hs : actS s 1 t k = tryS s := rfl
    have hb : actB s 1 t = tryB s := rfl
    rw [hs, hb]
    rcases try_cases s with ⟨_, e2, e3⟩ | ⟨_, e2, e3⟩
    · exact .inr (.inl ⟨rfl, .inr rfl, e2, e3⟩)
    · exact .inr (.inr (.inl ⟨rfl, rfl, e2, e3⟩))
  · have he : actE s 2 t = endE s := rfl
    have hs : actS s 2 t k = endS s k := rfl
    have hr : actR s 2 k = endR s k := rfl
    rw [he, hs, hr]
    rcases end_cases s k with ⟨_, e1, e2, e3⟩ | ⟨e0, e1, _⟩ | ⟨e0, e1, _⟩ | ⟨e0, _, e1, _⟩
    · exact .inl ⟨by omega, e3⟩
    · exact .inr (.inr (.inr (.inr (.inr (.inr (.inr (.inr (.inl ⟨e1, rfl, e0, rfl, rfl⟩))))))))
    · exact .inr (.inr (.inr (.inr (.inr (.inr (.inr (.inr (.inl ⟨e1, rfl, by omega, rfl, rfl⟩))))))))
    · exact .inr (.inr (.inr (.inr (.inr (.inr (.inr (.inr (.inl ⟨e1, rfl, e0, rfl, rfl⟩))))))))
  · have he : actE s 3 t = askE s t := rfl
    have hs : actS s 3 t k = wtS s t := rfl
    have hb : actB s 3 t = wtB s t := rfl
    rw [he, hs, hb]
    rcases wt_cases s t with ⟨e1, e2, e3⟩ | ⟨e1, e0, e2, e3⟩ | ⟨e1, e0, e2, e3⟩
    · exact .inl ⟨e1, e3⟩
    · exact .inr (.inr (.inr (.inr (.inl ⟨e1, rfl, e2, e0, e3⟩))))
    · exact .inr (.inr (.inr (.inr (.inr (.inl ⟨e1, rfl, e2, e0, e3⟩)))))
  · have hs : actS s 4 t k = lvS s t := rfl
    have hb : actB s 4 t = TeamP.waitsB s t := rfl
    rw [hs, hb]
    cases hw : TeamP.waitsB s t with
    | true => exact .inr (.inr (.inr (.inr (.inr (.inr (.inl ⟨rfl, rfl, rfl, rfl⟩))))))
    | false =>
      have h1 : t ∉ s.C := fun h => by rw [waits_iff.2 (.inl h)] at hw; cases hw
      have h2 : t ∉ s.W := fun h => by rw [waits_iff.2 (.inr h)] at hw; cases hw
      refine .inr (.inr (.inr (.inr (.inr (.inr (.inr (.inl ⟨rfl, rfl, rfl, ?_⟩)))))))
      unfold lvS
      rw [TeamP.without_id h1, TeamP.without_id h2]
  · have he : actE s 5 t = limE s := rfl
    have hs : actS s 5 t k = limS s t := rfl
    rw [he, hs]
    rcases lim_cases s t with ⟨_, e1, e2⟩ | ⟨e0, eC, e1, e2⟩
    · exact .inl ⟨by omega, e2⟩
    · exact .inr (.inr (.inr (.inr (.inr (.inr (.inr (.inr (.inr ⟨e1, by omega, by rw [e2], by rw [e2], by rw [e2], by rw [e2]⟩))))))))
  · obtain ⟨_, _, e1, e2⟩ := act_no (s := s) (t := t) (k := k) d0 d1 d2 d3 d4 d5
    exact .inr (.inr (.inr (.inr (.inr (.inr (.inr (.inr (.inr ⟨e1, ⟨d0, d1, d2, d3, d4⟩, by rw [e2], by rw [e2], by rw [e2], by rw [e2]⟩))))))))
theorem slide_nil {B : Nat → Prop} {w wk : World} {Rs : List Res} (h : Sep B w wk Rs) (e : TypeId) : Sep B w wk (slide e (.slice none 0 0) [] :: Rs) := (h.growN0 intE e).slide 0 rfl
/-- All but the first of a slice of one's own. -/
theorem run_tail (b off m c : Nat) (_hc : m + 1 ≤ c) :
    ∃ o', (o' = off + 1 ∨ c = 1 ∧ o' = off) ∧ (∀ w, (Instr.sliceAt 33 (.slice (some ⟨b, off, none⟩) (m + 1) c) (some (.int .i64 1)) none none).run Try.prog w = .ok (.slice (some ⟨b, o', none⟩) m (c - 1)) w) ∧ ∀ w, (Instr.slice 33 (.slice (some ⟨b, off, none⟩) (m + 1) c) (some (.int .i64 1)) none none).run Try.prog w = .ok (.slice (some ⟨b, o', none⟩) m (c - 1)) w := by
  refine ⟨if c = 1 then off else off + 1, ?_, fun w => ?_, fun w => ?_⟩
  · by_cases h : c = 1
    · rw [if_pos h]; exact .inr ⟨h, rfl⟩
    · rw [if_neg h]; exact .inl rfl
  · rw [run_sliceAt_slice (h := und1), run_slice_l (ht := und1) (h0 := by omega) (h1 := by omega), size1]
    have h2 : sliced (some ⟨b, off, none⟩) 1 (m + 1) c 1 = .slice (if c = 1 then some ⟨b, off, none⟩ else (some (⟨b, off, none⟩ : Addr)).map (·.add (1 * 1))) m (c - 1) := rfl
    show Result.ok (sliced (some ⟨b, off, none⟩) 1 (m + 1) c 1) w = _
    rw [h2]
    by_cases h : c = 1
    · rw [if_pos h, if_pos h]
    · rw [if_neg h, if_neg h]
      rfl
  · rw [run_slice_l (ht := und1) (h0 := by omega) (h1 := by omega), size1]
    have h2 : sliced (some ⟨b, off, none⟩) 1 (m + 1) c 1 = .slice (if c = 1 then some ⟨b, off, none⟩ else (some (⟨b, off, none⟩ : Addr)).map (·.add (1 * 1))) m (c - 1) := rfl
    show Result.ok (sliced (some ⟨b, off, none⟩) 1 (m + 1) c 1) w = _
    rw [h2]
    by_cases h : c = 1
    · rw [if_pos h, if_pos h]
    · rw [if_neg h, if_neg h]
      rfl


set_option maxHeartbeats 8000000 in
set_option maxRecDepth 100000 in
theorem limit_walk (I : Tm) (A : Option Addr) (len cap : Nat) (zs : List Ac) (w : World) (hlen : len ≤ 9223372036854775807) (hz : ZsIn w A len cap zs) :
    Calls Try.prog 4 #[.slice A len cap] w fun e w' => e = .returned (.bool true) ∧ Below w.heap.size w w' := by
  have HZ := Lib.hid hz
  clear hz
  by_cases h60 : 100 < len
  · go_enter Try.func4, Try.ntmps4
    go_wp2_with fail
    refine (awake_any I _).mono ?_
    rintro e w1 ⟨rfl, hb1⟩
    have HB := Lib.hid hb1
    clear hb1
    go_wp2
    go_ret
    exact ⟨rfl, HB.out⟩
  · obtain ⟨hzl, hzr, hzo⟩ := HZ.out (by omega)
    subst hzl
    have HZR := Lib.hid hzr
    have HZO := Lib.hid hzo
    clear hzr hzo HZ
    go_enter Try.func4, Try.ntmps4
    go_wp2_with fail
    refine (awake_any I _).mono ?_
    rintro e w1 ⟨rfl, hb1⟩
    have S1 := Lib.hid ((Sep.nil (fun _ => False) w).next hb1)
    clear hb1
    go_wp2_with fail
    refine (m_new S1.out I 20 (by omega) (by omega)).mono ?_
    rintro e w2 ⟨a, rfl, h2'⟩
    have hg2 := (h2'.grow0 intE 3).grow0 intE 3
    rw [show (w2.alloc (.cells #[] 3)).heap.size = w2.heap.size + 1 from World.size_alloc ..] at hg2
    have S2 := Lib.hid (((hg2.slide 0 rfl).slide 1 rfl).swap)
    clear h2' S1 hg2
    go_wp2
    go_loopw [5, 6, 7, 8, 32] (fun u5 u6 u7 u8 u wr => ∃ j : Nat, j ≤ zs.length ∧ u = .int .i64 j ∧ ∃ (s : St) (Ac : Option Addr) (cc : Nat) (Aw : Option Addr) (cw : Nat), u5 = .int .i64 s.A ∧ u6 = .int .i64 s.E ∧ u7 = .slice Ac s.C.length cc ∧ u8 = .slice Aw s.W.length cw ∧ Hid (s.A ≤ j) ∧ Hid (Sep (fun _ => False) w wr [slide 3 (.slice Ac s.C.length cc) s.C, slide 3 (.slice Aw s.W.length cw) s.W, ob I.O (.pointer (some a)) s])) (fun _ _ _ _ u _ => zs.length - (intOf u).toNat)
    case atStart => exact ⟨0, Nat.zero_le _, rfl, newS 20, _, 0, _, 0, rfl, rfl, rfl, rfl, by show (0 : Int) ≤ 0; omega, S2.out⟩
    case round =>
      obtain ⟨j, hj, rfl, s, Ac, cc, Aw, cw, rfl, rfl, rfl, rfl, HSA, SL⟩ := hrel
      have HBA : Hid (s.A ≤ 1000000) := by show _ ≤ _; have := HSA.out; omega
      clear S2
      by_cases hlt : j < zs.length
      · have hx : zs[j]? = some zs[j] := List.getElem?_eq_getElem hlt
        generalize zs[j] = z at hx
        obtain ⟨hd64, ht64, hk64⟩ := HZO.out z (List.mem_of_getElem? hx)
        obtain ⟨bb, off, rfl, hbb, c0, c1, c2⟩ := ac_cells HZR.out hx
        have hb := SL.out.old
        have q0 := (hb.cell (p := ⟨bb, off + j * 3, none⟩) hbb).trans c0
        have q1 := (hb.cell (p := ⟨bb, off + j * 3 + 1, none⟩) hbb).trans c1
        have q2 := (hb.cell (p := ⟨bb, off + j * 3 + 2, none⟩) hbb).trans c2
        obtain ⟨d, t, k⟩ := z
        simp only at q0 q1 q2 ht64 hk64
        have S4 := Lib.hid (SL.out.new (.cells #[.int .i64 d, .int .i64 t, .int .i64 k] 32))
        have HT64 := Lib.hid ht64
        have HK64 := Lib.hid hk64
        have hok := m_ok SL.out 2 rfl
        have HOK := Lib.hid hok
        have hln := hok.len
        have HLN := Lib.hid hln
        have HAS : Hid ((actS s d t k).A ≤ ((j + 1 : Nat) : Int)) := by show _ ≤ _; have := act_A hok d t k; have := HSA.out; omega
        have HP := Lib.hid (limit_plain (s := s) d t k)
        clear hx c0 c1 c2 hb SL hd64 ht64 hk64 hok HSA hln
        obtain ⟨E, hE⟩ : ∃ E, actE s d t = E := ⟨_, rfl⟩
        obtain ⟨Bo, hBo⟩ : ∃ Bo, actB s d t = Bo := ⟨_, rfl⟩
        obtain ⟨⟨xc, xl, xf⟩, hR⟩ : ∃ R, actR s d k = R := ⟨_, rfl⟩
        obtain ⟨s2, hs2⟩ : ∃ s2, actS s d t k = s2 := ⟨_, rfl⟩
        have KE := Lib.hid hE
        have KB := Lib.hid hBo
        have KR := Lib.hid hR
        have KS := Lib.hid hs2
        simp only [hE, hBo, hR, hs2] at HP HAS
        clear hE hBo hR hs2
        go_wp2_with fail
        refine (m_do S4.out 3 rfl HBA.out d t k HT64.out HK64.out KR.out KB.out KE.out KS.out).mono ?_
        rintro e w5 ⟨Ao, co, rfl, h5⟩
        have h6 := h5.new (.cells #[.int .i64 xc, .slice Ao xl.length co, .bool xf] 35)
        have S6 : Hid (Sep (fun _ => False) w (w5.alloc (.cells #[.int .i64 xc, .slice Ao xl.length co, .bool xf] 35)) [slide 3 (.slice Ac s.C.length cc) s.C, slide 3 (.slice Aw s.W.length cw) s.W, blk w5.heap.size (.cells #[.int .i64 xc, .slice Ao xl.length co, .bool xf] 35), nums (.slice Ao xl.length co) xl, blk wr.heap.size (.cells #[.int .i64 d, .int .i64 t, .int .i64 k] 32), ob I.O (.pointer (some a)) s2]) := h6.perm (by exact (List.perm_append_comm (l₁ := [_, _, _]) (l₂ := [_, _])).append_right [_])
        clear h5 h6 S4 q0 q1 q2 KE KB KR KS
        have a0 : (w5.alloc (.cells #[.int .i64 xc, .slice Ao xl.length co, .bool xf] 35)).cell? ⟨wr.heap.size, 0, none⟩ = some (.int .i64 d) := (cell_block (S6.out.blk_at 4 rfl) 0).trans rfl
        have a1 : (w5.alloc (.cells #[.int .i64 xc, .slice Ao xl.length co, .bool xf] 35)).cell? ⟨wr.heap.size, 1, none⟩ = some (.int .i64 t) := (cell_block (S6.out.blk_at 4 rfl) 1).trans rfl
        have a2 : (w5.alloc (.cells #[.int .i64 xc, .slice Ao xl.length co, .bool xf] 35)).cell? ⟨wr.heap.size, 2, none⟩ = some (.int .i64 k) := (cell_block (S6.out.blk_at 4 rfl) 2).trans rfl
        obtain ⟨⟨x0, x1, x2⟩, _⟩ := cells3 (S6.out.blk_at 2 rfl)
        have HWQ : Hid (∃ wq, wq = (w5.alloc (.cells #[.int .i64 xc, .slice Ao xl.length co, .bool xf] 35))) := ⟨_, rfl⟩
        go_upto_block 2 with (fail)
        go_cut [5, 6, 7, 8] (fun s5 s6 s7 s8 wx => s5 = .int .i64 s2.A ∧ s6 = .int .i64 s2.E ∧ ∃ A7 c7 A8 c8, s7 = .slice A7 s2.C.length c7 ∧ s8 = .slice A8 s2.W.length c8 ∧ Hid (Sep (fun _ => False) w wx [slide 3 (.slice A7 s2.C.length c7) s2.C, slide 3 (.slice A8 s2.W.length c8) s2.W, ob I.O (.pointer (some a)) s2]))
        case first => as_aux_lemma =>
          rcases HP.out with ⟨hE, rfl⟩ | ⟨rfl, hd, rfl, rfl⟩ | ⟨rfl, rfl, rfl, rfl⟩ | ⟨rfl, rfl, rfl, rfl⟩ | ⟨rfl, rfl, rfl, hA, rfl⟩ | ⟨rfl, rfl, rfl, hA, rfl⟩ | ⟨rfl, rfl, rfl, rfl⟩ | ⟨rfl, rfl, rfl, rfl⟩ | ⟨rfl, rfl, hA, hS, hR⟩ | ⟨rfl, hd, q1, q2, q3, q4⟩
          · have e1 : (E != 0) = true := by simpa using hE
            clear hE
            have S7 := Lib.hid (S6.out.sub (.cons_cons _ (.cons_cons _ (.cons _ (.cons _ (.cons _ (.cons_cons _ (List.Sublist.refl _))))))))
            clear HP S6 HWQ HAS
            go_wp2
            go_meet
            exact ⟨rfl, rfl, _, _, _, _, rfl, rfl, S7⟩
          · obtain ⟨y, hy⟩ : ∃ y, y = s.A + 1 := ⟨_, rfl⟩
            have hw1 : IntKind.i64.wrap (s.A + 1) = y := by rw [hy]; exact IntWalk.i64_in _ (by have := HBA.out; have := HOK.out.a0; omega)
            have HYY := Lib.hid hy
            have S7 := Lib.hid (S6.out.sub (.cons_cons _ (.cons_cons _ (.cons _ (.cons _ (.cons _ (.cons_cons _ (List.Sublist.refl _))))))))
            clear HP HWQ HAS S6 hy
            obtain ⟨y0, hy0⟩ : ∃ y0, y0 = s.A := ⟨_, rfl⟩
            rw [← hy0] at hw1
            simp only [← hy0]
            clear hy0
            rcases hd with rfl | rfl
            all_goals
              go_wp2
              go_meet
              exact ⟨by rw [HYY.out], rfl, _, _, _, _, rfl, rfl, S7⟩
          · skip
            have S7 := Lib.hid (S6.out.sub (.cons_cons _ (.cons_cons _ (.cons _ (.cons _ (.cons _ (.cons_cons _ (List.Sublist.refl _))))))))
            clear HP S6 HWQ HAS
            go_wp2
            go_meet
            exact ⟨rfl, rfl, _, _, _, _, rfl, rfl, S7⟩
          · skip
            have HY : Hid (((w5.alloc (.cells #[.int .i64 xc, .slice Ao xl.length co, .bool xf] 35)).alloc (.cells #[.int .i64 t] 3)).cell? ⟨w5.heap.size + 1, 0, none⟩ = some (.int .i64 t)) := by
              show _ = _
              have h := cell_block (heap_alloc_new (w5.alloc (.cells #[.int .i64 xc, .slice Ao xl.length co, .bool xf] 35)) (.cells #[.int .i64 t] 3)) 0
              rw [World.size_alloc] at h
              exact h
            have hcl : s.C.length + 1 ≤ 1000000 := by have := HLN.out; omega
            clear HP HWQ HAS
            go_wp2_with (at_builtin; refine wpList_appQ rfl _ _ intElemL rfl rfl rfl (S6.out.next (new_below0 _ _)) 0 rfl HY.out hcl ?_; intro A3 c3 w6 l3 HL3 h3)
            have hl3 : l3 = s.C ++ [t] := HL3.out
            have S7 := Lib.hid (h3.sub (.cons_cons _ (.cons_cons _ (.cons _ (.cons _ (.cons _ (.cons_cons _ (List.Sublist.refl _))))))))
            clear h3 HL3 S6
            subst hl3
            go_wp2
            go_meet
            exact ⟨rfl, rfl, _, _, _, _, rfl, rfl, S7⟩
          · rw [hA]
            have HA0 := Lib.hid hA
            have S7 := Lib.hid (S6.out.sub (.cons_cons _ (.cons_cons _ (.cons _ (.cons _ (.cons _ (.cons_cons _ (List.Sublist.refl _))))))))
            clear HP S6 HWQ HAS
            go_wp2
            go_meet
            exact ⟨by rw [HA0.out], rfl, _, _, _, _, rfl, rfl, S7⟩
          · have eA : (s.A == 0) = false := by simpa using hA
            clear hA
            have HY : Hid (((w5.alloc (.cells #[.int .i64 xc, .slice Ao xl.length co, .bool xf] 35)).alloc (.cells #[.int .i64 t] 3)).cell? ⟨w5.heap.size + 1, 0, none⟩ = some (.int .i64 t)) := by
              show _ = _
              have h := cell_block (heap_alloc_new (w5.alloc (.cells #[.int .i64 xc, .slice Ao xl.length co, .bool xf] 35)) (.cells #[.int .i64 t] 3)) 0
              rw [World.size_alloc] at h
              exact h
            have hcl : s.W.length + 1 ≤ 1000000 := by have := HLN.out; omega
            clear HP HWQ HAS
            go_wp2_with (at_builtin; refine wpList_appQ rfl _ _ intElemL rfl rfl rfl (S6.out.next (new_below0 _ _)) 1 rfl HY.out hcl ?_; intro A3 c3 w6 l3 HL3 h3)
            have hl3 : l3 = s.W ++ [t] := HL3.out
            have S7 := Lib.hid (h3.sub (.cons_cons _ (.cons_cons _ (.cons _ (.cons _ (.cons _ (.cons_cons _ (List.Sublist.refl _))))))))
            clear h3 HL3 S6
            subst hl3
            go_wp2
            go_meet
            exact ⟨rfl, rfl, _, _, _, _, rfl, rfl, S7⟩
          · have HW5 : Hid (wr.heap.size < (w5.alloc (.cells #[.int .i64 xc, .slice Ao xl.length co, .bool xf] 35)).heap.size) := lt_of_block (S6.out.blk_at 4 rfl)
            have RC : Hid (Rd (w5.alloc (.cells #[.int .i64 xc, .slice Ao xl.length co, .bool xf] 35)) (fun _ => True) (.slice Ac s.C.length cc) s.C) := S6.out.srd 0 rfl (by have := HLN.out; omega)
            have RW : Hid (Rd (w5.alloc (.cells #[.int .i64 xc, .slice Ao xl.length co, .bool xf] 35)) (fun _ => True) (.slice Aw s.W.length cw) s.W) := S6.out.srd 1 rfl (by have := HLN.out; omega)
            have HB : Hid (Below (w5.alloc (.cells #[.int .i64 xc, .slice Ao xl.length co, .bool xf] 35)).heap.size (w5.alloc (.cells #[.int .i64 xc, .slice Ao xl.length co, .bool xf] 35)) (w5.alloc (.cells #[.int .i64 xc, .slice Ao xl.length co, .bool xf] 35)).drew) := (Below.refl _ _).drew
            have SX : Hid (Sep (fun _ => False) w (w5.alloc (.cells #[.int .i64 xc, .slice Ao xl.length co, .bool xf] 35)).drew _) := S6.out.drew
            have HK : Hid (∀ Q, Below (w5.alloc (.cells #[.int .i64 xc, .slice Ao xl.length co, .bool xf] 35)).heap.size (w5.alloc (.cells #[.int .i64 xc, .slice Ao xl.length co, .bool xf] 35)) Q → Q.cell? ⟨wr.heap.size, 1, none⟩ = some (.int .i64 t)) := fun Q hb => (hb.cell (p := ⟨wr.heap.size, 1, none⟩) HW5.out).trans a1
            clear HP HWQ HAS x0 x1 x2
            go_upto_region 23 with (fail)
            go_region_held3 (fun Q => Q.cell? ⟨wr.heap.size, 1, none⟩ = some (.int .i64 t)) (go_keep)
              (first
                | (go_at_call 21; (with_reducible refine (without_g SX.out (RC.out.below HB.out) t).mono ?_); rintro e w11 ⟨AC, cC, rfl, hX, hb11, _⟩; have SX := Lib.hid hX; have HB := Lib.hid (HB.out.trans (hb11.mono HB.out.size)); have a1 := HK.out _ HB.out; clear hX hb11)
                | (go_at_call 21; (with_reducible refine (without_g SX.out (RW.out.below HB.out) t).mono ?_); rintro e w11 ⟨AW, cW, rfl, hX, hb11, _⟩; have SX := Lib.hid hX; have HB := Lib.hid (HB.out.trans (hb11.mono HB.out.size)); have a1 := HK.out _ HB.out; clear hX hb11))
            all_goals
              go_wp2_with fail
              go_meet
              refine ⟨rfl, rfl, AC, cC, AW, cW, rfl, rfl, ?_⟩
              first
                | exact ((SX.out.slide 0 rfl).slide 1 rfl).sub (.cons_cons _ (.cons_cons _ (.cons _ (.cons _ (.cons _ (.cons _ (.cons _ (.cons_cons _ (List.Sublist.refl _)))))))))
                | exact ((SX.out.slide 0 rfl).slide 1 rfl).swap.sub (.cons_cons _ (.cons_cons _ (.cons _ (.cons _ (.cons _ (.cons _ (.cons _ (.cons_cons _ (List.Sublist.refl _)))))))))
          · skip
            have S7 := Lib.hid (S6.out.sub (.cons_cons _ (.cons_cons _ (.cons _ (.cons _ (.cons _ (.cons_cons _ (List.Sublist.refl _))))))))
            clear HP S6 HWQ HAS
            go_wp2
            go_meet
            exact ⟨rfl, rfl, _, _, _, _, rfl, rfl, S7⟩
          · have HEC := Lib.hid (err_cases s k)
            have HCC := Lib.hid (end_cases s k)
            obtain ⟨E', hE'⟩ : ∃ E', errOf s k = E' := ⟨_, rfl⟩
            obtain ⟨f, hf⟩ : ∃ f, decide (k ≠ 0 ∧ s.E = 0) = f := ⟨_, rfl⟩
            simp only [hE', hf] at HEC HCC
            clear hE' hf
            have HXF : Hid (xf = f) := by
              show _ = _
              rcases HCC.out with ⟨h, _⟩ | ⟨_, _, x, l, _, q, _⟩ | ⟨_, _, _, q, _⟩ | ⟨_, _, _, _, q, _⟩
              · exact absurd h hA
              all_goals
                rw [q] at hR
                injection hR
            obtain rfl := HXF.out
            have HS := Lib.hid hS
            have HR := Lib.hid hR
            have ha0 := HOK.out.a0
            have hab := HBA.out
            have hcs := HOK.out.cs
            have HWB : Hid ((w5.alloc (.cells #[.int .i64 xc, .slice Ao xl.length co, .bool xf] 35)) = (w5.alloc (.cells #[.int .i64 xc, .slice Ao xl.length co, .bool xf] 35))) := rfl
            obtain ⟨wq, hwq⟩ : ∃ wq : World, wq = (w5.alloc (.cells #[.int .i64 xc, .slice Ao xl.length co, .bool xf] 35)) := ⟨_, rfl⟩
            rw [← hwq] at S6 a0 a1 a2 x0 x1 x2 ⊢
            obtain ⟨y, hy⟩ : ∃ y, y = s.A := ⟨_, rfl⟩
            obtain ⟨e, he⟩ : ∃ e, e = s.E := ⟨_, rfl⟩
            have HY := Lib.hid hy
            have HE := Lib.hid he
            simp only [← hy, ← he] at hA ha0 hab HEC ⊢
            have HA := Lib.hid hA
            have eA : (y == 0) = false := by simpa using hA
            clear HP HWQ HAS HWB hwq hS hR HXF hA hy he a1
            go_upto_region 25 with (fail)
            go_cut [124] (fun s124 wx => s124 = .bool false ∧ wx = wq)
            case first => as_aux_lemma =>
              clear HCC HOK HLN HS HR S6 hcs
              by_cases hk : k = 0
              · have hx : xf = false := by
                  rcases HEC.out with ⟨h, _⟩ | ⟨h, _⟩ | ⟨_, h, _⟩
                  · exact absurd hk h
                  · exact absurd hk h
                  · exact h
                subst hx hk
                by_cases hz : e = 0
                · have ez : (e == 0) = true := by simpa using hz
                  subst hz
                  clear HEC
                  go_wp2
                  go_meet
                  exact ⟨rfl, rfl⟩
                · have ez : (e == 0) = false := by simpa using hz
                  clear HEC hz
                  go_wp2
                  go_meet
                  exact ⟨rfl, rfl⟩
              · have ek : (k != 0) = true := by simpa using hk
                by_cases hz : e = 0
                · have hx : xf = true := by
                    rcases HEC.out with ⟨_, _, h, _⟩ | ⟨_, h, _⟩ | ⟨h, _⟩
                    · exact h
                    · exact absurd hz h
                    · exact absurd h hk
                  subst hx hz
                  clear HEC hk
                  go_wp2
                  go_meet
                  exact ⟨rfl, rfl⟩
                · have hx : xf = false := by
                    rcases HEC.out with ⟨_, h, _⟩ | ⟨_, _, h, _⟩ | ⟨h, _⟩
                    · exact absurd h hz
                    · exact h
                    · exact absurd h hk
                  have ez : (e == 0) = false := by simpa using hz
                  subst hx
                  clear HEC hk hz
                  go_wp2
                  go_meet
                  exact ⟨rfl, rfl⟩
            case rest => as_aux_lemma =>
            obtain ⟨rfl, rfl⟩ := hcut
            obtain ⟨b0, hb0⟩ : ∃ b0, (e == 0) = b0 := ⟨_, rfl⟩
            have HB0 := Lib.hid hb0
            clear hb0
            go_upto_region 27 with (fail)
            go_cut [126] (fun s126 wx => s126 = .bool b0 ∧ wx = wc)
            case first => as_aux_lemma =>
              clear HCC HOK HLN HS HR S6 hcs HEC
              go_wp2
              go_meet
              exact ⟨by rw [HB0.out], rfl⟩
            case rest => as_aux_lemma =>
            obtain ⟨rfl, rfl⟩ := hcut
            go_upto_if 126 with (fail)
            go_cut [6] (fun s6 wx => s6 = .int .i64 E' ∧ wx = wc)
            case first => as_aux_lemma =>
              clear HCC HOK HLN HS HR S6 hcs
              cases b0 with
              | true =>
                have h0 : e = 0 := by have := HB0.out; simpa using this
                have HEK : Hid (k = E') := by
                  show _ = _
                  rcases HEC.out with ⟨_, _, _, h⟩ | ⟨_, h, _⟩ | ⟨h, _, h2⟩
                  · exact h.symm
                  · exact absurd h0 h
                  · rw [h2, h, h0]
                clear HEC HB0 h0
                go_wp2
                go_meet
                exact ⟨by rw [HEK.out], rfl⟩
              | false =>
                have h0 : e ≠ 0 := by have := HB0.out; simpa using this
                have HEK : Hid (e = E') := by
                  show _ = _
                  rcases HEC.out with ⟨_, h, _⟩ | ⟨_, _, _, h⟩ | ⟨_, _, h⟩
                  · exact absurd h h0
                  · exact h.symm
                  · exact h.symm
                clear HEC HB0 h0
                go_wp2
                go_meet
                exact ⟨by rw [HEK.out], rfl⟩
            case rest => as_aux_lemma =>
            obtain ⟨rfl, rfl⟩ := hcut
            clear HEC HB0 a0 a2 x2
            obtain ⟨z, hz⟩ : ∃ z, z = y - 1 := ⟨_, rfl⟩
            have hw1 : IntKind.i64.wrap (y - 1) = z := by rw [hz]; exact IntWalk.i64_in _ (by omega)
            have hw2 : IntKind.i64.wrap (z + 1) = y := by rw [hz, show y - 1 + 1 = y by omega]; exact IntWalk.i64_in _ (by omega)
            rcases HCC.out with ⟨h, _⟩ | ⟨_, _, x, l, hC, q, q'⟩ | ⟨h1, _, hC, q, q'⟩ | ⟨h0, h1, _, hC, q, q'⟩
            · exact absurd (HY.out.trans h) HA.out
            · have hr := HR.out
              rw [q] at hr
              injection hr with r1 r2 _
              have HQ : Hid (s2.A = y ∧ s2.E = E' ∧ s2.C = l ∧ s2.W = s.W) := by
                have h := HS.out
                rw [q'] at h
                rw [h, HY.out]
                exact ⟨rfl, rfl, rfl, rfl⟩
              have hx0 := (hcs x (by rw [hC]; exact List.mem_cons_self ..)).1
              have h6 := S6.out
              rw [hC] at h6
              obtain ⟨g, og, rfl, _, hcap, hs⟩ := Sep.snext h6 0 rfl
              obtain ⟨g', og', he, _, qg, _⟩ := rd_at (h6.srd 0 rfl (by have := HLN.out; rw [hC] at this; omega)) (i := 0) (by simp)
              injection he with he
              injection he with he1 he2
              subst he1 he2
              have qg : wc.cell? ⟨g, og, none⟩ = some (.int .i64 x) := qg
              rw [List.length_cons] at hcap
              obtain ⟨o', ho', hr1, hr2⟩ := run_tail g og l.length cc hcap
              have S7 : Hid (∀ n, Sep (fun _ => False) w (wc.drewN n) [slide 3 (.slice (some ⟨g, o', none⟩) l.length (cc - 1)) l, slide 3 (.slice Aw s.W.length cw) s.W, ob I.O (.pointer (some a)) s2]) := fun n => ((hs o' ho').drewN n).sub (.cons_cons _ (.cons_cons _ (.cons _ (.cons _ (.cons _ (.cons_cons _ (List.Sublist.refl _)))))))
              have hl : s.C.length = l.length + 1 := by rw [hC]; rfl
              subst r1 r2
              simp only [List.length_nil] at x1
              have d1 : decide (0 ≤ xc) = true := decide_eq_true hx0
              have d2 : decide (0 < (l.length : Int) + 1) = true := decide_eq_true (by omega)
              have d3 : decide (0 < l.length + 1) = true := decide_eq_true (by omega)
              have d4 : decide (0 < y) = true := decide_eq_true (by have := HA.out; omega)
              have d5 : (xc != xc) = false := by simp
              simp only [hl]
              clear HCC HOK HLN HS HR S6 hcs q q' hs h6 hC hl hz hx0 ho' HY HE HA ha0 hab
              go_upto_region 30 with (fail)
              go_quiet ((fail))
              go_wp2
              go_meet
              obtain ⟨q1, q2, q3, q4⟩ := HQ.out
              rw [q1, q2, q3, q4]
              exact ⟨rfl, rfl, _, _, _, _, rfl, rfl, S7.out _⟩
            · have hr := HR.out
              rw [q] at hr
              injection hr with r1 r2 _
              have HQ : Hid (s2.A = 0 ∧ s2.E = E' ∧ s2.C = [] ∧ s2.W = []) := by
                have h := HS.out
                rw [q'] at h
                rw [h]
                exact ⟨rfl, rfl, hC, rfl⟩
              obtain rfl : y = 1 := HY.out.trans h1
              obtain rfl : z = 0 := by omega
              have h6 := S6.out
              rw [hC] at h6
              have hlw := HLN.out
              obtain ⟨W, hW⟩ : ∃ W, W = s.W := ⟨_, rfl⟩
              rw [← hW] at h6 r2 hlw
              simp only [← hW]
              subst r1 r2
              have S7 : Hid (∀ n, Sep (fun _ => False) w (wc.drewN n) [slide 3 (.slice Ac 0 cc) [], slide 3 (.slice Aw xl.length cw) xl, blk w5.heap.size (.cells #[.int .i64 (-1), .slice Ao xl.length co, .bool xf] 35), nums (.slice Ao xl.length co) xl, ob I.O (.pointer (some a)) s2]) := fun n => (h6.drewN n).sub (.cons_cons _ (.cons_cons _ (.cons_cons _ (.cons_cons _ (.cons _ (.cons_cons _ (List.Sublist.refl _)))))))
              have hl : s.C.length = 0 := by rw [hC]; rfl
              have X1 : Hid (∀ n, (wc.drewN n).cell? ⟨w5.heap.size, 1, none⟩ = some (.slice Ao xl.length co)) := fun n => x1
              simp only [hl]
              have HLW : Hid (xl.length ≤ 1000000) := by show _ ≤ _; omega
              clear HCC HOK HLN HS HR S6 hcs q q' h6 hC hl HY HE HA ha0 hab hlw hW h1 hz
              go_upto_region 30 with (fail)
              go_quiet ((fail))
              go_wp2_with fail
              refine (same_d ((S7.out _).rd 3 rfl) ((S7.out _).srd 1 rfl HLW.out) rfl).mono ?_
              rintro e w6 ⟨rfl, hb6⟩
              have S8 := Lib.hid (slide_nil ((S7.out _).next hb6) 3)
              clear hb6 S7
              go_wp2
              go_meet
              obtain ⟨q1, q2, q3, q4⟩ := HQ.out
              rw [q1, q2, q3, q4]
              exact ⟨rfl, rfl, _, _, _, _, rfl, rfl, S8.out.swap.sub (.cons_cons _ (.cons_cons _ (.cons _ (.cons _ (.cons _ (.cons_cons _ (List.Sublist.refl _)))))))⟩
            · have hr := HR.out
              rw [q] at hr
              injection hr with r1 r2 _
              have HQ : Hid (s2.A = z ∧ s2.E = E' ∧ s2.C = [] ∧ s2.W = s.W) := by
                have h := HS.out
                rw [q'] at h
                rw [h, hz, HY.out]
                exact ⟨rfl, rfl, hC, rfl⟩
              have h6 := S6.out
              rw [hC] at h6
              subst r1 r2
              simp only [List.length_nil] at x1
              have S7 : Hid (∀ n, Sep (fun _ => False) w (wc.drewN n) [slide 3 (.slice Ac 0 cc) [], slide 3 (.slice Aw s.W.length cw) s.W, ob I.O (.pointer (some a)) s2]) := fun n => (h6.drewN n).sub (.cons_cons _ (.cons_cons _ (.cons _ (.cons _ (.cons _ (.cons_cons _ (List.Sublist.refl _)))))))
              have hl : s.C.length = 0 := by rw [hC]; rfl
              have hz0 : 0 < z := by have := HY.out; have := HA.out; omega
              have d4 : decide (0 < z) = true := decide_eq_true hz0
              have d5 : (z == 0) = false := by simp; omega
              simp only [hl]
              clear HCC HOK HLN HS HR S6 hcs q q' h6 hC hl HY HE HA ha0 hab h1 h0 hz hz0 hw2
              go_upto_region 30 with (fail)
              go_quiet ((fail))
              go_wp2
              go_meet
              obtain ⟨q1, q2, q3, q4⟩ := HQ.out
              rw [q1, q2, q3, q4]
              exact ⟨rfl, rfl, _, _, _, _, rfl, rfl, S7.out _⟩
          · obtain ⟨d0, d1, d2, d3, d4⟩ := hd
            have e0 : (d == 0) = false := by simpa using d0
            have e1 : (d == 1) = false := by simpa using d1
            have e2 : (d == 2) = false := by simpa using d2
            have e3 : (d == 3) = false := by simpa using d3
            have e4 : (d == 4) = false := by simpa using d4
            have HQ : Hid (s2.A = s.A ∧ s2.E = s.E ∧ s2.C = s.C ∧ s2.W = s.W) := ⟨q1, q2, q3, q4⟩
            clear d0 d1 d2 d3 d4 q1 q2 q3 q4
            have S7 := Lib.hid (S6.out.sub (.cons_cons _ (.cons_cons _ (.cons _ (.cons _ (.cons _ (.cons_cons _ (List.Sublist.refl _))))))))
            clear HP S6 HWQ HAS
            go_wp2
            go_meet
            obtain ⟨q1, q2, q3, q4⟩ := HQ.out
            rw [q1, q2, q3, q4]
            exact ⟨rfl, rfl, _, _, _, _, rfl, rfl, S7⟩
        case rest => as_aux_lemma =>
          obtain ⟨rfl, rfl, A7, c7, A8, c8, rfl, rfl, S7⟩ := hcut
          clear S6 a0 a1 a2 x0 x1 x2 HP HLN HOK HWQ
          have hok := m_ok S7.out 2 rfl
          have hln := hok.len
          have hcs : (s2.L < 0 ∧ s2.C.length = 0) ∨ (0 ≤ s2.L ∧ s2.A ≤ s2.L) := by
            by_cases h : s2.L < 0
            · refine .inl ⟨h, ?_⟩
              by_cases hc : s2.C = []
              · rw [hc]; rfl
              · have := hok.full hc; omega
            · exact .inr ⟨by omega, hok.la (by omega)⟩
          clear hok
          have RC : Hid (Rd wc (fun _ => True) (.slice A7 s2.C.length c7) s2.C) := S7.out.srd 0 rfl (by omega)
          have RW : Hid (Rd wc (fun _ => True) (.slice A8 s2.W.length c8) s2.W) := S7.out.srd 1 rfl (by omega)
          have eA : (s2.A != s2.A) = false := by simp
          have eE : (s2.E != s2.E) = false := by simp
          go_wp2_with fail
          refine (m_lim S7.out 2 rfl).mono ?_
          rintro e w8 ⟨rfl, h8, hb8⟩
          have S8 := Lib.hid h8
          have RC : Hid (Rd w8 (fun _ => True) (.slice A7 s2.C.length c7) s2.C) := RC.out.below hb8
          have RW : Hid (Rd w8 (fun _ => True) (.slice A8 s2.W.length c8) s2.W) := RW.out.below hb8
          clear h8 hb8 S7
          go_wp2_with fail
          refine (m_waiting S8.out 2 rfl).mono ?_
          rintro e w9 ⟨A9, c9, A9', c9', rfl, h9, hb9⟩
          have S9 := Lib.hid h9
          have RC : Hid (Rd w9 (fun _ => True) (.slice A7 s2.C.length c7) s2.C) := RC.out.below hb9
          have RW : Hid (Rd w9 (fun _ => True) (.slice A8 s2.W.length c8) s2.W) := RW.out.below hb9
          clear h9 hb9 S8
          have hds : (decide (0 ≤ s2.L) = false ∧ decide (s2.L < 0) = true ∧ decide (0 < s2.C.length) = false ∧ decide (0 < (s2.C.length : Int)) = false) ∨ (decide (0 ≤ s2.L) = true ∧ decide (s2.L < 0) = false ∧ decide (s2.L < s2.A) = false) := by
            rcases hcs with ⟨h, hl⟩ | ⟨h, hl⟩
            · exact .inl ⟨decide_eq_false (by omega), decide_eq_true h, decide_eq_false (by omega), decide_eq_false (by omega)⟩
            · exact .inr ⟨decide_eq_true h, decide_eq_false (by omega), decide_eq_false (by omega)⟩
          clear hcs
          rcases hds with ⟨h, hl, h2, h3⟩ | ⟨h, hl, h2⟩
          all_goals
            go_wp2_with fail
            refine (m_active S9.out 3 rfl).mono ?_
            rintro e w10 ⟨rfl, h10, hb10⟩
            have S10 := Lib.hid h10
            have RC : Hid (Rd w10 (fun _ => True) (.slice A7 s2.C.length c7) s2.C) := RC.out.below hb10
            have RW : Hid (Rd w10 (fun _ => True) (.slice A8 s2.W.length c8) s2.W) := RW.out.below hb10
            clear h10 hb10 S9
            go_wp2_with fail
            refine (m_first S10.out 3 rfl).mono ?_
            rintro e w11 ⟨rfl, h11, hb11⟩
            have S11 := Lib.hid h11
            have RC : Hid (Rd w11 (fun _ => True) (.slice A7 s2.C.length c7) s2.C) := RC.out.below hb11
            have RW : Hid (Rd w11 (fun _ => True) (.slice A8 s2.W.length c8) s2.W) := RW.out.below hb11
            clear h11 hb11 S10
            go_wp2_with fail
            refine (same_d (S11.out.rd2 0 rfl).1 RC.out rfl).mono ?_
            rintro e w12 ⟨rfl, hb12⟩
            have S12 := Lib.hid (S11.out.next hb12)
            have RW : Hid (Rd w12 (fun _ => True) (.slice A8 s2.W.length c8) s2.W) := RW.out.below hb12
            clear hb12 S11 RC
            go_wp2_with fail
            refine (same_d (S12.out.rd2 0 rfl).2 RW.out rfl).mono ?_
            rintro e w13 ⟨rfl, hb13⟩
            have S13 := Lib.hid (S12.out.next hb13).tail
            clear hb13 S12 RW eA eE
            go_wp2
            go_roundw
            case rel => exact ⟨j + 1, by omega, by go_num, s2, _, _, _, _, rfl, rfl, rfl, rfl, HAS, S13⟩
            case measure => simp [intOf]; omega
      · have HB := Lib.hid SL.out.old
        go_wp2
        go_ret
        exact ⟨rfl, HB.out⟩
end Go.Proofs.Ytkgmcifianhogaa.TeamI
