/-
  The walk of the law OnceOnce over any package that meets 'On'. Condition: what the arguments read as.
-/
import Derived.Test.YtlepedhfnkamkaaOnceM
import Derived.Test.YtlepedhfnkamkaaActs
import Derived.Test.YtlepedhfnkamkaaSlide
import Derived.Deep.DeepCutAuto
import Derived.Deep.CutBlock
namespace Go.Proofs.Ytlepedhfnkamkaa.OnceI
open Go.ChangeShapes Go.WideShapes Go.ChangeAt Go.RowKit Mem MutP OnceP Hand RefMut RefOnce Acts

/-- What an act makes of who does it and who waits, as the law tells it. -/
theorem one_plain {S D : Int} {W : List Int} {N : Int} (hok : OnceP.Ok S D W N) (d t : Int) :
    (actE D W N d t ≠ 0 ∧ actK S D W N d t = 0 ∧ actL D W N d t = [] ∧ actS S D W N d t = S ∧ actD S D W N d t = D ∧ actW S D W N d t = W) ∨
    (actE D W N d t = 0 ∧ d = 0 ∧ S = 0 ∧ W = [] ∧ actK S D W N d t = 0 ∧ actS S D W N d t = 1 ∧ actD S D W N d t = t ∧ actW S D W N d t = [] ∧ 0 ≤ t) ∨
    (actE D W N d t = 0 ∧ d = 0 ∧ S = 1 ∧ actK S D W N d t = 1 ∧ actS S D W N d t = 1 ∧ actD S D W N d t = D ∧ actW S D W N d t = W ++ [t]) ∨
    (actE D W N d t = 0 ∧ d = 0 ∧ actK S D W N d t = 2 ∧ actS S D W N d t = S ∧ actD S D W N d t = D ∧ actW S D W N d t = W) ∨
    (actE D W N d t = 0 ∧ d = 1 ∧ S = 1 ∧ D = t ∧ 0 ≤ t ∧ actL D W N d t = W ∧ actS S D W N d t = 2 ∧ actD S D W N d t = -1 ∧ actW S D W N d t = []) ∨
    (actE D W N d t = 0 ∧ d = 2 ∧ actB W d t = true ∧ actS S D W N d t = S ∧ actD S D W N d t = D ∧ actW S D W N d t = withoutL W t) ∨
    (actE D W N d t = 0 ∧ (d = 2 ∨ (d ≠ 0 ∧ d ≠ 1 ∧ d ≠ 2)) ∧ actB W d t = false ∧ actS S D W N d t = S ∧ actD S D W N d t = D ∧ actW S D W N d t = W) := by
  rcases (by omega : d = 0 ∨ d = 1 ∨ d = 2 ∨ (d ≠ 0 ∧ d ≠ 1 ∧ d ≠ 2)) with rfl | rfl | rfl | ⟨d0, d1, d2⟩
  · rcases beg_cases hok t with ⟨he, g0, g1, g2, g3⟩ | ⟨he, rfl, rfl, rfl, g0, g1, g2, g3, t0, t1⟩ | ⟨he, rfl, hD, hne, hn, g0, g1, g2, g3, t0, t1⟩ | ⟨he, rfl, rfl, rfl, g0, g1, g2, g3⟩
    · exact .inl ⟨he, g0, rfl, g1, g2, g3⟩
    · exact .inr (.inl ⟨he, rfl, rfl, rfl, g0, g1, g2, g3, t0⟩)
    · exact .inr (.inr (.inl ⟨he, rfl, rfl, g0, g1, g2, g3⟩))
    · exact .inr (.inr (.inr (.inl ⟨he, rfl, g0, g1, g2, g3⟩)))
  · rcases end_cases hok t with ⟨he, g0, g1, g2, g3⟩ | ⟨he, hD, hS, t0, t1, g0, g1, g2, g3⟩
    · exact .inl ⟨he, rfl, g0, g1, g2, g3⟩
    · exact .inr (.inr (.inr (.inr (.inl ⟨he, rfl, hS, hD, t0, g0, g1, g2, g3⟩))))
  · cases hb : inL W t with
    | true => exact .inr (.inr (.inr (.inr (.inr (.inl ⟨rfl, rfl, hb, rfl, rfl, rfl⟩)))))
    | false => exact .inr (.inr (.inr (.inr (.inr (.inr ⟨rfl, .inl rfl, hb, rfl, rfl, without_id hb⟩)))))
  · obtain ⟨_, g1, _, g3, g4, g5, g6⟩ := act_no (S := S) (D := D) (W := W) (N := N) (t := t) d0 d1 d2
    exact .inr (.inr (.inr (.inr (.inr (.inr ⟨g3, .inr ⟨d0, d1, d2⟩, g1, g4, g5, g6⟩)))))

/-- By whom it was begun, and how often it was ended, as the law keeps it. -/
def Kept (S D y c : Int) : Prop := (S = 0 ∧ y = -1 ∧ c = 0) ∨ (S = 1 ∧ y = D ∧ 0 ≤ y ∧ c = 0) ∨ (S = 2 ∧ 0 ≤ y ∧ c = 1)
theorem slide_nil {B : Nat → Prop} {w wk : World} {Rs : List Res} (h : Sep B w wk Rs) (e : TypeId) : Sep B w wk (slide e (.slice none 0 0) [] :: Rs) := (h.growN0 intE e).slide 0 rfl

set_option maxHeartbeats 8000000 in
set_option maxRecDepth 100000 in
theorem one_walk (I : On) (A : Option Addr) (len cap : Nat) (zs : List Ac) (w : World) (hlen : len ≤ 9223372036854775807) (hz : ZsIn w A len cap zs) :
    Calls Try.prog 4 #[.slice A len cap] w fun e w' => e = .returned (.bool true) ∧ Below w.heap.size w w' := by
  have HZ := Lib.hid hz
  clear hz
  by_cases h60 : 80 < len
  · go_enter Try.func4, Try.ntmps4
    go_wp2_with fail
    refine (awake_any I _).mono ?_
    rintro e w1 ⟨rfl, hb1⟩
    have HB := Lib.hid hb1
    clear hb1
    go_wp2
    go_ret
    exact ⟨rfl, HB.out⟩
  · obtain ⟨hzl, hzr, hzo⟩ := HZ.out (by omega)
    subst hzl
    have HZR := Lib.hid hzr
    have HZO := Lib.hid hzo
    clear hzr hzo HZ
    go_enter Try.func4, Try.ntmps4
    go_wp2_with fail
    refine (awake_any I _).mono ?_
    rintro e w1 ⟨rfl, hb1⟩
    have S1 := Lib.hid ((Sep.nil (fun _ => False) w).next hb1)
    clear hb1
    go_wp2_with fail
    refine (m_new S1.out I 20 (by omega) (by omega)).mono ?_
    rintro e w2 ⟨a, rfl, h2'⟩
    have S2 := Lib.hid ((h2'.grow0 intE 3).slide 0 rfl)
    clear h2' S1
    have KP0 : Hid (Kept 0 (-1) (-1) 0) := .inl ⟨rfl, rfl, rfl⟩
    go_wp2
    go_loopw [5, 6, 7, 28] (fun u5 u6 u7 u wr => ∃ j : Nat, j ≤ zs.length ∧ u = .int .i64 j ∧ ∃ (S D : Int) (W : List Int) (y c : Int) (Ar : Option Addr) (cr : Nat), u5 = .int .i64 y ∧ u6 = .int .i64 c ∧ u7 = .slice Ar W.length cr ∧ Hid (Kept S D y c) ∧ Hid (Sep (fun _ => False) w wr [slide 3 (.slice Ar W.length cr) W, ob I.O (.pointer (some a)) (S, D, W, 20)])) (fun _ _ _ u _ => zs.length - (intOf u).toNat)
    case atStart => exact ⟨0, Nat.zero_le _, rfl, 0, -1, [], -1, 0, _, 0, rfl, rfl, rfl, KP0, S2.out⟩
    case round =>
      obtain ⟨j, hj, rfl, S, D, W, y, c, Ar, cr, rfl, rfl, rfl, KP, SL⟩ := hrel
      clear S2 KP0
      by_cases hlt : j < zs.length
      · have hx : zs[j]? = some zs[j] := List.getElem?_eq_getElem hlt
        generalize zs[j] = z at hx
        obtain ⟨hd64, ht64⟩ := HZO.out z (List.mem_of_getElem? hx)
        obtain ⟨bb, off, rfl, hbb, c0, c1⟩ := ac_cells HZR.out hx
        have hb := SL.out.old
        have q0 := (hb.cell (p := ⟨bb, off + j * 2, none⟩) hbb).trans c0
        have q1 := (hb.cell (p := ⟨bb, off + j * 2 + 1, none⟩) hbb).trans c1
        obtain ⟨d, t⟩ := z
        simp only at q0 q1 ht64
        have S4 := Lib.hid (SL.out.new (.cells #[.int .i64 d, .int .i64 t] 32))
        have HT64 := Lib.hid ht64
        have hok := m_ok SL.out 1 rfl
        have hwl := hok.wlen
        have HP := Lib.hid (one_plain hok d t)
        clear hx c0 c1 hb SL hd64 ht64 hok
        obtain ⟨K, hK⟩ : ∃ K, actK S D W 20 d t = K := ⟨_, rfl⟩
        obtain ⟨E, hE⟩ : ∃ E, actE D W 20 d t = E := ⟨_, rfl⟩
        obtain ⟨Bo, hBo⟩ : ∃ Bo, actB W d t = Bo := ⟨_, rfl⟩
        obtain ⟨L2, hL2⟩ : ∃ L2, actL D W 20 d t = L2 := ⟨_, rfl⟩
        obtain ⟨S2, hS2⟩ : ∃ S2, actS S D W 20 d t = S2 := ⟨_, rfl⟩
        obtain ⟨D2, hD2⟩ : ∃ D2, actD S D W 20 d t = D2 := ⟨_, rfl⟩
        obtain ⟨W2, hW2⟩ : ∃ W2, actW S D W 20 d t = W2 := ⟨_, rfl⟩
        have KK := Lib.hid hK
        have KE := Lib.hid hE
        have KB := Lib.hid hBo
        have KL := Lib.hid hL2
        have KS := Lib.hid hS2
        have KD := Lib.hid hD2
        have KW := Lib.hid hW2
        rw [hK, hE, hBo, hL2, hS2, hD2, hW2] at HP
        clear hK hE hBo hL2 hS2 hD2 hW2
        go_wp2_with fail
        refine (m_do S4.out 2 rfl d t HT64.out).mono ?_
        rw [KK.out, KE.out, KB.out, KL.out, KS.out, KD.out, KW.out]
        rintro e w5 ⟨Ao, co, rfl, h5⟩
        have S6 : Hid (Sep (fun _ => False) w w5 [slide 3 (.slice Ar W.length cr) W, nums (.slice Ao L2.length co) L2, blk wr.heap.size (.cells #[.int .i64 d, .int .i64 t] 32), ob I.O (.pointer (some a)) (S2, D2, W2, 20)]) := Sep.perm h5 (by exact (List.perm_append_comm (l₁ := [_, _]) (l₂ := [_])).append_right [_])
        have a0 : w5.cell? ⟨wr.heap.size, 0, none⟩ = some (.int .i64 d) := (cell_block (S6.out.blk_at 2 rfl) 0).trans rfl
        have a1 : w5.cell? ⟨wr.heap.size, 1, none⟩ = some (.int .i64 t) := (cell_block (S6.out.blk_at 2 rfl) 1).trans rfl
        clear h5 S4 q0 q1 KK KE KB KL KS KD KW
        go_upto_block 2 with (fail)
        go_cut [5, 6, 7] (fun s5 s6 s7 wx => ∃ y2 c2 A7 c7, s5 = .int .i64 y2 ∧ s6 = .int .i64 c2 ∧ s7 = .slice A7 W2.length c7 ∧ Hid (Kept S2 D2 y2 c2) ∧ Hid (Sep (fun _ => False) w wx [slide 3 (.slice A7 W2.length c7) W2, ob I.O (.pointer (some a)) (S2, D2, W2, 20)]))
        case first => as_aux_lemma =>
          have HSub : Hid (∀ {wx : World} {v u : Value} {l l' : List Int}, Sep (fun _ => False) w wx [slide 3 v l, nums u l', blk wr.heap.size (.cells #[.int .i64 d, .int .i64 t] 32), ob I.O (.pointer (some a)) (S2, D2, W2, 20)] → Sep (fun _ => False) w wx [slide 3 v l, ob I.O (.pointer (some a)) (S2, D2, W2, 20)]) := fun h => h.sub (.cons_cons _ (.cons _ (.cons _ (List.Sublist.refl _))))
          rcases HP.out with ⟨hE, rfl, rfl, rfl, rfl, rfl⟩ | ⟨rfl, rfl, rfl, rfl, rfl, rfl, rfl, rfl, ht0⟩ | ⟨rfl, rfl, rfl, rfl, rfl, rfl, rfl⟩ | ⟨rfl, rfl, rfl, rfl, rfl, rfl⟩ | ⟨rfl, rfl, rfl, rfl, ht0, rfl, rfl, rfl, rfl⟩ | ⟨rfl, rfl, rfl, rfl, rfl, rfl⟩ | ⟨rfl, hd, rfl, rfl, rfl, rfl⟩
          · have e1 : (E != 0) = true := by simpa using hE
            clear HP
            go_wp2
            go_meet
            exact ⟨_, _, _, _, rfl, rfl, rfl, KP, HSub.out S6.out⟩
          · clear HP
            obtain ⟨rfl, rfl⟩ : y = -1 ∧ c = 0 := by rcases KP.out with ⟨_, h1, h2⟩ | ⟨h0, _⟩ | ⟨h0, _⟩ <;> omega
            have KN : Hid (Kept 1 D2 D2 0) := .inr (.inl ⟨rfl, rfl, ht0, rfl⟩)
            go_wp2
            go_meet
            exact ⟨_, _, _, _, rfl, rfl, rfl, KN, HSub.out S6.out⟩
          · clear HP
            have HY : Hid ((w5.alloc (.cells #[.int .i64 t] 3)).cell? ⟨w5.heap.size, 0, none⟩ = some (.int .i64 t)) := by show _ = _; rw [cell_block (heap_alloc_new w5 _)]; rfl
            go_wp2_with (at_builtin; refine wpList_appQ rfl _ _ intElemL rfl rfl rfl (S6.out.next (new_below0 _ _)) 0 rfl HY.out (by omega) ?_; intro A3 c3 w6 l3 HL3 h3)
            have S7 := Lib.hid h3
            clear h3
            go_wp2
            go_meet
            have hl := HL3.out
            subst hl
            exact ⟨_, _, _, _, rfl, rfl, rfl, KP, HSub.out S7.out⟩
          · clear HP
            go_wp2
            go_meet
            exact ⟨_, _, _, _, rfl, rfl, rfl, KP, HSub.out S6.out⟩
          · clear HP
            obtain ⟨rfl, rfl⟩ : y = D ∧ c = 0 := by rcases KP.out with ⟨h0, _⟩ | ⟨_, h1, _, h2⟩ | ⟨h0, _⟩ <;> omega
            have KN : Hid (Kept 2 (-1) y 1) := .inr (.inr ⟨rfl, ht0, rfl⟩)
            have e1 : (y != y) = false := by simp
            go_wp2_with fail
            refine (same_d (S6.out.rd 1 rfl) (S6.out.srd 0 rfl (by omega)) rfl).mono ?_
            rintro e w6 ⟨rfl, hb6⟩
            have S7 := Lib.hid (slide_nil (S6.out.next hb6).tail 3)
            clear hb6
            go_wp2
            go_meet
            exact ⟨_, _, _, _, rfl, rfl, rfl, KN, HSub.out S7.out⟩
          · clear HP
            go_wp2_with fail
            refine (without_g S6.out (S6.out.srd 0 rfl (by omega)) t).mono ?_
            rintro e w6 ⟨A6, c6, rfl, h6, _, _⟩
            have S7 := Lib.hid ((h6.slide 0 rfl).sub (.cons_cons _ (.cons _ (List.Sublist.refl _))))
            clear h6
            go_wp2
            go_meet
            exact ⟨_, _, _, _, rfl, rfl, rfl, KP, HSub.out S7.out⟩
          · clear HP
            rcases hd with rfl | ⟨d0, d1, d2⟩
            · go_wp2
              go_meet
              exact ⟨_, _, _, _, rfl, rfl, rfl, KP, HSub.out S6.out⟩
            · have e0 : (d == 0) = false := by simpa using d0
              have e1 : (d == 1) = false := by simpa using d1
              have e2 : (d == 2) = false := by simpa using d2
              clear d0 d1 d2
              go_wp2
              go_meet
              exact ⟨_, _, _, _, rfl, rfl, rfl, KP, HSub.out S6.out⟩
        case rest => as_aux_lemma =>
          obtain ⟨y2, c2, A7, c7, rfl, rfl, rfl, KP2, S7⟩ := hcut
          clear S6 a0 a1 HP KP
          have hok := m_ok S7.out 1 rfl
          have hwl2 := hok.wlen
          have hcs : (S2 = 0 ∧ W2 = [] ∧ y2 = -1 ∧ c2 = 0) ∨ (S2 = 1 ∧ W2 = [] ∧ 0 ≤ y2 ∧ c2 = 0) ∨ (S2 = 1 ∧ (∃ x W, W2 = x :: W) ∧ 0 ≤ y2 ∧ c2 = 0) ∨ (S2 = 2 ∧ W2 = [] ∧ 0 ≤ y2 ∧ c2 = 1) := by
            rcases KP2.out with ⟨h0, h1, h2⟩ | ⟨h0, h1, h2, h3⟩ | ⟨h0, h1, h2⟩
            · rcases hok.is with ⟨h4, _⟩ | ⟨_, _, h5⟩
              · omega
              · exact .inl ⟨h0, h5, h1, h2⟩
            · cases W2 with
              | nil => exact .inr (.inl ⟨h0, rfl, h2, h3⟩)
              | cons x W => exact .inr (.inr (.inl ⟨h0, ⟨x, W, rfl⟩, h2, h3⟩))
            · rcases hok.is with ⟨h4, _⟩ | ⟨_, _, h5⟩
              · omega
              · exact .inr (.inr (.inr ⟨h0, h5, h1, h2⟩))
          clear hok
          rcases hcs with ⟨rfl, rfl, rfl, rfl⟩ | ⟨rfl, rfl, hy, rfl⟩ | ⟨rfl, ⟨x, W, rfl⟩, hy, rfl⟩ | ⟨rfl, rfl, hy, rfl⟩
          · go_wp2_with fail
            refine (m_waiting S7.out 1 rfl).mono ?_
            rintro e w7 ⟨A8, c8, rfl, h7, _⟩
            have S9 := Lib.hid h7
            clear h7 S7
            go_wp2_with fail
            refine (same_d (S9.out.rd 0 rfl) (S9.out.srd 1 rfl (by simp)) rfl).mono ?_
            rintro e w8 ⟨rfl, hb8⟩
            have SF := Lib.hid (S9.out.next hb8).tail
            clear hb8 S9
            go_wp2_with fail
            refine (m_state SF.out 1 rfl).mono ?_
            rintro e w9 ⟨rfl, h9, _⟩
            have SG := Lib.hid h9
            clear h9 SF
            go_wp2_with fail
            refine (m_state SG.out 1 rfl).mono ?_
            rintro e w10 ⟨rfl, h10, _⟩
            have SH := Lib.hid h10
            clear h10 SG
            go_wp2
            go_roundw
            case rel => exact ⟨j + 1, by omega, by go_num, _, _, [], _, _, _, _, rfl, rfl, rfl, KP2, SH⟩
            case measure => simp [intOf]; omega
          · have dy : decide (y2 < 0) = false := by simp; omega
            go_wp2_with fail
            refine (m_waiting S7.out 1 rfl).mono ?_
            rintro e w7 ⟨A8, c8, rfl, h7, _⟩
            have S9 := Lib.hid h7
            clear h7 S7
            go_wp2_with fail
            refine (same_d (S9.out.rd 0 rfl) (S9.out.srd 1 rfl (by simp)) rfl).mono ?_
            rintro e w8 ⟨rfl, hb8⟩
            have SF := Lib.hid (S9.out.next hb8).tail
            clear hb8 S9
            go_wp2_with fail
            refine (m_state SF.out 1 rfl).mono ?_
            rintro e w9 ⟨rfl, h9, _⟩
            have SG := Lib.hid h9
            clear h9 SF
            go_wp2_with fail
            refine (m_state SG.out 1 rfl).mono ?_
            rintro e w10 ⟨rfl, h10, _⟩
            have SH := Lib.hid h10
            clear h10 SG
            go_wp2
            go_roundw
            case rel => exact ⟨j + 1, by omega, by go_num, _, _, [], _, _, _, _, rfl, rfl, rfl, KP2, SH⟩
            case measure => simp [intOf]; omega
          · have dy : decide (y2 < 0) = false := by simp; omega
            go_wp2_with fail
            refine (m_waiting S7.out 1 rfl).mono ?_
            rintro e w7 ⟨A8, c8, rfl, h7, _⟩
            have S9 := Lib.hid h7
            clear h7 S7
            go_wp2_with fail
            refine (same_d (S9.out.rd 0 rfl) (S9.out.srd 1 rfl (by omega)) rfl).mono ?_
            rintro e w8 ⟨rfl, hb8⟩
            have SF := Lib.hid (S9.out.next hb8).tail
            clear hb8 S9
            go_wp2_with fail
            refine (m_state SF.out 1 rfl).mono ?_
            rintro e w9 ⟨rfl, h9, _⟩
            have SG := Lib.hid h9
            clear h9 SF
            go_wp2_with fail
            refine (m_state SG.out 1 rfl).mono ?_
            rintro e w10 ⟨rfl, h10, _⟩
            have SH := Lib.hid h10
            clear h10 SG
            simp only [List.length_cons] at hwl2 ⊢
            go_wp2_with fail
            refine (m_state SH.out 1 rfl).mono ?_
            rintro e w11 ⟨rfl, h11, _⟩
            have SI := Lib.hid h11
            clear h11 SH
            go_wp2
            go_roundw
            case rel => exact ⟨j + 1, by omega, by go_num, _, _, x :: W, _, _, _, _, rfl, rfl, rfl, KP2, SI⟩
            case measure => simp [intOf]; omega
          · have dy : decide (y2 < 0) = false := by simp; omega
            go_wp2_with fail
            refine (m_waiting S7.out 1 rfl).mono ?_
            rintro e w7 ⟨A8, c8, rfl, h7, _⟩
            have S9 := Lib.hid h7
            clear h7 S7
            go_wp2_with fail
            refine (same_d (S9.out.rd 0 rfl) (S9.out.srd 1 rfl (by simp)) rfl).mono ?_
            rintro e w8 ⟨rfl, hb8⟩
            have SF := Lib.hid (S9.out.next hb8).tail
            clear hb8 S9
            go_wp2_with fail
            refine (m_state SF.out 1 rfl).mono ?_
            rintro e w9 ⟨rfl, h9, _⟩
            have SG := Lib.hid h9
            clear h9 SF
            go_wp2_with fail
            refine (m_state SG.out 1 rfl).mono ?_
            rintro e w10 ⟨rfl, h10, _⟩
            have SH := Lib.hid h10
            clear h10 SG
            go_wp2
            go_roundw
            case rel => exact ⟨j + 1, by omega, by go_num, _, _, [], _, _, _, _, rfl, rfl, rfl, KP2, SH⟩
            case measure => simp [intOf]; omega
      · have HB := Lib.hid SL.out.old
        go_wp2
        go_ret
        exact ⟨rfl, HB.out⟩
end Go.Proofs.Ytlepedhfnkamkaa.OnceI
