/-
  The walk of the law SemaSum over any package that meets 'Sg'. Condition: what the arguments read as.
-/
import Derived.Test.YtaplikopapnlpaaSemaM
import Derived.Test.YtaplikopapnlpaaActs3
import Derived.Test.YtaplikopapnlpaaRowV
import Derived.Deep.DeepCutAuto
import Derived.Deep.CutBlock
namespace Go.Proofs.Ytaplikopapnlpaa.SemaI
open Go.ChangeShapes Go.WideShapes Go.ChangeAt Go.RowKit Mem MutP SemaP Hand RefMut RefSema FitsC Acts3 RowV

/-- What each asked for, in a row of twenty. -/
def row20 (g : Int → Int) : Array Value := rowV 20 fun i => .int .i64 (g (i : Int))
theorem built20 : Try.prog.built 52 [] = some (row20 fun _ => 0) := by kernel_rfl
theorem zero20 : (Try.prog.info? 52).map (·.zero) = some (some (.agg (row20 fun _ => 0))) := by kernel_rfl
theorem size20 : (Try.prog.info? 52).map (·.size) = some 20 := by kernel_rfl
theorem row20_set (g : Int → Int) (i : Nat) (x : Int) : (row20 g).setIfInBounds i (.int .i64 x) = row20 (updF g (i : Int) x) := by
  unfold row20
  rw [row_set]
  congr 1
  funext j
  unfold updF
  by_cases h : j = i
  · subst h; rw [if_pos rfl, if_pos rfl]
  · rw [if_neg h, if_neg (by omega)]
section
variable {ops : Array Oper} {rest : List Oper} {o : Oper} {a : Act} {w : World} {Q : Exit → Act → World → Prop}
theorem wl_store20 (hg : o.guard = none) (x y : Operand) (ho : o.op = .store 52 x y) (g : Nat) (f : Int → Int) (hx : a.eval x = .pointer (some ⟨g, 0, none⟩)) (hy : a.eval y = .agg (row20 f)) (hb : w.heap[g]? = some (.cells (row20 f) 52 (0, 0)))
    (h : wpList Try.prog ops Q rest (a.put o.dst undef) w) : wpList Try.prog ops Q (o :: rest) a w := wl_store hg _ x y ho hx hy hb size20 (fun _ => rfl) h
end

/-- Who is given, one by one: it fits. -/
def okL (C N : Int) (g : Int → Int) : Int → List Int → Prop
  | _, [] => True
  | h, x :: l => (0 ≤ x ∧ x < N) ∧ 0 ≤ g x ∧ h + g x ≤ C ∧ okL C N g (h + g x) l
def endH (g : Int → Int) : Int → List Int → Int
  | h, [] => h
  | h, x :: l => endH g (h + g x) l
theorem giv_ok (C N : Int) (g : Int → Int) : ∀ (W : List Int) (H : Int), (∀ x ∈ W, (0 ≤ x ∧ x < N) ∧ 0 ≤ g x) → okL C N g H (givL C g H W) ∧ endH g H (givL C g H W) = givH C g H W
  | [], _, _ => ⟨trivial, rfl⟩
  | x :: l, H, hx => by
    unfold givL givH
    have h1 := hx x (List.mem_cons_self ..)
    split
    · rename_i hf
      have h2 := giv_ok C N g l (H + g x) fun y hy => hx y (List.mem_cons_of_mem _ hy)
      exact ⟨⟨h1.1, h1.2, hf, h2.1⟩, h2.2⟩
    · exact ⟨trivial, rfl⟩
theorem out_ok {s : St} (h : SemaP.Ok s) : okL s.C s.N s.g s.H (outS s) ∧ endH s.g s.H (outS s) = (givS s).H := giv_ok s.C s.N s.g s.W s.H fun x hx => ⟨h.ws x hx, (h.gw x hx).1⟩
def Gives (s2 : St) (C N H1 : Int) (L : List Int) : Prop := 0 ≤ H1 ∧ H1 ≤ C ∧ okL C N s2.g H1 L ∧ endH s2.g H1 L = s2.H
/-- What an act makes of what is held, as the law tells it. -/
theorem sum_plain {s : St} (hf : Fine s) (d t k : Int) : ∃ H1, Gives (actS s d t k) s.C s.N H1 (actL s d t k) ∧
    ((actE s d t k ≠ 0 ∧ actL s d t k = [] ∧ actB s d t k = false ∧ (actS s d t k).g = s.g ∧ H1 = s.H) ∨
    (actE s d t k = 0 ∧ (d = 0 ∨ d = 1) ∧ actB s d t k = true ∧ 0 ≤ k ∧ s.H + k ≤ s.C ∧ (actS s d t k).g = s.g ∧ H1 = s.H + k) ∨
    (actE s d t k = 0 ∧ d = 0 ∧ actB s d t k = false ∧ 0 ≤ t ∧ t < s.N ∧ (actS s d t k).g = updF s.g t k ∧ H1 = s.H) ∨
    (actE s d t k = 0 ∧ d = 2 ∧ 0 ≤ k ∧ k ≤ s.H ∧ (actS s d t k).g = s.g ∧ H1 = s.H - k) ∨
    (actE s d t k = 0 ∧ ((d = 1 ∧ actB s d t k = false) ∨ d = 3 ∨ d < 0 ∨ 3 < d) ∧ (actS s d t k).g = s.g ∧ H1 = s.H)) := by
  have hok := hf.1
  have h0 := hok.h0
  have h1 := hok.h1
  have hno : ∀ s' : St, s'.H = s.H → Gives s' s.C s.N s.H [] := fun s' e => ⟨h0, h1, trivial, e.symm⟩
  rcases (by omega : d = 0 ∨ d = 1 ∨ d = 2 ∨ d = 3 ∨ (d < 0 ∨ 3 < d)) with rfl | rfl | rfl | rfl | hd
  · have he : actE s 0 t k = askE s t k := rfl
    have hs : actS s 0 t k = askS s t k true := rfl
    have hb : actB s 0 t k = askB s t k := rfl
    have hl : actL s 0 t k = [] := rfl
    rw [he, hs, hb, hl]
    rcases SemaP.ask_cases s t k true with ⟨e1, e2, e3⟩ | ⟨e1, e2, e3, e4, e5, e6⟩ | ⟨_, _, _, _, e, _⟩ | ⟨e1, e2, e3, _, e4, e5⟩ | ⟨e1, e2, e3, _, _, e4, e5⟩
    · exact ⟨s.H, by rw [e3]; exact hno s rfl, .inl ⟨e1, rfl, e2, by rw [e3], rfl⟩⟩
    · exact ⟨s.H + k, by rw [e6]; exact ⟨by omega, e5, trivial, rfl⟩, .inr (.inl ⟨e1, .inl rfl, e2, e4, e5, by rw [e6], rfl⟩)⟩
    · cases e
    · exact ⟨s.H, by rw [e5]; exact hno _ rfl, .inr (.inr (.inl ⟨e1, rfl, e2, (ask_zero e1).1.1, (ask_zero e1).1.2, by rw [e5], rfl⟩))⟩
    · exact ⟨s.H, by rw [e5]; exact hno _ rfl, .inr (.inr (.inl ⟨e1, rfl, e2, (ask_zero e1).1.1, (ask_zero e1).1.2, by rw [e5], rfl⟩))⟩
  · have he : actE s 1 t k = askE s t k := rfl
    have hs : actS s 1 t k = askS s t k false := rfl
    have hb : actB s 1 t k = askB s t k := rfl
    have hl : actL s 1 t k = [] := rfl
    rw [he, hs, hb, hl]
    rcases SemaP.ask_cases s t k false with ⟨e1, e2, e3⟩ | ⟨e1, e2, e3, e4, e5, e6⟩ | ⟨e1, e2, e3, _, _, e4⟩ | ⟨_, _, _, e, _⟩ | ⟨_, _, _, e, _⟩
    · exact ⟨s.H, by rw [e3]; exact hno s rfl, .inl ⟨e1, rfl, e2, by rw [e3], rfl⟩⟩
    · exact ⟨s.H + k, by rw [e6]; exact ⟨by omega, e5, trivial, rfl⟩, .inr (.inl ⟨e1, .inr rfl, e2, e4, e5, by rw [e6], rfl⟩)⟩
    · exact ⟨s.H, by rw [e4]; exact hno s rfl, .inr (.inr (.inr (.inr ⟨e1, .inl ⟨rfl, e2⟩, by rw [e4], rfl⟩)))⟩
    · cases e
    · cases e
  · have he : actE s 2 t k = relE s k := rfl
    have hs : actS s 2 t k = relS s k := rfl
    have hb : actB s 2 t k = false := rfl
    have hl : actL s 2 t k = relL s k := rfl
    rw [he, hs, hb, hl]
    by_cases h : relE s k = 0
    · obtain ⟨g1, g2, g3⟩ := hok.back h
      have hg := out_ok g1
      have e1 : relS s k = givS (backS s k) := by unfold relS; rw [if_pos h]
      have e2 : relL s k = outS (backS s k) := by unfold relL; rw [if_pos h]
      rw [e1, e2]
      exact ⟨s.H - k, ⟨by omega, by omega, hg.1, hg.2⟩, .inr (.inr (.inr (.inl ⟨h, rfl, g2, g3, rfl, rfl⟩)))⟩
    · have e1 : relS s k = s := by unfold relS; rw [if_neg h]
      have e2 : relL s k = [] := by unfold relL; rw [if_neg h]
      rw [e1, e2]
      exact ⟨s.H, hno s rfl, .inl ⟨h, rfl, rfl, rfl, rfl⟩⟩
  · have he : actE s 3 t k = 0 := rfl
    have hs : actS s 3 t k = lvS s t := rfl
    have hl : actL s 3 t k = lvL s t := rfl
    rw [he, hs, hl]
    by_cases h : SemaP.waitsB s t = true
    · have hg := out_ok (hok.drop t)
      have e1 : lvS s t = givS (dropS s t) := by unfold lvS; rw [if_pos h]
      have e2 : lvL s t = outS (dropS s t) := by unfold lvL; rw [if_pos h]
      rw [e1, e2]
      exact ⟨s.H, ⟨h0, h1, hg.1, hg.2⟩, .inr (.inr (.inr (.inr ⟨rfl, .inr (.inl rfl), rfl, rfl⟩)))⟩
    · have e1 : lvS s t = s := by unfold lvS; rw [if_neg h]
      have e2 : lvL s t = [] := by unfold lvL; rw [if_neg h]
      rw [e1, e2]
      exact ⟨s.H, hno s rfl, .inr (.inr (.inr (.inr ⟨rfl, .inr (.inl rfl), rfl, rfl⟩)))⟩
  · obtain ⟨q1, q2, q3, q4⟩ := act_no (s := s) (d := d) (t := t) (k := k) (by omega) (by omega) (by omega) (by omega)
    rw [q1, q2, q3, q4]
    exact ⟨s.H, hno s rfl, .inr (.inr (.inr (.inr ⟨rfl, .inr (.inr hd), rfl, rfl⟩)))⟩
theorem act_C2 (s : St) (d t k : Int) : (actS s d t k).C = s.C := by
  unfold actS
  split
  · rcases SemaP.ask_cases s t k true with ⟨_, _, e⟩ | ⟨_, _, _, _, _, e⟩ | ⟨_, _, _, _, _, e⟩ | ⟨_, _, _, _, _, e⟩ | ⟨_, _, _, _, _, _, e⟩ <;> rw [e]
  · split
    · rcases SemaP.ask_cases s t k false with ⟨_, _, e⟩ | ⟨_, _, _, _, _, e⟩ | ⟨_, _, _, _, _, e⟩ | ⟨_, _, _, _, _, e⟩ | ⟨_, _, _, _, _, _, e⟩ <;> rw [e]
    · split
      · unfold relS; split <;> rfl
      · split
        · unfold lvS; split <;> rfl
        · rfl
theorem act_N2 (s : St) (d t k : Int) : (actS s d t k).N = s.N := by
  unfold actS
  split
  · rcases SemaP.ask_cases s t k true with ⟨_, _, e⟩ | ⟨_, _, _, _, _, e⟩ | ⟨_, _, _, _, _, e⟩ | ⟨_, _, _, _, _, e⟩ | ⟨_, _, _, _, _, _, e⟩ <;> rw [e]
  · split
    · rcases SemaP.ask_cases s t k false with ⟨_, _, e⟩ | ⟨_, _, _, _, _, e⟩ | ⟨_, _, _, _, _, e⟩ | ⟨_, _, _, _, _, e⟩ | ⟨_, _, _, _, _, _, e⟩ <;> rw [e]
    · split
      · unfold relS; split <;> rfl
      · split
        · unfold lvS; split <;> rfl
        · rfl

/-- Those who wait, first who wants, then who is doomed. -/
theorem wd_plain {s : St} (h : SemaP.Ok s) {i : Nat} {x : Int} (hx : (s.W ++ s.D)[i]? = some x) :
    SemaP.waitsB s x = true ∧ wantN s x = s.g x ∧ 0 ≤ x ∧ x < s.N ∧ 0 ≤ s.g x ∧ s.g x ≤ 9223372036854775807 ∧ ((i < s.W.length ∧ s.g x ≤ s.C) ∨ (s.W.length ≤ i ∧ s.C < s.g x)) := by
  have h0 := h.h0
  have h1 := h.h1
  have c1 := h.c1
  by_cases hw : i < s.W.length
  · rw [List.getElem?_append_left hw] at hx
    have hm := List.mem_of_getElem? hx
    have hb : SemaP.waitsB s x = true := waits_iff.2 (.inl hm)
    have hg := h.gw x hm
    have hn := h.ws x hm
    exact ⟨hb, by unfold wantN; rw [if_pos hb], hn.1, hn.2, hg.1, by omega, .inl ⟨hw, hg.2⟩⟩
  · rw [List.getElem?_append_right (by omega)] at hx
    have hm := List.mem_of_getElem? hx
    have hb : SemaP.waitsB s x = true := waits_iff.2 (.inr hm)
    have hg := h.gd x hm
    have hn := h.ds x hm
    exact ⟨hb, by unfold wantN; rw [if_pos hb], hn.1, hn.2, by omega, hg.2, .inr ⟨by omega, hg.1⟩⟩

set_option maxHeartbeats 8000000 in
set_option maxRecDepth 100000 in
theorem sum_walk (I : Sg) (room : Int) (A : Option Addr) (len cap : Nat) (zs : List Ac) (w : World) (hroom : In64 room) (hlen : len ≤ 9223372036854775807) (hz : ZsIn w A len cap zs) :
    Calls Try.prog 4 #[.int .i64 room, .slice A len cap] w fun e w' => e = .returned (.bool true) ∧ Below w.heap.size w w' := by
  have HZ := Lib.hid hz
  obtain ⟨r0, r1⟩ := hroom
  clear hz
  rcases (by omega : 100 < len ∨ (len ≤ 100 ∧ room < 0) ∨ (len ≤ 100 ∧ 0 ≤ room)) with h60 | ⟨h60, hr⟩ | ⟨h60, hr⟩
  · go_enter Try.func4, Try.ntmps4
    go_wp2_with fail
    refine (awake_any I _).mono ?_
    rintro e w1 ⟨rfl, hb1⟩
    have HB := Lib.hid hb1
    clear hb1
    go_wp2
    go_ret
    exact ⟨rfl, HB.out⟩
  · go_enter Try.func4, Try.ntmps4
    go_wp2_with fail
    refine (awake_any I _).mono ?_
    rintro e w1 ⟨rfl, hb1⟩
    have HB := Lib.hid hb1
    clear hb1
    go_wp2
    go_ret
    exact ⟨rfl, HB.out⟩
  · obtain ⟨hzl, hzr, hzo⟩ := HZ.out (by omega)
    subst hzl
    have HZR := Lib.hid hzr
    have HZO := Lib.hid hzo
    clear hzr hzo HZ
    go_enter Try.func4, Try.ntmps4
    go_wp2_with fail
    refine (awake_any I _).mono ?_
    rintro e w1 ⟨rfl, hb1⟩
    have S1 := Lib.hid ((Sep.nil (fun _ => False) w).next hb1)
    clear hb1
    go_wp2_with fail
    refine (m_new S1.out I 20 room (by omega) (by omega) hr r1).mono ?_
    rintro e w2 ⟨a, rfl, h2'⟩
    have S2 := Lib.hid h2'
    clear h2' S1
    go_upto_region 8 with (fail)
    have S4 := Lib.hid (S2.out.new (.cells (row20 fun _ => 0) 52))
    have BB : Hid ((w2.alloc (.cells (row20 fun _ => 0) 52)).heap[w2.heap.size]? = some (.cells (row20 fun _ => 0) 52 (0, 0))) := heap_alloc_new _ _
    go_wp2_with (first | (refine wl_build rfl 52 rfl built20 ?_; simp only [Act.put, List.setIfInBounds_toArray, List.set_cons_zero, List.set_cons_succ]) | (refine wl_alloc rfl 52 rfl zero20 ?_; simp only [Act.put, List.setIfInBounds_toArray, List.set_cons_zero, List.set_cons_succ]) | (refine wl_store20 rfl (.tmp 8) (.tmp 38) rfl _ _ rfl rfl BB.out ?_))
    clear BB
    generalize w2.alloc (.cells (row20 fun _ => 0) 52) = w3 at *
    generalize w2.heap.size = ak at *
    clear S2
    go_wp2
    go_loopw [7, 41] (fun u7 u wr => ∃ j : Nat, j ≤ zs.length ∧ u = .int .i64 j ∧ ∃ (s : St), u7 = .int .i64 s.H ∧ Hid (s.C = room ∧ s.N = 20) ∧ Hid (Sep (fun _ => False) w wr [blk ak (.cells (row20 s.g) 52), ob I.O (.pointer (some a)) s])) (fun _ u _ => zs.length - (intOf u).toNat)
    case atStart => exact ⟨0, Nat.zero_le _, rfl, newS room 20, rfl, ⟨rfl, rfl⟩, S4.out⟩
    case round =>
      obtain ⟨j, hj, rfl, s, rfl, HSC, SL⟩ := hrel
      clear S4
      by_cases hlt : j < zs.length
      · have hx : zs[j]? = some zs[j] := List.getElem?_eq_getElem hlt
        generalize zs[j] = z at hx
        obtain ⟨hd64, ht64, hk64⟩ := HZO.out z (List.mem_of_getElem? hx)
        obtain ⟨bb, off, rfl, hbb, c0, c1, c2⟩ := ac_cells HZR.out hx
        have hb := SL.out.old
        have q0 := (hb.cell (p := ⟨bb, off + j * 3, none⟩) hbb).trans c0
        have q1 := (hb.cell (p := ⟨bb, off + j * 3 + 1, none⟩) hbb).trans c1
        have q2 := (hb.cell (p := ⟨bb, off + j * 3 + 2, none⟩) hbb).trans c2
        obtain ⟨d, t, k⟩ := z
        simp only at q0 q1 q2 ht64 hk64
        have S4 := Lib.hid (SL.out.new (.cells #[.int .i64 d, .int .i64 t, .int .i64 k] 32))
        have HT64 := Lib.hid ht64
        have HK64 := Lib.hid hk64
        have hok := m_ok SL.out 1 rfl
        have h0 := hok.1.h0
        have h1 := hok.1.h1
        have HLL := Lib.hid (actL_len hok d t k)
        obtain ⟨H1, hgv, hP⟩ := sum_plain hok d t k
        rw [HSC.out.1, HSC.out.2] at hgv hP
        rw [HSC.out.1] at h1
        have HGV := Lib.hid hgv
        have HP := Lib.hid hP
        have HAC : Hid ((actS s d t k).C = room ∧ (actS s d t k).N = 20) := ⟨(act_C2 s d t k).trans HSC.out.1, (act_N2 s d t k).trans HSC.out.2⟩
        clear hx c0 c1 c2 hb SL hd64 ht64 hk64 hok hgv hP
        obtain ⟨E, hE⟩ : ∃ E, actE s d t k = E := ⟨_, rfl⟩
        obtain ⟨Bo, hBo⟩ : ∃ Bo, actB s d t k = Bo := ⟨_, rfl⟩
        obtain ⟨L2, hL2⟩ : ∃ L2, actL s d t k = L2 := ⟨_, rfl⟩
        obtain ⟨s2, hs2⟩ : ∃ s2, actS s d t k = s2 := ⟨_, rfl⟩
        have KE := Lib.hid hE
        have KB := Lib.hid hBo
        have KL := Lib.hid hL2
        have KS := Lib.hid hs2
        simp only [hE, hBo, hL2, hs2] at HP HLL HAC HGV
        clear hE hBo hL2 hs2
        go_wp2_with fail
        refine (m_do S4.out 2 rfl d t k HT64.out HK64.out KL.out KB.out KE.out KS.out).mono ?_
        rintro e w5 ⟨Ao, co, rfl, h5⟩
        have S6 : Hid (Sep (fun _ => False) w w5 [nums (.slice Ao L2.length co) L2, blk wr.heap.size (.cells #[.int .i64 d, .int .i64 t, .int .i64 k] 32), blk ak (.cells (row20 s.g) 52), ob I.O (.pointer (some a)) s2]) := h5
        have a0 : w5.cell? ⟨wr.heap.size, 0, none⟩ = some (.int .i64 d) := (cell_block (S6.out.blk_at 1 rfl) 0).trans rfl
        have a1 : w5.cell? ⟨wr.heap.size, 1, none⟩ = some (.int .i64 t) := (cell_block (S6.out.blk_at 1 rfl) 1).trans rfl
        have a2 : w5.cell? ⟨wr.heap.size, 2, none⟩ = some (.int .i64 k) := (cell_block (S6.out.blk_at 1 rfl) 2).trans rfl
        clear h5 S4 q0 q1 q2 KE KB KL KS
        go_upto_block 2 with (fail)
        go_cut [7] (fun s7 wx => s7 = .int .i64 H1 ∧ Hid (Sep (fun _ => False) w wx [nums (.slice Ao L2.length co) L2, blk wr.heap.size (.cells #[.int .i64 d, .int .i64 t, .int .i64 k] 32), blk ak (.cells (row20 s2.g) 52), ob I.O (.pointer (some a)) s2]))
        case first => as_aux_lemma =>
          have HF2 : Hid (∀ v, In64 s.H → In64 k → ∀ b, fitsv s.H k room = b → Calls Try.prog 20 #[.int .i64 s.H, .int .i64 k, .int .i64 room] v fun e w' => e = .returned (.bool b) ∧ v = w') := fun v h1 h2 b hb => fits_is h1 h2 ⟨r0, r1⟩ hb
          generalize hH : s.H = H at *
          rcases HP.out with ⟨hE, hl, hb, hg, rfl⟩ | ⟨rfl, hd, rfl, k0, k1, hg, hz⟩ | ⟨rfl, rfl, rfl, t0, t1, hg, rfl⟩ | ⟨rfl, rfl, k0, k1, hg, hz⟩ | ⟨rfl, hd, hg, rfl⟩
          · have e1 : (E != 0) = true := by simpa using hE
            have HG := Lib.hid hg
            subst hl hb
            clear HP HGV HAC HLL hE hg HF2 hH
            simp only [List.length_nil]
            go_wp2
            go_meet
            exact ⟨rfl, by rw [HG.out]; exact S6⟩
          · have HFI : Hid (Calls Try.prog 20 #[.int .i64 H, .int .i64 k, .int .i64 room] w5 fun e w' => e = .returned (.bool true) ∧ w5 = w') := HF2.out w5 ⟨by omega, by omega⟩ HK64.out true (fits_yes ⟨h0, k0, k1⟩)
            have hw1 : IntKind.i64.wrap (H + k) = H1 := by rw [hz]; exact IntWalk.i64_in _ (by omega)
            have HG := Lib.hid hg
            clear HP HGV HAC HLL hg HF2 hH hz k0 k1 h0 h1
            rcases hd with rfl | rfl
            all_goals
              go_wp2_with fail
              refine HFI.out.mono ?_
              rintro e w6 ⟨rfl, rfl⟩
              go_wp2
              go_meet
              exact ⟨rfl, by rw [HG.out]; exact S6⟩
          · obtain ⟨m, rfl⟩ := Int.eq_ofNat_of_zero_le t0
            have HG := Lib.hid hg
            have hm : m < 20 := by omega
            have S7 : Hid (Sep (fun _ => False) w (w5.setCell ⟨ak, m, none⟩ (.int .i64 k)) [nums (.slice Ao L2.length co) L2, blk wr.heap.size (.cells #[.int .i64 0, .int .i64 (m : Int), .int .i64 k] 32), blk ak (.cells (row20 (updF s.g (m : Int) k)) 52), ob I.O (.pointer (some a)) s2]) := by
              have h := S6.out.set 2 rfl m (.int .i64 k)
              rw [row20_set] at h
              exact h
            have cm : w5.cell? ⟨ak, m, none⟩ = some (.int .i64 (s.g (m : Int))) := row_cell (S6.out.blk_at 2 rfl) hm
            have fm := frozen_block (S6.out.blk_at 2 rfl) m
            have hak := lt_of_block (S6.out.blk_at 2 rfl)
            have m0 : (0 : Int) ≤ (m : Int) := by omega
            have m1 : (m : Int) < 20 := by omega
            have d1 : decide ((m : Int) < 0) = false := decide_eq_false (by omega)
            have d2 : decide ((m : Int) ≥ 20) = false := decide_eq_false (by omega)
            clear HP HGV HAC HLL hg HF2 hH h0 h1 t0 t1 S6
            generalize s.g (m : Int) = y at cm
            go_wp2
            go_meet
            exact ⟨rfl, by rw [HG.out]; exact S7⟩
          · have hw1 : IntKind.i64.wrap (H - k) = H1 := by rw [hz]; exact IntWalk.i64_in _ (by omega)
            have HG := Lib.hid hg
            clear HP HGV HAC HLL hg HF2 hH hz h0 h1
            go_wp2
            go_meet
            exact ⟨rfl, by rw [HG.out]; exact S6⟩
          · have HG := Lib.hid hg
            clear HP HGV HAC HLL hg HF2 hH h0 h1
            rcases hd with ⟨rfl, rfl⟩ | rfl | hd | hd
            · go_wp2
              go_meet
              exact ⟨rfl, by rw [HG.out]; exact S6⟩
            · go_wp2
              go_meet
              exact ⟨rfl, by rw [HG.out]; exact S6⟩
            · have e0 : (d == 0) = false := by rw [beq_eq_false_iff_ne]; omega
              have e2 : (d == 2) = false := by rw [beq_eq_false_iff_ne]; omega
              have d1 : decide (d ≤ 1) = true := decide_eq_true (by omega)
              have d2 : decide (d ≥ 0) = false := decide_eq_false (by omega)
              have d3 : decide (0 ≤ d) = false := decide_eq_false (by omega)
              go_wp2
              go_meet
              exact ⟨rfl, by rw [HG.out]; exact S6⟩
            · have e0 : (d == 0) = false := by rw [beq_eq_false_iff_ne]; omega
              have e2 : (d == 2) = false := by rw [beq_eq_false_iff_ne]; omega
              have d1 : decide (d ≤ 1) = false := decide_eq_false (by omega)
              go_wp2
              go_meet
              exact ⟨rfl, by rw [HG.out]; exact S6⟩
        case rest => as_aux_lemma =>
        obtain ⟨rfl, S7⟩ := hcut
        clear S6 a0 a1 a2 HP
        generalize wr.heap.size = ga at *
        go_wp2
        go_loopw [7, 119] (fun u7 u wq => ∃ (i : Nat) (h : Int), i ≤ L2.length ∧ u = .int .i64 i ∧ u7 = .int .i64 h ∧ Hid (0 ≤ h ∧ h ≤ room ∧ okL room 20 s2.g h (L2.drop i) ∧ endH s2.g h (L2.drop i) = s2.H) ∧ wq = wc) (fun _ u _ => L2.length - (intOf u).toNat)
        case atStart => exact ⟨0, H1, Nat.zero_le _, rfl, rfl, HGV.out, rfl⟩
        case round =>
          obtain ⟨i, h, hi, rfl, rfl, HX, rfl⟩ := hrel
          have hll := HLL.out
          by_cases hlt2 : i < L2.length
          · obtain ⟨b, of, rfl, hbl, q, hg⟩ := rd_at (S7.out.rd 0 rfl) hlt2
            have hdr : L2.drop i = L2.getD i 0 :: L2.drop (i + 1) := by
              rw [List.drop_eq_getElem_cons hlt2, List.getD_eq_getElem?_getD, List.getElem?_eq_getElem hlt2]; rfl
            obtain ⟨x0, x1, x2, x3⟩ := HX.out
            rw [hdr] at x2 x3
            obtain ⟨⟨y0, y1⟩, y2, y3, y4⟩ := x2
            generalize L2.getD i 0 = x at *
            obtain ⟨m, rfl⟩ := Int.eq_ofNat_of_zero_le y0
            have hm : m < 20 := by omega
            have cm : wr.cell? ⟨ak, m, none⟩ = some (.int .i64 (s2.g (m : Int))) := row_cell (S7.out.blk_at 2 rfl) hm
            have HFI : Hid (Calls Try.prog 20 #[.int .i64 h, .int .i64 (s2.g (m : Int)), .int .i64 room] wr fun e w' => e = .returned (.bool true) ∧ wr = w') := fits_is ⟨by omega, by omega⟩ ⟨by omega, by omega⟩ ⟨r0, r1⟩ (fits_yes ⟨x0, y2, y3⟩)
            obtain ⟨z, hz⟩ : ∃ z, z = h + s2.g (m : Int) := ⟨_, rfl⟩
            have hw1 : IntKind.i64.wrap (h + s2.g (m : Int)) = z := by rw [hz]; exact IntWalk.i64_in _ (by omega)
            have HX2 : Hid (0 ≤ z ∧ z ≤ room ∧ okL room 20 s2.g z (L2.drop (i + 1)) ∧ endH s2.g z (L2.drop (i + 1)) = s2.H) := by
              rw [hz]
              exact ⟨by omega, y3, y4, x3⟩
            have m0 : (0 : Int) ≤ (m : Int) := by omega
            have m1 : (m : Int) < 20 := by omega
            have d1 : decide ((m : Int) < 0) = false := decide_eq_false (by omega)
            have d2 : decide ((m : Int) ≥ 20) = false := decide_eq_false (by omega)
            have i0 : (0 : Int) ≤ (i : Int) := by omega
            have i1 : (i : Int) < (L2.length : Int) := by omega
            clear HX hg hdr x0 x1 x3 y0 y1 y2 y3 y4 hz HGV HAC HLL
            generalize s2.g (m : Int) = y at cm HFI hw1
            go_wp2_with fail
            refine HFI.out.mono ?_
            rintro e w6 ⟨rfl, rfl⟩
            go_wp2
            go_roundw
            case rel => exact ⟨i + 1, z, by omega, by go_num, rfl, HX2, trivial⟩
            case measure => simp [intOf]; omega
          · have hh : h = s2.H := by
              obtain ⟨_, _, _, x3⟩ := HX.out
              rw [List.drop_eq_nil_of_le (by omega)] at x3
              exact x3
            subst hh
            have HOK := Lib.hid (m_ok S7.out 3 rfl)
            have h20 := HOK.out.1.h0
            have h21 : s2.H ≤ room := by rw [← HAC.out.1]; exact HOK.out.1.h1
            have HWL := Lib.hid HOK.out.1.len
            clear HX HGV HLL h0 h1
            go_wp2_with fail
            refine (m_waiting S7.out 3 rfl).mono ?_
            rintro e w11 ⟨A11, c11, A11', c11', rfl, h11, _⟩
            have S11 : Hid (Sep (fun _ => False) w w11 [nums2 (.slice A11 s2.W.length c11) (.slice A11' s2.D.length c11') s2.W s2.D, nums (.slice Ao L2.length co) L2, blk ga (.cells #[.int .i64 d, .int .i64 t, .int .i64 k] 32), blk ak (.cells (row20 s2.g) 52), ob I.O (.pointer (some a)) s2]) := h11
            clear h11 S7
            go_wp2_with fail
            refine (m_held S11.out 4 rfl).mono ?_
            rintro e w12 ⟨rfl, h12, _⟩
            have SG : Hid (Sep (fun _ => False) w (w12.alloc (.cells #[] 3)) [grow intE 3 (.slice (some ⟨w12.heap.size, 0, none⟩) 0 0) [], nums2 (.slice A11 s2.W.length c11) (.slice A11' s2.D.length c11') s2.W s2.D, nums (.slice Ao L2.length co) L2, blk ga (.cells #[.int .i64 d, .int .i64 t, .int .i64 k] 32), blk ak (.cells (row20 s2.g) 52), ob I.O (.pointer (some a)) s2]) := h12.grow0 intE 3
            have hHH : (s2.H != s2.H) = false := by simp
            have HRW : Hid (RdL intE (w12.alloc (.cells #[] 3)) (fun _ => True) (.slice A11 s2.W.length c11) s2.W) := rdL_of (SG.out.rd2 1 rfl).1
            have hle1 : ([] : List Int).length + s2.W.length ≤ 1000000 := by have := HWL.out; show 0 + s2.W.length ≤ _; omega
            have hle2 : ∀ l : List Int, Hid (l = [] ++ s2.W) → l.length + s2.D.length ≤ 1000000 := fun l e => by rw [e.out]; have := HWL.out; show s2.W.length + s2.D.length ≤ _; omega
            have HLE2 := Lib.hid hle2
            clear h12 S11 hle2
            go_wp2_with (first
              | (at_builtin; refine wpList_appS rfl _ _ intElemL rfl rfl rfl SG.out 0 rfl HRW.out hle1 ?_; intro A3 c3 w13 l3 HL3 h3; have S13 := Lib.hid h3; have HR13 := Lib.hid (rdL_of (Sep.rd2 S13.out 1 rfl).2); have hl3 := HLE2.out l3 HL3; clear h3)
              | (at_builtin; refine wpList_appS rfl _ _ intElemL rfl rfl rfl S13.out 0 rfl HR13.out hl3 ?_; intro A4 c4 w14 l4 HL4 h4; have S14 := Lib.hid h4; clear h4))
            have hl4 : l4 = s2.W ++ s2.D := by rw [HL4.out, HL3.out]; rfl
            have S15 : Hid (Sep (fun _ => False) w w14 [grow intE 3 (.slice A4 l4.length c4) l4, nums2 (.slice A11 s2.W.length c11) (.slice A11' s2.D.length c11') s2.W s2.D, nums (.slice Ao L2.length co) L2, blk ga (.cells #[.int .i64 d, .int .i64 t, .int .i64 k] 32), blk ak (.cells (row20 s2.g) 52), ob I.O (.pointer (some a)) s2]) := S14.out
            have HL5 := Lib.hid hl4
            have hl5 : l4.length ≤ 1000 := by rw [hl4, List.length_append]; exact HWL.out
            clear S14 S13 SG HR13 HRW HL4 HL3 hl3 hl4 HLE2 hle1 hHH
            go_wp2
            go_loopw [168] (fun u wq => ∃ i : Nat, i ≤ l4.length ∧ u = .int .i64 i ∧ Hid (Sep (fun _ => False) w wq [grow intE 3 (.slice A4 l4.length c4) l4, nums2 (.slice A11 s2.W.length c11) (.slice A11' s2.D.length c11') s2.W s2.D, nums (.slice Ao L2.length co) L2, blk ga (.cells #[.int .i64 d, .int .i64 t, .int .i64 k] 32), blk ak (.cells (row20 s2.g) 52), ob I.O (.pointer (some a)) s2])) (fun u _ => l4.length - (intOf u).toNat)
            case atStart => exact ⟨0, Nat.zero_le _, rfl, S15⟩
            case round =>
              obtain ⟨i, hi, rfl, SI⟩ := hrel
              clear S15
              by_cases hlt3 : i < l4.length
              · have hrd := rd_of ((SI.out.own 0 rfl).rd (G := fun _ => True) (by omega) fun _ _ => trivial)
                obtain ⟨b, of, rfl, hbl, q, hg⟩ := rd_at hrd hlt3
                rw [HL5.out] at hg
                obtain ⟨p1, p2, p3, p4, p5, p6, p7⟩ := wd_plain HOK.out.1 (i := i) hg
                rw [← HL5.out] at hg p1 p2 p3 p4 p5 p6 p7
                generalize l4.getD i 0 = x at *
                obtain ⟨m, rfl⟩ := Int.eq_ofNat_of_zero_le p3
                have hm : m < 20 := by rw [HAC.out.2] at p4; omega
                have m0 : (0 : Int) ≤ (m : Int) := by omega
                have m1 : (m : Int) < 20 := by omega
                have d1 : decide ((m : Int) < 0) = false := decide_eq_false (by omega)
                have d2 : decide ((m : Int) ≥ 20) = false := decide_eq_false (by omega)
                have i0 : (0 : Int) ≤ (i : Int) := by omega
                have i1 : (i : Int) < (l4.length : Int) := by omega
                have P7 : Hid ((i < s2.W.length ∧ s2.g (m : Int) ≤ room) ∨ (s2.W.length ≤ i ∧ room < s2.g (m : Int))) := by rw [HAC.out.1] at p7; exact p7
                have HWN := Lib.hid p2
                have HWB := Lib.hid p1
                have hm64 : Hid (In64 (m : Int)) := ⟨by omega, by omega⟩
                clear hrd hg p1 p2 p3 p4 p5 p6 p7
                go_wp2_with fail
                refine (m_wants SI.out 5 rfl (m : Int) hm64.out).mono ?_
                rw [HWN.out, HWB.out]
                rintro e w16 ⟨rfl, h16, _⟩
                have S16 := Lib.hid h16
                have cm : w16.cell? ⟨ak, m, none⟩ = some (.int .i64 (s2.g (m : Int))) := row_cell (h16.blk_at 4 rfl) hm
                clear h16 SI HWN HWB
                generalize s2.g (m : Int) = y at cm P7 ⊢
                have hyy : (y != y) = false := by simp
                rcases P7.out with ⟨e1, e2⟩ | ⟨e1, e2⟩
                · have f1 : decide (y > room) = false := decide_eq_false (by omega)
                  have f2 : decide (s2.W.length ≤ i) = false := decide_eq_false (by omega)
                  have f3 : decide ((s2.W.length : Int) ≤ (i : Int)) = false := decide_eq_false (by omega)
                  clear P7
                  go_wp2
                  go_roundw
                  case rel => exact ⟨i + 1, by omega, by go_num, S16⟩
                  case measure => simp [intOf]; omega
                · have f1 : decide (y > room) = true := decide_eq_true (by omega)
                  have f2 : decide (s2.W.length ≤ i) = true := decide_eq_true (by omega)
                  have f3 : decide ((s2.W.length : Int) ≤ (i : Int)) = true := decide_eq_true (by omega)
                  clear P7
                  go_wp2
                  go_roundw
                  case rel => exact ⟨i + 1, by omega, by go_num, S16⟩
                  case measure => simp [intOf]; omega
              · have SF : Hid (Sep (fun _ => False) w wr [blk ak (.cells (row20 s2.g) 52), ob I.O (.pointer (some a)) s2]) := SI.out.sub (.cons _ (.cons _ (.cons _ (.cons _ (.cons_cons _ (.cons_cons _ (List.Sublist.refl _)))))))
                by_cases hwn : s2.W.length = 0
                · have f1 : decide (0 < s2.W.length) = false := decide_eq_false (by omega)
                  have f2 : decide ((0 : Int) < (s2.W.length : Int)) = false := decide_eq_false (by omega)
                  have f3 : decide ((s2.W.length : Int) > 0) = false := decide_eq_false (by omega)
                  clear SI hwn HL5
                  go_wp2
                  go_roundw
                  case rel => exact ⟨j + 1, by omega, by go_num, s2, rfl, HAC, SF⟩
                  case measure => simp [intOf]; omega
                · obtain ⟨b, of, rfl, hbl, q, hg⟩ := rd_at (SI.out.rd2 1 rfl).1 (i := 0) (by omega)
                  have hfull : s2.C < s2.H + s2.g (s2.W.getD 0 0) := by
                    cases hW : s2.W with
                    | nil => rw [hW] at hwn; exact absurd rfl hwn
                    | cons y l => exact HOK.out.2 y l hW
                  have hmem := HOK.out.1.ws _ (List.mem_of_getElem? hg)
                  have hgr := HOK.out.1.gw _ (List.mem_of_getElem? hg)
                  generalize s2.W.getD 0 0 = x at *
                  obtain ⟨m, rfl⟩ := Int.eq_ofNat_of_zero_le hmem.1
                  have hm : m < 20 := by have := hmem.2; rw [HAC.out.2] at this; omega
                  have cm : wr.cell? ⟨ak, m, none⟩ = some (.int .i64 (s2.g (m : Int))) := row_cell (SI.out.blk_at 4 rfl) hm
                  have HFI : Hid (Calls Try.prog 20 #[.int .i64 s2.H, .int .i64 (s2.g (m : Int)), .int .i64 room] wr fun e w' => e = .returned (.bool false) ∧ wr = w') := by
                    rw [HAC.out.1] at hfull hgr
                    exact fits_is ⟨by omega, by omega⟩ ⟨by omega, by omega⟩ ⟨r0, r1⟩ (fits_no (.inr hfull))
                  have q0 : wr.cell? ⟨b, of, none⟩ = some (.int .i64 (m : Int)) := q
                  have m0 : (0 : Int) ≤ (m : Int) := by omega
                  have m1 : (m : Int) < 20 := by omega
                  have f1 : decide (0 < s2.W.length) = true := decide_eq_true (by omega)
                  have f2 : decide ((0 : Int) < (s2.W.length : Int)) = true := decide_eq_true (by omega)
                  have f3 : decide ((s2.W.length : Int) > 0) = true := decide_eq_true (by omega)
                  have w0 : (0 : Int) < (s2.W.length : Int) := by omega
                  clear SI HL5 hg hmem hgr hfull q hwn HOK
                  generalize s2.g (m : Int) = y at cm HFI
                  go_wp2_with fail
                  refine HFI.out.mono ?_
                  rintro e w17 ⟨rfl, rfl⟩
                  go_wp2
                  go_roundw
                  case rel => exact ⟨j + 1, by omega, by go_num, s2, rfl, HAC, SF⟩
                  case measure => simp [intOf]; omega
      · have HB := Lib.hid SL.out.old
        go_wp2
        go_ret
        exact ⟨rfl, HB.out⟩
end Go.Proofs.Ytaplikopapnlpaa.SemaI
