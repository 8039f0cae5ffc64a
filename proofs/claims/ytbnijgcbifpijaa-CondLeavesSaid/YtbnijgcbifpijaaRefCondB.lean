/-
  Contracts of the functions of package countermandref10 (the document's answer for layer 10), second part: Take, Leave. Condition: the condition is at hand.
-/
import Derived.Test.YtbnijgcbifpijaaRefCond
namespace Go.Proofs.Ytbnijgcbifpijaa.RefCond
open Go.ChangeShapes Go.WideShapes Go.ChangeAt Go.RowKit Mem MutP CondP Hand

/-- All of the list but its first. -/
theorem told_drop {α : Type} {E : Enc α} {B : Nat → Prop} {w wk : World} {Rs : List Res} {R : Res} {b off n c c' k n' : Nat} {W : List α} {A' : Option Addr} (h : Sep B w wk (R :: told E (.slice (some ⟨b, off, none⟩) n c) W :: Rs)) (hn : n' = (W.drop k).length) (hA : k < W.length → A' = some ⟨b, off + k * E.sz, none⟩) : Sep B w wk (R :: told E (.slice A' n' c') (W.drop k) :: Rs) := by
  subst hn
  obtain ⟨F, ⟨⟨A1, c1, e, hm, hx⟩, hlt⟩, _, hn⟩ := h.upd 1 rfl
  injection e with e1 e2 e3
  subst e1
  refine hn (told E (.slice A' (W.drop k).length c') (W.drop k)) (F' := F) ⟨⟨A', c', rfl, by rw [List.length_drop]; omega, fun h0 => ?_⟩, hlt⟩ (.refl _ _) fun k hk => .inl hk
  rw [List.length_drop] at h0
  obtain ⟨b1, off1, e, hF, hb, hc⟩ := hx (by omega)
  injection e with e
  injection e with e e'
  subst e e'
  refine ⟨b, off + k * E.sz, hA (by omega), hF, hb, fun i a hi j u hj => ?_⟩
  rw [List.getElem?_drop] at hi
  have h1 := hc (k + i) a hi j u hj
  rw [show off + k * E.sz + (i * E.sz + j) = off + ((k + i) * E.sz + j) by rw [Nat.add_mul]; omega]
  exact h1
theorem rd_take {α : Type} {E : Enc α} {w : World} {G : Nat → Prop} {A : Option Addr} {n c k n' c' : Nat} {W : List α} (h : RdL E w G (.slice A n c) W) (hk : n' = (W.take k).length) : RdL E w G (.slice A n' c') (W.take k) := by
  subst hk
  obtain ⟨A1, c1, e, hm, hx⟩ := h
  injection e with e1 e2 e3
  subst e1
  refine ⟨A, c', rfl, Nat.le_trans (by rw [List.length_take]; omega) hm, fun h0 => ?_⟩
  rw [List.length_take] at h0
  obtain ⟨b, off, e, hG, hb, hc⟩ := hx (by omega)
  refine ⟨b, off, e, hG, hb, fun i a hi j u hj => hc i a ?_ j u hj⟩
  rw [List.getElem?_take] at hi
  split at hi
  · exact hi
  · cases hi

theorem rd_cap {α : Type} {E : Enc α} {w : World} {G : Nat → Prop} {A : Option Addr} {n c c' : Nat} {W : List α} (h : RdL E w G (.slice A n c) W) : RdL E w G (.slice A n c') W := by
  obtain ⟨A1, c1, e, hm, hx⟩ := h
  injection e with e1 e2 e3
  subst e1 e2
  exact ⟨A, c', rfl, hm, hx⟩
/-- A list of none, wherever it lies. -/
theorem none_told {α : Type} {B : Nat → Prop} {w wk : World} {Rs : List Res} {R : Res} (E : Enc α) (A : Option Addr) (c : Nat) (h : Sep B w wk (R :: Rs)) : Sep B w wk (R :: told E (.slice A 0 c) [] :: Rs) := by
  obtain ⟨ho, ha⟩ := h
  refine Sep.swap ⟨ho, fun _ => False, _, ⟨RdL.nil _ _ _ _, fun _ h => h.elim⟩, ha, fun _ h => h.elim, fun _ h => h, fun _ h => h.elim⟩

section
variable {B : Nat → Prop} {w wk : World} {Rs : List Res} {p : Nat} {W : List Tl} {N : Int}

set_option maxRecDepth 100000 in
set_option maxHeartbeats 1000000 in
theorem take_s (h : Sep B w wk (rc p W N :: Rs)) (m : Nat) (hm : m ≤ 1000) :
    Calls Try.prog 11 #[.pointer (some ⟨p, 0, none⟩), .int .i64 m] wk fun e wn => ∃ A c, e = .returned (.slice A (W.take m).length c) ∧ RdL tlE wn (fun _ => True) (.slice A (W.take m).length c) (W.take m) ∧ Sep B w wn (rc p (W.drop m) N :: Rs) := by
  obtain ⟨A, c, hs, hok, hcap⟩ := rc_open h
  have HOK := Lib.hid (hok.drop m)
  have S0 := Lib.hid hs
  have hwl := hok.wlen
  have hb := hs.blk_at 0 rfl
  have c0 : wk.cell? ⟨p, 0, none⟩ = some (.slice A W.length c) := (cell_block hb 0).trans rfl
  have f0 := frozen_block hb 0
  have hpl := lt_of_block hb
  have HR : Hid (RdL tlE wk (fun _ => True) (.slice A W.length c) W) := hs.rdL 1 rfl
  clear h hs hok hb
  by_cases hlt : m < W.length
  · obtain ⟨b, off, rfl, _⟩ := HR.out.at_ (List.getElem?_eq_getElem hlt)
    have HL : Hid ((W.take m).length = m) := by show _ = _; rw [List.length_take]; omega
    have HD : Hid ((W.drop m).length = W.length - m) := List.length_drop
    clear HR
    go_enter Try.func11, Try.ntmps11
    go_wp2
    go_ret
    have h1 := S0.out.set 0 rfl 0 (.slice (some ⟨b, off + m * 2, none⟩) (W.length - m) (c - m))
    have hr := rd_take (n' := m) (c' := c) (k := m) (h1.rdL 1 rfl) HL.out.symm
    rw [HL.out]
    refine ⟨_, _, rfl, hr, rc_close (told_drop (k := m) h1 HD.out.symm fun _ => rfl) HOK.out fun A n c' e => ?_⟩
    injection e with _ e2 e3
    omega
  · have HT : Hid (W.take m = W) := List.take_of_length_le (by omega)
    have HD : Hid (W.drop m = []) := List.drop_of_length_le (by omega)
    have hm0 : ¬ (m : Int) < (W.length : Int) := by omega
    rw [HT.out, HD.out]
    rw [HD.out] at HOK
    have HF : Hid (∀ A c, Fits (.slice A 0 c)) := fun A c A' n c' e => by injection e with _ e2 e3; omega
    go_enter Try.func11, Try.ntmps11
    go_wp2
    all_goals
      go_ret
      exact ⟨_, _, rfl, rd_cap ((S0.out.set 0 rfl 0 _).rdL 1 rfl), rc_close (none_told _ _ _ ((S0.out.set 0 rfl 0 _).sub (.cons_cons _ (.cons _ (List.Sublist.refl Rs))))) HOK.out (HF.out _ _)⟩

set_option maxRecDepth 100000 in
set_option maxHeartbeats 1000000 in
theorem leave_s (h : Sep B w wk (rc p W N :: Rs)) (t : Int) :
    Calls Try.prog 12 #[.pointer (some ⟨p, 0, none⟩), .int .i64 t] wk fun e wn => e = .returned (.tuple #[(getT W t).val, .bool (hasT W t)]) ∧ Sep B w wn (rc p (outT W t) N :: Rs) := by
  obtain ⟨A, c, hs, hok, hcap⟩ := rc_open h
  have HK := Lib.hid hok
  have hwl := hok.wlen
  have hpk := lt_of_block (hs.blk_at 0 rfl)
  have n1 : p ≠ wk.heap.size + 1 + 1 := by omega
  have n2 : wk.heap.size + 1 + 1 ≠ p := by omega
  have n3 : p ≠ wk.heap.size := by omega
  have n4 : wk.heap.size ≠ p := by omega
  have S0 := Lib.hid ((((hs.new (.cells #[.int .i64 0, .int .i64 0] 40)).grow0 tlE 40).new (.cells #[.int .i64 0, .int .i64 0] 40)))
  simp only [World.size_alloc] at S0
  clear h hs hok hcap
  go_enter Try.func12, Try.ntmps12
  go_wp2
  go_loopw [6, 8] (fun o u wr => ∃ i : Nat, i ≤ W.length ∧ u = .int .i64 i ∧ Hid (∃ A1 c1, o = .slice A1 (outT (W.take i) t).length c1 ∧ Sep B w wr (blk (wk.heap.size + 1 + 1) (.cells #[.int .i64 (getT (W.take i) t).t, .int .i64 (getT (W.take i) t).k] 40) :: grow tlE 40 (.slice A1 (outT (W.take i) t).length c1) (outT (W.take i) t) :: blk wk.heap.size (.cells #[.int .i64 0, .int .i64 0] 40) :: blk p (.cells #[.slice A W.length c, .int .i64 N] 47) :: told tlE (.slice A W.length c) W :: Rs))) (fun _ u _ => W.length - (intOf u).toNat)
  case atStart => exact ⟨0, Nat.zero_le _, rfl, _, _, rfl, S0.out⟩
  case round =>
    obtain ⟨i, hi, rfl, HS⟩ := hrel
    obtain ⟨A1, c1, rfl, hS⟩ := HS.out
    have SL := Lib.hid hS
    have hol : (outT (W.take i) t).length ≤ i := Nat.le_trans (out_len _ _) (List.length_take_le _ _)
    have p0 : wr.cell? ⟨p, 0, none⟩ = some (.slice A W.length c) := (cell_block (hS.blk_at 3 rfl) 0).trans rfl
    have pf := frozen_block (hS.blk_at 3 rfl) 0
    have x0 : wr.cell? ⟨wk.heap.size + 1 + 1, 0, none⟩ = some (.int .i64 (getT (W.take i) t).t) := (cell_block (hS.blk_at 0 rfl) 0).trans rfl
    have x1 : wr.cell? ⟨wk.heap.size + 1 + 1, 1, none⟩ = some (.int .i64 (getT (W.take i) t).k) := (cell_block (hS.blk_at 0 rfl) 1).trans rfl
    have xf0 := frozen_block (hS.blk_at 0 rfl) 0
    have xf1 := frozen_block (hS.blk_at 0 rfl) 1
    have r0 : wr.cell? ⟨wk.heap.size, 0, none⟩ = some (.int .i64 0) := (cell_block (hS.blk_at 2 rfl) 0).trans rfl
    have r1 : wr.cell? ⟨wk.heap.size, 1, none⟩ = some (.int .i64 0) := (cell_block (hS.blk_at 2 rfl) 1).trans rfl
    have rf0 := frozen_block (hS.blk_at 2 rfl) 0
    have rf1 := frozen_block (hS.blk_at 2 rfl) 1
    have HR : Hid (RdL tlE wr (fun _ => True) (.slice A W.length c) W) := hS.rdL 4 rfl
    have hpl := lt_of_block (hS.blk_at 3 rfl)
    have hxl := lt_of_block (hS.blk_at 0 rfl)
    have hrl := lt_of_block (hS.blk_at 2 rfl)
    clear HS hS S0
    by_cases hlt : i < W.length
    · have hx : W[i]? = some W[i] := List.getElem?_eq_getElem hlt
      generalize W[i] = x at hx
      have HB := Lib.hid (HK.out.before hx)
      obtain ⟨b, off, rfl, _, hbl, q0, q1⟩ := tl_cells HR.out hx
      have HT : Hid (W.take (i + 1) = W.take i ++ [x]) := take_snocT W i x hx
      have i0 : (0 : Int) ≤ (i : Int) := by omega
      have i1 : (i : Int) < (W.length : Int) := by omega
      clear hx
      obtain ⟨xt, xk⟩ := x
      simp only at q0 q1
      by_cases hxt : xt = t
      · subst hxt
        have HU : Hid (outT (W.take (i + 1)) xt = outT (W.take i) xt ∧ getT (W.take (i + 1)) xt = ⟨xt, xk⟩) := by
          rw [HT.out]
          exact ⟨out_snoc_no rfl, get_snoc_yes HB.out rfl⟩
        have SN := Lib.hid ((SL.out.set 0 rfl 0 (.int .i64 xt)).set 0 rfl 1 (.int .i64 xk))
        go_wp2
        go_roundw
        case rel =>
          obtain ⟨g1, g2⟩ := HU.out
          exact ⟨i + 1, by omega, by go_num, by rw [g1, g2]; exact ⟨_, _, rfl, SN.out⟩⟩
        case measure => simp [intOf]; omega
      · have e1 : (xt == t) = false := by simpa using hxt
        have HU : Hid (outT (W.take (i + 1)) t = outT (W.take i) t ++ [⟨xt, xk⟩] ∧ getT (W.take (i + 1)) t = getT (W.take i) t) := by
          rw [HT.out]
          exact ⟨out_snoc_yes hxt, get_snoc_no hxt⟩
        have HX1 : Hid (RdL tlE (wr.alloc (.cells #[.int .i64 xt, .int .i64 xk] 40)) (fun _ => True) (.slice (some ⟨wr.heap.size, 0, none⟩) 1 1) [⟨xt, xk⟩]) := RdL.lit1 (E := tlE) wr 40 ⟨xt, xk⟩ (cs := #[.int .i64 xt, .int .i64 xk]) rfl (fun _ => True) trivial
        clear hxt
        go_wp2_with (at_builtin; refine wpList_appS rfl _ _ tlElem rfl rfl rfl (SL.out.next (new_below0 _ _)) 1 rfl HX1.out (by simp; omega) ?_; intro A3 c3 w5 l3 HL3 h3)
        have S4 := Lib.hid h3
        clear h3 HX1
        go_wp2
        go_roundw
        case rel =>
          obtain ⟨g1, g2⟩ := HU.out
          exact ⟨i + 1, by omega, by go_num, by rw [g1, g2, ← HL3.out]; exact ⟨_, _, rfl, S4.out⟩⟩
        case measure => simp [intOf]; omega
    · have hE : W.take i = W := List.take_of_length_le (by omega)
      have hs := SL.out
      rw [hE] at hs hol ⊢
      have S9 := Lib.hid hs
      have HLT := Lib.hid (out_lt W t)
      have HKO := Lib.hid (HK.out.out t)
      clear hs SL x0 x1
      generalize hg : getT W t = g at *
      have HG := Lib.hid hg
      clear hg
      obtain ⟨gt, gk⟩ := g
      have x0 : wr.cell? ⟨wk.heap.size + 1 + 1, 0, none⟩ = some (.int .i64 gt) := (cell_block (S9.out.blk_at 0 rfl) 0).trans rfl
      have x1 : wr.cell? ⟨wk.heap.size + 1 + 1, 1, none⟩ = some (.int .i64 gk) := (cell_block (S9.out.blk_at 0 rfl) 1).trans rfl
      have S10 := Lib.hid (((S9.out.set 3 rfl 0 (.slice A1 (outT W t).length c1)).set 2 rfl 0 (.int .i64 gt)).set 2 rfl 1 (.int .i64 gk))
      go_wp2
      have y0 := (cell_block (S10.out.blk_at 2 rfl) 0).trans rfl
      have y1 := (cell_block (S10.out.blk_at 2 rfl) 1).trans rfl
      refine bodyPost_ret (v := .tuple #[.agg #[.int .i64 gt, .int .i64 gk], .bool (decide ((outT W t).length < W.length))]) (by simp [results, Try.results12, go_sem, y0, y1]) rfl ⟨?_, ?_⟩
      · rw [HLT.out, HG.out]; rfl
      · have h6 := grow_told ((S10.out.sub (.cons _ (.cons_cons _ (.cons _ (.cons_cons _ (.cons _ (List.Sublist.refl Rs))))))) ) (by omega)
        exact rc_close h6.swap HKO.out (fits_ownL (S9.out.own 1 rfl))
theorem take_one (h : Sep B w wk (rc p W N :: Rs)) :
    Calls Try.prog 11 #[.pointer (some ⟨p, 0, none⟩), .int .i64 1] wk fun e wn => ∃ A c, e = .returned (.slice A (oneT W).length c) ∧ RdL tlE wn (fun _ => True) (.slice A (oneT W).length c) (oneT W) ∧ Sep B w wn (rc p (restT W) N :: Rs) := take_s h 1 (by omega)
theorem take_all (h : Sep B w wk (rc p W N :: Rs)) (hw : W.length ≤ 20) :
    Calls Try.prog 11 #[.pointer (some ⟨p, 0, none⟩), .int .i64 20] wk fun e wn => ∃ A c, e = .returned (.slice A W.length c) ∧ RdL tlE wn (fun _ => True) (.slice A W.length c) W ∧ Sep B w wn (rc p [] N :: Rs) := by
  have h1 := take_s h 20 (by omega)
  rw [List.take_of_length_le hw, List.drop_of_length_le hw] at h1
  exact h1
end
end Go.Proofs.Ytbnijgcbifpijaa.RefCond
