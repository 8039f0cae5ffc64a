/-
  The reference's clock among the things at hand: Set, Reset, To, and the others (layer 4). Condition: as 'RC' says.
-/
import Derived.Test.YtpoolfnfboohjaaRefTimer
import Derived.Test.YtpoolfnfboohjaaSep
import Derived.Deep.DeepCutAuto
namespace Go.Proofs.Ytpoolfnfboohjaa.RefTimer
open Go.ChangeShapes Go.WideShapes Go.ChangeAt Go.RowKit Mem RefHeap Hand

/-- The reference's clock. -/
def rc (p : Nat) (T C : Int) (L : List Ent) (M : Int) : Res where
  holds w F := RC w F p T C L M ∧ ∀ k, F k → k < w.heap.size
  keep := fun ⟨h, e⟩ hs hk => ⟨h.keep hs hk, fun k hF => Nat.lt_of_lt_of_le (e k hF) hs⟩
  lt := fun ⟨_, e⟩ => e

section
variable {B : Nat → Prop} {w wk : World} {Rs : List Res} {p : Nat} {T C : Int} {L : List Ent} {M : Int}
theorem rc_is (h : Sep B w wk Rs) (i : Nat) (hi : Rs[i]? = some (rc p T C L M)) : ∃ G, RC wk G p T C L M := by
  obtain ⟨F, hR, _⟩ := h.get i hi
  exact ⟨F, hR⟩
theorem rc_setT (h : Sep B w wk Rs) (i : Nat) (hi : Rs[i]? = some (rc p T C L M)) (t : Int) : Sep B w (wk.setCell ⟨p, 0, none⟩ (.int .i64 t)) (Rs.set i (rc p t C L M)) := by
  obtain ⟨F, ⟨hR, hl⟩, _, hn⟩ := h.upd i hi
  have hp : F p := by obtain ⟨_, _, hg, _⟩ := hR; exact hg
  exact hn (rc p t C L M) ⟨hR.setT t, fun k hk => by simpa [World.setCell] using hl k hk⟩ ((Only.refl F wk).setCell (a := ⟨p, 0, none⟩) (.inl hp) _) fun k hk => .inl hk
theorem rc_setC (h : Sep B w wk Rs) (i : Nat) (hi : Rs[i]? = some (rc p T C L M)) (t : Int) : Sep B w (wk.setCell ⟨p, 1, none⟩ (.int .i64 t)) (Rs.set i (rc p T t L M)) := by
  obtain ⟨F, ⟨hR, hl⟩, _, hn⟩ := h.upd i hi
  have hp : F p := by obtain ⟨_, _, hg, _⟩ := hR; exact hg
  exact hn (rc p T t L M) ⟨hR.setC t, fun k hk => by simpa [World.setCell] using hl k hk⟩ ((Only.refl F wk).setCell (a := ⟨p, 1, none⟩) (.inl hp) _) fun k hk => .inl hk
/-- Its alarms are those of a slice of one's own now. -/
theorem rc_setL {e : TypeId} {v : Value} {xs : List Ent} (h : Sep B w wk (rc p T C L M :: grow entE e v xs :: Rs)) (hm : xs.length ≤ 1000000) : Sep B w (wk.setCell ⟨p, 2, none⟩ v) (rc p T C xs M :: Rs) := by
  obtain ⟨F, ⟨F1, F2, ⟨hR, hl⟩, ⟨ho, hF2⟩, d, rfl⟩, _, hn⟩ := h.pair.upd 0 rfl
  have hp : F1 p := by obtain ⟨_, _, hg, _⟩ := hR; exact hg
  have hp2 : p < wk.heap.size := hl p hp
  have hr : RdL entE wk (fun b => (b = p ∨ F2 b) ∧ b ≠ p) v xs := ho.rd hm fun k hk => by
    have hk2 : F2 k := by rw [hF2]; exact hk
    exact ⟨.inr hk2, fun e => d p hp (e ▸ hk2)⟩
  have hR2 : RC (wk.setCell ⟨p, 2, none⟩ v) (fun b => b = p ∨ F2 b) p T C xs M := by
    obtain ⟨u, h1, h2, h3, h4, _⟩ := hR
    refine ⟨v, ?_, .inl rfl, h3, h4, hr.keep (by simp [World.setCell]) fun k _ hk => Below.heap_setCell wk _ _ k hk.2⟩
    simp [World.setCell, Array.getElem?_modify, h1]
  refine hn (rc p T C xs M) (F' := fun b => b = p ∨ F2 b) ⟨hR2, fun k hk => ?_⟩ ((Only.refl _ wk).setCell (a := ⟨p, 2, none⟩) (.inl (.inl hp)) _) fun k hk => .inl (hk.elim (fun e => .inl (e ▸ hp)) .inr)
  rcases hk with rfl | hk
  · simpa [World.setCell] using hp2
  · rw [hF2] at hk
    simpa [World.setCell] using (ho.lt k hk).2
end

/-- What Set answers, and the alarms behind it. -/
def setE (L : List Ent) (M key : Int) : Int := if 0 ≤ key ∧ key < M then (if getB L key = true then 5 else 0) else 3
def insT (L : List Ent) (key t n : Int) : List Ent := L.filter (fun y => decide (y.at_ ≤ t)) ++ [⟨key, t, n⟩] ++ L.filter (fun y => decide (t < y.at_))
def setN (L : List Ent) (M C key : Int) : Int := if setE L M key = 0 then C + 1 else C
def setL (L : List Ent) (M C key t : Int) : List Ent := if setE L M key = 0 then insT L key t (C + 1) else L
/-- P, and behind it those of the first i of L that f takes. -/
def sel (f : Ent → Bool) (P L : List Ent) (i : Nat) : List Ent := P ++ (L.take i).filter f
theorem sel_zero (f : Ent → Bool) (P L : List Ent) : sel f P L 0 = P := by simp [sel]
theorem sel_yes {f : Ent → Bool} (P : List Ent) {L : List Ent} {i : Nat} {b : Ent} (hx : L[i]? = some b) (hf : f b = true) : sel f P L (i + 1) = sel f P L i ++ [b] := by
  unfold sel
  rw [take_snocE L i b hx, List.filter_append, ← List.append_assoc]
  simp [hf]
theorem sel_no {f : Ent → Bool} (P : List Ent) {L : List Ent} {i : Nat} {b : Ent} (hx : L[i]? = some b) (hf : f b = false) : sel f P L (i + 1) = sel f P L i := by
  unfold sel
  rw [take_snocE L i b hx, List.filter_append]
  simp [hf]
theorem sel_end (f : Ent → Bool) (P : List Ent) {L : List Ent} {i : Nat} (h : L.length ≤ i) : sel f P L i = P ++ L.filter f := by unfold sel; rw [List.take_of_length_le h]
theorem sel_len (f : Ent → Bool) (P L : List Ent) (i : Nat) : (sel f P L i).length ≤ P.length + L.length := by
  unfold sel
  have := Nat.le_trans (List.length_filter_le f (L.take i)) (List.length_take_le' i L)
  simp only [List.length_append]
  omega
def early (t : Int) (y : Ent) : Bool := decide (y.at_ ≤ t)
def later (t : Int) (y : Ent) : Bool := decide (t < y.at_)

set_option maxHeartbeats 2000000 in
theorem set_any {w : World} {F : Nat → Prop} {p : Nat} {T C : Int} {L : List Ent} {M : Int} (h : (rc p T C L M).holds w F) (hlen : L.length ≤ 100000) (h0 : 0 ≤ C) (h1 : C ≤ 1000000) (key t : Int) :
    Calls Try.prog 10 #[.pointer (some ⟨p, 0, none⟩), .int .i64 key, .int .i64 t] w fun e w' => e = .returned (.int .i64 (setE L M key)) ∧ Stays (rc p T (setN L M C key) (setL L M C key t) M) F w w' := by
  have S0 := Lib.hid (Sep.of h)
  obtain ⟨A, c, k0, k1, fz, hm, hr, kt, kc, ft, fc⟩ := h.1.head
  clear h
  by_cases hk : 0 ≤ key ∧ key < M
  · obtain ⟨hk0, hk1⟩ := hk
    cases hg : getB L key with
    | true =>
      have HG := Lib.hid hg
      have HE : Hid (setE L M key = 5) := by show _ = _; unfold setE; rw [if_pos ⟨hk0, hk1⟩, if_pos hg]
      have HN : Hid (setN L M C key = C ∧ setL L M C key t = L) := by unfold setN setL; rw [HE.out]; exact ⟨rfl, rfl⟩
      clear hg hr
      go_enter Try.func10, Try.ntmps10
      go_wp2_with fail
      refine (S0.out.still 0 rfl fun _ hR => get_any hR.1 key).mono ?_
      rintro e w1 ⟨rfl, h1'⟩
      rw [HG.out]
      generalize getE L key = g at *
      have S1 := Lib.hid (h1'.new (.cells #[.int .i64 g.id, .int .i64 g.at_, .int .i64 g.seq] 51))
      clear h1' S0
      simp only [Ent.val]
      go_wp2
      go_ret
      exact ⟨ret_int HE.out.symm, by rw [HN.out.1, HN.out.2]; exact S1.out.left 1 rfl⟩
    | false =>
      have HG := Lib.hid hg
      have HE : Hid (setE L M key = 0) := by show _ = _; unfold setE; rw [if_pos ⟨hk0, hk1⟩, if_neg (by rw [hg]; decide)]
      have HN : Hid (setN L M C key = C + 1 ∧ setL L M C key t = insT L key t (C + 1)) := by unfold setN setL; rw [HE.out]; exact ⟨rfl, rfl⟩
      clear hg hr
      go_enter Try.func10, Try.ntmps10
      go_wp2_with fail
      refine (S0.out.still 0 rfl fun _ hR => get_any hR.1 key).mono ?_
      rintro e w1 ⟨rfl, h1'⟩
      rw [HG.out]
      generalize getE L key = g at *
      have h2 := h1'.new (.cells #[.int .i64 g.id, .int .i64 g.at_, .int .i64 g.seq] 51)
      obtain ⟨G2, hR2⟩ := rc_is h2 1 rfl
      obtain ⟨A2, c2, x0, x1, xz, _, _, xt, xc, yt, yc⟩ := hR2.head
      have h3 := (rc_setC h2 1 rfl (C + 1)).tail
      have h4 := h3.grow0 entE 51
      have e4 : ((w1.alloc (.cells #[.int .i64 g.id, .int .i64 g.at_, .int .i64 g.seq] 51)).setCell ⟨p, 1, none⟩ (.int .i64 (C + 1))).heap.size = w1.heap.size + 1 := by simp [World.setCell]
      rw [e4] at h4
      have S4 := Lib.hid h4
      clear h4 e4
      clear h1' h2 h3 hR2 S0
      simp only [Ent.val]
      go_wp2
      go_loopw [9, 10] (fun u s wr => ∃ i : Nat, i ≤ L.length ∧ s = .int .i64 i ∧ Hid (∃ A c, u = .slice A (sel (early t) [] L i).length c ∧ Sep F w wr [grow entE 51 (.slice A (sel (early t) [] L i).length c) (sel (early t) [] L i), rc p T (C + 1) L M])) (fun _ s _ => L.length - (intOf s).toNat)
      case atStart => exact ⟨0, Nat.zero_le _, rfl, by rw [sel_zero]; exact ⟨_, _, rfl, S4.out⟩⟩
      case round =>
        obtain ⟨i, hi, rfl, HS⟩ := hrel
        obtain ⟨Ao, co, rfl, hS⟩ := HS.out
        obtain ⟨Gw, hRw⟩ := rc_is hS 1 rfl
        obtain ⟨Ah, ch, y0, y1, yz, _, yr, _, yn, _⟩ := hRw.head
        have SL := Lib.hid hS
        have hsl := sel_len (early t) [] L i
        simp only [List.length_nil, Nat.zero_add] at hsl
        have HR := Lib.hid yr
        clear HS hS hRw yr
        by_cases hlt : i < L.length
        · have hx : L[i]? = some L[i] := List.getElem?_eq_getElem hlt
          generalize L[i] = b at hx
          obtain ⟨bb, off, rfl, _, hbb, c0, c1, c2⟩ := ent_cells HR.out hx
          by_cases hc : b.at_ ≤ t
          · have HT2 := Lib.hid (sel_yes [] hx (f := early t) (by unfold early; simpa using hc))
            clear hx
            generalize hq : sel (early t) [] L i = l1 at *
            clear hq
            go_wp2_with (at_builtin; refine wpList_appS rfl _ _ entElem rfl rfl rfl (SL.out.next (new_below0 _ _)) 0 rfl (RdL.lit1 (E := entE) _ _ b rfl (fun _ => True) trivial) (by simp; omega) ?_; intro A3 c3 w3 l3 HL3 h3)
            have S3 := Lib.hid h3
            clear h3 SL
            go_wp2
            go_roundw
            case rel => exact ⟨i + 1, by omega, by go_num, by rw [HT2.out, ← HL3.out]; exact ⟨_, _, rfl, S3.out⟩⟩
            case measure => simp [intOf]; omega
          · have HT2 := Lib.hid (sel_no [] hx (f := early t) (by unfold early; simpa using hc))
            have hc' : t < b.at_ := by omega
            clear hx
            generalize hq : sel (early t) [] L i = l1 at *
            clear hq
            go_wp2
            go_roundw
            case rel => exact ⟨i + 1, by omega, by go_num, by rw [HT2.out]; exact ⟨_, _, rfl, SL.out⟩⟩
            case measure => simp [intOf]; omega
        · have HTA := Lib.hid (sel_end (early t) [] (L := L) (i := i) (by omega))
          generalize hq : sel (early t) [] L i = l1 at *
          clear hq
          have HX3 : Hid (RdL entE (wr.alloc (.cells #[.int .i64 key, .int .i64 t, .int .i64 (C + 1)] 51)) (fun _ => True) (.slice (some ⟨wr.heap.size, 0, none⟩) 1 1) [⟨key, t, C + 1⟩]) := RdL.lit1 (E := entE) wr _ ⟨key, t, C + 1⟩ rfl (fun _ => True) trivial
          go_wp2_with (at_builtin; refine wpList_appS rfl _ _ entElem rfl rfl rfl (SL.out.next (new_below0 _ _)) 0 rfl HX3.out (by simp; omega) ?_; intro A6 c6 w6 l2 HL2 h6)
          have S6 := Lib.hid h6
          clear h6 SL HX3
          have hl2l : l2.length ≤ L.length + 1 := by rw [HL2.out]; simp; omega
          have HP2 : Hid (l2.length + L.length ≤ 300000) := by show _ ≤ _; omega
          have HQ2 : Hid (l2 = L.filter (fun y => decide (y.at_ ≤ t)) ++ [⟨key, t, C + 1⟩]) := by show _ = _; rw [HL2.out, HTA.out]; rfl
          clear HL2 HTA
          go_wp2
          go_loopw [9, 11] (fun u s wr => ∃ i : Nat, i ≤ L.length ∧ s = .int .i64 i ∧ Hid (∃ A c, u = .slice A (sel (later t) l2 L i).length c ∧ Sep F w wr [grow entE 51 (.slice A (sel (later t) l2 L i).length c) (sel (later t) l2 L i), rc p T (C + 1) L M])) (fun _ s _ => L.length - (intOf s).toNat)
          case atStart => exact ⟨0, Nat.zero_le _, rfl, by rw [sel_zero]; exact ⟨_, _, rfl, S6.out⟩⟩
          case round =>
            obtain ⟨i, hi, rfl, HS⟩ := hrel
            obtain ⟨Ao, co, rfl, hS⟩ := HS.out
            obtain ⟨Gw, hRw⟩ := rc_is hS 1 rfl
            obtain ⟨Ah, ch, y0, y1, yz, _, yr, _, yn, _⟩ := hRw.head
            have SL := Lib.hid hS
            have hsl := sel_len (later t) l2 L i
            have HR := Lib.hid yr
            clear HS hS hRw yr
            by_cases hlt : i < L.length
            · have hx : L[i]? = some L[i] := List.getElem?_eq_getElem hlt
              generalize L[i] = b at hx
              obtain ⟨bb, off, rfl, _, hbb, c0, c1, c2⟩ := ent_cells HR.out hx
              by_cases hc : t < b.at_
              · have HT2 := Lib.hid (sel_yes l2 hx (f := later t) (by unfold later; simpa using hc))
                clear hx
                generalize hq : sel (later t) l2 L i = l1 at *
                clear hq
                go_wp2_with (at_builtin; refine wpList_appS rfl _ _ entElem rfl rfl rfl (SL.out.next (new_below0 _ _)) 0 rfl (RdL.lit1 (E := entE) _ _ b rfl (fun _ => True) trivial) (by simp; omega) ?_; intro A3 c3 w3 l3 HL3 h3)
                have S3 := Lib.hid h3
                clear h3 SL
                go_wp2
                go_roundw
                case rel => exact ⟨i + 1, by omega, by go_num, by rw [HT2.out, ← HL3.out]; exact ⟨_, _, rfl, S3.out⟩⟩
                case measure => simp [intOf]; omega
              · have HT2 := Lib.hid (sel_no l2 hx (f := later t) (by unfold later; simpa using hc))
                have hc' : b.at_ ≤ t := by omega
                clear hx
                generalize hq : sel (later t) l2 L i = l1 at *
                clear hq
                go_wp2
                go_roundw
                case rel => exact ⟨i + 1, by omega, by go_num, by rw [HT2.out]; exact ⟨_, _, rfl, SL.out⟩⟩
                case measure => simp [intOf]; omega
            · have HTA := Lib.hid (sel_end (later t) l2 (L := L) (i := i) (by omega))
              generalize hq : sel (later t) l2 L i = l1 at *
              clear hq
              have SF := Lib.hid (rc_setL SL.out.swap (by have hh1 := HP2.out; omega))
              clear SL
              go_wp2
              go_ret
              refine ⟨ret_int HE.out.symm, ?_⟩
              rw [HN.out.1, HN.out.2]
              have e : l1 = insT L key t (C + 1) := by rw [HTA.out, HQ2.out]; rfl
              rw [← e]
              exact SF.out.left 0 rfl
  · have HE : Hid (setE L M key = 3) := by show _ = _; unfold setE; rw [if_neg hk]
    have HN : Hid (setN L M C key = C ∧ setL L M C key t = L) := by unfold setN setL; rw [HE.out]; exact ⟨rfl, rfl⟩
    clear hr
    rcases (by omega : key < 0 ∨ (0 ≤ key ∧ M ≤ key)) with hk1 | ⟨hk0, hk1⟩
    all_goals
      clear hk
      go_enter Try.func10, Try.ntmps10
      go_wp2
      go_ret
      exact ⟨ret_int HE.out.symm, by rw [HN.out.1, HN.out.2]; exact S0.out.left 0 rfl⟩

/-- Stop, as what stays. -/
theorem stop_c {w : World} {F : Nat → Prop} {p : Nat} {T C : Int} {L : List Ent} {M : Int} (h : (rc p T C L M).holds w F) (id : Int) :
    Calls Try.prog 13 #[.pointer (some ⟨p, 0, none⟩), .int .i64 id] w fun e w' => e = .returned (.bool (decide ((dropH L id).length < L.length))) ∧ Stays (rc p T C (dropH L id) M) F w w' := by
  refine (stop_any (h.1.mono (G' := fun k => F k ∨ w.heap.size ≤ k) fun _ _ hk => .inl hk) (fun _ hb => .inr hb) id).mono ?_
  rintro e w' ⟨rfl, hR, ho⟩
  have hp : F p := by obtain ⟨⟨_, _, hg, _⟩, _⟩ := h; exact hg
  exact ⟨rfl, fun k => (F k ∨ w.heap.size ≤ k) ∧ k < w'.heap.size, ⟨hR.mono fun k hk hg => ⟨hg, hk⟩, fun k hk => hk.2⟩, ho.mono fun b _ e => by rw [e]; exact hp, fun k hk => hk.1⟩

/-- Reset. -/
def resE (M key : Int) : Int := if 0 ≤ key ∧ key < M then 0 else 3
def resN (M C key : Int) : Int := if 0 ≤ key ∧ key < M then C + 1 else C
def resL (L : List Ent) (M C key t : Int) : List Ent := if 0 ≤ key ∧ key < M then insT (dropH L key) key t (C + 1) else L
theorem getB_dropped (L : List Ent) (k : Int) : getB (dropH L k) k = false := by
  unfold getB dropH
  rw [Option.isSome_eq_false_iff, Option.isNone_iff_eq_none, List.find?_eq_none]
  intro y hy
  have := (List.mem_filter.1 hy).2
  simpa using this
theorem reset_any {w : World} {F : Nat → Prop} {p : Nat} {T C : Int} {L : List Ent} {M : Int} (h : (rc p T C L M).holds w F) (hlen : L.length ≤ 100000) (h0 : 0 ≤ C) (h1 : C ≤ 1000000) (key t : Int) :
    Calls Try.prog 12 #[.pointer (some ⟨p, 0, none⟩), .int .i64 key, .int .i64 t] w fun e w' => e = .returned (.int .i64 (resE M key)) ∧ Stays (rc p T (resN M C key) (resL L M C key t) M) F w w' := by
  have S0 := Lib.hid (Sep.of h)
  obtain ⟨A, c, k0, k1, fz, hm, hr, kt, kc, ft, fc⟩ := h.1.head
  clear h hr
  by_cases hk : 0 ≤ key ∧ key < M
  · have HR : Hid (resE M key = 0 ∧ resN M C key = C + 1 ∧ resL L M C key t = insT (dropH L key) key t (C + 1)) := by unfold resE resN resL; rw [if_pos hk, if_pos hk, if_pos hk]; exact ⟨rfl, rfl, rfl⟩
    have HE : Hid (setE (dropH L key) M key = 0) := by show _ = _; unfold setE; rw [if_pos hk, getB_dropped]; rfl
    have HL : Hid (setN (dropH L key) M C key = C + 1 ∧ setL (dropH L key) M C key t = insT (dropH L key) key t (C + 1)) := by unfold setN setL; rw [HE.out]; exact ⟨rfl, rfl⟩
    have HD : Hid ((dropH L key).length ≤ 100000) := Nat.le_trans (List.length_filter_le _ _) hlen
    obtain ⟨hk0, hk1⟩ := hk
    go_enter Try.func12, Try.ntmps12
    go_wp2_with fail
    refine (S0.out.to 0 rfl fun _ hR => stop_c hR key).mono ?_
    rintro e w1 ⟨rfl, h1'⟩
    have S1 := Lib.hid h1'
    clear h1' S0
    go_wp2_with fail
    refine (S1.out.to 0 rfl fun _ hR => set_any hR HD.out h0 h1 key t).mono ?_
    rintro e w2 ⟨rfl, h2'⟩
    rw [HE.out]
    rw [HL.out.1, HL.out.2] at h2'
    have S2 := Lib.hid h2'
    clear h2' S1
    go_wp2
    go_ret
    obtain ⟨q0, q1, q2⟩ := HR.out
    exact ⟨ret_int q0.symm, by rw [q1, q2]; exact S2.out.left 0 rfl⟩
  · have HR : Hid (resE M key = 3 ∧ resN M C key = C ∧ resL L M C key t = L) := by unfold resE resN resL; rw [if_neg hk, if_neg hk, if_neg hk]; exact ⟨rfl, rfl, rfl⟩
    rcases (by omega : key < 0 ∨ (0 ≤ key ∧ M ≤ key)) with hk1 | ⟨hk0, hk1⟩
    all_goals
      clear hk
      go_enter Try.func12, Try.ntmps12
      go_wp2
      go_ret
      obtain ⟨q0, q1, q2⟩ := HR.out
      exact ⟨ret_int q0.symm, by rw [q1, q2]; exact S0.out.left 0 rfl⟩

/-- To: the time behind it, who goes off, who stays. -/
def toT (T t : Int) : Int := if T < t then t else T
set_option maxHeartbeats 4000000 in
theorem to_loop {w : World} {F : Nat → Prop} {p : Nat} {T C : Int} {L : List Ent} {M : Int} (h : (rc p T C L M).holds w F) (hlen : L.length ≤ 100000) (t : Int) :
    Calls Try.prog 14 #[.pointer (some ⟨p, 0, none⟩), .int .i64 t] w fun e w' => ∃ A c, e = .returned (.slice A (L.filter (fun y => decide (y.at_ ≤ toT T t))).length c) ∧
      Sep F w w' [rc p (toT T t) C (L.filter (fun y => decide (toT T t < y.at_))) M, grow entE 51 (.slice A (L.filter (fun y => decide (y.at_ ≤ toT T t))).length c) (L.filter (fun y => decide (y.at_ ≤ toT T t)))] := by
  obtain ⟨A, c, k0, k1, fz, hm, hr, kt, kc, ft, fc⟩ := h.1.head
  have hb : ∃ wb : World, Hid (Sep F w wb [rc p (toT T t) C L M]) ∧ ((T < t ∧ wb = w.setCell ⟨p, 0, none⟩ (.int .i64 t)) ∨ (t ≤ T ∧ wb = w)) := by
    by_cases hlt : T < t
    · exact ⟨_, by have := rc_setT (Sep.of h) 0 rfl t; unfold toT; rw [if_pos hlt]; exact this, .inl ⟨hlt, rfl⟩⟩
    · exact ⟨_, by unfold toT; rw [if_neg hlt]; exact Sep.of h, .inr ⟨by omega, rfl⟩⟩
  obtain ⟨wb, SB, hcase⟩ := hb
  clear h hr
  generalize hU : toT T t = U at *
  clear hU
  rcases hcase with ⟨hlt, hw⟩ | ⟨hlt, hw⟩
  all_goals
    have h5 := (SB.out.grow0 entE 51).grow0 entE 51
    have e5 : wb.heap.size = w.heap.size := by rw [hw]; try simp [World.setCell]
    have e6 : (wb.alloc (.cells #[] 51)).heap.size = w.heap.size + 1 := by simp [e5]
    rw [e6, e5] at h5
    have S5 := Lib.hid h5
    clear h5 e5 e6 SB
    have hw := hw.symm
    subst hw
    go_enter Try.func14, Try.ntmps14
    go_wp2
    go_loopw [5, 6, 7] (fun u v s wr => ∃ i : Nat, i ≤ L.length ∧ s = .int .i64 i ∧ Hid (∃ A c A' c', u = .slice A (sel (early U) [] L i).length c ∧ v = .slice A' (sel (later U) [] L i).length c' ∧ Sep F w wr [grow entE 51 (.slice A' (sel (later U) [] L i).length c') (sel (later U) [] L i), grow entE 51 (.slice A (sel (early U) [] L i).length c) (sel (early U) [] L i), rc p U C L M])) (fun _ _ s _ => L.length - (intOf s).toNat)
    case atStart => exact ⟨0, Nat.zero_le _, rfl, by rw [sel_zero, sel_zero]; exact ⟨_, _, _, _, rfl, rfl, S5.out⟩⟩
    case round =>
      obtain ⟨i, hi, rfl, HS⟩ := hrel
      obtain ⟨Ao, co, Al, cl, rfl, rfl, hS⟩ := HS.out
      obtain ⟨Gw, hRw⟩ := rc_is hS 2 rfl
      obtain ⟨Ah, ch, y0, y1, yz, _, yr, yt, yn, _⟩ := hRw.head
      have SL := Lib.hid hS
      have hs1 := sel_len (early U) [] L i
      have hs2 := sel_len (later U) [] L i
      simp only [List.length_nil, Nat.zero_add] at hs1 hs2
      have HR := Lib.hid yr
      clear HS hS hRw yr S5
      by_cases hil : i < L.length
      · have hx : L[i]? = some L[i] := List.getElem?_eq_getElem hil
        generalize L[i] = b at hx
        obtain ⟨bb, off, rfl, _, hbb, c0, c1, c2⟩ := ent_cells HR.out hx
        have ii0 : (0 : Int) ≤ (i : Int) := by omega
        have ii1 : (i : Int) < (L.length : Int) := by omega
        by_cases hc : b.at_ ≤ U
        · have HT1 := Lib.hid (sel_yes [] hx (f := early U) (by unfold early; simpa using hc))
          have HT2 := Lib.hid (sel_no [] hx (f := later U) (by unfold later; simp; omega))
          have hdc : decide (b.at_ ≤ U) = true := decide_eq_true hc
          clear hx
          generalize hq1 : sel (early U) [] L i = l1 at *
          generalize hq2 : sel (later U) [] L i = l2 at *
          clear hq1 hq2
          go_wp2
          go_quiet (fail)
          go_wp2_with (at_builtin; refine wpList_appS rfl _ _ entElem rfl rfl rfl ((SL.out.drewN _).next (new_below0 _ _)) 1 rfl (RdL.lit1 (E := entE) _ _ b rfl (fun _ => True) trivial) (by simp; omega) ?_; intro A3 c3 w3 l3 HL3 h3)
          have S3 := Lib.hid h3
          clear h3 SL
          go_wp2
          go_roundw
          case rel => exact ⟨i + 1, by omega, by go_num, by rw [HT1.out, HT2.out, ← HL3.out]; exact ⟨_, _, _, _, rfl, rfl, S3.out⟩⟩
          case measure => simp [intOf]; omega
        · have HT1 := Lib.hid (sel_no [] hx (f := early U) (by unfold early; simp; omega))
          have HT2 := Lib.hid (sel_yes [] hx (f := later U) (by unfold later; simp; omega))
          have hdc : decide (b.at_ ≤ U) = false := decide_eq_false hc
          clear hx
          generalize hq1 : sel (early U) [] L i = l1 at *
          generalize hq2 : sel (later U) [] L i = l2 at *
          clear hq1 hq2
          go_wp2
          go_quiet (fail)
          go_wp2_with (at_builtin; refine wpList_appS rfl _ _ entElem rfl rfl rfl ((SL.out.drewN _).next (new_below0 _ _)) 0 rfl (RdL.lit1 (E := entE) _ _ b rfl (fun _ => True) trivial) (by simp; omega) ?_; intro A3 c3 w3 l3 HL3 h3)
          have S3 := Lib.hid h3
          clear h3 SL
          go_wp2
          go_roundw
          case rel => exact ⟨i + 1, by omega, by go_num, by rw [HT1.out, HT2.out, ← HL3.out]; exact ⟨_, _, _, _, rfl, rfl, S3.out⟩⟩
          case measure => simp [intOf]; omega
      · have HT1 := Lib.hid (sel_end (early U) [] (L := L) (i := i) (by omega))
        have HT2 := Lib.hid (sel_end (later U) [] (L := L) (i := i) (by omega))
        generalize hq1 : sel (early U) [] L i = l1 at *
        generalize hq2 : sel (later U) [] L i = l2 at *
        clear hq1 hq2
        have SF := Lib.hid (rc_setL (SL.out.perm (((List.Perm.swap _ _ _).cons _).trans (List.Perm.swap _ _ _))) (by omega))
        clear SL
        go_wp2
        go_ret
        have e1 : L.filter (fun y => decide (y.at_ ≤ U)) = l1 := HT1.out.symm
        have e2 : L.filter (fun y => decide (U < y.at_)) = l2 := HT2.out.symm
        rw [e1, e2]
        exact ⟨_, _, rfl, SF.out⟩
end Go.Proofs.Ytpoolfnfboohjaa.RefTimer
