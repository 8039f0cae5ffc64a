/-
  The walk of the law RingDoes over any package that meets 'Ring': it returns true and leaves old memory as it was. Conditions: none but 'Ring', and that the slice of acts reads as acts.
-/
import Derived.Test.YtaoagoklgjcdcaaRingM
namespace Go.Proofs.Ytaoagoklgjcdcaa.RingI
open Go.ChangeShapes Go.WideShapes Go.ChangeAt Go.RowKit Mem RefRing

/-- Both arenas, of the call's own, apart from each other; the blocks Z are of neither. -/
def Two (I : Ring) (w wk : World) (v : Value) (p q : Nat) (LA LR : List (List Int)) (N : Int) (Z : List Nat) : Prop :=
  ∃ F, I.A wk v F LA N ∧ RA wk (fun b => w.heap.size ≤ b ∧ ¬ F b) p q LR N ∧ Below w.heap.size w wk ∧ (∀ k, F k → w.heap.size ≤ k) ∧ ∀ k ∈ Z, k < wk.heap.size ∧ ¬ F k ∧ k ≠ q

section
variable {I : Ring} {w wk wn : World} {v : Value} {p q : Nat} {LA LR L : List (List Int)} {N : Int} {Z : List Nat}
theorem Two.next (h : Two I w wk v p q LA LR N Z) (hb : Below wk.heap.size wk wn) : Two I w wn v p q LA LR N Z := by
  obtain ⟨F, ha, hr, ho, hf, hz⟩ := h
  exact ⟨F, I.keep ha hb.size fun k hk _ => hb.block k hk, hr.keep hb.size fun k hk _ => hb.block k hk, ho.trans (hb.mono ho.size), hf, fun k hk => ⟨Nat.lt_of_lt_of_le (hz k hk).1 hb.size, (hz k hk).2⟩⟩
theorem Two.new (h : Two I w wk v p q LA LR N Z) (o : Obj) : Two I w (wk.alloc o) v p q LA LR N (wk.heap.size :: Z) := by
  obtain ⟨F, ha, hr, ho, hf, hz⟩ := h
  have hqb : q < wk.heap.size := by
    obtain ⟨_, _, _, _, _, _, _, vs, hq, _⟩ := hr
    exact lt_of_block hq
  exact ⟨F, I.keep ha (by simp) fun k hk _ => Below.heap_alloc wk o k hk, hr.keep (by simp) fun k hk _ => Below.heap_alloc wk o k hk, ho.trans ((new_below0 wk o).mono ho.size), hf, fun k hk => by
    rcases List.mem_cons.1 hk with rfl | hk
    · exact ⟨by simp, fun hF => by have := I.lt ha _ hF; omega, by omega⟩
    · exact ⟨Nat.lt_of_lt_of_le (hz k hk).1 (by simp), (hz k hk).2⟩⟩
theorem Two.less (h : Two I w wk v p q LA LR N Z) : Two I w wk v p q LA LR N [] := by
  obtain ⟨F, ha, hr, ho, hf, hz⟩ := h
  exact ⟨F, ha, hr, ho, hf, fun k hk => by cases hk⟩
theorem Two.ok (h : Two I w wk v p q LA LR N Z) : Ok LA N := by obtain ⟨F, ha, _⟩ := h; exact I.ok ha
theorem Two.old (h : Two I w wk v p q LA LR N Z) : Below w.heap.size w wk := by obtain ⟨F, _, _, ho, _⟩ := h; exact ho
theorem two_do (h : Two I w wk v p q LA LR N Z) (d a b : Int) (ha : In64 a) (hb : In64 b) {E M : Int} {B : Bool} {L' : List (List Int)} (hE : actE LA N d a b = E) (hM : actN LA d a = M) (hB : actB LA d a = B) (hL : actL LA N d a b = L') :
    Calls Try.prog 9 #[v, .agg #[.int .i64 d, .int .i64 a, .int .i64 b]] wk fun e wn => e = .returned (.tuple #[.int .i64 E, .int .i64 M, .bool B]) ∧ Two I w wn v p q L' LR N Z ∧ ∀ k ∈ Z, wn.heap[k]? = wk.heap[k]? := by
  obtain ⟨F, hA, hr, ho, hf, hz⟩ := h
  subst hE hM hB hL
  refine (do_any I hA d a b ha hb).mono ?_
  rintro e wn ⟨rfl, F', hA', hon, hF'⟩
  refine ⟨rfl, ⟨F', hA', ?_, ?_, fun k hk => ?_, fun k hk => ⟨Nat.lt_of_lt_of_le (hz k hk).1 hon.size, fun h' => ?_, (hz k hk).2.2⟩⟩, fun k hk => hon.block k (hz k hk).1 (hz k hk).2.1⟩
  · refine (RA.keep (G := fun b => (w.heap.size ≤ b ∧ ¬ F b) ∧ ¬ F' b) (hr.mono fun k hk hG => ⟨hG, fun h' => ?_⟩) hon.size fun k hk hG => hon.block k hk hG.1.2).mono fun _ _ hG => ⟨hG.1.1, hG.2⟩
    rcases hF' k h' with h | h
    · exact hG.2 h
    · omega
  · exact ⟨hon.os.trans ho.os, hon.tape.trans ho.tape, hon.output.trans ho.output, Nat.le_trans ho.size hon.size, fun k hk => (hon.block k (Nat.lt_of_lt_of_le hk ho.size) (fun hF => by have := hf k hF; omega)).trans (ho.block k hk)⟩
  · rcases hF' k hk with h | h
    · exact hf k h
    · exact Nat.le_trans ho.size h
  · rcases hF' k h' with h | h
    · exact (hz k hk).2.1 h
    · have := (hz k hk).1; omega
theorem two_own (h : Two I w wk v p q LA LR N Z) (hok : Ok LR N) (d a b : Int) {E M : Int} {B : Bool} {L' : List (List Int)} (hE : actE LR N d a b = E) (hM : actN LR d a = M) (hB : actB LR d a = B) (hL : actL LR N d a b = L') :
    Calls Try.prog 10 #[.pointer (some ⟨p, 0, none⟩), .agg #[.int .i64 d, .int .i64 a, .int .i64 b]] wk fun e wn => e = .returned (.tuple #[.int .i64 E, .int .i64 M, .bool B]) ∧ Two I w wn v p q LA L' N Z ∧ ∀ k ∈ Z, wn.heap[k]? = wk.heap[k]? := by
  obtain ⟨F, hA, hr, ho, hf, hz⟩ := h
  subst hE hM hB hL
  refine (own_any hr (fun b hb => ⟨Nat.le_trans ho.size hb, fun hF => by have := I.lt hA b hF; omega⟩) hok.lens d a b).mono ?_
  rintro e wn ⟨rfl, hR, hon⟩
  have hq : w.heap.size ≤ q ∧ ¬ F q := hr.2.2.2.1
  refine ⟨rfl, ⟨F, I.keep hA hon.size fun k hk hF => hon.block k hk (fun e => hq.2 (e ▸ hF)), hR, ?_, hf, fun k hk => ⟨Nat.lt_of_lt_of_le (hz k hk).1 hon.size, (hz k hk).2⟩⟩, fun k hk => hon.block k (hz k hk).1 (hz k hk).2.2⟩
  exact ⟨hon.os.trans ho.os, hon.tape.trans ho.tape, hon.output.trans ho.output, Nat.le_trans ho.size hon.size, fun k hk => (hon.block k (Nat.lt_of_lt_of_le hk ho.size) (fun e => by have := hq.1; omega)).trans (ho.block k hk)⟩
theorem two_alike (h : Two I w wk v p q L L N Z) :
    Calls Try.prog 11 #[v, .pointer (some ⟨p, 0, none⟩)] wk fun e wn => e = .returned (.bool true) ∧ Two I w wn v p q L L N Z := by
  have h' := h
  obtain ⟨F, hA, hr, ho, hf, hz⟩ := h
  exact (alike_any I hA hr).mono fun _ _ k => ⟨k.1, h'.next k.2⟩
end

/-- The acts that a slice reads as. -/
def Acts (w : World) (A : Option Addr) (len : Nat) (zs : List (Int × Int × Int)) : Prop :=
  zs.length = len ∧ (∀ z ∈ zs, In64 z.2.1 ∧ In64 z.2.2) ∧
  (0 < len → ∃ b off, A = some ⟨b, off, none⟩ ∧ b < w.heap.size ∧ ∀ j, j < len →
    w.cell? ⟨b, off + j * 3, none⟩ = some (.int .i64 (zs.getD j (0, 0, 0)).1) ∧ w.cell? ⟨b, off + j * 3 + 1, none⟩ = some (.int .i64 (zs.getD j (0, 0, 0)).2.1) ∧ w.cell? ⟨b, off + j * 3 + 2, none⟩ = some (.int .i64 (zs.getD j (0, 0, 0)).2.2))

set_option maxHeartbeats 4000000 in
set_option maxRecDepth 100000 in
theorem does_walk (I : Ring) (r n : Int) (A : Option Addr) (len cap : Nat) (zs : List (Int × Int × Int)) (w : World) (hr : In64 r) (hn : In64 n) (hm : len ≤ 9223372036854775807) (hz : Acts w A len zs) :
    Calls Try.prog 3 #[.int .i64 r, .int .i64 n, .slice A len cap] w fun e w' => e = .returned (.bool true) ∧ Below w.heap.size w w' := by
  have HZ := Lib.hid hz
  clear hz
  obtain ⟨hr0, hr1⟩ := hr
  obtain ⟨hn0, hn1⟩ := hn
  rcases (by omega : (1 ≤ r ∧ r ≤ 1000 ∧ 1 ≤ n ∧ n ≤ 1000 ∧ (20 < r ∨ (r ≤ 20 ∧ 20 < n))) ∨ (120 < len ∧ ((r < 1) ∨ (1 ≤ r ∧ 1000 < r) ∨ (1 ≤ r ∧ r ≤ 1000 ∧ n < 1) ∨ (1 ≤ r ∧ r ≤ 1000 ∧ 1 ≤ n ∧ 1000 < n) ∨ (1 ≤ r ∧ r ≤ 20 ∧ 1 ≤ n ∧ n ≤ 20))) ∨
      (len ≤ 120 ∧ ((r < 1) ∨ (1 ≤ r ∧ 1000 < r) ∨ (1 ≤ r ∧ r ≤ 1000 ∧ n < 1) ∨ (1 ≤ r ∧ r ≤ 1000 ∧ 1 ≤ n ∧ 1000 < n))) ∨ (len ≤ 120 ∧ 1 ≤ r ∧ r ≤ 20 ∧ 1 ≤ n ∧ n ≤ 20)) with
      ⟨g1, g2, g3, g4, g5⟩ | ⟨g1, g2⟩ | ⟨g1, g2⟩ | ⟨g1, g2, g3, g4, g5⟩
  · rcases g5 with g5 | ⟨g5, g6⟩
    all_goals
      go_enter Try.func3, Try.ntmps3
      go_wp2_with (go_at_call 6; refine (awake_any I _).mono ?_; rintro e w' ⟨rfl, hb⟩)
      go_ret
      exact ⟨rfl, hb⟩
  · rcases g2 with g2 | ⟨g2, g3⟩ | ⟨g2, g3, g4⟩ | ⟨g2, g3, g4, g5⟩ | ⟨g2, g3, g4, g5⟩
    all_goals
      go_enter Try.func3, Try.ntmps3
      go_wp2_with (go_at_call 6; refine (awake_any I _).mono ?_; rintro e w' ⟨rfl, hb⟩)
      go_ret
      exact ⟨rfl, hb⟩
  · have hno : Hid (r < 1 ∨ 1000 < r ∨ n < 1 ∨ 1000 < n) := by show _ ∨ _; omega
    rcases g2 with g2 | ⟨g2, g3⟩ | ⟨g2, g3, g4⟩ | ⟨g2, g3, g4, g5⟩
    all_goals
      go_enter Try.func3, Try.ntmps3
      go_wp2_with (first
        | (go_at_call 6; refine (awake_any I _).mono ?_; rintro e w' ⟨rfl, hb⟩)
        | (go_at_call 7; refine (I.new_no r n _ ⟨hr0, hr1⟩ ⟨hn0, hn1⟩ hno.out).mono ?_; rintro e w2 ⟨rfl, hb2⟩)
        | (go_at_call 8; refine (new_no r n _ hno.out).mono ?_; rintro e w3 ⟨rfl, rfl⟩))
      go_ret
      exact ⟨rfl, hb.trans (hb2.mono hb.size)⟩
  · go_enter Try.func3, Try.ntmps3
    go_wp2_with fail
    refine (awake_any I _).mono ?_
    rintro e w1 ⟨rfl, hb1⟩
    go_wp2_with fail
    refine (I.new_yes r n w1 (by omega) (by omega) (by omega) (by omega)).mono ?_
    rintro e w2 ⟨v, F, rfl, hA, hb2, hF⟩
    obtain ⟨pa, rfl⟩ := I.ptr hA
    have HA := Lib.hid hA
    have HF := Lib.hid hF
    have HB2 := Lib.hid hb2
    have HB1 := Lib.hid hb1
    clear hA hF hb2 hb1
    go_wp2_with fail
    refine (new_yes r n w2 (by omega) (by omega) (by omega) (by omega)).mono ?_
    rintro e w3 ⟨p, q, rfl, hR, hb3⟩
    have HT : Hid (Two I w w3 (.pointer (some pa)) p q (List.replicate r.toNat []) (List.replicate r.toNat []) n []) := by
      have h1 := HB1.out
      have h2 := HB2.out
      refine ⟨F, I.keep HA.out hb3.size fun k hk _ => hb3.block k hk, hR.mono fun k hk hG => ⟨?_, fun hf => ?_⟩, (h1.trans (h2.mono h1.size)).trans (hb3.mono (Nat.le_trans h1.size h2.size)), fun k hk => Nat.le_trans h1.size (HF.out k hk), fun k hk => by cases hk⟩
      · exact Nat.le_trans (Nat.le_trans h1.size h2.size) hG
      · have := I.lt HA.out k hf
        omega
    clear HA HF HB2 HB1 hR hb3
    go_wp2
    go_loopw [74] (fun t wr => ∃ k : Nat, k ≤ len ∧ t = .int .i64 k ∧ ∃ L, Hid (Two I w wr (.pointer (some pa)) p q L L n [])) (fun t _ => len - (intOf t).toNat)
    case atStart => exact ⟨0, Nat.zero_le _, rfl, _, HT⟩
    case round =>
      clear HT
      obtain ⟨k, hk, rfl, L, HT⟩ := hrel
      by_cases hlt : k < len
      · obtain ⟨hzl, hz64, hzc⟩ := HZ.out
        obtain ⟨b, off, rfl, hbw, hc⟩ := hzc (by omega)
        obtain ⟨c0, c1, c2⟩ := hc k hlt
        have ho := HT.out.old
        have k0 := (ho.cell (p := ⟨b, off + k * 3, none⟩) hbw).trans c0
        have k1 := (ho.cell (p := ⟨b, off + k * 3 + 1, none⟩) hbw).trans c1
        have k2 := (ho.cell (p := ⟨b, off + k * 3 + 2, none⟩) hbw).trans c2
        have h64 : In64 (zs.getD k (0, 0, 0)).2.1 ∧ In64 (zs.getD k (0, 0, 0)).2.2 := hz64 _ (by rw [List.getD_eq_getElem?_getD, List.getElem?_eq_getElem (by omega)]; exact List.getElem_mem _)
        generalize zs.getD k (0, 0, 0) = z at k0 k1 k2 h64
        obtain ⟨d, x, y⟩ := z
        have H64 := Lib.hid h64
        have hok := Lib.hid HT.out.ok
        simp only at k0 k1 k2
        clear c0 c1 c2 hc ho h64 hz64 hzc hzl
        obtain ⟨E, hE⟩ : ∃ E, actE L n d x y = E := ⟨_, rfl⟩
        obtain ⟨M, hM⟩ : ∃ M, actN L d x = M := ⟨_, rfl⟩
        obtain ⟨B, hB⟩ : ∃ B, actB L d x = B := ⟨_, rfl⟩
        obtain ⟨L', hL'⟩ : ∃ L', actL L n d x y = L' := ⟨_, rfl⟩
        have HE := Lib.hid hE
        have HM := Lib.hid hM
        have HB := Lib.hid hB
        have HL := Lib.hid hL'
        clear hE hM hB hL'
        have HX := Lib.hid (HT.out.new (.cells #[.int .i64 d, .int .i64 x, .int .i64 y] 32))
        have HN : Hid ((wr.alloc (.cells #[.int .i64 d, .int .i64 x, .int .i64 y] 32)).heap[wr.heap.size]? = some (.cells #[.int .i64 d, .int .i64 x, .int .i64 y] 32 (0, 0))) := heap_alloc_new wr _
        go_wp2_with fail
        refine (two_do HX.out d x y H64.out.1 H64.out.2 HE.out HM.out HB.out HL.out).mono ?_
        rintro e w4 ⟨rfl, hT4, hg4⟩
        have HT4 := Lib.hid hT4
        have hg := (hg4 _ (List.mem_cons_self ..)).trans HN.out
        have g0 : w4.cell? ⟨wr.heap.size, 0, none⟩ = some (.int .i64 d) := (cell_block hg 0).trans rfl
        have g1' : w4.cell? ⟨wr.heap.size, 1, none⟩ = some (.int .i64 x) := (cell_block hg 1).trans rfl
        have g2' : w4.cell? ⟨wr.heap.size, 2, none⟩ = some (.int .i64 y) := (cell_block hg 2).trans rfl
        clear hT4 hg4 hg HX HN k0 k1 k2
        go_wp2_with fail
        refine (two_own HT4.out hok.out d x y HE.out HM.out HB.out HL.out).mono ?_
        rintro e w5 ⟨rfl, hT5, hg5⟩
        have HT5 := Lib.hid hT5.less
        clear hT5 hg5 g0 g1' g2' HT4
        have n1 : (E != E) = false := by simp
        have n2 : (M != M) = false := by simp
        have n3 : (B != B) = false := by simp
        go_wp2_with fail
        refine (two_alike HT5.out).mono ?_
        rintro e w6 ⟨rfl, hT6⟩
        have HT6 := Lib.hid hT6
        clear hT6 HT5
        go_wp2
        go_roundw
        case rel => exact ⟨k + 1, by omega, by go_num, L', HT6⟩
        case measure => simp [intOf]; omega
      · go_wp2_with fail
        refine (two_alike HT.out).mono ?_
        rintro e w5 ⟨rfl, hT⟩
        go_wp2
        go_ret
        exact ⟨rfl, hT.old⟩
end Go.Proofs.Ytaoagoklgjcdcaa.RingI
