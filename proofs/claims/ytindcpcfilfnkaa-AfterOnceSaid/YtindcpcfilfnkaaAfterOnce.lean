/-
  The walk of the law AfterOnce over any package that meets 'Af': it returns true and leaves old memory as it was. Conditions: none but 'Af'.
-/
import Derived.Test.YtindcpcfilfnkaaAfterStops
import Derived.Test.YtindcpcfilfnkaaRowV
namespace Go.Proofs.Ytindcpcfilfnkaa.AfterI
open Go.ChangeShapes Go.WideShapes Go.ChangeAt Go.RowKit Mem AfterP Hand RefAfter RowV

def rowI (f : Nat → Int) : Array Value := rowV 40 fun i => .int .i64 (f i)
def rowB (f : Nat → Bool) : Array Value := rowV 40 fun i => .bool (f i)
theorem built_i : Try.prog.built 51 [] = some (rowI fun _ => 0) := by kernel_rfl
theorem built_b : Try.prog.built 52 [] = some (rowB fun _ => false) := by kernel_rfl
theorem zero_i : (Try.prog.info? 51).map (·.zero) = some (some (.agg (rowI fun _ => 0))) := by kernel_rfl
theorem zero_b : (Try.prog.info? 52).map (·.zero) = some (some (.agg (rowB fun _ => false))) := by kernel_rfl
theorem size_i : (Try.prog.info? 51).map (·.size) = some 40 := by kernel_rfl
theorem size_b : (Try.prog.info? 52).map (·.size) = some 40 := by kernel_rfl
theorem one_i (f : Nat → Int) : ∀ i, ((fun i => Value.int .i64 (f i)) i).oneCell' = true := fun _ => rfl
theorem one_b (f : Nat → Bool) : ∀ i, ((fun i => Value.bool (f i)) i).oneCell' = true := fun _ => rfl
theorem rowI_set (f : Nat → Int) (i : Nat) (x : Int) : (rowI f).setIfInBounds i (.int .i64 x) = rowI fun j => if j = i then x else f j := by
  unfold rowI
  rw [row_set]
  congr 1
  funext j
  by_cases h : j = i <;> simp [h]
theorem rowB_set (f : Nat → Bool) (i : Nat) (x : Bool) : (rowB f).setIfInBounds i (.bool x) = rowB fun j => if j = i then x else f j := by
  unfold rowB
  rw [row_set]
  congr 1
  funext j
  by_cases h : j = i <;> simp [h]

section
variable {ops : Array Oper} {rest : List Oper} {o : Oper} {a : Act} {w : World} {Q : Exit → Act → World → Prop}
theorem wl_storeI (hg : o.guard = none) (x y : Operand) (ho : o.op = .store 51 x y) (g : Nat) (f : Nat → Int) (hx : a.eval x = .pointer (some ⟨g, 0, none⟩)) (hy : a.eval y = .agg (rowI f)) (hb : w.heap[g]? = some (.cells (rowI f) 51 (0, 0)))
    (h : wpList Try.prog ops Q rest (a.put o.dst undef) w) : wpList Try.prog ops Q (o :: rest) a w := wl_store hg _ x y ho hx hy hb size_i (one_i f) h
theorem wl_storeB (hg : o.guard = none) (x y : Operand) (ho : o.op = .store 52 x y) (g : Nat) (f : Nat → Bool) (hx : a.eval x = .pointer (some ⟨g, 0, none⟩)) (hy : a.eval y = .agg (rowB f)) (hb : w.heap[g]? = some (.cells (rowB f) 52 (0, 0)))
    (h : wpList Try.prog ops Q rest (a.put o.dst undef) w) : wpList Try.prog ops Q (o :: rest) a w := wl_store hg _ x y ho hx hy hb size_b (one_b f) h
end

theorem rd_cells {w : World} {G : Nat → Prop} {A : Option Addr} {n c : Nat} {xs : List Int} (h : Rd w G (.slice A n c) xs) (hp : 0 < xs.length) : ∃ b off, A = some ⟨b, off, none⟩ ∧ G b ∧ b < w.heap.size ∧ ∀ j, j < xs.length → w.cell? ⟨b, off + j, none⟩ = some (.int .i64 (xs.getD j 0)) := by
  obtain ⟨A', c', e, _, hx⟩ := h
  injection e with e1 e2 e3
  subst e1
  exact hx hp
theorem bgn_add (L : List Rg) (a b : Int) : bgn (L ++ [⟨a, b, 1⟩]) = bgn L := by
  funext i
  unfold bgn
  rw [rg_snoc]
  by_cases h : i = L.length
  · subst h; rw [if_pos rfl, rg_out (Nat.le_refl _)]; simp
  · rw [if_neg h]
theorem stp_add (L : List Rg) (a b : Int) : stp (L ++ [⟨a, b, 1⟩]) = stp L := by
  funext i
  unfold stp
  rw [rg_snoc]
  by_cases h : i = L.length
  · subst h; rw [if_pos rfl, rg_out (Nat.le_refl _)]; simp
  · rw [if_neg h]
theorem ons_add (L : List Rg) (a b : Int) : ons (L ++ [⟨a, b, 1⟩]) = fun i => if i = L.length then a else ons L i := by
  funext i
  unfold ons
  rw [rg_snoc]
  split <;> rfl
theorem bgn_stop (L : List Rg) {k : Nat} (hk : k < L.length) (h1 : (rg L k).st = 1) : bgn (L.set k { rg L k with st := 3 }) = bgn L := by
  funext i
  unfold bgn
  rw [rg_set L hk]
  by_cases h : i = k
  · subst h; rw [if_pos rfl, h1]; simp
  · rw [if_neg h]
theorem stp_stop (L : List Rg) {k : Nat} (hk : k < L.length) : stp (L.set k { rg L k with st := 3 }) = fun i => if i = k then true else stp L i := by
  funext i
  unfold stp
  rw [rg_set L hk]
  by_cases h : i = k
  · subst h; rw [if_pos rfl, if_pos rfl]; simp
  · rw [if_neg h, if_neg h]
theorem ons_stop (L : List Rg) {k : Nat} (hk : k < L.length) : ons (L.set k { rg L k with st := 3 }) = ons L := by
  funext i
  unfold ons
  rw [rg_set L hk]
  by_cases h : i = k
  · subst h; rw [if_pos rfl]
  · rw [if_neg h]
/-- What an act is to the three rows. -/
structure Acted (L L2 : List Rg) (d : Int) (l O : List Int) : Prop where
  once : O.Nodup
  each : ∀ k ∈ O, ∃ i : Nat, k = i ∧ i < L2.length ∧ stp L2 i = false ∧ bgn L i = 0
  bgn_ : bgn L2 = fun i : Nat => if (i : Int) ∈ O then 1 else bgn L i
  len : L2.length ≤ 40
  all : d = 2 → ∀ n : Nat, n < L2.length → ∀ e ∈ l, e = ons L2 n → stp L2 n = true ∨ bgn L2 n ≠ 0
theorem acted {L : List Rg} (hok : Ok L 40) (d a b : Int) (l : List Int) : Acted L (actL L 40 d a b l) d l (actO L d l) := by
  have hlen := hok.len
  by_cases d0 : d = 0
  · subst d0
    have hO : actO L 0 l = [] := rfl
    have hb : bgn (actL L 40 0 a b l) = bgn L := by
      show bgn (addL L 40 a b) = _
      unfold addL
      split
      · exact bgn_add L a b
      · rfl
    refine ⟨by rw [hO]; exact .nil, fun k hk => by rw [hO] at hk; simp at hk, by rw [hb, hO]; funext i; simp, ?_, fun h => by simp at h⟩
    show (addL L 40 a b).length ≤ 40
    unfold addL
    split
    · rw [List.length_append, List.length_singleton]; omega
    · omega
  by_cases d1 : d = 1
  · subst d1
    have hO : actO L 1 l = [] := rfl
    have hb : bgn (actL L 40 1 a b l) = bgn L := by
      show bgn (stopL L a) = _
      unfold stopL
      split
      · next hs =>
        unfold stopB at hs
        rw [Bool.and_eq_true, decide_eq_true_eq] at hs
        obtain ⟨i, rfl, hi⟩ := thereR_nat hs.1
        exact bgn_stop L hi hs.2
      · rfl
    refine ⟨by rw [hO]; exact .nil, fun k hk => by rw [hO] at hk; simp at hk, by rw [hb, hO]; funext i; simp, ?_, fun h => by simp at h⟩
    show (stopL L a).length ≤ 40
    unfold stopL
    split
    · rw [List.length_set]; omega
    · omega
  by_cases d2 : d = 2
  · subst d2
    show Acted L (fireL L l) 2 l (fireO L l)
    obtain ⟨f1, f2, f3⟩ := fire_rg l L
    refine ⟨f2, fun k hk => ?_, bgn_fire L l, by rw [fireL_len]; omega, fun _ n hn e he h => ?_⟩
    · obtain ⟨g1, g2⟩ := f3 k hk
      obtain ⟨i, rfl, hi⟩ := thereR_nat g1
      refine ⟨i, rfl, by rw [fireL_len]; exact hi, by rw [stp_fire]; unfold stp; rw [g2]; rfl, by unfold bgn; rw [g2]; rfl⟩
    · rw [fireL_len] at hn
      have hne := fire_none l L n hn e he h.symm
      have hst := (Ok.fire l hok).sts (rg (fireL L l) n) (List.mem_of_getElem? (rg_at (by rw [fireL_len]; exact hn)))
      rcases hst with h1 | h1 | h1
      · exact absurd h1 hne
      · right; unfold bgn; rw [h1]; simp
      · left; unfold stp; rw [h1]; rfl
  · have hO : actO L d l = [] := if_neg d2
    have hL : actL L 40 d a b l = L := by unfold actL; rw [if_neg d0, if_neg d1, if_neg d2]
    rw [hO, hL]
    exact ⟨.nil, fun k hk => by simp at hk, by funext i; simp, by omega, fun h => absurd h d2⟩

/-- The law's own three rows, over the registrations. -/
def three (gb gs go : Nat) (b : Nat → Int) (s : Nat → Bool) (o : Nat → Int) : List Res := [blk go (.cells (rowI o) 51), blk gs (.cells (rowB s) 52), blk gb (.cells (rowI b) 51)]

set_option maxHeartbeats 800000 in
set_option maxRecDepth 100000 in
theorem once_main (I : Af) (A : Option Addr) (len cap : Nat) (zs : List Ac) (w : World) (_hlen : len ≤ 9223372036854775807) (hz : ZsIn w A len cap zs) (h60 : len ≤ 60) (hno : zs.any (fun z => decide (60 < z.on)) = false)
    (hL : ∀ W, Below w.heap.size w W → Calls Try.prog 7 #[.slice A len cap] W (fun e w' => e = .returned (.bool false) ∧ Below w.heap.size w w')) :
    Calls Try.prog 4 #[.slice A len cap] w fun e w' => e = .returned (.bool true) ∧ Below w.heap.size w w' := by
  obtain ⟨hzl, hzr, hzo⟩ := hz (by omega)
  subst hzl
  have HZR := Lib.hid hzr
  have HZO : Hid (∀ z ∈ zs, AcIn w z ∧ z.on ≤ 60) := fun z h => ⟨(hzo z h).1, by
    have := List.any_eq_false.1 hno z h
    simp at this
    exact this⟩
  have HLG := Lib.hid hL
  clear hzr hzo hz hno hL
  go_enter Try.func4, Try.ntmps4
  go_wp2_with fail
  refine (awake_any I _).mono ?_
  rintro e w1 ⟨rfl, hb1⟩
  have HB1 := Lib.hid hb1
  clear hb1
  go_wp2_with fail
  refine (HLG.out _ HB1.out).mono ?_
  rintro e w1 ⟨rfl, hb1⟩
  have S1 := Lib.hid ((Sep.nil (fun _ => False) w).next hb1)
  clear hb1 HB1 HLG
  go_wp2_with fail
  refine (f_new S1.out I 40 (by omega) (by omega)).mono ?_
  rintro e w2 ⟨a, rfl, h2'⟩
  have S2 := Lib.hid h2'
  clear h2' S1
  go_upto_region 8 with (fail)
  have S3 := ((S2.out.new (.cells (rowI fun _ => 0) 51)).new (.cells (rowB fun _ => false) 52)).new (.cells (rowI fun _ => 0) 51)
  have es1 : (w2.alloc (.cells (rowI fun _ => 0) 51)).heap.size = w2.heap.size + 1 := by simp
  have es2 : ((w2.alloc (.cells (rowI fun _ => 0) 51)).alloc (.cells (rowB fun _ => false) 52)).heap.size = w2.heap.size + 1 + 1 := by simp
  rw [es2, es1] at S3
  have S4 := Lib.hid S3
  clear S2 S3
  have BB1 : Hid ((((w2.alloc (.cells (rowI fun _ => 0) 51)).alloc (.cells (rowB fun _ => false) 52)).alloc (.cells (rowI fun _ => 0) 51)).heap[w2.heap.size]? = some (.cells (rowI fun _ => 0) 51 (0, 0))) := of3 w2 (.cells (rowI fun _ => 0) 51) (.cells (rowB fun _ => false) 52) (.cells (rowI fun _ => 0) 51)
  have BB2 : Hid ((((w2.alloc (.cells (rowI fun _ => 0) 51)).alloc (.cells (rowB fun _ => false) 52)).alloc (.cells (rowI fun _ => 0) 51)).heap[(w2.alloc (.cells (rowI fun _ => 0) 51)).heap.size]? = some (.cells (rowB fun _ => false) 52 (0, 0))) := by show _ = _; rw [es1]; exact of3' w2 (.cells (rowI fun _ => 0) 51) (.cells (rowB fun _ => false) 52) (.cells (rowI fun _ => 0) 51)
  have BB3 : Hid ((((w2.alloc (.cells (rowI fun _ => 0) 51)).alloc (.cells (rowB fun _ => false) 52)).alloc (.cells (rowI fun _ => 0) 51)).heap[((w2.alloc (.cells (rowI fun _ => 0) 51)).alloc (.cells (rowB fun _ => false) 52)).heap.size]? = some (.cells (rowI fun _ => 0) 51 (0, 0))) := by show _ = _; rw [es2]; exact of3'' w2 (.cells (rowI fun _ => 0) 51) (.cells (rowB fun _ => false) 52) (.cells (rowI fun _ => 0) 51)
  go_wp2_with (first | (refine wl_build rfl 51 rfl built_i ?_; simp only [Act.put, List.setIfInBounds_toArray, List.set_cons_zero, List.set_cons_succ]) | (refine wl_build rfl 52 rfl built_b ?_; simp only [Act.put, List.setIfInBounds_toArray, List.set_cons_zero, List.set_cons_succ]) | (refine wl_alloc rfl 51 rfl zero_i ?_; simp only [Act.put, List.setIfInBounds_toArray, List.set_cons_zero, List.set_cons_succ]) | (refine wl_alloc rfl 52 rfl zero_b ?_; simp only [Act.put, List.setIfInBounds_toArray, List.set_cons_zero, List.set_cons_succ]) | (refine wl_storeI rfl (.tmp 5) (.tmp 30) rfl _ _ rfl rfl BB1.out ?_) | (refine wl_storeB rfl (.tmp 6) (.tmp 31) rfl _ _ rfl rfl BB2.out ?_) | (refine wl_storeI rfl (.tmp 7) (.tmp 32) rfl _ _ rfl rfl BB3.out ?_))
  clear BB1 BB2 BB3
  generalize ((w2.alloc (.cells (rowI fun _ => 0) 51)).alloc (.cells (rowB fun _ => false) 52)).alloc (.cells (rowI fun _ => 0) 51) = w3 at *
  clear es1 es2
  generalize w2.heap.size + 1 + 1 = go at *
  generalize w2.heap.size + 1 = gs at *
  generalize w2.heap.size = gb at *
  have SZ : Hid (Sep (fun _ => False) w w3 [blk go (.cells (rowI (ons ([] : List Rg))) 51), blk gs (.cells (rowB (stp ([] : List Rg))) 52), blk gb (.cells (rowI (bgn ([] : List Rg))) 51), ob I.O (.pointer (some a)) ([], 40)]) := S4.out
  clear S4
  go_wp2
  go_loopw [8, 35] (fun m u wr => ∃ (j : Nat) (L : List Rg), j ≤ zs.length ∧ u = .int .i64 j ∧ m = .int .i64 L.length ∧ Hid (Sep (fun _ => False) w wr [blk go (.cells (rowI (ons L)) 51), blk gs (.cells (rowB (stp L)) 52), blk gb (.cells (rowI (bgn L)) 51), ob I.O (.pointer (some a)) (L, 40)])) (fun _ u _ => zs.length - (intOf u).toNat)
  case atStart => exact ⟨0, [], Nat.zero_le _, rfl, rfl, SZ.out⟩
  case round =>
    obtain ⟨j, L, hj, rfl, rfl, HS⟩ := hrel
    clear SZ
    by_cases hlt : j < zs.length
    · have hx : zs[j]? = some zs[j] := List.getElem?_eq_getElem hlt
      generalize zs[j] = z at hx
      obtain ⟨⟨hd64, ha64, hb64, hl⟩, hon⟩ := HZO.out z (List.mem_of_getElem? hx)
      obtain ⟨l, hll, hlr, hli⟩ := hl (by omega)
      obtain ⟨bb, off, rfl, hbb, c0, c1, c2, c3⟩ := ac_cells HZR.out hx
      have hb := HS.out.old
      have q0 := (hb.cell (p := ⟨bb, off + j * 4, none⟩) hbb).trans c0
      have q1 := (hb.cell (p := ⟨bb, off + j * 4 + 1, none⟩) hbb).trans c1
      have q2 := (hb.cell (p := ⟨bb, off + j * 4 + 2, none⟩) hbb).trans c2
      have q3 := (hb.cell (p := ⟨bb, off + j * 4 + 3, none⟩) hbb).trans c3
      obtain ⟨d, aa, ab, oa, on', oc⟩ := z
      simp only at hll hlr hon q0 q1 q2 q3 ha64 hb64
      subst hll
      have S4 := Lib.hid (HS.out.new (.cells #[.int .i64 d, .int .i64 aa, .int .i64 ab, .slice oa l.length oc] 34))
      have HUL : Hid (∀ W, Below w.heap.size w W → Rd W (fun k => k < w.heap.size ∧ ¬ False) (.slice oa l.length oc) l) := fun W hW => (hlr.below hW).mono fun k _ h => ⟨h, fun f => f⟩
      have HA64 := Lib.hid ha64
      have HB64 := Lib.hid hb64
      have HLI := Lib.hid hli
      have hok := f_ok HS.out 3 rfl
      have HOK := Lib.hid hok
      have HAC := Lib.hid (acted hok d aa ab l)
      have hL40 : L.length ≤ 40 := by have := hok.len; omega
      have hL240 := HAC.out.len
      have HOL : Hid ((actO L d l).length ≤ 4000) := by
        have h1 := fireO_len L l
        have h2 := Nat.mul_le_mul hL40 (show l.length ≤ 60 by omega)
        show _ ≤ _
        unfold actO
        split
        · omega
        · simp
      clear hx c0 c1 c2 c3 hb HS hd64 ha64 hb64 hl hlr hli hok
      go_wp2_with fail
      refine (f_do S4.out 4 rfl d aa ab oa oc l HA64.out HB64.out (by omega) (HUL.out _ S4.out.old) HLI.out).mono ?_
      rintro e w5 ⟨A5, c5, rfl, h5⟩
      generalize hbx : wr.heap.size = bx at *
      have S5 : Hid (Sep (fun _ => False) w w5 [nums (.slice A5 (actO L d l).length c5) (actO L d l), blk bx (.cells #[.int .i64 d, .int .i64 aa, .int .i64 ab, .slice oa l.length oc] 34), blk go (.cells (rowI (ons L)) 51), blk gs (.cells (rowB (stp L)) 52), blk gb (.cells (rowI (bgn L)) 51), ob I.O (.pointer (some a)) (actL L 40 d aa ab l, 40)]) := h5
      have a0 : w5.cell? ⟨bx, 0, none⟩ = some (.int .i64 d) := (cell_block (S5.out.blk_at 1 rfl) 0).trans rfl
      have a1 : w5.cell? ⟨bx, 1, none⟩ = some (.int .i64 aa) := (cell_block (S5.out.blk_at 1 rfl) 1).trans rfl
      have HV : Hid (actV L 40 d = if d = 0 then addV L 40 else 0) := rfl
      have HE : Hid (actE L 40 d = if d = 0 then addE L 40 else 0) := rfl
      have HBO : Hid (actB L d aa = if d = 1 then stopB L aa else false) := rfl
      have HL2 : Hid (actL L 40 d aa ab l = if d = 0 then addL L 40 aa ab else if d = 1 then stopL L aa else if d = 2 then fireL L l else L) := rfl
      clear h5 S4 q0 q1 q2 q3 hbx
      generalize hO : actO L d l = O at *
      generalize actL L 40 d aa ab l = L2 at *
      generalize actV L 40 d = V at *
      generalize actE L 40 d = E at *
      generalize actB L d aa = Bo at *
      go_upto_block 2 with (fail)
      go_cut [8] from 47 to 86 (fun m wx => m = .int .i64 L2.length ∧ Hid (Sep (fun _ => False) w wx [nums (.slice A5 O.length c5) O, blk bx (.cells #[.int .i64 d, .int .i64 aa, .int .i64 ab, .slice oa l.length oc] 34), blk go (.cells (rowI (ons L2)) 51), blk gs (.cells (rowB (stp L2)) 52), blk gb (.cells (rowI (bgn L)) 51), ob I.O (.pointer (some a)) (L2, 40)]))
      case first => as_aux_lemma =>
        by_cases d0 : d = 0
        · subst d0
          have hV : V = addV L 40 := by rw [HV.out]; rfl
          have hE : E = addE L 40 := by rw [HE.out]; rfl
          have hL2 : L2 = addL L 40 aa ab := by rw [HL2.out]; rfl
          clear HV HE HBO HL2
          by_cases hl : (L.length : Int) < 40
          · unfold addV at hV
            unfold addE at hE
            unfold addL at hL2
            rw [if_pos hl] at hV hE hL2
            subst hV hE hL2
            have HR := Lib.hid (ons_add L aa ab)
            have HR2 := Lib.hid (stp_add L aa ab)
            have S6 : Hid (Sep (fun _ => False) w (w5.setCell ⟨go, L.length, none⟩ (.int .i64 aa)) [nums (.slice A5 O.length c5) O, blk bx (.cells #[.int .i64 0, .int .i64 aa, .int .i64 ab, .slice oa l.length oc] 34), blk go (.cells (rowI (ons (L ++ [⟨aa, ab, 1⟩]))) 51), blk gs (.cells (rowB (stp (L ++ [⟨aa, ab, 1⟩]))) 52), blk gb (.cells (rowI (bgn L)) 51), ob I.O (.pointer (some a)) (L ++ [⟨aa, ab, 1⟩], 40)]) := by
              have h6 := S5.out.set 2 rfl L.length (.int .i64 aa)
              rw [rowI_set] at h6
              rw [HR.out, HR2.out]
              exact h6
            have hgo := S5.out.blk_at 2 rfl
            have cgo : w5.cell? ⟨go, L.length, none⟩ = some (.int .i64 (ons L L.length)) := row_cell hgo (by omega)
            have fgo := frozen_block hgo L.length
            have i0 : (0 : Int) ≤ (L.length : Int) := by omega
            have hge : decide ((40 : Int) ≤ (L.length : Int)) = false := by simp; omega
            have hln : (L ++ [⟨aa, ab, 1⟩] : List Rg).length = L.length + 1 := by simp
            have HLN := Lib.hid hln
            generalize (L ++ [⟨aa, ab, 1⟩] : List Rg) = L3 at *
            generalize ons L L.length = ov at *
            clear hgo hln HR HR2 S5
            go_wp2
            go_meet
            exact ⟨by rw [HLN.out]; go_num, S6.out⟩
          · unfold addE at hE
            unfold addL at hL2
            rw [if_neg hl] at hE hL2
            subst hE hL2
            clear hl hV
            go_wp2
            go_meet
            exact ⟨rfl, S5.out⟩
        · have e0 : (d == 0) = false := by simpa using d0
          by_cases d1 : d = 1
          · subst d1
            have hB : Bo = stopB L aa := by rw [HBO.out]; rfl
            have hL2 : L2 = stopL L aa := by rw [HL2.out]; rfl
            clear HV HE HBO HL2
            cases hs : stopB L aa with
            | false =>
              rw [hs] at hB
              have hL3 : L2 = L := by rw [hL2]; unfold stopL; rw [if_neg (by rw [hs]; simp)]
              subst hB hL3
              clear hL2 hs
              go_wp2
              go_meet
              exact ⟨rfl, S5.out⟩
            | true =>
              rw [hs] at hB
              unfold stopL at hL2
              rw [if_pos hs] at hL2
              unfold stopB at hs
              rw [Bool.and_eq_true, decide_eq_true_eq] at hs
              obtain ⟨k, rfl, hk⟩ := thereR_nat hs.1
              rw [Int.toNat_natCast] at hL2
              have HR := Lib.hid (ons_stop L hk)
              have HR2 := Lib.hid (stp_stop L hk)
              have HLN : Hid (L2.length = L.length) := by show _ = _; rw [hL2, List.length_set]
              subst hB
              have S6 : Hid (Sep (fun _ => False) w (w5.setCell ⟨gs, k, none⟩ (.bool true)) [nums (.slice A5 O.length c5) O, blk bx (.cells #[.int .i64 1, .int .i64 k, .int .i64 ab, .slice oa l.length oc] 34), blk go (.cells (rowI (ons L2)) 51), blk gs (.cells (rowB (stp L2)) 52), blk gb (.cells (rowI (bgn L)) 51), ob I.O (.pointer (some a)) (L2, 40)]) := by
                have h6 := S5.out.set 3 rfl k (.bool true)
                rw [rowB_set, ← HR2.out, ← HR.out, ← hL2] at h6
                exact h6
              have hgs := S5.out.blk_at 3 rfl
              have cgs : w5.cell? ⟨gs, k, none⟩ = some (.bool (stp L k)) := row_cell hgs (by omega)
              have fgs := frozen_block hgs k
              have i0 : (0 : Int) ≤ (k : Int) := by omega
              have i1 : (k : Int) < 40 := by omega
              have hge : decide ((L.length : Int) ≤ (k : Int)) = false := by simp; omega
              have hg0 : decide ((k : Int) < 0) = false := by simp
              generalize stp L k = sv at *
              clear hgs hs HR HR2 S5 hL2
              go_wp2
              go_meet
              exact ⟨by rw [HLN.out], S6.out⟩
          · have e1 : (d == 1) = false := by simpa using d1
            have hL3 : L2.length = L.length ∧ ons L2 = ons L ∧ stp L2 = stp L := by
              rw [HL2.out, if_neg d0, if_neg d1]
              split
              · exact ⟨fireL_len _ _, ons_fire _ _, stp_fire _ _⟩
              · exact ⟨rfl, rfl, rfl⟩
            have HR := Lib.hid hL3
            clear HV HE HBO HL2 hL3 d0 d1
            go_wp2
            go_meet
            obtain ⟨g1, g2, g3⟩ := HR.out
            exact ⟨by rw [g1], by show Sep _ _ _ _; rw [g2, g3]; exact S5.out⟩
      case rest => as_aux_lemma =>
        obtain ⟨rfl, HS⟩ := hcut
        clear HV HE HBO HL2 S5 a0 a1
        have hOl : O.length ≤ 4000 := HOL.out
        have SX : Hid (Sep (fun _ => False) w wc [nums (.slice A5 O.length c5) O, blk bx (.cells #[.int .i64 d, .int .i64 aa, .int .i64 ab, .slice oa l.length oc] 34), blk go (.cells (rowI (ons L2)) 51), blk gs (.cells (rowB (stp L2)) 52), blk gb (.cells (rowI (fun t : Nat => if (t : Int) ∈ O.take 0 then 1 else bgn L t)) 51), ob I.O (.pointer (some a)) (L2, 40)]) := by
          show Sep _ _ _ _
          have : (fun t : Nat => if (t : Int) ∈ O.take 0 then 1 else bgn L t) = bgn L := by funext t; simp
          rw [this]; exact HS.out
        clear HS
        go_wp2
        go_loopw [89] (fun u W => ∃ i : Nat, i ≤ O.length ∧ u = .int .i64 i ∧ Hid (Sep (fun _ => False) w W [nums (.slice A5 O.length c5) O, blk bx (.cells #[.int .i64 d, .int .i64 aa, .int .i64 ab, .slice oa l.length oc] 34), blk go (.cells (rowI (ons L2)) 51), blk gs (.cells (rowB (stp L2)) 52), blk gb (.cells (rowI (fun t : Nat => if (t : Int) ∈ O.take i then 1 else bgn L t)) 51), ob I.O (.pointer (some a)) (L2, 40)])) (fun u _ => O.length - (intOf u).toNat)
        case atStart => exact ⟨0, Nat.zero_le _, rfl, SX.out⟩
        case round =>
          obtain ⟨i, hi, rfl, HS⟩ := hrel
          clear SX
          by_cases hlt : i < O.length
          · obtain ⟨b1, o1, e1, _, _, hc1⟩ := rd_cells (HS.out.rd 0 rfl) (by omega)
            subst e1
            have q0 := hc1 i hlt
            have hg : O[i]? = some (O.getD i 0) := by rw [List.getD_eq_getElem?_getD, List.getElem?_eq_getElem hlt]; rfl
            obtain ⟨k, hk, hkl, hks, hkb⟩ := HAC.out.each _ (List.mem_of_getElem? hg)
            have HTk : Hid (O.take (i + 1) = O.take i ++ [O.getD i 0]) := by show _ = _; rw [List.take_add_one, hg]; rfl
            have hnot : O.getD i 0 ∉ O.take i := by
              have hnd : (O.take (i + 1)).Nodup := (List.take_sublist _ _).nodup HAC.out.once
              rw [HTk.out, List.nodup_append] at hnd
              intro hm
              exact hnd.2.2 _ hm _ (by simp) rfl
            rw [hk] at q0 HTk hnot
            have hgb := HS.out.blk_at 4 rfl
            have hgs := HS.out.blk_at 3 rfl
            have cgb : wr.cell? ⟨gb, k, none⟩ = some (.int .i64 0) := by
              have : wr.cell? ⟨gb, k, none⟩ = some (.int .i64 (if (k : Int) ∈ O.take i then 1 else bgn L k)) := row_cell hgb (i := k) (by omega)
              rw [if_neg hnot, hkb] at this
              exact this
            have cgs : wr.cell? ⟨gs, k, none⟩ = some (.bool false) := by
              have := row_cell hgs (i := k) (by omega)
              rw [hks] at this
              exact this
            have fgb := frozen_block hgb k
            have SN : Hid (Sep (fun _ => False) w (wr.setCell ⟨gb, k, none⟩ (.int .i64 1)) [nums (.slice (some ⟨b1, o1, none⟩) O.length c5) O, blk bx (.cells #[.int .i64 d, .int .i64 aa, .int .i64 ab, .slice oa l.length oc] 34), blk go (.cells (rowI (ons L2)) 51), blk gs (.cells (rowB (stp L2)) 52), blk gb (.cells (rowI (fun t : Nat => if (t : Int) ∈ O.take (i + 1) then 1 else bgn L t)) 51), ob I.O (.pointer (some a)) (L2, 40)]) := by
              have h6 := HS.out.set 4 rfl k (.int .i64 1)
              rw [rowI_set] at h6
              have : (fun t : Nat => if t = k then (1 : Int) else if (t : Int) ∈ O.take i then 1 else bgn L t) = fun t : Nat => if (t : Int) ∈ O.take (i + 1) then 1 else bgn L t := by
                funext t
                rw [HTk.out]
                by_cases ht : t = k
                · subst ht; simp
                · have : (t : Int) ≠ k := by omega
                  simp [ht, this]
              rw [this] at h6
              exact h6
            have i0 : (0 : Int) ≤ (i : Int) := by omega
            have i1 : (i : Int) < (O.length : Int) := by omega
            have k0 : (0 : Int) ≤ (k : Int) := by omega
            have k1 : (k : Int) < 40 := by omega
            have hd0 : decide ((k : Int) < 0) = false := by simp
            have hd1 : decide ((L2.length : Int) ≤ (k : Int)) = false := by simp; omega
            clear hc1 hg hk hkb hks hnot hgb hgs HS HTk
            go_wp2
            go_roundw
            case rel => exact ⟨i + 1, by omega, by go_num, SN⟩
            case measure => simp [intOf]; omega
          · have S8 : Hid (Sep (fun _ => False) w wr [nums (.slice A5 O.length c5) O, blk bx (.cells #[.int .i64 d, .int .i64 aa, .int .i64 ab, .slice oa l.length oc] 34), blk go (.cells (rowI (ons L2)) 51), blk gs (.cells (rowB (stp L2)) 52), blk gb (.cells (rowI (bgn L2)) 51), ob I.O (.pointer (some a)) (L2, 40)]) := by
              have hE : O.take i = O := List.take_of_length_le (by omega)
              have h := HS.out
              rw [hE, ← HAC.out.bgn_] at h
              exact h
            have HUW := Lib.hid (HUL.out _ HS.out.old)
            clear HS
            go_wp2
            go_loopw [118] (fun u W => ∃ n : Nat, n ≤ L2.length ∧ u = .int .i64 n ∧ W = wr) (fun u _ => L2.length - (intOf u).toNat)
            case atStart => exact ⟨0, Nat.zero_le _, rfl, rfl⟩
            case round =>
              obtain ⟨n, hn, rfl, rfl⟩ := hrel
              have a0 : wr.cell? ⟨bx, 0, none⟩ = some (.int .i64 d) := (cell_block (S8.out.blk_at 1 rfl) 0).trans rfl
              have a3 : wr.cell? ⟨bx, 3, none⟩ = some (.slice oa l.length oc) := (cell_block (S8.out.blk_at 1 rfl) 3).trans rfl
              by_cases hnl : n < L2.length
              · have cgo : wr.cell? ⟨go, n, none⟩ = some (.int .i64 (ons L2 n)) := row_cell (S8.out.blk_at 2 rfl) (by omega)
                have cgs : wr.cell? ⟨gs, n, none⟩ = some (.bool (stp L2 n)) := row_cell (S8.out.blk_at 3 rfl) (by omega)
                have cgb : wr.cell? ⟨gb, n, none⟩ = some (.int .i64 (bgn L2 n)) := row_cell (S8.out.blk_at 4 rfl) (by omega)
                have HALL : Hid (d = 2 → ∀ e ∈ l, e = ons L2 n → stp L2 n = true ∨ bgn L2 n ≠ 0) := fun h => HAC.out.all h n hnl
                have n0 : (0 : Int) ≤ (n : Int) := by omega
                have n1 : (n : Int) < 40 := by omega
                generalize ons L2 n = on at *
                generalize stp L2 n = st at *
                generalize bgn L2 n = bg at *
                go_wp2
                go_loopw [124] (fun u W => ∃ m : Nat, m ≤ l.length ∧ u = .int .i64 m ∧ W = wr) (fun u _ => l.length - (intOf u).toNat)
                case atStart => exact ⟨0, Nat.zero_le _, rfl, rfl⟩
                case round =>
                  obtain ⟨m, hm, rfl, rfl⟩ := hrel
                  by_cases hml : m < l.length
                  · obtain ⟨b1, o1, e1, _, _, hc1⟩ := rd_cells HUW.out (by omega)
                    subst e1
                    have q0 := hc1 m hml
                    have hg : l[m]? = some (l.getD m 0) := by rw [List.getD_eq_getElem?_getD, List.getElem?_eq_getElem hml]; rfl
                    have HAL2 := Lib.hid (fun h => HALL.out h _ (List.mem_of_getElem? hg))
                    have m0 : (0 : Int) ≤ (m : Int) := by omega
                    have m1 : (m : Int) < (l.length : Int) := by omega
                    clear hc1 hg
                    generalize l.getD m 0 = e at *
                    by_cases h2 : d = 2
                    · subst h2
                      by_cases he : e = on
                      · have hx := HAL2.out rfl he
                        subst he
                        cases st with
                        | true =>
                          clear hx HAL2
                          go_wp2
                          go_roundw
                          case rel => exact ⟨m + 1, by omega, by go_num, trivial⟩
                          case measure => simp [intOf]; omega
                        | false =>
                          have hb0 : (bg == 0) = false := by
                            rcases hx with hx | hx
                            · cases hx
                            · simpa using hx
                          clear hx HAL2
                          go_wp2
                          go_roundw
                          case rel => exact ⟨m + 1, by omega, by go_num, trivial⟩
                          case measure => simp [intOf]; omega
                      · have he0 : (e == on) = false := by simpa using he
                        clear HAL2 he
                        go_wp2
                        go_roundw
                        case rel => exact ⟨m + 1, by omega, by go_num, trivial⟩
                        case measure => simp [intOf]; omega
                    · have hd2 : (d == 2) = false := by simpa using h2
                      clear HAL2 h2
                      go_wp2
                      go_roundw
                      case rel => exact ⟨m + 1, by omega, by go_num, trivial⟩
                      case measure => simp [intOf]; omega
                  · go_wp2
                    go_roundw
                    case rel => exact ⟨n + 1, by omega, by go_num, trivial⟩
                    case measure => simp [intOf]; omega
              · have SF : Hid (Sep (fun _ => False) w wr [blk go (.cells (rowI (ons L2)) 51), blk gs (.cells (rowB (stp L2)) 52), blk gb (.cells (rowI (bgn L2)) 51), ob I.O (.pointer (some a)) (L2, 40)]) := S8.out.tail.tail
                clear S8 a0 a3
                go_wp2
                go_roundw
                case rel => exact ⟨j + 1, L2, by omega, by go_num, rfl, SF⟩
                case measure => simp [intOf]; omega
    · go_wp2
      go_ret
      exact ⟨rfl, HS.out.old⟩
theorem once_easy (I : Af) (A : Option Addr) (len cap : Nat) (w : World)
    (hL : ∀ W, Below w.heap.size w W → Calls Try.prog 7 #[.slice A len cap] W (fun e w' => e = .returned (.bool true) ∧ Below w.heap.size w w')) :
    Calls Try.prog 4 #[.slice A len cap] w fun e w' => e = .returned (.bool true) ∧ Below w.heap.size w w' := by
  have HLG := Lib.hid hL
  clear hL
  go_enter Try.func4, Try.ntmps4
  go_wp2_with fail
  refine (awake_any I _).mono ?_
  rintro e w1 ⟨rfl, hb1⟩
  have HB1 := Lib.hid hb1
  clear hb1
  go_wp2_with fail
  refine (HLG.out _ HB1.out).mono ?_
  rintro e w2 ⟨rfl, hb2⟩
  have HB2 := Lib.hid hb2
  clear hb2 HB1 HLG
  go_wp2
  go_ret
  exact ⟨rfl, HB2.out⟩
theorem once_walk (I : Af) (A : Option Addr) (len cap : Nat) (zs : List Ac) (w : World) (hlen : len ≤ 9223372036854775807) (hz : ZsIn w A len cap zs) :
    Calls Try.prog 4 #[.slice A len cap] w fun e w' => e = .returned (.bool true) ∧ Below w.heap.size w w' := by
  by_cases h60 : 60 < len
  · exact once_easy I A len cap w fun W hb => (large_len W A len cap h60 hlen).mono fun e w' ⟨he, h⟩ => ⟨he, h ▸ hb⟩
  · obtain ⟨h1, h2, h3⟩ := hz (by omega)
    have hL : ∀ b, zs.any (fun z => decide (60 < z.on)) = b → ∀ W, Below w.heap.size w W → Calls Try.prog 7 #[.slice A len cap] W (fun e w' => e = .returned (.bool b) ∧ Below w.heap.size w w') := fun b hb0 W hb => by
      subst h1 hb0
      exact (large_any (h2.below hb) (by omega) fun z hz => (h3 z hz).2).mono fun e w' ⟨he, h⟩ => ⟨he, hb.trans (h.mono hb.size)⟩
    cases hb : zs.any (fun z => decide (60 < z.on)) with
    | true => exact once_easy I A len cap w (hL true hb)
    | false => exact once_main I A len cap zs w hlen hz (by omega) hb (hL false hb)
end Go.Proofs.Ytindcpcfilfnkaa.AfterI
