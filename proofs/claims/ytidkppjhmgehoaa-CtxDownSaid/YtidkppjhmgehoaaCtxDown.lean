/-
  The walk of the law CtxDown over any package that meets 'Cx': it returns true and leaves old memory as it was. Conditions: none but 'Cx'.
-/
import Derived.Test.YtidkppjhmgehoaaCtxDoes
import Derived.Test.YtidkppjhmgehoaaCtxV
import Derived.Laws.Tables
import Derived.Great.Walk
namespace Go.Proofs.Ytidkppjhmgehoaa.CtxI
open Go.ChangeShapes Go.WideShapes Go.ChangeAt Go.RowKit Mem TreeP RefTree CtxP Hand TreeI RefCtx

/-- Forty numbers in a row. -/
def row40 (f : Nat → Int) : Array Value := ((List.range 40).map fun i => Value.int .i64 (f i)).toArray
theorem row_size (f : Nat → Int) : (row40 f).size = 40 := by simp [row40]
theorem row_get (f : Nat → Int) {i : Nat} (h : i < 40) : (row40 f)[i]? = some (.int .i64 (f i)) := by
  unfold row40
  rw [List.getElem?_toArray, List.getElem?_map, List.getElem?_range h]; rfl
theorem row_set (f : Nat → Int) (i : Nat) (x : Int) : (row40 f).setIfInBounds i (.int .i64 x) = row40 fun j => if j = i then x else f j := by
  apply Array.ext_getElem?
  intro j
  rw [Array.getElem?_setIfInBounds, row_size]
  by_cases hj : j < 40
  · rw [row_get _ hj, row_get _ hj]
    by_cases hi : i = j
    · subst hi; rw [if_pos rfl, if_pos hj, if_pos rfl]
    · rw [if_neg hi, if_neg (fun h => hi h.symm)]
  · rw [Array.getElem?_eq_none (xs := row40 _) (by rw [row_size]; omega), Array.getElem?_eq_none (xs := row40 _) (by rw [row_size]; omega)]
    split
    · rw [if_neg (by omega)]
    · rfl

theorem row_one (f : Nat → Int) : (row40 f).all (·.oneCell') = true := by
  rw [Array.all_eq_true_iff_forall_mem]
  intro v hv
  simp [row40] at hv
  obtain ⟨i, _, rfl⟩ := hv
  rfl
theorem built_e : Try.prog.built 54 [] = some (row40 fun _ => 0) := by kernel_rfl
theorem built_c : Try.prog.built 55 [] = some (row40 fun _ => 0) := by kernel_rfl
theorem zero_e : (Try.prog.info? 54).map (·.zero) = some (some (.agg (row40 fun _ => 0))) := by kernel_rfl
theorem zero_c : (Try.prog.info? 55).map (·.zero) = some (some (.agg (row40 fun _ => 0))) := by kernel_rfl
theorem size_e : (Try.prog.info? 54).map (·.size) = some 40 := by kernel_rfl
theorem size_c : (Try.prog.info? 55).map (·.size) = some 40 := by kernel_rfl
theorem two0 (w : World) (o1 o2 : Obj) : ((w.alloc o1).alloc o2).heap[w.heap.size]? = some o1 := by
  show ((w.heap.push o1).push o2)[w.heap.size]? = some o1
  rw [Array.getElem?_push, if_neg (by simp)]
  simp
theorem two1 (w : World) (o1 o2 : Obj) : ((w.alloc o1).alloc o2).heap[w.heap.size + 1]? = some o2 := by
  have h := heap_alloc_new (w.alloc o1) o2
  rw [show (w.alloc o1).heap.size = w.heap.size + 1 by simp] at h
  exact h
section
variable {P : Program} {ops : Array Oper} {rest : List Oper} {o : Oper} {a : Act} {w : World} {Q : Exit → Act → World → Prop}
theorem wl_build (hg : o.guard = none) (t : TypeId) (ho : o.op = .build t #[]) {cs : Array Value} (hb : P.built t [] = some cs) (h : wpList P ops Q rest (a.put o.dst (.agg cs)) w) : wpList P ops Q (o :: rest) a w := by
  refine wpList_build hg t #[] ho (by simp [hb]) ?_
  simpa [hb] using h
theorem wl_alloc (hg : o.guard = none) (t : TypeId) (ho : o.op = .alloc t) {cs : Array Value} (hz : (P.info? t).map (·.zero) = some (some (.agg cs))) (h : wpList P ops Q rest (a.put o.dst (.pointer (some ⟨w.heap.size, 0, none⟩))) (w.alloc (.cells cs t))) : wpList P ops Q (o :: rest) a w := by
  refine Go.Great.wpList_allocTo hg o.dst rfl (.pointer (some ⟨w.heap.size, 0, none⟩)) (.cells cs t) ?_ h
  cases hi : P.info? t with
  | none => simp [hi] at hz
  | some i =>
    simp [hi] at hz
    unfold execOp
    simp [ho, Instr.alloc, newVar, zeroValue, typeInfo, hi, hz, Value.cells, go_sem]
theorem setRow_same {g : Nat} {cs : Array Value} {t : TypeId} (hg : w.heap[g]? = some (.cells cs t (0, 0))) : w.setRow g cs = w := by
  have : (w.setRow g cs).heap = w.heap := by
    apply Array.ext_getElem?
    intro k
    by_cases hk : k = g
    · subst hk; rw [setRow_heap w k cs cs t (0, 0) hg, hg]
    · exact setRow_other w g k cs hk
  show World.setRow w g cs = w
  unfold World.setRow at this ⊢
  rw [show w.heap.modify g _ = w.heap from this]
theorem wo_store {K : Act → World → Prop} (t : TypeId) (x y : Operand) (ho : o.op = .store t x y) {g : Nat} {f : Nat → Int} (hx : a.eval x = .pointer (some ⟨g, 0, none⟩)) (hy : a.eval y = .agg (row40 f)) (hb : w.heap[g]? = some (.cells (row40 f) t (0, 0))) (hs : (P.info? t).map (·.size) = some 40)
    (h : K (a.put o.dst undef) w) : o.wp P a w K Q := by
  refine wp_store_row t x y ho g (row40 f) hx hy t (row40 f) hb (by rw [hs, row_size]) rfl (row_one f) ?_
  rw [setRow_same hb]
  exact h
theorem wl_store (hg : o.guard = none) (t : TypeId) (x y : Operand) (ho : o.op = .store t x y) {g : Nat} {f : Nat → Int} (hx : a.eval x = .pointer (some ⟨g, 0, none⟩)) (hy : a.eval y = .agg (row40 f)) (hb : w.heap[g]? = some (.cells (row40 f) t (0, 0))) (hs : (P.info? t).map (·.size) = some 40)
    (h : wpList P ops Q rest (a.put o.dst undef) w) : wpList P ops Q (o :: rest) a w := by
  refine wpList_store_row hg t x y ho g (row40 f) hx hy t (row40 f) hb (by rw [hs, row_size]) rfl (row_one f) ?_
  rw [setRow_same hb]
  exact h
end

theorem cn_zero (n : Int) : cn [zeroCn] n = zeroCn := by
  unfold cn
  rcases n.toNat with _ | k
  · rfl
  · rfl

theorem mix_all {T T2 : List Nd} {X X2 : List Cn} (h1 : T.length = X.length) (h2 : T2.length = X2.length) {q : Nat} (hq : T2.length ≤ q) (hle : T.length ≤ T2.length) (g : Cn → Int) : (fun i : Nat => if i < q then g (cn X2 (i : Nat)) else g (cn X (i : Nat))) = fun i => g (cn X2 (i : Nat)) := by
  funext i
  split
  · rfl
  · rw [cn_out (X := X) (by omega), cn_out (X := X2) (by omega)]
theorem mix_step (f2 f1 : Nat → Int) (q : Nat) (x : Int) (hx : f2 q = x) : (fun j : Nat => if j = q then x else if j < q then f2 j else f1 j) = fun j => if j < q + 1 then f2 j else f1 j := by
  funext j
  by_cases h : j = q
  · subst h; rw [if_pos rfl, if_pos (by omega), hx]
  · rw [if_neg h]
    by_cases h2 : j < q
    · rw [if_pos h2, if_pos (by omega)]
    · rw [if_neg h2, if_neg (by omega)]
section
variable {I : Cx} {wq W : World} {v : Value} {F : Nat → Prop} {T : List Nd} {X : List Cn} {M : Int}
theorem d_err (hA : I.A wq v F T X M) (hb : Below wq.heap.size wq W) (q : Int) (hq : In64 q) {g : Int} (hg : (getX T X q).e = g) : Calls Try.prog 21 #[v, .int .i64 q] W fun e w' => e = .returned (.int .i64 g) ∧ Below wq.heap.size wq w' := by subst hg; exact l_q hA hb fun _ h => I.err h q hq
theorem d_done (hA : I.A wq v F T X M) (hb : Below wq.heap.size wq W) (q : Int) (hq : In64 q) {b : Bool} (hg : decide ((getX T X q).e ≠ 0) = b) : Calls Try.prog 23 #[v, .int .i64 q] W fun e w' => e = .returned (.bool b) ∧ Below wq.heap.size wq w' := by subst hg; exact l_q hA hb fun _ h => I.done h q hq
theorem d_cause (hA : I.A wq v F T X M) (hb : Below wq.heap.size wq W) (q : Int) (hq : In64 q) {g : Int} (hg : (getX T X q).cause = g) : Calls Try.prog 22 #[v, .int .i64 q] W fun e w' => e = .returned (.int .i64 g) ∧ Below wq.heap.size wq w' := by subst hg; exact l_q hA hb fun _ h => I.cause h q hq
end

theorem down_easy (I : Cx) (A : Option Addr) (len cap : Nat) (w : World) (_hlen : len ≤ 9223372036854775807) (hno : 60 < len) :
    Calls Try.prog 4 #[.slice A len cap] w fun e w' => e = .returned (.bool true) ∧ Below w.heap.size w w' := by
  go_enter Try.func4, Try.ntmps4
  go_wp2_with fail
  refine (awake_any I _).mono ?_
  rintro e w1 ⟨rfl, hb1⟩
  have HB := Lib.hid hb1
  clear hb1
  go_wp2
  go_ret
  exact ⟨rfl, HB.out⟩

set_option maxHeartbeats 8000000 in
set_option maxRecDepth 100000 in
theorem down_main (I : Cx) (A : Option Addr) (len cap : Nat) (zs : List Ac) (w : World) (h60 : len ≤ 60)
    (hz : len ≤ 1000000 → zs.length = len ∧ RdL acE w (fun b => b < w.heap.size) (.slice A len cap) zs ∧ ∀ z ∈ zs, AcIn z) :
    Calls Try.prog 4 #[.slice A len cap] w fun e w' => e = .returned (.bool true) ∧ Below w.heap.size w w' := by
  obtain ⟨hzl, hzr, hzo⟩ := hz (by omega)
  have HZL := Lib.hid hzl
  have HZR := Lib.hid hzr
  have HZO := Lib.hid hzo
  clear hzl hzr hzo hz
  go_enter Try.func4, Try.ntmps4
  go_wp2_with fail
  refine (awake_any I _).mono ?_
  rintro e w1 ⟨rfl, hb1⟩
  have S1 := Lib.hid ((Sep.nil (fun _ => False) w).next hb1)
  clear hb1
  go_wp2_with fail
  refine (x_new S1.out I 40 (by omega) (by omega)).mono ?_
  rintro e w2 ⟨a, rfl, h2'⟩
  have S2 := Lib.hid h2'
  clear h2' S1
  go_upto_region 8 with (fail)
  have S3 := Lib.hid ((S2.out.new (.cells (row40 fun _ => 0) 54)).new (.cells (row40 fun _ => 0) 55))
  clear S2
  go_wp2_with (first | (refine wl_build rfl _ rfl built_e ?_) | (refine wl_build rfl _ rfl built_c ?_) | (refine wl_alloc rfl _ rfl zero_e ?_) | (refine wl_alloc rfl _ rfl zero_c ?_) | (refine wl_store rfl _ _ _ rfl rfl rfl (two0 _ _ _) size_e ?_) | (refine wl_store rfl _ _ _ rfl rfl rfl (heap_alloc_new _ _) size_c ?_) | (refine wl_store rfl _ _ _ rfl rfl rfl (two1 _ _ _) size_c ?_))
  have hg1 : (w2.alloc (.cells (row40 fun _ => 0) 54)).heap.size = w2.heap.size + 1 := by simp
  rw [hg1] at S3
  generalize (w2.alloc (.cells (row40 fun _ => 0) 54)).alloc (.cells (row40 fun _ => 0) 55) = w3 at *
  clear hg1
  generalize w2.heap.size + 1 = gc at *
  generalize w2.heap.size = ge at *
  have SZ : Hid (∃ (T : List Nd) (X : List Cn), Sep (fun _ => False) w w3 [blk gc (.cells (row40 fun i => (cn X (i : Nat)).cause) 55), blk ge (.cells (row40 fun i => (cn X (i : Nat)).e) 54), cx I (.pointer (some a)) T X 40] ∧ Inv T X) := by
    refine ⟨root1, [zeroCn], ?_, inv_new⟩
    have h := S3.out
    rw [show (fun i : Nat => (cn [zeroCn] (i : Nat)).cause) = fun _ => 0 from funext fun i => by rw [cn_zero]; rfl, show (fun i : Nat => (cn [zeroCn] (i : Nat)).e) = fun _ => 0 from funext fun i => by rw [cn_zero]; rfl]
    exact h
  clear S3
  go_wp2
  go_loopw [33, 14, 15, 17] (fun u _ _ _ wr => ∃ j : Nat, j ≤ len ∧ u = .int .i64 j ∧ Hid (∃ (T : List Nd) (X : List Cn), Sep (fun _ => False) w wr [blk gc (.cells (row40 fun i => (cn X (i : Nat)).cause) 55), blk ge (.cells (row40 fun i => (cn X (i : Nat)).e) 54), cx I (.pointer (some a)) T X 40] ∧ Inv T X)) (fun u _ _ _ _ => len - (intOf u).toNat)
  case atStart => exact ⟨0, Nat.zero_le _, rfl, SZ⟩
  case round => as_aux_lemma =>
    obtain ⟨j, hj, rfl, HS⟩ := hrel
    obtain ⟨T, X, hS, hI⟩ := HS.out
    have SL := Lib.hid hS
    have HI := Lib.hid hI
    clear HS hS hI SZ
    by_cases hlt : j < len
    · have hx : zs[j]? = some (zs[j]'(by rw [HZL.out]; exact hlt)) := List.getElem?_eq_getElem _
      generalize zs[j]'(by rw [HZL.out]; exact hlt) = z at hx
      have HE := Lib.hid (HZO.out z (List.mem_of_getElem? hx))
      obtain ⟨bb, off, rfl, hbb, c0, c1, c2, c3, c4⟩ := ac_cells HZR.out hx
      have hb := SL.out.old
      have q0 := (hb.cell (p := ⟨bb, off + j * 5, none⟩) hbb).trans c0
      have q1 := (hb.cell (p := ⟨bb, off + j * 5 + 1, none⟩) hbb).trans c1
      have q2 := (hb.cell (p := ⟨bb, off + j * 5 + 2, none⟩) hbb).trans c2
      have q3 := (hb.cell (p := ⟨bb, off + j * 5 + 3, none⟩) hbb).trans c3
      have q4 := (hb.cell (p := ⟨bb, off + j * 5 + 4, none⟩) hbb).trans c4
      obtain ⟨d, m, aa, ab, tz⟩ := z
      have S4 := Lib.hid (SL.out.new (.cells #[.int .i64 d, .int .i64 m, .int .i64 aa, .int .i64 ab, .int .i64 tz] 32))
      clear hx c0 c1 c2 c3 c4 hb SL
      go_wp2_with fail
      refine (x_len S4.out 3 rfl).mono ?_
      rintro e w5 ⟨rfl, h5⟩
      have S5 := Lib.hid h5
      have a0 := (cell_block (S5.out.blk_at 0 rfl) 0).trans rfl
      have a1 := (cell_block (S5.out.blk_at 0 rfl) 1).trans rfl
      have a2 := (cell_block (S5.out.blk_at 0 rfl) 2).trans rfl
      have a3 := (cell_block (S5.out.blk_at 0 rfl) 3).trans rfl
      have a4 := (cell_block (S5.out.blk_at 0 rfl) 4).trans rfl
      have hlt5 : wr.heap.size < w5.heap.size := lt_of_block (S5.out.blk_at 0 rfl)
      clear h5 S4 q0 q1 q2 q3 q4
      go_wp2_with fail
      refine (x_do S5.out 3 rfl d m aa ab tz HE.out.1 HE.out.2.1 HE.out.2.2.1 HE.out.2.2.2).mono ?_
      rintro e w6 ⟨A6, c6, rfl, h6⟩
      have S6 := Lib.hid (h6.sub (.cons_cons _ (.cons _ (List.Sublist.refl _))))
      have HI2 := Lib.hid (inv_act HI.out 40 d m aa ab tz)
      have HK := Lib.hid (keeps_act HI.out 40 d m aa ab tz)
      have HT := Lib.hid (told_act HI.out 40 d m aa ab tz)
      have hlen0 := (act_len (T := T) (M := 40) (d := d) (n := m)).2
      have hlo : (actO T X d m tz).length ≤ 40000 := by
        have := x_ok S5.out 3 rfl
        exact act_lenO this.tree this.len d m tz
      clear h6 S5 a0 a1 a2 a3 a4 hlt5
      generalize actV T 40 d m = V at *
      generalize actE T 40 d m = E at *
      generalize actT T 40 d m = T2 at *
      generalize actX T X 40 d m aa ab tz = X2 at *
      generalize actO T X d m tz = O at *
      change Hid (Sep (fun _ => False) w w6 [nums (.slice A6 O.length c6) O, blk gc (.cells (row40 fun i => (cn X (i : Nat)).cause) 55), blk ge (.cells (row40 fun i => (cn X (i : Nat)).e) 54), cx I (.pointer (some a)) T2 X2 40]) at S6
      have hT40 : T2.length ≤ 40 := by have := (x_ok S6.out 3 rfl).tree.len; omega
      have g1 : decide ((40 : Int) < (T2.length : Int)) = false := decide_eq_false (by omega)
      have g2 : decide ((T2.length : Int) < (T.length : Int)) = false := decide_eq_false (by omega)
      have g3 : decide (T2.length < T.length) = false := decide_eq_false (by omega)
      have f0 : Hid (decide ((getX T2 X2 0).e ≠ 0) = false) := by show _ = _; rw [(get_cn HI2.out 0).1, HI2.out.free.2]; rfl
      go_wp2_with fail
      refine (x_len S6.out 3 rfl).mono ?_
      rintro e w7 ⟨rfl, h7⟩
      have S7 := Lib.hid h7
      clear h7 S6
      go_wp2_with fail
      refine (x_len S7.out 3 rfl).mono ?_
      rintro e w8 ⟨rfl, h8⟩
      have S8 := Lib.hid h8
      clear h8 S7
      go_wp2_with fail
      refine (x_done S8.out 3 rfl 0 (in64s _ (by omega)) f0.out).mono ?_
      rintro e w9 ⟨rfl, h9⟩
      have S9 := Lib.hid h9
      clear h9 S8
      go_wp2
      go_loopw [61, 14] (fun u _ wr => ∃ i : Nat, i ≤ O.length ∧ u = .int .i64 i ∧ Hid (Sep (fun _ => False) w wr [nums (.slice A6 O.length c6) O, blk gc (.cells (row40 fun i => (cn X (i : Nat)).cause) 55), blk ge (.cells (row40 fun i => (cn X (i : Nat)).e) 54), cx I (.pointer (some a)) T2 X2 40])) (fun u _ _ => O.length - (intOf u).toNat)
      case atStart => exact ⟨0, Nat.zero_le _, rfl, S9⟩
      case round => as_aux_lemma =>
        obtain ⟨i, hi, rfl, S10⟩ := hrel
        clear S9
        by_cases hio : i < O.length
        · obtain ⟨bo, oo, rfl, _, _, hc⟩ := Rd.cells (S10.out.rd 0 rfl) (by omega)
          have k1 := hc i hio
          have hm := HT.out (O[i]'hio) (List.getElem_mem hio)
          clear hc
          obtain ⟨k, hk⟩ : ∃ k, O[i]'hio = k := ⟨_, rfl⟩
          rw [hk] at hm
          rw [List.getD_eq_getElem?_getD, List.getElem?_eq_getElem hio, Option.getD_some, hk] at k1
          clear hk
          obtain ⟨kn, rfl, hkn⟩ := there_nat hm.1
          have kx := (there_iff.1 hm.1).2
          have hk40 : kn < 40 := by omega
          have ec : wr.cell? ⟨ge, kn, none⟩ = some (.int .i64 0) := by
            rw [cell_block (S10.out.blk_at 2 rfl) kn, row_get _ hk40, hm.2.1]
          have HDN : Hid (decide ((getX T2 X2 (kn : Nat)).e ≠ 0) = true) := by show _ = _; rw [(get_cn HI2.out _).1]; exact decide_eq_true hm.2.2
          have HKI : Hid (In64 (kn : Int)) := ⟨by omega, by omega⟩
          have r1 : decide ((kn : Int) < 0) = false := decide_eq_false (by omega)
          have r2 : decide (40 ≤ (kn : Int)) = false := decide_eq_false (by omega)
          clear hm kx
          go_wp2_with fail
          refine (x_done S10.out 3 rfl kn HKI.out HDN.out).mono ?_
          rintro e w11 ⟨rfl, h11⟩
          have S11 := Lib.hid h11
          clear h11 S10 ec k1
          go_wp2
          go_roundw
          case rel => exact ⟨i + 1, by omega, by go_num, S11⟩
          case measure => simp [intOf]; omega
        · have S11 := Lib.hid (S10.out.sub (show List.Sublist [blk gc (.cells (row40 fun i => if i < 0 then (cn X2 (i : Nat)).cause else (cn X (i : Nat)).cause) 55), blk ge (.cells (row40 fun i => if i < 0 then (cn X2 (i : Nat)).e else (cn X (i : Nat)).e) 54), cx I (.pointer (some a)) T2 X2 40] _ from by simp only [Nat.not_lt_zero, if_false]; exact .cons _ (List.Sublist.refl _)))
          clear S10
          go_wp2_with fail
          refine (x_len S11.out 2 rfl).mono ?_
          rintro e w12 ⟨rfl, h12⟩
          have S12 := Lib.hid h12
          clear h12 S11
          go_wp2
          go_loopw [86, 15, 17] (fun u _ _ wr => ∃ q : Nat, q ≤ T2.length ∧ u = .int .i64 q ∧ Hid (Sep (fun _ => False) w wr [blk gc (.cells (row40 fun i => if i < q then (cn X2 (i : Nat)).cause else (cn X (i : Nat)).cause) 55), blk ge (.cells (row40 fun i => if i < q then (cn X2 (i : Nat)).e else (cn X (i : Nat)).e) 54), cx I (.pointer (some a)) T2 X2 40])) (fun u _ _ _ => T2.length - (intOf u).toNat)
          case atStart => exact ⟨0, Nat.zero_le _, rfl, S12⟩
          case round => as_aux_lemma =>
            obtain ⟨q, hq, rfl, S13⟩ := hrel
            clear S12
            by_cases hqn : q < T2.length
            · have hq40 : q < 40 := by omega
              have HQ : Hid (In64 (q : Int)) := ⟨by omega, by omega⟩
              have b1 : (0 : Int) ≤ (q : Int) := by omega
              have b2 : (q : Int) < 40 := by omega
              have b3 : (q : Int) < ((40 : Nat) : Int) := by omega
              obtain ⟨E1, hE1⟩ : ∃ E1, (cn X (q : Nat)).e = E1 := ⟨_, rfl⟩
              obtain ⟨C1, hC1⟩ : ∃ C1, (cn X (q : Nat)).cause = C1 := ⟨_, rfl⟩
              obtain ⟨E2, hE2⟩ : ∃ E2, (cn X2 (q : Nat)).e = E2 := ⟨_, rfl⟩
              obtain ⟨C2, hC2⟩ : ∃ C2, (cn X2 (q : Nat)).cause = C2 := ⟨_, rfl⟩
              have hkp := HK.out q
              rw [hE1, hC1, hE2, hC2] at hkp
              have HE2 : Hid ((getX T2 X2 (q : Nat)).e = E2) := by show _ = _; rw [(get_cn HI2.out _).1, hE2]
              have HC2 : Hid ((getX T2 X2 (q : Nat)).cause = C2) := by show _ = _; rw [(get_cn HI2.out _).2, hC2]
              have hcz := HI2.out.cause q
              rw [hE2, hC2] at hcz
              have FK : Hid (∀ Q, Below wr.heap.size wr Q → Q.cell? ⟨ge, q, none⟩ = some (.int .i64 E1) ∧ Q.cell? ⟨gc, q, none⟩ = some (.int .i64 C1)) := fun Q hb => by
                refine ⟨?_, ?_⟩
                · rw [hb.cell (p := ⟨ge, q, none⟩) (lt_of_block (S13.out.blk_at 1 rfl)), cell_block (S13.out.blk_at 1 rfl) q, row_get _ hq40, if_neg (Nat.lt_irrefl q), hE1]
                · rw [hb.cell (p := ⟨gc, q, none⟩) (lt_of_block (S13.out.blk_at 0 rfl)), cell_block (S13.out.blk_at 0 rfl) q, row_get _ hq40, if_neg (Nat.lt_irrefl q), hC1]
              have KE2 := Lib.hid hE2
              have KE1 := Lib.hid hE1
              have KC1 := Lib.hid hC1
              have KC2 := Lib.hid hC2
              obtain ⟨FA, hA⟩ := S13.out.get 2 rfl
              have HA : Hid (I.A wr (.pointer (some a)) FA T2 X2 40) := hA
              clear hE1 hC1 hE2 hC2 hA
              go_upto_region 25 with (fail)
              go_cut [110] (fun s wx => s = .bool false ∧ Hid (Below wr.heap.size wr wx))
              case first => as_aux_lemma =>
                have HB : Hid (Below wr.heap.size wr wr.drew) := (Below.refl _ _).drew
                obtain ⟨g0, g1⟩ := FK.out _ HB.out
                by_cases hz : E1 = 0
                · subst hz
                  clear hkp hcz
                  go_region
                  go_wp2_with fail
                  go_meet
                  exact ⟨rfl, HB⟩
                · obtain ⟨rfl, rfl⟩ := hkp hz
                  have z1 : (E2 != 0) = true := by simpa using hz
                  have z2 : (E2 != E2) = false := by simp
                  have z3 : (C2 != C2) = false := by simp
                  clear hz hkp hcz
                  go_region_held3 (fun Q => Q.cell? ⟨ge, q, none⟩ = some (.int .i64 E2) ∧ Q.cell? ⟨gc, q, none⟩ = some (.int .i64 C2)) (go_keep)
                    (first
                    | (go_at_call 21; (with_reducible refine (d_err HA.out HB.out q HQ.out HE2.out).mono ?_); rintro e w14 ⟨rfl, hb14⟩; have HB := Lib.hid hb14; obtain ⟨g0, g1⟩ := FK.out _ hb14; clear hb14)
                    | (go_at_call 22; (with_reducible refine (d_cause HA.out HB.out q HQ.out HC2.out).mono ?_); rintro e w14 ⟨rfl, hb14⟩; have HB := Lib.hid hb14; obtain ⟨g0, g1⟩ := FK.out _ hb14; clear hb14))
                  go_wp2_with fail
                  go_meet
                  exact ⟨rfl, HB⟩
              case rest => as_aux_lemma =>
                obtain ⟨rfl, HB1⟩ := hcut
                have S14 := Lib.hid (S13.out.next HB1.out)
                obtain ⟨b, hb⟩ : ∃ b, (C2 != 0) = b := ⟨_, rfl⟩
                have HDN : Hid (decide ((getX T2 X2 (q : Nat)).e ≠ 0) = b) := by
                  show _ = _
                  rw [HE2.out, ← hb]
                  by_cases h0 : E2 = 0
                  · simp [h0, hcz.1 h0]
                  · have : C2 ≠ 0 := fun h => h0 (hcz.2 h)
                    simp [h0, this]
                have hbb : (b != b) = false := by simp
                clear S13 HB1 FK hkp hcz HA
                go_wp2_with fail
                refine (x_done S14.out 2 rfl q HQ.out HDN.out).mono ?_
                rintro e w15 ⟨rfl, h15⟩
                have S15 := Lib.hid h15
                clear h15 S14
                go_wp2_with fail
                refine (x_cause S15.out 2 rfl q HQ.out HC2.out).mono ?_
                rintro e w16 ⟨rfl, h16⟩
                have S16 := Lib.hid h16
                clear h16 S15
                go_wp2_with fail
                refine (x_reach S16.out 2 rfl q HQ.out rfl).mono ?_
                rintro e w17 ⟨A17, c17, rfl, h17, r17, _⟩
                have S17 := Lib.hid h17
                have R17 := Lib.hid r17
                have HTR : Hid (∀ k ∈ reachT T2 q, In64 k ∧ (b = true → decide ((getX T2 X2 k).e ≠ 0) = true)) := fun k hk => by
                  have hkt := (reach_there HI2.out.wf hk).1
                  have hki := there_iff.1 hkt
                  refine ⟨⟨by omega, by omega⟩, fun hb1 => ?_⟩
                  have h1 := HDN.out
                  rw [hb1, (get_cn HI2.out _).1] at h1
                  rw [(get_cn HI2.out _).1]
                  refine decide_eq_true (HI2.out.down k q ?_ (of_decide_eq_true h1))
                  exact (reach_iff HI2.out.wf (there_iff.2 (by omega)) hkt).1 hk
                clear h17 r17 S16
                have hLl : (reachT T2 q).length ≤ T2.length := reach_len HI2.out.wf q
                generalize reachT T2 q = L at *
                go_wp2
                go_loopw [123, 17] (fun u _ wn => ∃ i : Nat, i ≤ L.length ∧ u = .int .i64 i ∧ Hid (Below w17.heap.size w17 wn)) (fun u _ _ => L.length - (intOf u).toNat)
                case atStart => exact ⟨0, Nat.zero_le _, rfl, Below.refl _ _⟩
                case round => as_aux_lemma =>
                  obtain ⟨i, hi, rfl, HB18⟩ := hrel
                  by_cases hil : i < L.length
                  · obtain ⟨b7, o7, rfl, _, _, hc⟩ := Rd.cells (R17.out.below HB18.out) (by omega)
                    have k1 := hc i hil
                    obtain ⟨k, hk⟩ : ∃ k, L[i]'hil = k := ⟨_, rfl⟩
                    have hm := HTR.out (L[i]'hil) (List.getElem_mem hil)
                    rw [hk] at hm
                    rw [List.getD_eq_getElem?_getD, List.getElem?_eq_getElem hil, Option.getD_some, hk] at k1
                    obtain ⟨FA, hA⟩ := S17.out.get 2 rfl
                    have HA : Hid (I.A w17 (.pointer (some a)) FA T2 X2 40) := hA
                    have HKI := Lib.hid hm.1
                    have HKD := Lib.hid hm.2
                    clear hc hk hm hA
                    cases b with
                    | true =>
                      go_wp2_with fail
                      refine (d_done HA.out HB18.out q HQ.out HDN.out).mono ?_
                      rintro e w19 ⟨rfl, h19⟩
                      have HB19 := Lib.hid h19
                      clear h19 HB18 k1
                      go_wp2_with fail
                      refine (d_done HA.out HB19.out k HKI.out (HKD.out (by simp))).mono ?_
                      rintro e w20 ⟨rfl, h20⟩
                      have HB20 := Lib.hid h20
                      clear h20 HB19
                      go_wp2
                      go_roundw
                      case rel => exact ⟨i + 1, by omega, by go_num, HB20⟩
                      case measure => simp [intOf]; omega
                    | false =>
                      go_wp2_with fail
                      refine (d_done HA.out HB18.out q HQ.out HDN.out).mono ?_
                      rintro e w19 ⟨rfl, h19⟩
                      have HB19 := Lib.hid h19
                      clear h19 HB18 k1
                      go_wp2
                      go_roundw
                      case rel => exact ⟨i + 1, by omega, by go_num, HB19⟩
                      case measure => simp [intOf]; omega
                  · obtain ⟨FA, hA⟩ := S17.out.get 2 rfl
                    have HA : Hid (I.A w17 (.pointer (some a)) FA T2 X2 40) := hA
                    have SQ : Hid (∀ Q, Below w17.heap.size w17 Q → Sep (fun _ => False) w ((Q.setCell ⟨ge, q, none⟩ (.int .i64 E2)).setCell ⟨gc, q, none⟩ (.int .i64 C2)) [blk gc (.cells (row40 fun i => if i < q + 1 then (cn X2 (i : Nat)).cause else (cn X (i : Nat)).cause) 55), blk ge (.cells (row40 fun i => if i < q + 1 then (cn X2 (i : Nat)).e else (cn X (i : Nat)).e) 54), cx I (.pointer (some a)) T2 X2 40]) := fun Q hb => by
                      have h1 := ((S17.out.next hb).set 1 rfl q (.int .i64 E2)).set 0 rfl q (.int .i64 C2)
                      rw [row_set, row_set, mix_step (fun i : Nat => (cn X2 (i : Nat)).cause) (fun i : Nat => (cn X (i : Nat)).cause) q C2 KC2.out, mix_step (fun i : Nat => (cn X2 (i : Nat)).e) (fun i : Nat => (cn X (i : Nat)).e) q E2 KE2.out] at h1
                      exact h1
                    clear hA
                    go_upto_region 35 with (fail)
                    have hne : gc ≠ ge := fun h => by
                      have h1 := S17.out.blk_at 0 rfl
                      have h2 := S17.out.blk_at 1 rfl
                      rw [h, h2] at h1
                      simp at h1
                    have hne2 : ge ≠ gc := fun h => hne h.symm
                    have FK : Hid (∀ Q, Below w17.heap.size w17 Q → (Q.cell? ⟨ge, q, none⟩ = some (.int .i64 E1) ∧ Q.frozen? ⟨ge, q, none⟩ = false) ∧ Q.cell? ⟨gc, q, none⟩ = some (.int .i64 C1) ∧ Q.frozen? ⟨gc, q, none⟩ = false) := fun Q hb => by
                      have h1 := (S17.out.next hb).blk_at 1 rfl
                      have h2 := (S17.out.next hb).blk_at 0 rfl
                      refine ⟨⟨?_, frozen_block h1 q⟩, ?_, frozen_block h2 q⟩
                      · rw [cell_block h1 q, row_get _ hq40, if_neg (Nat.lt_irrefl q), KE1.out]
                      · rw [cell_block h2 q, row_get _ hq40, if_neg (Nat.lt_irrefl q), KC1.out]
                    have HB : Hid (Below w17.heap.size w17 wr.drew) := HB18.out.drew
                    obtain ⟨⟨g0, g1⟩, g2', g3'⟩ := FK.out _ HB.out
                    go_region_held3 (fun _ => True) (trivial)
                      (first
                      | (go_at_call 21; (with_reducible refine (d_err HA.out HB.out q HQ.out HE2.out).mono ?_); rintro e w19 ⟨rfl, hb19⟩; have HB := Lib.hid hb19; obtain ⟨⟨g0, g1⟩, g2', g3'⟩ := FK.out _ hb19; clear hb19)
                      | (go_at_call 22; (with_reducible refine (d_cause HA.out HB.out q HQ.out HC2.out).mono ?_); rintro e w19 ⟨rfl, hb19⟩; have HB := Lib.hid hb19; obtain ⟨⟨g0, g1⟩, g2', g3'⟩ := FK.out _ hb19; clear hb19))
                    have S20 := Lib.hid (SQ.out _ HB.out)
                    clear SQ FK g0 g1 g2' g3' S17 HB18
                    go_wp2
                    go_roundw
                    case rel => exact ⟨q + 1, by omega, by go_num, S20⟩
                    case measure => simp [intOf]; omega
            · have SF : Hid (∃ (T : List Nd) (X : List Cn), Sep (fun _ => False) w wr [blk gc (.cells (row40 fun i => (cn X (i : Nat)).cause) 55), blk ge (.cells (row40 fun i => (cn X (i : Nat)).e) 54), cx I (.pointer (some a)) T X 40] ∧ Inv T X) := by
                refine ⟨T2, X2, ?_, HI2.out⟩
                have hS := S13.out
                rw [mix_all HI.out.len HI2.out.len (show T2.length ≤ q by omega) (by omega) Cn.cause, mix_all HI.out.len HI2.out.len (show T2.length ≤ q by omega) (by omega) Cn.e] at hS
                exact hS
              clear S13
              go_wp2
              go_roundw
              case rel => exact ⟨j + 1, by omega, by go_num, SF⟩
              case measure => simp [intOf]; omega
    · have HB := Lib.hid SL.out.old
      go_wp2
      go_ret
      exact ⟨rfl, HB.out⟩

theorem down_walk (I : Cx) (A : Option Addr) (len cap : Nat) (zs : List Ac) (w : World) (hlen : len ≤ 9223372036854775807)
    (hz : len ≤ 1000000 → zs.length = len ∧ RdL acE w (fun b => b < w.heap.size) (.slice A len cap) zs ∧ ∀ z ∈ zs, AcIn z) :
    Calls Try.prog 4 #[.slice A len cap] w fun e w' => e = .returned (.bool true) ∧ Below w.heap.size w w' := by
  by_cases hno : 60 < len
  · exact down_easy I A len cap w hlen hno
  · exact down_main I A len cap zs w (by omega) hz
end Go.Proofs.Ytidkppjhmgehoaa.CtxI
