/-
  The walk of the law TaskAlone over any package that meets 'Tb', for every order that the program may take. Condition: what the arguments read as.
-/
import Derived.Test.YthdipkdolgcmgaaTaskAloneP
import Derived.Test.YthdipkdolgcmgaaTaskDoes
namespace Go.Proofs.Ythdipkdolgcmgaa.TaskI
open Go.ChangeShapes Go.WideShapes Go.ChangeAt Go.RowKit Mem MutP TaskP Hand RefTask

theorem w0_len : W0.length = 30 := by unfold W0; rw [List.length_replicate]
theorem built_w : Try.prog.built 62 [] = some (wasA W0) := by kernel_rfl
theorem size_w : (Try.prog.info? 62).map (·.size) = some 510 := by kernel_rfl
theorem zero_w : (Try.prog.info? 62).map (·.zero) = some (some (.agg (wasA W0))) := by kernel_rfl
/-- A struct in an array of a block of its own, loaded as a whole where it is but read. -/
theorem exec_at {P : Program} {o : Oper} {ev : Operand → Value} {V : World} (t : TypeId) (x : Operand) (ho : o.op = .load t x) {b off : Nat} {cs : Array Value} {d : TypeDesc} (hx : ev x = .pointer (some ⟨b, off, none⟩)) (hc : ∀ j, j < cs.size → V.cell? ⟨b, off + j, none⟩ = cs[j]?)
    (hu : P.underlying t = some d) (hd : aggD d = true) (hi : (P.info? t).map (·.size) = some cs.size) : (execOp ev o).run P V = .ok (.value (.agg cs)) V := by
  unfold execOp
  simp only [ho, hx, Instr.loadAt, Instr.sureAddr, Sem.run_bind, Sem.run_pure, Result.andThen_ok, run_loadVar_at V b off t cs d hc hu hd hi]

set_option maxHeartbeats 1000000 in
set_option maxRecDepth 100000 in
theorem alone_easy (I : Tb) (A : Option Addr) (len cap : Nat) (w : World) (hlen : len ≤ 9223372036854775807) (hno : 100 < len) :
    Calls Try.prog 4 #[.slice A len cap] w fun e w' => e = .returned (.bool true) ∧ Below w.heap.size w w' := by
  have d0 : decide ((len : Int) > 100) = true := decide_eq_true (by omega)
  have d1 : decide (100 < len) = true := decide_eq_true hno
  clear hno
  go_enter Try.func4, Try.ntmps4
  go_wp2_with fail
  refine (awake_any I _).mono ?_
  rintro e w1 ⟨rfl, hb1⟩
  have HB := Lib.hid hb1
  clear hb1
  go_wp2
  go_ret
  exact ⟨rfl, HB.out⟩

set_option maxHeartbeats 4000000 in
set_option maxRecDepth 100000 in
theorem alone_main (I : Tb) (A : Option Addr) (len cap : Nat) (zs : List AcT) (w : World) (hz : ZsIn w A len cap zs) (h60 : len ≤ 100) :
    Calls Try.prog 4 #[.slice A len cap] w fun e w' => e = .returned (.bool true) ∧ Below w.heap.size w w' := by
  obtain ⟨hzl, hzr, hzo⟩ := hz (by omega)
  subst hzl
  have HZR := Lib.hid hzr
  have HZO := Lib.hid hzo
  clear hzr hzo hz
  go_enter Try.func4, Try.ntmps4
  go_wp2_with fail
  refine (awake_any I _).mono ?_
  rintro e w1 ⟨rfl, hb1⟩
  have S1 := Lib.hid ((Sep.nil (fun _ => False) w).next hb1)
  clear hb1
  go_wp2_with fail
  refine (t_new S1.out I 30 (by omega) (by omega)).mono ?_
  rintro e w2 ⟨a, rfl, h2'⟩
  have S3 := Lib.hid h2'
  clear h2' S1
  go_wp2
  go_loopw [29] (fun u wr => ∃ j : Nat, j ≤ zs.length ∧ u = .int .i64 j ∧ Hid (∃ L : List Tk, Sep (fun _ => False) w wr [ob I.O (.pointer (some a)) (L, 30)])) (fun u _ => zs.length - (intOf u).toNat)
  case atStart => exact ⟨0, Nat.zero_le _, rfl, _, S3.out⟩
  case round =>
    obtain ⟨j, hj, rfl, HS⟩ := hrel
    obtain ⟨L, hS⟩ := HS.out
    have SL := Lib.hid hS
    clear HS hS S3
    by_cases hlt : j < zs.length
    · have hx : zs[j]? = some zs[j] := List.getElem?_eq_getElem hlt
      generalize zs[j] = z at hx
      obtain ⟨hd64, hin⟩ := HZO.out z (List.mem_of_getElem? hx)
      obtain ⟨bb, off, rfl, hbb, c0, c1, c2, c3, c4, c5, c6, c7, c8, c9, c10⟩ := ac_cells HZR.out hx
      have hb := SL.out.old
      have q0 := (hb.cell (p := ⟨bb, off + j * 11, none⟩) hbb).trans c0
      have q1 := (hb.cell (p := ⟨bb, off + j * 11 + 1, none⟩) hbb).trans c1
      have q2 := (hb.cell (p := ⟨bb, off + j * 11 + 2, none⟩) hbb).trans c2
      have q3 := (hb.cell (p := ⟨bb, off + j * 11 + 3, none⟩) hbb).trans c3
      have q4 := (hb.cell (p := ⟨bb, off + j * 11 + 4, none⟩) hbb).trans c4
      have q5 := (hb.cell (p := ⟨bb, off + j * 11 + 5, none⟩) hbb).trans c5
      have q6 := (hb.cell (p := ⟨bb, off + j * 11 + 6, none⟩) hbb).trans c6
      have q7 := (hb.cell (p := ⟨bb, off + j * 11 + 7, none⟩) hbb).trans c7
      have q8 := (hb.cell (p := ⟨bb, off + j * 11 + 8, none⟩) hbb).trans c8
      have q9 := (hb.cell (p := ⟨bb, off + j * 11 + 9, none⟩) hbb).trans c9
      have q10 := (hb.cell (p := ⟨bb, off + j * 11 + 10, none⟩) hbb).trans c10
      obtain ⟨d, t, a', b, x', qq⟩ := z
      obtain ⟨k', o', c', r', l', n'⟩ := qq
      simp only at q0 q1 q2 q3 q4 q5 q6 q7 q8 q9 q10 hin
      have S4 := Lib.hid (SL.out.new (.cells #[.int .i64 d, .int .i64 t, .int .i64 a', .int .i64 b, .int .i64 x', .int .i64 k', .int .i64 o', .int .i64 c', .int .i64 r', .int .i64 l', .int .i64 n'] 34))
      have HIN := Lib.hid hin
      have hok := t_ok SL.out 0 rfl
      have hl30 : L.length ≤ 30 := by have := hok.len; omega
      have HJ : Hid (j < zs.length) := hlt
      obtain ⟨ln, hln⟩ : ∃ ln, L.length = ln := ⟨_, rfl⟩
      have HLN := Lib.hid hln
      rw [hln] at hl30
      have mn : min (ln : Int) 30 = (ln : Int) := by omega
      clear hx c0 c1 c2 c3 c4 c5 c6 c7 c8 c9 c10 hb hd64 hin hok hln
      go_upto_region 11 with (fail)
      clear q0 q1 q2 q3 q4 q5 q6 q7 q8 q9 q10 SL
      have zr := zero_w
      have br := built_w
      have sX : (Try.prog.info? 62).map (·.size) = some (wasA W0).size := by rw [was_size, w0_len]; exact size_w
      have oX := was_one W0
      have sz : 0 + (wasA W0).size ≤ (wasA W0).size := by omega
      have HB : Hid (((wr.alloc (.cells #[.int .i64 d, .int .i64 t, .int .i64 a', .int .i64 b, .int .i64 x', .int .i64 k', .int .i64 o', .int .i64 c', .int .i64 r', .int .i64 l', .int .i64 n'] 34)).alloc (.cells (wasA W0) 62)).heap[(wr.alloc (.cells #[.int .i64 d, .int .i64 t, .int .i64 a', .int .i64 b, .int .i64 x', .int .i64 k', .int .i64 o', .int .i64 c', .int .i64 r', .int .i64 l', .int .i64 n'] 34)).heap.size]? = some (.cells (wasA W0) 62 (0, 0))) := (S4.out.new _).blk_at 0 rfl
      have SV : Hid (Sep (fun _ => False) w (setCells ((wr.alloc (.cells #[.int .i64 d, .int .i64 t, .int .i64 a', .int .i64 b, .int .i64 x', .int .i64 k', .int .i64 o', .int .i64 c', .int .i64 r', .int .i64 l', .int .i64 n'] 34)).alloc (.cells (wasA W0) 62)) (wr.alloc (.cells #[.int .i64 d, .int .i64 t, .int .i64 a', .int .i64 b, .int .i64 x', .int .i64 k', .int .i64 o', .int .i64 c', .int .i64 r', .int .i64 l', .int .i64 n'] 34)).heap.size 0 (wasA W0).toList) [blk (wr.alloc (.cells #[.int .i64 d, .int .i64 t, .int .i64 a', .int .i64 b, .int .i64 x', .int .i64 k', .int .i64 o', .int .i64 c', .int .i64 r', .int .i64 l', .int .i64 n'] 34)).heap.size (.cells (wasA W0) 62), blk wr.heap.size (.cells #[.int .i64 d, .int .i64 t, .int .i64 a', .int .i64 b, .int .i64 x', .int .i64 k', .int .i64 o', .int .i64 c', .int .i64 r', .int .i64 l', .int .i64 n'] 34), ob I.O (.pointer (some a)) (L, 30)]) := by
        have h2 := Sep.whole (wasA W0).toList 0 (S4.out.new (.cells (wasA W0) 62)) 0 rfl
        rw [over_all _ _ (by rw [Array.length_toList]), Array.toArray_toList] at h2
        exact h2
      obtain ⟨Z, hZ⟩ : ∃ Z, wasA W0 = Z := ⟨_, rfl⟩
      have HZ := Lib.hid hZ
      rw [hZ] at zr br sX oX sz HB SV
      clear hZ
      go_upto_region 12 with (first | (refine wl_buildT rfl 62 rfl br ?_; simp only [Act.put, List.setIfInBounds_toArray, List.set_cons_zero, List.set_cons_succ]) | (refine wl_allocT rfl 62 rfl zr ?_; simp only [Act.put, List.setIfInBounds_toArray, List.set_cons_zero, List.set_cons_succ]) | (refine wl_storeAt rfl 62 (.tmp 7) (.tmp 33) rfl rfl rfl HB.out sz sX oX ?_))
      obtain ⟨v4, hv⟩ : ∃ v, setCells ((wr.alloc (.cells #[.int .i64 d, .int .i64 t, .int .i64 a', .int .i64 b, .int .i64 x', .int .i64 k', .int .i64 o', .int .i64 c', .int .i64 r', .int .i64 l', .int .i64 n'] 34)).alloc (.cells Z 62)) (wr.alloc (.cells #[.int .i64 d, .int .i64 t, .int .i64 a', .int .i64 b, .int .i64 x', .int .i64 k', .int .i64 o', .int .i64 c', .int .i64 r', .int .i64 l', .int .i64 n'] 34)).heap.size 0 Z.toList = v := ⟨_, rfl⟩
      rw [hv] at SV
      (try rw [hv])
      obtain ⟨gw, hg⟩ : ∃ g, (wr.alloc (.cells #[.int .i64 d, .int .i64 t, .int .i64 a', .int .i64 b, .int .i64 x', .int .i64 k', .int .i64 o', .int .i64 c', .int .i64 r', .int .i64 l', .int .i64 n'] 34)).heap.size = g := ⟨_, rfl⟩
      rw [hg] at SV
      (try rw [hg])
      obtain ⟨ga, hga⟩ : ∃ g, wr.heap.size = g := ⟨_, rfl⟩
      rw [hga] at SV
      (try rw [hga])
      rw [← HZ.out] at SV
      have S5 := Lib.hid SV.out
      clear hv hg hga SV HB zr br sX oX sz S4
      go_wp2_with fail
      refine (t_len S5.out 2 rfl).mono ?_
      rw [HLN.out]
      rintro e w6 ⟨rfl, h6, _⟩
      have S6 : Hid (∃ W : List Tk, W.length = 30 ∧ (∀ k, k < 0 → W[k]? = L[k]?) ∧ Sep (fun _ => False) w w6 [blk gw (.cells (wasA W) 62), blk ga (.cells #[.int .i64 d, .int .i64 t, .int .i64 a', .int .i64 b, .int .i64 x', .int .i64 k', .int .i64 o', .int .i64 c', .int .i64 r', .int .i64 l', .int .i64 n'] 34), ob I.O (.pointer (some a)) (L, 30)]) := ⟨W0, w0_len, fun k h => absurd h (by omega), h6⟩
      clear h6 S5
      go_wp2
      go_loopw [38] (fun u wr => ∃ i : Nat, i ≤ ln ∧ u = .int .i64 i ∧ Hid (∃ W : List Tk, W.length = 30 ∧ (∀ k, k < i → W[k]? = L[k]?) ∧ Sep (fun _ => False) w wr [blk gw (.cells (wasA W) 62), blk ga (.cells #[.int .i64 d, .int .i64 t, .int .i64 a', .int .i64 b, .int .i64 x', .int .i64 k', .int .i64 o', .int .i64 c', .int .i64 r', .int .i64 l', .int .i64 n'] 34), ob I.O (.pointer (some a)) (L, 30)])) (fun u _ => ln - (intOf u).toNat)
      case atStart => exact ⟨0, Nat.zero_le _, rfl, S6.out⟩
      case round =>
        obtain ⟨i, hi, rfl, HW⟩ := hrel
        clear S6
        obtain ⟨W, hW30, hWk, hS⟩ := HW.out
        have S7 := Lib.hid hS
        have HWK : Hid (W.length = 30 ∧ ∀ k, k < i → W[k]? = L[k]?) := ⟨hW30, hWk⟩
        clear HW hW30 hWk hS
        rcases (by omega : i < ln ∨ ln ≤ i) with hil | hil
        · obtain ⟨tt, htt⟩ : ∃ tt, L[i]? = some tt := ⟨_, List.getElem?_eq_getElem (by rw [HLN.out]; exact hil)⟩
          have HTT := Lib.hid htt
          have hg : getT L (i : Int) = tt := getT_at htt
          have hgb : getB L (i : Int) = true := decide_eq_true (by rw [HLN.out]; omega)
          have HG := Lib.hid hg
          have HGB := Lib.hid hgb
          have i0 : (0 : Int) ≤ (i : Int) := by omega
          have i30 : (i : Int) < 30 := by omega
          have dl : decide ((i : Int) < (ln : Int)) = true := decide_eq_true (by omega)
          have dl2 : decide (i < ln) = true := decide_eq_true hil
          have HI64 : Hid (In64 (i : Int)) := ⟨by omega, by omega⟩
          clear hg hgb htt
          go_wp2_with fail
          refine (t_get S7.out 2 rfl (i : Int) HI64.out (t := tt) (b := true) HG.out HGB.out).mono ?_
          rintro e w8 ⟨rfl, h8, _⟩
          have S8 : Hid (Sep (fun _ => False) w w8 [blk gw (.cells (wasA W) 62), blk ga (.cells #[.int .i64 d, .int .i64 t, .int .i64 a', .int .i64 b, .int .i64 x', .int .i64 k', .int .i64 o', .int .i64 c', .int .i64 r', .int .i64 l', .int .i64 n'] 34), ob I.O (.pointer (some a)) (L, 30)]) := h8
          have SV : Hid (∃ W : List Tk, W.length = 30 ∧ (∀ k, k < i + 1 → W[k]? = L[k]?) ∧ Sep (fun _ => False) w (setCells w8 gw (i * 17) (tkA tt).toList) [blk gw (.cells (wasA W) 62), blk ga (.cells #[.int .i64 d, .int .i64 t, .int .i64 a', .int .i64 b, .int .i64 x', .int .i64 k', .int .i64 o', .int .i64 c', .int .i64 r', .int .i64 l', .int .i64 n'] 34), ob I.O (.pointer (some a)) (L, 30)]) := by
            refine ⟨W.set i tt, by rw [List.length_set]; exact HWK.out.1, fun k hk => ?_, ?_⟩
            · by_cases e : i = k
              · subst e; rw [List.getElem?_set_self (by rw [HWK.out.1]; omega), HTT.out]
              · rw [List.getElem?_set_ne e]; exact HWK.out.2 k (by omega)
            · have h2 := Sep.whole (tkA tt).toList (i * 17) S8.out 0 rfl
              rw [was_set (by rw [HWK.out.1]; omega)] at h2
              exact h2
          have HB : Hid (w8.heap[gw]? = some (.cells (wasA W) 62 (0, 0))) := S8.out.blk_at 0 rfl
          have sz : i * 17 + (tkA tt).size ≤ (wasA W).size := by rw [tkA_size, was_size, HWK.out.1]; omega
          have sX := sizeT_t tt
          have oX := tkA_one tt
          clear h8 S7 S8 HG HGB
          generalize tkA tt = X at *
          go_wp2_with (refine wl_storeAt rfl 53 (.tmp 48) (.tmp 46) rfl rfl rfl HB.out sz sX oX ?_)
          go_roundw
          case rel => exact ⟨i + 1, by omega, by go_num, SV⟩
          case measure => simp [intOf]; omega
        · have dl : decide ((i : Int) < (ln : Int)) = false := decide_eq_false (by omega)
          have dl2 : decide (i < ln) = false := decide_eq_false (by omega)
          have HWL : Hid (W.length = 30 ∧ ∀ k, k < ln → W[k]? = L[k]?) := ⟨HWK.out.1, fun k hk => HWK.out.2 k (by omega)⟩
          clear HWK hi hil
          go_upto_region 18 with (fail)
          obtain ⟨V, hV⟩ : ∃ V, aV L 30 d = V := ⟨_, rfl⟩
          obtain ⟨E, hE⟩ : ∃ E, aE L 30 d = E := ⟨_, rfl⟩
          obtain ⟨Bo, hBo⟩ : ∃ Bo, aB L d t a' ⟨k', o', c', r', l', n'⟩ = Bo := ⟨_, rfl⟩
          obtain ⟨L2, hL2⟩ : ∃ L2, aL L 30 d t a' b x' ⟨k', o', c', r', l', n'⟩ = L2 := ⟨_, rfl⟩
          have HOT : Hid (∀ (k : Nat) (tt : Tk), k < ln → L[k]? = some tt → (d = 0 ∨ (k : Int) ≠ t ∨ Bo = false) → L2[k]? = some tt) := fun k tt hk h1 h2 => by
            rw [← hBo] at h2
            rw [← hL2, aL_other (by rw [HLN.out]; exact hk) h2, h1]
          have HEN : Hid (∀ (k : Nat) (tt : Tk), L[k]? = some tt → get tt 0 = 3 → d ≠ 0 → (k : Int) = t → Bo = false) := fun k tt h1 h2 h3 h4 => by
            rw [← hBo]
            exact ended_no h1 h2 h4 d a' _ h3
          have HLE : Hid (L2.length = if d = 0 ∧ E = 0 then ln + 1 else ln) := by
            show _ = _
            rw [← hL2, aL_len, hE, HLN.out]
          have KV := Lib.hid hV
          have KE := Lib.hid hE
          have KB := Lib.hid hBo
          have KL := Lib.hid hL2
          have e0 := (cell_block (S7.out.blk_at 1 (g := ga) (o := (.cells #[.int .i64 d, .int .i64 t, .int .i64 a', .int .i64 b, .int .i64 x', .int .i64 k', .int .i64 o', .int .i64 c', .int .i64 r', .int .i64 l', .int .i64 n'] 34)) rfl) 0).trans rfl
          have e1 := (cell_block (S7.out.blk_at 1 (g := ga) (o := (.cells #[.int .i64 d, .int .i64 t, .int .i64 a', .int .i64 b, .int .i64 x', .int .i64 k', .int .i64 o', .int .i64 c', .int .i64 r', .int .i64 l', .int .i64 n'] 34)) rfl) 1).trans rfl
          have e2 := (cell_block (S7.out.blk_at 1 (g := ga) (o := (.cells #[.int .i64 d, .int .i64 t, .int .i64 a', .int .i64 b, .int .i64 x', .int .i64 k', .int .i64 o', .int .i64 c', .int .i64 r', .int .i64 l', .int .i64 n'] 34)) rfl) 2).trans rfl
          have e3 := (cell_block (S7.out.blk_at 1 (g := ga) (o := (.cells #[.int .i64 d, .int .i64 t, .int .i64 a', .int .i64 b, .int .i64 x', .int .i64 k', .int .i64 o', .int .i64 c', .int .i64 r', .int .i64 l', .int .i64 n'] 34)) rfl) 3).trans rfl
          have e4 := (cell_block (S7.out.blk_at 1 (g := ga) (o := (.cells #[.int .i64 d, .int .i64 t, .int .i64 a', .int .i64 b, .int .i64 x', .int .i64 k', .int .i64 o', .int .i64 c', .int .i64 r', .int .i64 l', .int .i64 n'] 34)) rfl) 4).trans rfl
          have e5 := (cell_block (S7.out.blk_at 1 (g := ga) (o := (.cells #[.int .i64 d, .int .i64 t, .int .i64 a', .int .i64 b, .int .i64 x', .int .i64 k', .int .i64 o', .int .i64 c', .int .i64 r', .int .i64 l', .int .i64 n'] 34)) rfl) 5).trans rfl
          have e6 := (cell_block (S7.out.blk_at 1 (g := ga) (o := (.cells #[.int .i64 d, .int .i64 t, .int .i64 a', .int .i64 b, .int .i64 x', .int .i64 k', .int .i64 o', .int .i64 c', .int .i64 r', .int .i64 l', .int .i64 n'] 34)) rfl) 6).trans rfl
          have e7 := (cell_block (S7.out.blk_at 1 (g := ga) (o := (.cells #[.int .i64 d, .int .i64 t, .int .i64 a', .int .i64 b, .int .i64 x', .int .i64 k', .int .i64 o', .int .i64 c', .int .i64 r', .int .i64 l', .int .i64 n'] 34)) rfl) 7).trans rfl
          have e8 := (cell_block (S7.out.blk_at 1 (g := ga) (o := (.cells #[.int .i64 d, .int .i64 t, .int .i64 a', .int .i64 b, .int .i64 x', .int .i64 k', .int .i64 o', .int .i64 c', .int .i64 r', .int .i64 l', .int .i64 n'] 34)) rfl) 8).trans rfl
          have e9 := (cell_block (S7.out.blk_at 1 (g := ga) (o := (.cells #[.int .i64 d, .int .i64 t, .int .i64 a', .int .i64 b, .int .i64 x', .int .i64 k', .int .i64 o', .int .i64 c', .int .i64 r', .int .i64 l', .int .i64 n'] 34)) rfl) 9).trans rfl
          have e10 := (cell_block (S7.out.blk_at 1 (g := ga) (o := (.cells #[.int .i64 d, .int .i64 t, .int .i64 a', .int .i64 b, .int .i64 x', .int .i64 k', .int .i64 o', .int .i64 c', .int .i64 r', .int .i64 l', .int .i64 n'] 34)) rfl) 10).trans rfl
          clear hV hE hBo hL2
          go_wp2_with fail
          refine (t_do S7.out 2 rfl d t a' b x' ⟨k', o', c', r', l', n'⟩ HIN.out KV.out KB.out KE.out KL.out).mono ?_
          rintro e w9 ⟨rfl, h9⟩
          have S9 : Hid (Sep (fun _ => False) w w9 [blk gw (.cells (wasA W) 62), blk ga (.cells #[.int .i64 d, .int .i64 t, .int .i64 a', .int .i64 b, .int .i64 x', .int .i64 k', .int .i64 o', .int .i64 c', .int .i64 r', .int .i64 l', .int .i64 n'] 34), ob I.O (.pointer (some a)) (L2, 30)]) := h9
          clear h9 S7 KV KE KB KL HIN e0 e1 e2 e3 e4 e5 e6 e7 e8 e9 e10
          go_wp2
          go_loopw [59] (fun u wr => ∃ i : Nat, i ≤ ln ∧ u = .int .i64 i ∧ Hid (Sep (fun _ => False) w wr [blk gw (.cells (wasA W) 62), blk ga (.cells #[.int .i64 d, .int .i64 t, .int .i64 a', .int .i64 b, .int .i64 x', .int .i64 k', .int .i64 o', .int .i64 c', .int .i64 r', .int .i64 l', .int .i64 n'] 34), ob I.O (.pointer (some a)) (L2, 30)])) (fun u _ => ln - (intOf u).toNat)
          case atStart => exact ⟨0, Nat.zero_le _, rfl, S9⟩
          case round =>
            obtain ⟨i, hi, rfl, S10⟩ := hrel
            clear S9
            rcases (by omega : i < ln ∨ ln ≤ i) with hil | hil
            · obtain ⟨tt, htt⟩ : ∃ tt, L[i]? = some tt := ⟨_, List.getElem?_eq_getElem (by rw [HLN.out]; exact hil)⟩
              have hl2 : ln ≤ L2.length := by rw [HLE.out]; split <;> omega
              obtain ⟨uu, huu⟩ : ∃ uu, L2[i]? = some uu := ⟨_, List.getElem?_eq_getElem (by omega)⟩
              have hu : getT L2 (i : Int) = uu := getT_at huu
              have hub : getB L2 (i : Int) = true := decide_eq_true (by omega)
              have HU := Lib.hid hu
              have HUB := Lib.hid hub
              have HSAME : Hid ((d = 0 ∨ (i : Int) ≠ t ∨ Bo = false) → uu = tt) := fun h => by
                have := HOT.out i tt hil htt h
                rw [huu] at this
                exact Option.some.inj this
              have HNO : Hid (get tt 0 = 3 → d ≠ 0 → (i : Int) = t → Bo = false) := HEN.out i tt htt
              have HWT : Hid (W[i]? = some tt) := by show _ = _; rw [HWL.out.2 i hil, htt]
              have i0 : (0 : Int) ≤ (i : Int) := by omega
              have i30 : (i : Int) < 30 := by omega
              have dl : decide ((i : Int) < (ln : Int)) = true := decide_eq_true (by omega)
              have dl2 : decide (i < ln) = true := decide_eq_true hil
              have HI64 : Hid (In64 (i : Int)) := ⟨by omega, by omega⟩
              obtain ⟨Y, hY⟩ : ∃ Y, tkA uu = Y := ⟨_, rfl⟩
              have HY := Lib.hid hY
              clear hu hub htt huu hl2 hY
              go_wp2_with fail
              refine (t_get S10.out 2 rfl (i : Int) HI64.out (t := uu) (b := true) HU.out HUB.out).mono ?_
              rintro e w11 ⟨rfl, h11, _⟩
              have G11 : Hid (Sep (fun _ => False) w w11 [blk gw (.cells (wasA W) 62), blk ga (.cells #[.int .i64 d, .int .i64 t, .int .i64 a', .int .i64 b, .int .i64 x', .int .i64 k', .int .i64 o', .int .i64 c', .int .i64 r', .int .i64 l', .int .i64 n'] 34), ob I.O (.pointer (some a)) (L2, 30)]) := h11
              clear h11 S10
              have zr := zero_t
              have sX := sizeT_t uu
              have oX := tkA_one uu
              have sz : 0 + (tkA uu).size ≤ (tkA zeroT).size := by rw [tkA_size, tkA_size]; omega
              have HB : Hid ((w11.alloc (.cells (tkA zeroT) 53)).heap[w11.heap.size]? = some (.cells (tkA zeroT) 53 (0, 0))) := (G11.out.new _).blk_at 0 rfl
              have SV : Hid (Sep (fun _ => False) w (setCells (w11.alloc (.cells (tkA zeroT) 53)) w11.heap.size 0 (tkA uu).toList) (blk w11.heap.size (.cells (tkA uu) 53) :: [blk gw (.cells (wasA W) 62), blk ga (.cells #[.int .i64 d, .int .i64 t, .int .i64 a', .int .i64 b, .int .i64 x', .int .i64 k', .int .i64 o', .int .i64 c', .int .i64 r', .int .i64 l', .int .i64 n'] 34), ob I.O (.pointer (some a)) (L2, 30)])) := var_sep G11.out uu
              generalize tkA zeroT = Z2 at *
              rw [HY.out] at sX oX sz SV ⊢
              go_upto_region 23 with (first | (refine wl_allocT rfl 53 rfl zr ?_; simp only [Act.put, List.setIfInBounds_toArray, List.set_cons_zero, List.set_cons_succ]) | (refine wl_storeAt rfl 53 (.tmp 14) (.tmp 66) rfl rfl rfl HB.out sz sX oX ?_))
              obtain ⟨v11, hv⟩ : ∃ v, setCells (w11.alloc (.cells Z2 53)) w11.heap.size 0 Y.toList = v := ⟨_, rfl⟩
              rw [hv] at SV
              (try rw [hv])
              have S11 := Lib.hid SV.out
              obtain ⟨gx, hg⟩ : ∃ g, w11.heap.size = g := ⟨_, rfl⟩
              rw [hg] at S11
              (try rw [hg])
              clear hv hg SV HB zr oX sz
              (try clear Z2)
              clear G11 HU HUB
              have SR : Hid (Sep (fun _ => False) w v11 (blk gx (.cells Y 53) :: [blk gw (.cells (wasA W) 62), blk ga (.cells #[.int .i64 d, .int .i64 t, .int .i64 a', .int .i64 b, .int .i64 x', .int .i64 k', .int .i64 o', .int .i64 c', .int .i64 r', .int .i64 l', .int .i64 n'] 34), ob I.O (.pointer (some a)) (L2, 30)])) := S11.out
              clear S11
              go_cut [105] (fun s105 wx => s105 = .bool false ∧ Hid (Sep (fun _ => False) w wx [blk gw (.cells (wasA W) 62), blk ga (.cells #[.int .i64 d, .int .i64 t, .int .i64 a', .int .i64 b, .int .i64 x', .int .i64 k', .int .i64 o', .int .i64 c', .int .i64 r', .int .i64 l', .int .i64 n'] 34), ob I.O (.pointer (some a)) (L2, 30)]))
              case first => as_aux_lemma =>
                have SD := Lib.hid SR.out.drew
                obtain ⟨X, hX⟩ : ∃ X, tkA tt = X := ⟨_, rfl⟩
                have HX := Lib.hid hX
                have sW : (Try.prog.info? 53).map (·.size) = some X.size := by rw [← hX]; exact sizeT_t tt
                have hXs : X.size = 17 := by rw [← hX]; exact tkA_size tt
                obtain ⟨st, hst⟩ : ∃ z, get tt 0 = z := ⟨_, rfl⟩
                have HST := Lib.hid hst
                have hcs : ∀ j, j < X.size → v11.drew.cell? ⟨gw, i * 17 + j, none⟩ = X[j]? := fun j hj => by
                  rw [hXs] at hj
                  rw [cell_block (SD.out.blk_at 1 (g := gw) rfl) (i * 17 + j), was_get HWT.out hj, ← hX, tkA_get tt hj]
                have hc0 : v11.drew.cell? ⟨gw, i * 17, none⟩ = some (.int .i64 st) := by
                  have h1 := hcs 0 (by omega)
                  rw [Nat.add_zero] at h1
                  rw [h1, ← hX, tkA_get tt (by omega), hst]
                have hd0 := (cell_block (SD.out.blk_at 2 (g := ga) (o := (.cells #[.int .i64 d, .int .i64 t, .int .i64 a', .int .i64 b, .int .i64 x', .int .i64 k', .int .i64 o', .int .i64 c', .int .i64 r', .int .i64 l', .int .i64 n'] 34)) rfl) 0).trans rfl
                have hd1 := (cell_block (SD.out.blk_at 2 (g := ga) (o := (.cells #[.int .i64 d, .int .i64 t, .int .i64 a', .int .i64 b, .int .i64 x', .int .i64 k', .int .i64 o', .int .i64 c', .int .i64 r', .int .i64 l', .int .i64 n'] 34)) rfl) 1).trans rfl
                have hC : (fun V : World => V.heap[gx]? = some (.cells Y 53 (0, 0)) ∧ (∀ j, j < X.size → V.cell? ⟨gw, i * 17 + j, none⟩ = X[j]?) ∧ V.cell? ⟨gw, i * 17, none⟩ = some (.int .i64 st) ∧ V.cell? ⟨ga, 0, none⟩ = some (.int .i64 d) ∧ V.cell? ⟨ga, 1, none⟩ = some (.int .i64 t)) v11.drew := ⟨SD.out.blk_at 0 rfl, hcs, hc0, hd0, hd1⟩
                have HNO2 : Hid (st = 3 → d ≠ 0 → (i : Int) = t → Bo = false) := fun h => HNO.out (hst.trans h)
                have hgu := tkGuard
                have HXX : Hid (uu = tt → Y = X) := fun h => by rw [← HY.out, h, hX]
                have hnq : ∀ V, (binOp .neq 53 (.agg X) (.agg X)).run Try.prog V = .ok (.bool false) V := fun V => by
                  have h1 := run_neq_tkT V tt tt
                  rw [hX, decide_eq_true rfl] at h1
                  exact h1
                refine Held.begin_ (fun V : World => V.heap[gx]? = some (.cells Y 53 (0, 0)) ∧ (∀ j, j < X.size → V.cell? ⟨gw, i * 17 + j, none⟩ = X[j]?) ∧ V.cell? ⟨gw, i * 17, none⟩ = some (.int .i64 st) ∧ V.cell? ⟨ga, 0, none⟩ = some (.int .i64 d) ∧ V.cell? ⟨ga, 1, none⟩ = some (.int .i64 t)) 99 (by kernel_rfl) ?_
                clear hX hst hcs hc0 hd0 hd1 HNO HX HST HWT HY
                by_cases h3 : st = 3
                · have z3 : (st == 3) = true := by simpa using h3
                  have hYX : Y = X := HXX.out (HSAME.out (by
                    by_cases q0 : d = 0
                    · exact .inl q0
                    · by_cases q1 : (i : Int) = t
                      · exact .inr (.inr (HNO2.out h3 q0 q1))
                      · exact .inr (.inl q1)))
                  subst hYX
                  by_cases q0 : d = 0
                  · have zd : (d == 0) = true := by simpa using q0
                    clear h3 q0 HNO2 HSAME HXX
                    refine Held.takeN 0 (v := ?_) hC rfl (by kernel_rfl) (by kernel_rfl) (by kernel_rfl) rfl (fun _ _ _ h => h) rfl ?_ ?_; rotate_left; · (intro W hW; obtain ⟨_, _, k0, k1, k2⟩ := hW; go_simp <;> with_reducible rfl)
                    try simp only [Act.put, List.setIfInBounds_toArray, List.set_cons_zero, List.set_cons_succ]
                    refine Held.takeN 1 (v := ?_) hC rfl (by kernel_rfl) (by kernel_rfl) (by kernel_rfl) rfl (fun _ _ _ h => h) rfl ?_ ?_; rotate_left; · (intro W hW; obtain ⟨_, _, k0, k1, k2⟩ := hW; go_simp <;> with_reducible rfl)
                    try simp only [Act.put, List.setIfInBounds_toArray, List.set_cons_zero, List.set_cons_succ]
                    refine Held.takeN 2 (v := ?_) hC rfl (by kernel_rfl) (by kernel_rfl) (by kernel_rfl) rfl (fun _ _ _ h => h) rfl ?_ ?_; rotate_left; · (intro W hW; obtain ⟨_, _, k0, k1, k2⟩ := hW; go_simp <;> with_reducible rfl)
                    try simp only [Act.put, List.setIfInBounds_toArray, List.set_cons_zero, List.set_cons_succ]
                    refine Held.takeN 3 (v := ?_) hC rfl (by kernel_rfl) (by kernel_rfl) (by kernel_rfl) rfl (fun _ _ _ h => h) rfl ?_ ?_; rotate_left; · (intro W hW; obtain ⟨_, _, k0, k1, k2⟩ := hW; go_simp <;> with_reducible rfl)
                    try simp only [Act.put, List.setIfInBounds_toArray, List.set_cons_zero, List.set_cons_succ]
                    refine Held.takeN 4 (v := ?_) hC rfl (by kernel_rfl) (by kernel_rfl) (by kernel_rfl) rfl (fun _ _ _ h => h) rfl ?_ ?_; rotate_left; · (intro W hW; obtain ⟨_, _, k0, k1, k2⟩ := hW; go_simp <;> with_reducible rfl)
                    try simp only [Act.put, List.setIfInBounds_toArray, List.set_cons_zero, List.set_cons_succ]
                    refine Held.takeN 5 (v := ?_) hC rfl (by kernel_rfl) (by kernel_rfl) (by kernel_rfl) rfl (fun _ _ _ h => h) rfl ?_ ?_; rotate_left; · (intro W hW; obtain ⟨_, _, k0, k1, k2⟩ := hW; go_simp <;> with_reducible rfl)
                    try simp only [Act.put, List.setIfInBounds_toArray, List.set_cons_zero, List.set_cons_succ]
                    refine Held.takeN 6 (v := ?_) hC rfl (by kernel_rfl) (by kernel_rfl) (by kernel_rfl) rfl (fun _ _ _ h => h) rfl ?_ ?_; rotate_left; · (intro W hW; obtain ⟨_, _, k0, k1, k2⟩ := hW; go_simp <;> with_reducible rfl)
                    try simp only [Act.put, List.setIfInBounds_toArray, List.set_cons_zero, List.set_cons_succ]
                    refine Held.takeN 7 (v := ?_) hC rfl (by kernel_rfl) (by kernel_rfl) (by kernel_rfl) rfl (fun _ _ _ h => h) rfl ?_ ?_; rotate_left; · (intro W hW; obtain ⟨_, _, k0, k1, k2⟩ := hW; go_simp <;> with_reducible rfl)
                    try simp only [Act.put, List.setIfInBounds_toArray, List.set_cons_zero, List.set_cons_succ]
                    refine Held.takeN 8 (v := ?_) hC rfl (by kernel_rfl) (by kernel_rfl) (by kernel_rfl) rfl (fun _ _ _ h => h) rfl ?_ ?_; rotate_left; · (intro W hW; obtain ⟨_, _, k0, k1, k2⟩ := hW; go_simp <;> with_reducible rfl)
                    try simp only [Act.put, List.setIfInBounds_toArray, List.set_cons_zero, List.set_cons_succ]
                    refine Held.takeN 9 (v := .agg Y) hC rfl (by kernel_rfl) (by kernel_rfl) (by kernel_rfl) rfl (fun _ _ _ h => h) rfl (fun W hW => exec_block 53 (.tmp 14) rfl rfl hW.1 Try.underlying53 rfl sW) ?_
                    try simp only [Act.put, List.setIfInBounds_toArray, List.set_cons_zero, List.set_cons_succ]
                    refine Held.takeN 10 (v := ?_) hC rfl (by kernel_rfl) (by kernel_rfl) (by kernel_rfl) rfl (fun _ _ _ h => h) rfl ?_ ?_; rotate_left; · (intro W hW; obtain ⟨_, _, k0, k1, k2⟩ := hW; go_simp <;> with_reducible rfl)
                    try simp only [Act.put, List.setIfInBounds_toArray, List.set_cons_zero, List.set_cons_succ]
                    refine Held.takeN 11 (v := ?_) hC rfl (by kernel_rfl) (by kernel_rfl) (by kernel_rfl) rfl (fun _ _ _ h => h) rfl ?_ ?_; rotate_left; · (intro W hW; obtain ⟨_, _, k0, k1, k2⟩ := hW; go_simp <;> with_reducible rfl)
                    try simp only [Act.put, List.setIfInBounds_toArray, List.set_cons_zero, List.set_cons_succ]
                    refine Held.takeN 12 (v := .agg Y) hC rfl (by kernel_rfl) (by kernel_rfl) (by kernel_rfl) rfl (fun _ _ _ h => h) rfl (fun W hW => exec_at 53 (.tmp 79) rfl rfl hW.2.1 Try.underlying53 rfl sW) ?_
                    try simp only [Act.put, List.setIfInBounds_toArray, List.set_cons_zero, List.set_cons_succ]
                    refine Held.takeN 13 (v := ?_) hC rfl (by kernel_rfl) (by kernel_rfl) (by kernel_rfl) rfl (fun _ _ _ h => h) rfl ?_ ?_; rotate_left; · (intro W hW; obtain ⟨_, _, k0, k1, k2⟩ := hW; go_simp <;> with_reducible rfl)
                    try simp only [Act.put, List.setIfInBounds_toArray, List.set_cons_zero, List.set_cons_succ]
                    refine Held.takeN 14 (v := ?_) hC rfl (by kernel_rfl) (by kernel_rfl) (by kernel_rfl) rfl (fun _ _ _ h => h) rfl ?_ ?_; rotate_left; · (intro W hW; obtain ⟨_, _, k0, k1, k2⟩ := hW; go_simp <;> with_reducible rfl)
                    try simp only [Act.put, List.setIfInBounds_toArray, List.set_cons_zero, List.set_cons_succ]
                    refine Held.takeN 15 (v := ?_) hC rfl (by kernel_rfl) (by kernel_rfl) (by kernel_rfl) rfl (fun _ _ _ h => h) rfl ?_ ?_; rotate_left; · (intro W hW; obtain ⟨_, _, k0, k1, k2⟩ := hW; go_simp <;> with_reducible rfl)
                    try simp only [Act.put, List.setIfInBounds_toArray, List.set_cons_zero, List.set_cons_succ]
                    refine Held.takeN 16 (v := ?_) hC rfl (by kernel_rfl) (by kernel_rfl) (by kernel_rfl) rfl (fun _ _ _ h => h) rfl ?_ ?_; rotate_left; · (intro W hW; obtain ⟨_, _, k0, k1, k2⟩ := hW; go_simp <;> with_reducible rfl)
                    try simp only [Act.put, List.setIfInBounds_toArray, List.set_cons_zero, List.set_cons_succ]
                    refine Held.takeN 17 (v := ?_) hC rfl (by kernel_rfl) (by kernel_rfl) (by kernel_rfl) rfl (fun _ _ _ h => h) rfl ?_ ?_; rotate_left; · (intro W hW; obtain ⟨_, _, k0, k1, k2⟩ := hW; go_simp <;> with_reducible rfl)
                    try simp only [Act.put, List.setIfInBounds_toArray, List.set_cons_zero, List.set_cons_succ]
                    refine Held.takeN 18 (v := ?_) hC rfl (by kernel_rfl) (by kernel_rfl) (by kernel_rfl) rfl (fun _ _ _ h => h) rfl ?_ ?_; rotate_left; · (intro W hW; obtain ⟨_, _, k0, k1, k2⟩ := hW; go_simp <;> with_reducible rfl)
                    try simp only [Act.put, List.setIfInBounds_toArray, List.set_cons_zero, List.set_cons_succ]
                    refine Held.takeN 19 (v := ?_) hC rfl (by kernel_rfl) (by kernel_rfl) (by kernel_rfl) rfl (fun _ _ _ h => h) rfl ?_ ?_; rotate_left; · (intro W hW; obtain ⟨_, _, k0, k1, k2⟩ := hW; go_simp <;> with_reducible rfl)
                    try simp only [Act.put, List.setIfInBounds_toArray, List.set_cons_zero, List.set_cons_succ]
                    refine Held.takeN 20 (v := ?_) hC rfl (by kernel_rfl) (by kernel_rfl) (by kernel_rfl) rfl (fun _ _ _ h => h) rfl ?_ ?_; rotate_left; · (intro W hW; obtain ⟨_, _, k0, k1, k2⟩ := hW; go_simp <;> with_reducible rfl)
                    try simp only [Act.put, List.setIfInBounds_toArray, List.set_cons_zero, List.set_cons_succ]
                    refine Held.skipN 21 hC rfl (by kernel_rfl) (by kernel_rfl) (by kernel_rfl) rfl (fun _ _ _ h => h) rfl ?_
                    try simp only [Act.put, List.setIfInBounds_toArray, List.set_cons_zero, List.set_cons_succ]
                    refine Held.skipN 22 hC rfl (by kernel_rfl) (by kernel_rfl) (by kernel_rfl) rfl (fun _ _ _ h => h) rfl ?_
                    try simp only [Act.put, List.setIfInBounds_toArray, List.set_cons_zero, List.set_cons_succ]
                    refine Held.skipN 23 hC rfl (by kernel_rfl) (by kernel_rfl) (by kernel_rfl) rfl (fun _ _ _ h => h) rfl ?_
                    try simp only [Act.put, List.setIfInBounds_toArray, List.set_cons_zero, List.set_cons_succ]
                    refine Held.skipN 24 hC rfl (by kernel_rfl) (by kernel_rfl) (by kernel_rfl) rfl (fun _ _ _ h => h) rfl ?_
                    try simp only [Act.put, List.setIfInBounds_toArray, List.set_cons_zero, List.set_cons_succ]
                    refine Held.takeN 25 (v := ?_) hC rfl (by kernel_rfl) (by kernel_rfl) (by kernel_rfl) rfl (fun _ _ _ h => h) rfl ?_ ?_; rotate_left; · (intro W hW; obtain ⟨_, _, k0, k1, k2⟩ := hW; go_simp <;> with_reducible rfl)
                    try simp only [Act.put, List.setIfInBounds_toArray, List.set_cons_zero, List.set_cons_succ]
                    refine Held.takeN 26 (v := ?_) hC rfl (by kernel_rfl) (by kernel_rfl) (by kernel_rfl) rfl (fun _ _ _ h => h) rfl ?_ ?_; rotate_left; · (intro W hW; obtain ⟨_, _, k0, k1, k2⟩ := hW; go_simp <;> with_reducible rfl)
                    try simp only [Act.put, List.setIfInBounds_toArray, List.set_cons_zero, List.set_cons_succ]
                    refine Held.skipN 27 hC rfl (by kernel_rfl) (by kernel_rfl) (by kernel_rfl) rfl (fun _ _ _ h => h) rfl ?_
                    try simp only [Act.put, List.setIfInBounds_toArray, List.set_cons_zero, List.set_cons_succ]
                    refine Held.skipN 28 hC rfl (by kernel_rfl) (by kernel_rfl) (by kernel_rfl) rfl (fun _ _ _ h => h) rfl ?_
                    try simp only [Act.put, List.setIfInBounds_toArray, List.set_cons_zero, List.set_cons_succ]
                    refine Held.takeN 29 (v := ?_) hC rfl (by kernel_rfl) (by kernel_rfl) (by kernel_rfl) rfl (fun _ _ _ h => h) rfl ?_ ?_; rotate_left; · (intro W hW; obtain ⟨_, _, k0, k1, k2⟩ := hW; go_simp <;> with_reducible rfl)
                    try simp only [Act.put, List.setIfInBounds_toArray, List.set_cons_zero, List.set_cons_succ]
                    refine Held.takeN 30 (v := ?_) hC rfl (by kernel_rfl) (by kernel_rfl) (by kernel_rfl) rfl (fun _ _ _ h => h) rfl ?_ ?_; rotate_left; · (intro W hW; obtain ⟨_, _, k0, k1, k2⟩ := hW; go_simp <;> with_reducible rfl)
                    try simp only [Act.put, List.setIfInBounds_toArray, List.set_cons_zero, List.set_cons_succ]
                    refine Held.takeN 31 (v := .agg Y) hC rfl (by kernel_rfl) (by kernel_rfl) (by kernel_rfl) rfl (fun _ _ _ h => h) rfl (fun W hW => exec_block 53 (.tmp 14) rfl rfl hW.1 Try.underlying53 rfl sW) ?_
                    try simp only [Act.put, List.setIfInBounds_toArray, List.set_cons_zero, List.set_cons_succ]
                    refine Held.takeN 32 (v := ?_) hC rfl (by kernel_rfl) (by kernel_rfl) (by kernel_rfl) rfl (fun _ _ _ h => h) rfl ?_ ?_; rotate_left; · (intro W hW; obtain ⟨_, _, k0, k1, k2⟩ := hW; go_simp <;> with_reducible rfl)
                    try simp only [Act.put, List.setIfInBounds_toArray, List.set_cons_zero, List.set_cons_succ]
                    refine Held.takeN 33 (v := ?_) hC rfl (by kernel_rfl) (by kernel_rfl) (by kernel_rfl) rfl (fun _ _ _ h => h) rfl ?_ ?_; rotate_left; · (intro W hW; obtain ⟨_, _, k0, k1, k2⟩ := hW; go_simp <;> with_reducible rfl)
                    try simp only [Act.put, List.setIfInBounds_toArray, List.set_cons_zero, List.set_cons_succ]
                    refine Held.takeN 34 (v := .agg Y) hC rfl (by kernel_rfl) (by kernel_rfl) (by kernel_rfl) rfl (fun _ _ _ h => h) rfl (fun W hW => exec_at 53 (.tmp 101) rfl rfl hW.2.1 Try.underlying53 rfl sW) ?_
                    try simp only [Act.put, List.setIfInBounds_toArray, List.set_cons_zero, List.set_cons_succ]
                    refine Held.takeN 35 (v := ?_) hC rfl (by kernel_rfl) (by kernel_rfl) (by kernel_rfl) rfl (fun _ _ _ h => h) rfl ?_ ?_; rotate_left; · (intro W hW; obtain ⟨_, _, k0, k1, k2⟩ := hW; go_simp <;> with_reducible rfl)
                    try simp only [Act.put, List.setIfInBounds_toArray, List.set_cons_zero, List.set_cons_succ]
                    refine Held.takeN 36 (v := ?_) hC rfl (by kernel_rfl) (by kernel_rfl) (by kernel_rfl) rfl (fun _ _ _ h => h) rfl ?_ ?_; rotate_left; · (intro W hW; obtain ⟨_, _, k0, k1, k2⟩ := hW; go_simp <;> with_reducible rfl)
                    try simp only [Act.put, List.setIfInBounds_toArray, List.set_cons_zero, List.set_cons_succ]
                    refine Held.takeN 37 (v := ?_) hC rfl (by kernel_rfl) (by kernel_rfl) (by kernel_rfl) rfl (fun _ _ _ h => h) rfl ?_ ?_; rotate_left; · (intro W hW; obtain ⟨_, _, k0, k1, k2⟩ := hW; go_simp <;> with_reducible rfl)
                    try simp only [Act.put, List.setIfInBounds_toArray, List.set_cons_zero, List.set_cons_succ]
                    refine Held.done (by kernel_rfl) ?_ _
                    go_wp2_with fail
                    go_meet
                    exact ⟨rfl, SD.out.tail⟩
                  have zd : (d == 0) = false := by simpa using q0
                  by_cases q1 : (i : Int) = t
                  · have zt : ((i : Int) != t) = false := by simpa using q1
                    obtain rfl : Bo = false := HNO2.out h3 q0 q1
                    clear h3 q0 q1 HNO2 HSAME HXX
                    refine Held.takeN 0 (v := ?_) hC rfl (by kernel_rfl) (by kernel_rfl) (by kernel_rfl) rfl (fun _ _ _ h => h) rfl ?_ ?_; rotate_left; · (intro W hW; obtain ⟨_, _, k0, k1, k2⟩ := hW; go_simp <;> with_reducible rfl)
                    try simp only [Act.put, List.setIfInBounds_toArray, List.set_cons_zero, List.set_cons_succ]
                    refine Held.takeN 1 (v := ?_) hC rfl (by kernel_rfl) (by kernel_rfl) (by kernel_rfl) rfl (fun _ _ _ h => h) rfl ?_ ?_; rotate_left; · (intro W hW; obtain ⟨_, _, k0, k1, k2⟩ := hW; go_simp <;> with_reducible rfl)
                    try simp only [Act.put, List.setIfInBounds_toArray, List.set_cons_zero, List.set_cons_succ]
                    refine Held.takeN 2 (v := ?_) hC rfl (by kernel_rfl) (by kernel_rfl) (by kernel_rfl) rfl (fun _ _ _ h => h) rfl ?_ ?_; rotate_left; · (intro W hW; obtain ⟨_, _, k0, k1, k2⟩ := hW; go_simp <;> with_reducible rfl)
                    try simp only [Act.put, List.setIfInBounds_toArray, List.set_cons_zero, List.set_cons_succ]
                    refine Held.takeN 3 (v := ?_) hC rfl (by kernel_rfl) (by kernel_rfl) (by kernel_rfl) rfl (fun _ _ _ h => h) rfl ?_ ?_; rotate_left; · (intro W hW; obtain ⟨_, _, k0, k1, k2⟩ := hW; go_simp <;> with_reducible rfl)
                    try simp only [Act.put, List.setIfInBounds_toArray, List.set_cons_zero, List.set_cons_succ]
                    refine Held.takeN 4 (v := ?_) hC rfl (by kernel_rfl) (by kernel_rfl) (by kernel_rfl) rfl (fun _ _ _ h => h) rfl ?_ ?_; rotate_left; · (intro W hW; obtain ⟨_, _, k0, k1, k2⟩ := hW; go_simp <;> with_reducible rfl)
                    try simp only [Act.put, List.setIfInBounds_toArray, List.set_cons_zero, List.set_cons_succ]
                    refine Held.takeN 5 (v := ?_) hC rfl (by kernel_rfl) (by kernel_rfl) (by kernel_rfl) rfl (fun _ _ _ h => h) rfl ?_ ?_; rotate_left; · (intro W hW; obtain ⟨_, _, k0, k1, k2⟩ := hW; go_simp <;> with_reducible rfl)
                    try simp only [Act.put, List.setIfInBounds_toArray, List.set_cons_zero, List.set_cons_succ]
                    refine Held.takeN 6 (v := ?_) hC rfl (by kernel_rfl) (by kernel_rfl) (by kernel_rfl) rfl (fun _ _ _ h => h) rfl ?_ ?_; rotate_left; · (intro W hW; obtain ⟨_, _, k0, k1, k2⟩ := hW; go_simp <;> with_reducible rfl)
                    try simp only [Act.put, List.setIfInBounds_toArray, List.set_cons_zero, List.set_cons_succ]
                    refine Held.takeN 7 (v := ?_) hC rfl (by kernel_rfl) (by kernel_rfl) (by kernel_rfl) rfl (fun _ _ _ h => h) rfl ?_ ?_; rotate_left; · (intro W hW; obtain ⟨_, _, k0, k1, k2⟩ := hW; go_simp <;> with_reducible rfl)
                    try simp only [Act.put, List.setIfInBounds_toArray, List.set_cons_zero, List.set_cons_succ]
                    refine Held.takeN 8 (v := ?_) hC rfl (by kernel_rfl) (by kernel_rfl) (by kernel_rfl) rfl (fun _ _ _ h => h) rfl ?_ ?_; rotate_left; · (intro W hW; obtain ⟨_, _, k0, k1, k2⟩ := hW; go_simp <;> with_reducible rfl)
                    try simp only [Act.put, List.setIfInBounds_toArray, List.set_cons_zero, List.set_cons_succ]
                    refine Held.takeN 9 (v := .agg Y) hC rfl (by kernel_rfl) (by kernel_rfl) (by kernel_rfl) rfl (fun _ _ _ h => h) rfl (fun W hW => exec_block 53 (.tmp 14) rfl rfl hW.1 Try.underlying53 rfl sW) ?_
                    try simp only [Act.put, List.setIfInBounds_toArray, List.set_cons_zero, List.set_cons_succ]
                    refine Held.takeN 10 (v := ?_) hC rfl (by kernel_rfl) (by kernel_rfl) (by kernel_rfl) rfl (fun _ _ _ h => h) rfl ?_ ?_; rotate_left; · (intro W hW; obtain ⟨_, _, k0, k1, k2⟩ := hW; go_simp <;> with_reducible rfl)
                    try simp only [Act.put, List.setIfInBounds_toArray, List.set_cons_zero, List.set_cons_succ]
                    refine Held.takeN 11 (v := ?_) hC rfl (by kernel_rfl) (by kernel_rfl) (by kernel_rfl) rfl (fun _ _ _ h => h) rfl ?_ ?_; rotate_left; · (intro W hW; obtain ⟨_, _, k0, k1, k2⟩ := hW; go_simp <;> with_reducible rfl)
                    try simp only [Act.put, List.setIfInBounds_toArray, List.set_cons_zero, List.set_cons_succ]
                    refine Held.takeN 12 (v := .agg Y) hC rfl (by kernel_rfl) (by kernel_rfl) (by kernel_rfl) rfl (fun _ _ _ h => h) rfl (fun W hW => exec_at 53 (.tmp 79) rfl rfl hW.2.1 Try.underlying53 rfl sW) ?_
                    try simp only [Act.put, List.setIfInBounds_toArray, List.set_cons_zero, List.set_cons_succ]
                    refine Held.takeN 13 (v := ?_) hC rfl (by kernel_rfl) (by kernel_rfl) (by kernel_rfl) rfl (fun _ _ _ h => h) rfl ?_ ?_; rotate_left; · (intro W hW; obtain ⟨_, _, k0, k1, k2⟩ := hW; go_simp <;> with_reducible rfl)
                    try simp only [Act.put, List.setIfInBounds_toArray, List.set_cons_zero, List.set_cons_succ]
                    refine Held.takeN 14 (v := ?_) hC rfl (by kernel_rfl) (by kernel_rfl) (by kernel_rfl) rfl (fun _ _ _ h => h) rfl ?_ ?_; rotate_left; · (intro W hW; obtain ⟨_, _, k0, k1, k2⟩ := hW; go_simp <;> with_reducible rfl)
                    try simp only [Act.put, List.setIfInBounds_toArray, List.set_cons_zero, List.set_cons_succ]
                    refine Held.takeN 15 (v := ?_) hC rfl (by kernel_rfl) (by kernel_rfl) (by kernel_rfl) rfl (fun _ _ _ h => h) rfl ?_ ?_; rotate_left; · (intro W hW; obtain ⟨_, _, k0, k1, k2⟩ := hW; go_simp <;> with_reducible rfl)
                    try simp only [Act.put, List.setIfInBounds_toArray, List.set_cons_zero, List.set_cons_succ]
                    refine Held.takeN 16 (v := ?_) hC rfl (by kernel_rfl) (by kernel_rfl) (by kernel_rfl) rfl (fun _ _ _ h => h) rfl ?_ ?_; rotate_left; · (intro W hW; obtain ⟨_, _, k0, k1, k2⟩ := hW; go_simp <;> with_reducible rfl)
                    try simp only [Act.put, List.setIfInBounds_toArray, List.set_cons_zero, List.set_cons_succ]
                    refine Held.takeN 17 (v := ?_) hC rfl (by kernel_rfl) (by kernel_rfl) (by kernel_rfl) rfl (fun _ _ _ h => h) rfl ?_ ?_; rotate_left; · (intro W hW; obtain ⟨_, _, k0, k1, k2⟩ := hW; go_simp <;> with_reducible rfl)
                    try simp only [Act.put, List.setIfInBounds_toArray, List.set_cons_zero, List.set_cons_succ]
                    refine Held.takeN 18 (v := ?_) hC rfl (by kernel_rfl) (by kernel_rfl) (by kernel_rfl) rfl (fun _ _ _ h => h) rfl ?_ ?_; rotate_left; · (intro W hW; obtain ⟨_, _, k0, k1, k2⟩ := hW; go_simp <;> with_reducible rfl)
                    try simp only [Act.put, List.setIfInBounds_toArray, List.set_cons_zero, List.set_cons_succ]
                    refine Held.takeN 19 (v := ?_) hC rfl (by kernel_rfl) (by kernel_rfl) (by kernel_rfl) rfl (fun _ _ _ h => h) rfl ?_ ?_; rotate_left; · (intro W hW; obtain ⟨_, _, k0, k1, k2⟩ := hW; go_simp <;> with_reducible rfl)
                    try simp only [Act.put, List.setIfInBounds_toArray, List.set_cons_zero, List.set_cons_succ]
                    refine Held.takeN 20 (v := ?_) hC rfl (by kernel_rfl) (by kernel_rfl) (by kernel_rfl) rfl (fun _ _ _ h => h) rfl ?_ ?_; rotate_left; · (intro W hW; obtain ⟨_, _, k0, k1, k2⟩ := hW; go_simp <;> with_reducible rfl)
                    try simp only [Act.put, List.setIfInBounds_toArray, List.set_cons_zero, List.set_cons_succ]
                    refine Held.takeN 21 (v := ?_) hC rfl (by kernel_rfl) (by kernel_rfl) (by kernel_rfl) rfl (fun _ _ _ h => h) rfl ?_ ?_; rotate_left; · (intro W hW; obtain ⟨_, _, k0, k1, k2⟩ := hW; go_simp <;> with_reducible rfl)
                    try simp only [Act.put, List.setIfInBounds_toArray, List.set_cons_zero, List.set_cons_succ]
                    refine Held.takeN 22 (v := ?_) hC rfl (by kernel_rfl) (by kernel_rfl) (by kernel_rfl) rfl (fun _ _ _ h => h) rfl ?_ ?_; rotate_left; · (intro W hW; obtain ⟨_, _, k0, k1, k2⟩ := hW; go_simp <;> with_reducible rfl)
                    try simp only [Act.put, List.setIfInBounds_toArray, List.set_cons_zero, List.set_cons_succ]
                    refine Held.takeN 23 (v := ?_) hC rfl (by kernel_rfl) (by kernel_rfl) (by kernel_rfl) rfl (fun _ _ _ h => h) rfl ?_ ?_; rotate_left; · (intro W hW; obtain ⟨_, _, k0, k1, k2⟩ := hW; go_simp <;> with_reducible rfl)
                    try simp only [Act.put, List.setIfInBounds_toArray, List.set_cons_zero, List.set_cons_succ]
                    refine Held.takeN 24 (v := ?_) hC rfl (by kernel_rfl) (by kernel_rfl) (by kernel_rfl) rfl (fun _ _ _ h => h) rfl ?_ ?_; rotate_left; · (intro W hW; obtain ⟨_, _, k0, k1, k2⟩ := hW; go_simp <;> with_reducible rfl)
                    try simp only [Act.put, List.setIfInBounds_toArray, List.set_cons_zero, List.set_cons_succ]
                    refine Held.takeN 25 (v := ?_) hC rfl (by kernel_rfl) (by kernel_rfl) (by kernel_rfl) rfl (fun _ _ _ h => h) rfl ?_ ?_; rotate_left; · (intro W hW; obtain ⟨_, _, k0, k1, k2⟩ := hW; go_simp <;> with_reducible rfl)
                    try simp only [Act.put, List.setIfInBounds_toArray, List.set_cons_zero, List.set_cons_succ]
                    refine Held.takeN 26 (v := ?_) hC rfl (by kernel_rfl) (by kernel_rfl) (by kernel_rfl) rfl (fun _ _ _ h => h) rfl ?_ ?_; rotate_left; · (intro W hW; obtain ⟨_, _, k0, k1, k2⟩ := hW; go_simp <;> with_reducible rfl)
                    try simp only [Act.put, List.setIfInBounds_toArray, List.set_cons_zero, List.set_cons_succ]
                    refine Held.takeN 27 (v := ?_) hC rfl (by kernel_rfl) (by kernel_rfl) (by kernel_rfl) rfl (fun _ _ _ h => h) rfl ?_ ?_; rotate_left; · (intro W hW; obtain ⟨_, _, k0, k1, k2⟩ := hW; go_simp <;> with_reducible rfl)
                    try simp only [Act.put, List.setIfInBounds_toArray, List.set_cons_zero, List.set_cons_succ]
                    refine Held.takeN 28 (v := ?_) hC rfl (by kernel_rfl) (by kernel_rfl) (by kernel_rfl) rfl (fun _ _ _ h => h) rfl ?_ ?_; rotate_left; · (intro W hW; obtain ⟨_, _, k0, k1, k2⟩ := hW; go_simp <;> with_reducible rfl)
                    try simp only [Act.put, List.setIfInBounds_toArray, List.set_cons_zero, List.set_cons_succ]
                    refine Held.takeN 29 (v := ?_) hC rfl (by kernel_rfl) (by kernel_rfl) (by kernel_rfl) rfl (fun _ _ _ h => h) rfl ?_ ?_; rotate_left; · (intro W hW; obtain ⟨_, _, k0, k1, k2⟩ := hW; go_simp <;> with_reducible rfl)
                    try simp only [Act.put, List.setIfInBounds_toArray, List.set_cons_zero, List.set_cons_succ]
                    refine Held.takeN 30 (v := ?_) hC rfl (by kernel_rfl) (by kernel_rfl) (by kernel_rfl) rfl (fun _ _ _ h => h) rfl ?_ ?_; rotate_left; · (intro W hW; obtain ⟨_, _, k0, k1, k2⟩ := hW; go_simp <;> with_reducible rfl)
                    try simp only [Act.put, List.setIfInBounds_toArray, List.set_cons_zero, List.set_cons_succ]
                    refine Held.takeN 31 (v := .agg Y) hC rfl (by kernel_rfl) (by kernel_rfl) (by kernel_rfl) rfl (fun _ _ _ h => h) rfl (fun W hW => exec_block 53 (.tmp 14) rfl rfl hW.1 Try.underlying53 rfl sW) ?_
                    try simp only [Act.put, List.setIfInBounds_toArray, List.set_cons_zero, List.set_cons_succ]
                    refine Held.takeN 32 (v := ?_) hC rfl (by kernel_rfl) (by kernel_rfl) (by kernel_rfl) rfl (fun _ _ _ h => h) rfl ?_ ?_; rotate_left; · (intro W hW; obtain ⟨_, _, k0, k1, k2⟩ := hW; go_simp <;> with_reducible rfl)
                    try simp only [Act.put, List.setIfInBounds_toArray, List.set_cons_zero, List.set_cons_succ]
                    refine Held.takeN 33 (v := ?_) hC rfl (by kernel_rfl) (by kernel_rfl) (by kernel_rfl) rfl (fun _ _ _ h => h) rfl ?_ ?_; rotate_left; · (intro W hW; obtain ⟨_, _, k0, k1, k2⟩ := hW; go_simp <;> with_reducible rfl)
                    try simp only [Act.put, List.setIfInBounds_toArray, List.set_cons_zero, List.set_cons_succ]
                    refine Held.takeN 34 (v := .agg Y) hC rfl (by kernel_rfl) (by kernel_rfl) (by kernel_rfl) rfl (fun _ _ _ h => h) rfl (fun W hW => exec_at 53 (.tmp 101) rfl rfl hW.2.1 Try.underlying53 rfl sW) ?_
                    try simp only [Act.put, List.setIfInBounds_toArray, List.set_cons_zero, List.set_cons_succ]
                    refine Held.takeN 35 (v := ?_) hC rfl (by kernel_rfl) (by kernel_rfl) (by kernel_rfl) rfl (fun _ _ _ h => h) rfl ?_ ?_; rotate_left; · (intro W hW; obtain ⟨_, _, k0, k1, k2⟩ := hW; go_simp <;> with_reducible rfl)
                    try simp only [Act.put, List.setIfInBounds_toArray, List.set_cons_zero, List.set_cons_succ]
                    refine Held.takeN 36 (v := ?_) hC rfl (by kernel_rfl) (by kernel_rfl) (by kernel_rfl) rfl (fun _ _ _ h => h) rfl ?_ ?_; rotate_left; · (intro W hW; obtain ⟨_, _, k0, k1, k2⟩ := hW; go_simp <;> with_reducible rfl)
                    try simp only [Act.put, List.setIfInBounds_toArray, List.set_cons_zero, List.set_cons_succ]
                    refine Held.takeN 37 (v := ?_) hC rfl (by kernel_rfl) (by kernel_rfl) (by kernel_rfl) rfl (fun _ _ _ h => h) rfl ?_ ?_; rotate_left; · (intro W hW; obtain ⟨_, _, k0, k1, k2⟩ := hW; go_simp <;> with_reducible rfl)
                    try simp only [Act.put, List.setIfInBounds_toArray, List.set_cons_zero, List.set_cons_succ]
                    refine Held.done (by kernel_rfl) ?_ _
                    go_wp2_with fail
                    go_meet
                    exact ⟨rfl, SD.out.tail⟩
                  · have zt : ((i : Int) != t) = true := by simpa using q1
                    clear h3 q0 q1 HNO2 HSAME HXX
                    refine Held.takeN 0 (v := ?_) hC rfl (by kernel_rfl) (by kernel_rfl) (by kernel_rfl) rfl (fun _ _ _ h => h) rfl ?_ ?_; rotate_left; · (intro W hW; obtain ⟨_, _, k0, k1, k2⟩ := hW; go_simp <;> with_reducible rfl)
                    try simp only [Act.put, List.setIfInBounds_toArray, List.set_cons_zero, List.set_cons_succ]
                    refine Held.takeN 1 (v := ?_) hC rfl (by kernel_rfl) (by kernel_rfl) (by kernel_rfl) rfl (fun _ _ _ h => h) rfl ?_ ?_; rotate_left; · (intro W hW; obtain ⟨_, _, k0, k1, k2⟩ := hW; go_simp <;> with_reducible rfl)
                    try simp only [Act.put, List.setIfInBounds_toArray, List.set_cons_zero, List.set_cons_succ]
                    refine Held.takeN 2 (v := ?_) hC rfl (by kernel_rfl) (by kernel_rfl) (by kernel_rfl) rfl (fun _ _ _ h => h) rfl ?_ ?_; rotate_left; · (intro W hW; obtain ⟨_, _, k0, k1, k2⟩ := hW; go_simp <;> with_reducible rfl)
                    try simp only [Act.put, List.setIfInBounds_toArray, List.set_cons_zero, List.set_cons_succ]
                    refine Held.takeN 3 (v := ?_) hC rfl (by kernel_rfl) (by kernel_rfl) (by kernel_rfl) rfl (fun _ _ _ h => h) rfl ?_ ?_; rotate_left; · (intro W hW; obtain ⟨_, _, k0, k1, k2⟩ := hW; go_simp <;> with_reducible rfl)
                    try simp only [Act.put, List.setIfInBounds_toArray, List.set_cons_zero, List.set_cons_succ]
                    refine Held.takeN 4 (v := ?_) hC rfl (by kernel_rfl) (by kernel_rfl) (by kernel_rfl) rfl (fun _ _ _ h => h) rfl ?_ ?_; rotate_left; · (intro W hW; obtain ⟨_, _, k0, k1, k2⟩ := hW; go_simp <;> with_reducible rfl)
                    try simp only [Act.put, List.setIfInBounds_toArray, List.set_cons_zero, List.set_cons_succ]
                    refine Held.takeN 5 (v := ?_) hC rfl (by kernel_rfl) (by kernel_rfl) (by kernel_rfl) rfl (fun _ _ _ h => h) rfl ?_ ?_; rotate_left; · (intro W hW; obtain ⟨_, _, k0, k1, k2⟩ := hW; go_simp <;> with_reducible rfl)
                    try simp only [Act.put, List.setIfInBounds_toArray, List.set_cons_zero, List.set_cons_succ]
                    refine Held.takeN 6 (v := ?_) hC rfl (by kernel_rfl) (by kernel_rfl) (by kernel_rfl) rfl (fun _ _ _ h => h) rfl ?_ ?_; rotate_left; · (intro W hW; obtain ⟨_, _, k0, k1, k2⟩ := hW; go_simp <;> with_reducible rfl)
                    try simp only [Act.put, List.setIfInBounds_toArray, List.set_cons_zero, List.set_cons_succ]
                    refine Held.takeN 7 (v := ?_) hC rfl (by kernel_rfl) (by kernel_rfl) (by kernel_rfl) rfl (fun _ _ _ h => h) rfl ?_ ?_; rotate_left; · (intro W hW; obtain ⟨_, _, k0, k1, k2⟩ := hW; go_simp <;> with_reducible rfl)
                    try simp only [Act.put, List.setIfInBounds_toArray, List.set_cons_zero, List.set_cons_succ]
                    refine Held.takeN 8 (v := ?_) hC rfl (by kernel_rfl) (by kernel_rfl) (by kernel_rfl) rfl (fun _ _ _ h => h) rfl ?_ ?_; rotate_left; · (intro W hW; obtain ⟨_, _, k0, k1, k2⟩ := hW; go_simp <;> with_reducible rfl)
                    try simp only [Act.put, List.setIfInBounds_toArray, List.set_cons_zero, List.set_cons_succ]
                    refine Held.takeN 9 (v := .agg Y) hC rfl (by kernel_rfl) (by kernel_rfl) (by kernel_rfl) rfl (fun _ _ _ h => h) rfl (fun W hW => exec_block 53 (.tmp 14) rfl rfl hW.1 Try.underlying53 rfl sW) ?_
                    try simp only [Act.put, List.setIfInBounds_toArray, List.set_cons_zero, List.set_cons_succ]
                    refine Held.takeN 10 (v := ?_) hC rfl (by kernel_rfl) (by kernel_rfl) (by kernel_rfl) rfl (fun _ _ _ h => h) rfl ?_ ?_; rotate_left; · (intro W hW; obtain ⟨_, _, k0, k1, k2⟩ := hW; go_simp <;> with_reducible rfl)
                    try simp only [Act.put, List.setIfInBounds_toArray, List.set_cons_zero, List.set_cons_succ]
                    refine Held.takeN 11 (v := ?_) hC rfl (by kernel_rfl) (by kernel_rfl) (by kernel_rfl) rfl (fun _ _ _ h => h) rfl ?_ ?_; rotate_left; · (intro W hW; obtain ⟨_, _, k0, k1, k2⟩ := hW; go_simp <;> with_reducible rfl)
                    try simp only [Act.put, List.setIfInBounds_toArray, List.set_cons_zero, List.set_cons_succ]
                    refine Held.takeN 12 (v := .agg Y) hC rfl (by kernel_rfl) (by kernel_rfl) (by kernel_rfl) rfl (fun _ _ _ h => h) rfl (fun W hW => exec_at 53 (.tmp 79) rfl rfl hW.2.1 Try.underlying53 rfl sW) ?_
                    try simp only [Act.put, List.setIfInBounds_toArray, List.set_cons_zero, List.set_cons_succ]
                    refine Held.takeN 13 (v := ?_) hC rfl (by kernel_rfl) (by kernel_rfl) (by kernel_rfl) rfl (fun _ _ _ h => h) rfl ?_ ?_; rotate_left; · (intro W hW; obtain ⟨_, _, k0, k1, k2⟩ := hW; go_simp <;> with_reducible rfl)
                    try simp only [Act.put, List.setIfInBounds_toArray, List.set_cons_zero, List.set_cons_succ]
                    refine Held.takeN 14 (v := ?_) hC rfl (by kernel_rfl) (by kernel_rfl) (by kernel_rfl) rfl (fun _ _ _ h => h) rfl ?_ ?_; rotate_left; · (intro W hW; obtain ⟨_, _, k0, k1, k2⟩ := hW; go_simp <;> with_reducible rfl)
                    try simp only [Act.put, List.setIfInBounds_toArray, List.set_cons_zero, List.set_cons_succ]
                    refine Held.takeN 15 (v := ?_) hC rfl (by kernel_rfl) (by kernel_rfl) (by kernel_rfl) rfl (fun _ _ _ h => h) rfl ?_ ?_; rotate_left; · (intro W hW; obtain ⟨_, _, k0, k1, k2⟩ := hW; go_simp <;> with_reducible rfl)
                    try simp only [Act.put, List.setIfInBounds_toArray, List.set_cons_zero, List.set_cons_succ]
                    refine Held.takeN 16 (v := ?_) hC rfl (by kernel_rfl) (by kernel_rfl) (by kernel_rfl) rfl (fun _ _ _ h => h) rfl ?_ ?_; rotate_left; · (intro W hW; obtain ⟨_, _, k0, k1, k2⟩ := hW; go_simp <;> with_reducible rfl)
                    try simp only [Act.put, List.setIfInBounds_toArray, List.set_cons_zero, List.set_cons_succ]
                    refine Held.takeN 17 (v := ?_) hC rfl (by kernel_rfl) (by kernel_rfl) (by kernel_rfl) rfl (fun _ _ _ h => h) rfl ?_ ?_; rotate_left; · (intro W hW; obtain ⟨_, _, k0, k1, k2⟩ := hW; go_simp <;> with_reducible rfl)
                    try simp only [Act.put, List.setIfInBounds_toArray, List.set_cons_zero, List.set_cons_succ]
                    refine Held.takeN 18 (v := ?_) hC rfl (by kernel_rfl) (by kernel_rfl) (by kernel_rfl) rfl (fun _ _ _ h => h) rfl ?_ ?_; rotate_left; · (intro W hW; obtain ⟨_, _, k0, k1, k2⟩ := hW; go_simp <;> with_reducible rfl)
                    try simp only [Act.put, List.setIfInBounds_toArray, List.set_cons_zero, List.set_cons_succ]
                    refine Held.takeN 19 (v := ?_) hC rfl (by kernel_rfl) (by kernel_rfl) (by kernel_rfl) rfl (fun _ _ _ h => h) rfl ?_ ?_; rotate_left; · (intro W hW; obtain ⟨_, _, k0, k1, k2⟩ := hW; go_simp <;> with_reducible rfl)
                    try simp only [Act.put, List.setIfInBounds_toArray, List.set_cons_zero, List.set_cons_succ]
                    refine Held.takeN 20 (v := ?_) hC rfl (by kernel_rfl) (by kernel_rfl) (by kernel_rfl) rfl (fun _ _ _ h => h) rfl ?_ ?_; rotate_left; · (intro W hW; obtain ⟨_, _, k0, k1, k2⟩ := hW; go_simp <;> with_reducible rfl)
                    try simp only [Act.put, List.setIfInBounds_toArray, List.set_cons_zero, List.set_cons_succ]
                    refine Held.takeN 21 (v := ?_) hC rfl (by kernel_rfl) (by kernel_rfl) (by kernel_rfl) rfl (fun _ _ _ h => h) rfl ?_ ?_; rotate_left; · (intro W hW; obtain ⟨_, _, k0, k1, k2⟩ := hW; go_simp <;> with_reducible rfl)
                    try simp only [Act.put, List.setIfInBounds_toArray, List.set_cons_zero, List.set_cons_succ]
                    refine Held.takeN 22 (v := ?_) hC rfl (by kernel_rfl) (by kernel_rfl) (by kernel_rfl) rfl (fun _ _ _ h => h) rfl ?_ ?_; rotate_left; · (intro W hW; obtain ⟨_, _, k0, k1, k2⟩ := hW; go_simp <;> with_reducible rfl)
                    try simp only [Act.put, List.setIfInBounds_toArray, List.set_cons_zero, List.set_cons_succ]
                    refine Held.takeN 23 (v := ?_) hC rfl (by kernel_rfl) (by kernel_rfl) (by kernel_rfl) rfl (fun _ _ _ h => h) rfl ?_ ?_; rotate_left; · (intro W hW; obtain ⟨_, _, k0, k1, k2⟩ := hW; go_simp <;> with_reducible rfl)
                    try simp only [Act.put, List.setIfInBounds_toArray, List.set_cons_zero, List.set_cons_succ]
                    refine Held.takeN 24 (v := ?_) hC rfl (by kernel_rfl) (by kernel_rfl) (by kernel_rfl) rfl (fun _ _ _ h => h) rfl ?_ ?_; rotate_left; · (intro W hW; obtain ⟨_, _, k0, k1, k2⟩ := hW; go_simp <;> with_reducible rfl)
                    try simp only [Act.put, List.setIfInBounds_toArray, List.set_cons_zero, List.set_cons_succ]
                    refine Held.takeN 25 (v := ?_) hC rfl (by kernel_rfl) (by kernel_rfl) (by kernel_rfl) rfl (fun _ _ _ h => h) rfl ?_ ?_; rotate_left; · (intro W hW; obtain ⟨_, _, k0, k1, k2⟩ := hW; go_simp <;> with_reducible rfl)
                    try simp only [Act.put, List.setIfInBounds_toArray, List.set_cons_zero, List.set_cons_succ]
                    refine Held.takeN 26 (v := ?_) hC rfl (by kernel_rfl) (by kernel_rfl) (by kernel_rfl) rfl (fun _ _ _ h => h) rfl ?_ ?_; rotate_left; · (intro W hW; obtain ⟨_, _, k0, k1, k2⟩ := hW; go_simp <;> with_reducible rfl)
                    try simp only [Act.put, List.setIfInBounds_toArray, List.set_cons_zero, List.set_cons_succ]
                    refine Held.skipN 27 hC rfl (by kernel_rfl) (by kernel_rfl) (by kernel_rfl) rfl (fun _ _ _ h => h) rfl ?_
                    try simp only [Act.put, List.setIfInBounds_toArray, List.set_cons_zero, List.set_cons_succ]
                    refine Held.skipN 28 hC rfl (by kernel_rfl) (by kernel_rfl) (by kernel_rfl) rfl (fun _ _ _ h => h) rfl ?_
                    try simp only [Act.put, List.setIfInBounds_toArray, List.set_cons_zero, List.set_cons_succ]
                    refine Held.takeN 29 (v := ?_) hC rfl (by kernel_rfl) (by kernel_rfl) (by kernel_rfl) rfl (fun _ _ _ h => h) rfl ?_ ?_; rotate_left; · (intro W hW; obtain ⟨_, _, k0, k1, k2⟩ := hW; go_simp <;> with_reducible rfl)
                    try simp only [Act.put, List.setIfInBounds_toArray, List.set_cons_zero, List.set_cons_succ]
                    refine Held.takeN 30 (v := ?_) hC rfl (by kernel_rfl) (by kernel_rfl) (by kernel_rfl) rfl (fun _ _ _ h => h) rfl ?_ ?_; rotate_left; · (intro W hW; obtain ⟨_, _, k0, k1, k2⟩ := hW; go_simp <;> with_reducible rfl)
                    try simp only [Act.put, List.setIfInBounds_toArray, List.set_cons_zero, List.set_cons_succ]
                    refine Held.takeN 31 (v := .agg Y) hC rfl (by kernel_rfl) (by kernel_rfl) (by kernel_rfl) rfl (fun _ _ _ h => h) rfl (fun W hW => exec_block 53 (.tmp 14) rfl rfl hW.1 Try.underlying53 rfl sW) ?_
                    try simp only [Act.put, List.setIfInBounds_toArray, List.set_cons_zero, List.set_cons_succ]
                    refine Held.takeN 32 (v := ?_) hC rfl (by kernel_rfl) (by kernel_rfl) (by kernel_rfl) rfl (fun _ _ _ h => h) rfl ?_ ?_; rotate_left; · (intro W hW; obtain ⟨_, _, k0, k1, k2⟩ := hW; go_simp <;> with_reducible rfl)
                    try simp only [Act.put, List.setIfInBounds_toArray, List.set_cons_zero, List.set_cons_succ]
                    refine Held.takeN 33 (v := ?_) hC rfl (by kernel_rfl) (by kernel_rfl) (by kernel_rfl) rfl (fun _ _ _ h => h) rfl ?_ ?_; rotate_left; · (intro W hW; obtain ⟨_, _, k0, k1, k2⟩ := hW; go_simp <;> with_reducible rfl)
                    try simp only [Act.put, List.setIfInBounds_toArray, List.set_cons_zero, List.set_cons_succ]
                    refine Held.takeN 34 (v := .agg Y) hC rfl (by kernel_rfl) (by kernel_rfl) (by kernel_rfl) rfl (fun _ _ _ h => h) rfl (fun W hW => exec_at 53 (.tmp 101) rfl rfl hW.2.1 Try.underlying53 rfl sW) ?_
                    try simp only [Act.put, List.setIfInBounds_toArray, List.set_cons_zero, List.set_cons_succ]
                    refine Held.takeN 35 (v := ?_) hC rfl (by kernel_rfl) (by kernel_rfl) (by kernel_rfl) rfl (fun _ _ _ h => h) rfl ?_ ?_; rotate_left; · (intro W hW; obtain ⟨_, _, k0, k1, k2⟩ := hW; go_simp <;> with_reducible rfl)
                    try simp only [Act.put, List.setIfInBounds_toArray, List.set_cons_zero, List.set_cons_succ]
                    refine Held.takeN 36 (v := ?_) hC rfl (by kernel_rfl) (by kernel_rfl) (by kernel_rfl) rfl (fun _ _ _ h => h) rfl ?_ ?_; rotate_left; · (intro W hW; obtain ⟨_, _, k0, k1, k2⟩ := hW; go_simp <;> with_reducible rfl)
                    try simp only [Act.put, List.setIfInBounds_toArray, List.set_cons_zero, List.set_cons_succ]
                    refine Held.takeN 37 (v := ?_) hC rfl (by kernel_rfl) (by kernel_rfl) (by kernel_rfl) rfl (fun _ _ _ h => h) rfl ?_ ?_; rotate_left; · (intro W hW; obtain ⟨_, _, k0, k1, k2⟩ := hW; go_simp <;> with_reducible rfl)
                    try simp only [Act.put, List.setIfInBounds_toArray, List.set_cons_zero, List.set_cons_succ]
                    refine Held.done (by kernel_rfl) ?_ _
                    go_wp2_with fail
                    go_meet
                    exact ⟨rfl, SD.out.tail⟩
                · have z3 : (st == 3) = false := by simpa using h3
                  by_cases q0 : d = 0
                  · have zd : (d == 0) = true := by simpa using q0
                    obtain rfl : Y = X := HXX.out (HSAME.out (.inl q0))
                    clear h3 q0 HNO2 HSAME HXX
                    refine Held.takeN 0 (v := ?_) hC rfl (by kernel_rfl) (by kernel_rfl) (by kernel_rfl) rfl (fun _ _ _ h => h) rfl ?_ ?_; rotate_left; · (intro W hW; obtain ⟨_, _, k0, k1, k2⟩ := hW; go_simp <;> with_reducible rfl)
                    try simp only [Act.put, List.setIfInBounds_toArray, List.set_cons_zero, List.set_cons_succ]
                    refine Held.takeN 1 (v := ?_) hC rfl (by kernel_rfl) (by kernel_rfl) (by kernel_rfl) rfl (fun _ _ _ h => h) rfl ?_ ?_; rotate_left; · (intro W hW; obtain ⟨_, _, k0, k1, k2⟩ := hW; go_simp <;> with_reducible rfl)
                    try simp only [Act.put, List.setIfInBounds_toArray, List.set_cons_zero, List.set_cons_succ]
                    refine Held.takeN 2 (v := ?_) hC rfl (by kernel_rfl) (by kernel_rfl) (by kernel_rfl) rfl (fun _ _ _ h => h) rfl ?_ ?_; rotate_left; · (intro W hW; obtain ⟨_, _, k0, k1, k2⟩ := hW; go_simp <;> with_reducible rfl)
                    try simp only [Act.put, List.setIfInBounds_toArray, List.set_cons_zero, List.set_cons_succ]
                    refine Held.takeN 3 (v := ?_) hC rfl (by kernel_rfl) (by kernel_rfl) (by kernel_rfl) rfl (fun _ _ _ h => h) rfl ?_ ?_; rotate_left; · (intro W hW; obtain ⟨_, _, k0, k1, k2⟩ := hW; go_simp <;> with_reducible rfl)
                    try simp only [Act.put, List.setIfInBounds_toArray, List.set_cons_zero, List.set_cons_succ]
                    refine Held.takeN 4 (v := ?_) hC rfl (by kernel_rfl) (by kernel_rfl) (by kernel_rfl) rfl (fun _ _ _ h => h) rfl ?_ ?_; rotate_left; · (intro W hW; obtain ⟨_, _, k0, k1, k2⟩ := hW; go_simp <;> with_reducible rfl)
                    try simp only [Act.put, List.setIfInBounds_toArray, List.set_cons_zero, List.set_cons_succ]
                    refine Held.takeN 5 (v := ?_) hC rfl (by kernel_rfl) (by kernel_rfl) (by kernel_rfl) rfl (fun _ _ _ h => h) rfl ?_ ?_; rotate_left; · (intro W hW; obtain ⟨_, _, k0, k1, k2⟩ := hW; go_simp <;> with_reducible rfl)
                    try simp only [Act.put, List.setIfInBounds_toArray, List.set_cons_zero, List.set_cons_succ]
                    refine Held.takeN 6 (v := ?_) hC rfl (by kernel_rfl) (by kernel_rfl) (by kernel_rfl) rfl (fun _ _ _ h => h) rfl ?_ ?_; rotate_left; · (intro W hW; obtain ⟨_, _, k0, k1, k2⟩ := hW; go_simp <;> with_reducible rfl)
                    try simp only [Act.put, List.setIfInBounds_toArray, List.set_cons_zero, List.set_cons_succ]
                    refine Held.takeN 7 (v := ?_) hC rfl (by kernel_rfl) (by kernel_rfl) (by kernel_rfl) rfl (fun _ _ _ h => h) rfl ?_ ?_; rotate_left; · (intro W hW; obtain ⟨_, _, k0, k1, k2⟩ := hW; go_simp <;> with_reducible rfl)
                    try simp only [Act.put, List.setIfInBounds_toArray, List.set_cons_zero, List.set_cons_succ]
                    refine Held.takeN 8 (v := ?_) hC rfl (by kernel_rfl) (by kernel_rfl) (by kernel_rfl) rfl (fun _ _ _ h => h) rfl ?_ ?_; rotate_left; · (intro W hW; obtain ⟨_, _, k0, k1, k2⟩ := hW; go_simp <;> with_reducible rfl)
                    try simp only [Act.put, List.setIfInBounds_toArray, List.set_cons_zero, List.set_cons_succ]
                    refine Held.skipN 9 hC rfl (by kernel_rfl) (by kernel_rfl) (by kernel_rfl) rfl (fun _ _ _ h => h) rfl ?_
                    try simp only [Act.put, List.setIfInBounds_toArray, List.set_cons_zero, List.set_cons_succ]
                    refine Held.skipN 10 hC rfl (by kernel_rfl) (by kernel_rfl) (by kernel_rfl) rfl (fun _ _ _ h => h) rfl ?_
                    try simp only [Act.put, List.setIfInBounds_toArray, List.set_cons_zero, List.set_cons_succ]
                    refine Held.skipN 11 hC rfl (by kernel_rfl) (by kernel_rfl) (by kernel_rfl) rfl (fun _ _ _ h => h) rfl ?_
                    try simp only [Act.put, List.setIfInBounds_toArray, List.set_cons_zero, List.set_cons_succ]
                    refine Held.skipN 12 hC rfl (by kernel_rfl) (by kernel_rfl) (by kernel_rfl) rfl (fun _ _ _ h => h) rfl ?_
                    try simp only [Act.put, List.setIfInBounds_toArray, List.set_cons_zero, List.set_cons_succ]
                    refine Held.skipN 13 hC rfl (by kernel_rfl) (by kernel_rfl) (by kernel_rfl) rfl (fun _ _ _ h => h) rfl ?_
                    try simp only [Act.put, List.setIfInBounds_toArray, List.set_cons_zero, List.set_cons_succ]
                    refine Held.takeN 14 (v := ?_) hC rfl (by kernel_rfl) (by kernel_rfl) (by kernel_rfl) rfl (fun _ _ _ h => h) rfl ?_ ?_; rotate_left; · (intro W hW; obtain ⟨_, _, k0, k1, k2⟩ := hW; go_simp <;> with_reducible rfl)
                    try simp only [Act.put, List.setIfInBounds_toArray, List.set_cons_zero, List.set_cons_succ]
                    refine Held.takeN 15 (v := ?_) hC rfl (by kernel_rfl) (by kernel_rfl) (by kernel_rfl) rfl (fun _ _ _ h => h) rfl ?_ ?_; rotate_left; · (intro W hW; obtain ⟨_, _, k0, k1, k2⟩ := hW; go_simp <;> with_reducible rfl)
                    try simp only [Act.put, List.setIfInBounds_toArray, List.set_cons_zero, List.set_cons_succ]
                    refine Held.takeN 16 (v := ?_) hC rfl (by kernel_rfl) (by kernel_rfl) (by kernel_rfl) rfl (fun _ _ _ h => h) rfl ?_ ?_; rotate_left; · (intro W hW; obtain ⟨_, _, k0, k1, k2⟩ := hW; go_simp <;> with_reducible rfl)
                    try simp only [Act.put, List.setIfInBounds_toArray, List.set_cons_zero, List.set_cons_succ]
                    refine Held.takeN 17 (v := ?_) hC rfl (by kernel_rfl) (by kernel_rfl) (by kernel_rfl) rfl (fun _ _ _ h => h) rfl ?_ ?_; rotate_left; · (intro W hW; obtain ⟨_, _, k0, k1, k2⟩ := hW; go_simp <;> with_reducible rfl)
                    try simp only [Act.put, List.setIfInBounds_toArray, List.set_cons_zero, List.set_cons_succ]
                    refine Held.takeN 18 (v := ?_) hC rfl (by kernel_rfl) (by kernel_rfl) (by kernel_rfl) rfl (fun _ _ _ h => h) rfl ?_ ?_; rotate_left; · (intro W hW; obtain ⟨_, _, k0, k1, k2⟩ := hW; go_simp <;> with_reducible rfl)
                    try simp only [Act.put, List.setIfInBounds_toArray, List.set_cons_zero, List.set_cons_succ]
                    refine Held.takeN 19 (v := ?_) hC rfl (by kernel_rfl) (by kernel_rfl) (by kernel_rfl) rfl (fun _ _ _ h => h) rfl ?_ ?_; rotate_left; · (intro W hW; obtain ⟨_, _, k0, k1, k2⟩ := hW; go_simp <;> with_reducible rfl)
                    try simp only [Act.put, List.setIfInBounds_toArray, List.set_cons_zero, List.set_cons_succ]
                    refine Held.takeN 20 (v := ?_) hC rfl (by kernel_rfl) (by kernel_rfl) (by kernel_rfl) rfl (fun _ _ _ h => h) rfl ?_ ?_; rotate_left; · (intro W hW; obtain ⟨_, _, k0, k1, k2⟩ := hW; go_simp <;> with_reducible rfl)
                    try simp only [Act.put, List.setIfInBounds_toArray, List.set_cons_zero, List.set_cons_succ]
                    refine Held.skipN 21 hC rfl (by kernel_rfl) (by kernel_rfl) (by kernel_rfl) rfl (fun _ _ _ h => h) rfl ?_
                    try simp only [Act.put, List.setIfInBounds_toArray, List.set_cons_zero, List.set_cons_succ]
                    refine Held.skipN 22 hC rfl (by kernel_rfl) (by kernel_rfl) (by kernel_rfl) rfl (fun _ _ _ h => h) rfl ?_
                    try simp only [Act.put, List.setIfInBounds_toArray, List.set_cons_zero, List.set_cons_succ]
                    refine Held.skipN 23 hC rfl (by kernel_rfl) (by kernel_rfl) (by kernel_rfl) rfl (fun _ _ _ h => h) rfl ?_
                    try simp only [Act.put, List.setIfInBounds_toArray, List.set_cons_zero, List.set_cons_succ]
                    refine Held.skipN 24 hC rfl (by kernel_rfl) (by kernel_rfl) (by kernel_rfl) rfl (fun _ _ _ h => h) rfl ?_
                    try simp only [Act.put, List.setIfInBounds_toArray, List.set_cons_zero, List.set_cons_succ]
                    refine Held.takeN 25 (v := ?_) hC rfl (by kernel_rfl) (by kernel_rfl) (by kernel_rfl) rfl (fun _ _ _ h => h) rfl ?_ ?_; rotate_left; · (intro W hW; obtain ⟨_, _, k0, k1, k2⟩ := hW; go_simp <;> with_reducible rfl)
                    try simp only [Act.put, List.setIfInBounds_toArray, List.set_cons_zero, List.set_cons_succ]
                    refine Held.takeN 26 (v := ?_) hC rfl (by kernel_rfl) (by kernel_rfl) (by kernel_rfl) rfl (fun _ _ _ h => h) rfl ?_ ?_; rotate_left; · (intro W hW; obtain ⟨_, _, k0, k1, k2⟩ := hW; go_simp <;> with_reducible rfl)
                    try simp only [Act.put, List.setIfInBounds_toArray, List.set_cons_zero, List.set_cons_succ]
                    refine Held.skipN 27 hC rfl (by kernel_rfl) (by kernel_rfl) (by kernel_rfl) rfl (fun _ _ _ h => h) rfl ?_
                    try simp only [Act.put, List.setIfInBounds_toArray, List.set_cons_zero, List.set_cons_succ]
                    refine Held.skipN 28 hC rfl (by kernel_rfl) (by kernel_rfl) (by kernel_rfl) rfl (fun _ _ _ h => h) rfl ?_
                    try simp only [Act.put, List.setIfInBounds_toArray, List.set_cons_zero, List.set_cons_succ]
                    refine Held.takeN 29 (v := ?_) hC rfl (by kernel_rfl) (by kernel_rfl) (by kernel_rfl) rfl (fun _ _ _ h => h) rfl ?_ ?_; rotate_left; · (intro W hW; obtain ⟨_, _, k0, k1, k2⟩ := hW; go_simp <;> with_reducible rfl)
                    try simp only [Act.put, List.setIfInBounds_toArray, List.set_cons_zero, List.set_cons_succ]
                    refine Held.takeN 30 (v := ?_) hC rfl (by kernel_rfl) (by kernel_rfl) (by kernel_rfl) rfl (fun _ _ _ h => h) rfl ?_ ?_; rotate_left; · (intro W hW; obtain ⟨_, _, k0, k1, k2⟩ := hW; go_simp <;> with_reducible rfl)
                    try simp only [Act.put, List.setIfInBounds_toArray, List.set_cons_zero, List.set_cons_succ]
                    refine Held.takeN 31 (v := .agg Y) hC rfl (by kernel_rfl) (by kernel_rfl) (by kernel_rfl) rfl (fun _ _ _ h => h) rfl (fun W hW => exec_block 53 (.tmp 14) rfl rfl hW.1 Try.underlying53 rfl sW) ?_
                    try simp only [Act.put, List.setIfInBounds_toArray, List.set_cons_zero, List.set_cons_succ]
                    refine Held.takeN 32 (v := ?_) hC rfl (by kernel_rfl) (by kernel_rfl) (by kernel_rfl) rfl (fun _ _ _ h => h) rfl ?_ ?_; rotate_left; · (intro W hW; obtain ⟨_, _, k0, k1, k2⟩ := hW; go_simp <;> with_reducible rfl)
                    try simp only [Act.put, List.setIfInBounds_toArray, List.set_cons_zero, List.set_cons_succ]
                    refine Held.takeN 33 (v := ?_) hC rfl (by kernel_rfl) (by kernel_rfl) (by kernel_rfl) rfl (fun _ _ _ h => h) rfl ?_ ?_; rotate_left; · (intro W hW; obtain ⟨_, _, k0, k1, k2⟩ := hW; go_simp <;> with_reducible rfl)
                    try simp only [Act.put, List.setIfInBounds_toArray, List.set_cons_zero, List.set_cons_succ]
                    refine Held.takeN 34 (v := .agg Y) hC rfl (by kernel_rfl) (by kernel_rfl) (by kernel_rfl) rfl (fun _ _ _ h => h) rfl (fun W hW => exec_at 53 (.tmp 101) rfl rfl hW.2.1 Try.underlying53 rfl sW) ?_
                    try simp only [Act.put, List.setIfInBounds_toArray, List.set_cons_zero, List.set_cons_succ]
                    refine Held.takeN 35 (v := ?_) hC rfl (by kernel_rfl) (by kernel_rfl) (by kernel_rfl) rfl (fun _ _ _ h => h) rfl ?_ ?_; rotate_left; · (intro W hW; obtain ⟨_, _, k0, k1, k2⟩ := hW; go_simp <;> with_reducible rfl)
                    try simp only [Act.put, List.setIfInBounds_toArray, List.set_cons_zero, List.set_cons_succ]
                    refine Held.takeN 36 (v := ?_) hC rfl (by kernel_rfl) (by kernel_rfl) (by kernel_rfl) rfl (fun _ _ _ h => h) rfl ?_ ?_; rotate_left; · (intro W hW; obtain ⟨_, _, k0, k1, k2⟩ := hW; go_simp <;> with_reducible rfl)
                    try simp only [Act.put, List.setIfInBounds_toArray, List.set_cons_zero, List.set_cons_succ]
                    refine Held.takeN 37 (v := ?_) hC rfl (by kernel_rfl) (by kernel_rfl) (by kernel_rfl) rfl (fun _ _ _ h => h) rfl ?_ ?_; rotate_left; · (intro W hW; obtain ⟨_, _, k0, k1, k2⟩ := hW; go_simp <;> with_reducible rfl)
                    try simp only [Act.put, List.setIfInBounds_toArray, List.set_cons_zero, List.set_cons_succ]
                    refine Held.done (by kernel_rfl) ?_ _
                    go_wp2_with fail
                    go_meet
                    exact ⟨rfl, SD.out.tail⟩
                  have zd : (d == 0) = false := by simpa using q0
                  by_cases q1 : (i : Int) = t
                  · have zt : ((i : Int) != t) = false := by simpa using q1
                    cases Bo with
                    | false =>
                      obtain rfl : Y = X := HXX.out (HSAME.out (.inr (.inr rfl)))
                      clear h3 q0 q1 HNO2 HSAME HXX
                      refine Held.takeN 0 (v := ?_) hC rfl (by kernel_rfl) (by kernel_rfl) (by kernel_rfl) rfl (fun _ _ _ h => h) rfl ?_ ?_; rotate_left; · (intro W hW; obtain ⟨_, _, k0, k1, k2⟩ := hW; go_simp <;> with_reducible rfl)
                      try simp only [Act.put, List.setIfInBounds_toArray, List.set_cons_zero, List.set_cons_succ]
                      refine Held.takeN 1 (v := ?_) hC rfl (by kernel_rfl) (by kernel_rfl) (by kernel_rfl) rfl (fun _ _ _ h => h) rfl ?_ ?_; rotate_left; · (intro W hW; obtain ⟨_, _, k0, k1, k2⟩ := hW; go_simp <;> with_reducible rfl)
                      try simp only [Act.put, List.setIfInBounds_toArray, List.set_cons_zero, List.set_cons_succ]
                      refine Held.takeN 2 (v := ?_) hC rfl (by kernel_rfl) (by kernel_rfl) (by kernel_rfl) rfl (fun _ _ _ h => h) rfl ?_ ?_; rotate_left; · (intro W hW; obtain ⟨_, _, k0, k1, k2⟩ := hW; go_simp <;> with_reducible rfl)
                      try simp only [Act.put, List.setIfInBounds_toArray, List.set_cons_zero, List.set_cons_succ]
                      refine Held.takeN 3 (v := ?_) hC rfl (by kernel_rfl) (by kernel_rfl) (by kernel_rfl) rfl (fun _ _ _ h => h) rfl ?_ ?_; rotate_left; · (intro W hW; obtain ⟨_, _, k0, k1, k2⟩ := hW; go_simp <;> with_reducible rfl)
                      try simp only [Act.put, List.setIfInBounds_toArray, List.set_cons_zero, List.set_cons_succ]
                      refine Held.takeN 4 (v := ?_) hC rfl (by kernel_rfl) (by kernel_rfl) (by kernel_rfl) rfl (fun _ _ _ h => h) rfl ?_ ?_; rotate_left; · (intro W hW; obtain ⟨_, _, k0, k1, k2⟩ := hW; go_simp <;> with_reducible rfl)
                      try simp only [Act.put, List.setIfInBounds_toArray, List.set_cons_zero, List.set_cons_succ]
                      refine Held.takeN 5 (v := ?_) hC rfl (by kernel_rfl) (by kernel_rfl) (by kernel_rfl) rfl (fun _ _ _ h => h) rfl ?_ ?_; rotate_left; · (intro W hW; obtain ⟨_, _, k0, k1, k2⟩ := hW; go_simp <;> with_reducible rfl)
                      try simp only [Act.put, List.setIfInBounds_toArray, List.set_cons_zero, List.set_cons_succ]
                      refine Held.takeN 6 (v := ?_) hC rfl (by kernel_rfl) (by kernel_rfl) (by kernel_rfl) rfl (fun _ _ _ h => h) rfl ?_ ?_; rotate_left; · (intro W hW; obtain ⟨_, _, k0, k1, k2⟩ := hW; go_simp <;> with_reducible rfl)
                      try simp only [Act.put, List.setIfInBounds_toArray, List.set_cons_zero, List.set_cons_succ]
                      refine Held.takeN 7 (v := ?_) hC rfl (by kernel_rfl) (by kernel_rfl) (by kernel_rfl) rfl (fun _ _ _ h => h) rfl ?_ ?_; rotate_left; · (intro W hW; obtain ⟨_, _, k0, k1, k2⟩ := hW; go_simp <;> with_reducible rfl)
                      try simp only [Act.put, List.setIfInBounds_toArray, List.set_cons_zero, List.set_cons_succ]
                      refine Held.takeN 8 (v := ?_) hC rfl (by kernel_rfl) (by kernel_rfl) (by kernel_rfl) rfl (fun _ _ _ h => h) rfl ?_ ?_; rotate_left; · (intro W hW; obtain ⟨_, _, k0, k1, k2⟩ := hW; go_simp <;> with_reducible rfl)
                      try simp only [Act.put, List.setIfInBounds_toArray, List.set_cons_zero, List.set_cons_succ]
                      refine Held.skipN 9 hC rfl (by kernel_rfl) (by kernel_rfl) (by kernel_rfl) rfl (fun _ _ _ h => h) rfl ?_
                      try simp only [Act.put, List.setIfInBounds_toArray, List.set_cons_zero, List.set_cons_succ]
                      refine Held.skipN 10 hC rfl (by kernel_rfl) (by kernel_rfl) (by kernel_rfl) rfl (fun _ _ _ h => h) rfl ?_
                      try simp only [Act.put, List.setIfInBounds_toArray, List.set_cons_zero, List.set_cons_succ]
                      refine Held.skipN 11 hC rfl (by kernel_rfl) (by kernel_rfl) (by kernel_rfl) rfl (fun _ _ _ h => h) rfl ?_
                      try simp only [Act.put, List.setIfInBounds_toArray, List.set_cons_zero, List.set_cons_succ]
                      refine Held.skipN 12 hC rfl (by kernel_rfl) (by kernel_rfl) (by kernel_rfl) rfl (fun _ _ _ h => h) rfl ?_
                      try simp only [Act.put, List.setIfInBounds_toArray, List.set_cons_zero, List.set_cons_succ]
                      refine Held.skipN 13 hC rfl (by kernel_rfl) (by kernel_rfl) (by kernel_rfl) rfl (fun _ _ _ h => h) rfl ?_
                      try simp only [Act.put, List.setIfInBounds_toArray, List.set_cons_zero, List.set_cons_succ]
                      refine Held.takeN 14 (v := ?_) hC rfl (by kernel_rfl) (by kernel_rfl) (by kernel_rfl) rfl (fun _ _ _ h => h) rfl ?_ ?_; rotate_left; · (intro W hW; obtain ⟨_, _, k0, k1, k2⟩ := hW; go_simp <;> with_reducible rfl)
                      try simp only [Act.put, List.setIfInBounds_toArray, List.set_cons_zero, List.set_cons_succ]
                      refine Held.takeN 15 (v := ?_) hC rfl (by kernel_rfl) (by kernel_rfl) (by kernel_rfl) rfl (fun _ _ _ h => h) rfl ?_ ?_; rotate_left; · (intro W hW; obtain ⟨_, _, k0, k1, k2⟩ := hW; go_simp <;> with_reducible rfl)
                      try simp only [Act.put, List.setIfInBounds_toArray, List.set_cons_zero, List.set_cons_succ]
                      refine Held.takeN 16 (v := ?_) hC rfl (by kernel_rfl) (by kernel_rfl) (by kernel_rfl) rfl (fun _ _ _ h => h) rfl ?_ ?_; rotate_left; · (intro W hW; obtain ⟨_, _, k0, k1, k2⟩ := hW; go_simp <;> with_reducible rfl)
                      try simp only [Act.put, List.setIfInBounds_toArray, List.set_cons_zero, List.set_cons_succ]
                      refine Held.takeN 17 (v := ?_) hC rfl (by kernel_rfl) (by kernel_rfl) (by kernel_rfl) rfl (fun _ _ _ h => h) rfl ?_ ?_; rotate_left; · (intro W hW; obtain ⟨_, _, k0, k1, k2⟩ := hW; go_simp <;> with_reducible rfl)
                      try simp only [Act.put, List.setIfInBounds_toArray, List.set_cons_zero, List.set_cons_succ]
                      refine Held.takeN 18 (v := ?_) hC rfl (by kernel_rfl) (by kernel_rfl) (by kernel_rfl) rfl (fun _ _ _ h => h) rfl ?_ ?_; rotate_left; · (intro W hW; obtain ⟨_, _, k0, k1, k2⟩ := hW; go_simp <;> with_reducible rfl)
                      try simp only [Act.put, List.setIfInBounds_toArray, List.set_cons_zero, List.set_cons_succ]
                      refine Held.takeN 19 (v := ?_) hC rfl (by kernel_rfl) (by kernel_rfl) (by kernel_rfl) rfl (fun _ _ _ h => h) rfl ?_ ?_; rotate_left; · (intro W hW; obtain ⟨_, _, k0, k1, k2⟩ := hW; go_simp <;> with_reducible rfl)
                      try simp only [Act.put, List.setIfInBounds_toArray, List.set_cons_zero, List.set_cons_succ]
                      refine Held.takeN 20 (v := ?_) hC rfl (by kernel_rfl) (by kernel_rfl) (by kernel_rfl) rfl (fun _ _ _ h => h) rfl ?_ ?_; rotate_left; · (intro W hW; obtain ⟨_, _, k0, k1, k2⟩ := hW; go_simp <;> with_reducible rfl)
                      try simp only [Act.put, List.setIfInBounds_toArray, List.set_cons_zero, List.set_cons_succ]
                      refine Held.takeN 21 (v := ?_) hC rfl (by kernel_rfl) (by kernel_rfl) (by kernel_rfl) rfl (fun _ _ _ h => h) rfl ?_ ?_; rotate_left; · (intro W hW; obtain ⟨_, _, k0, k1, k2⟩ := hW; go_simp <;> with_reducible rfl)
                      try simp only [Act.put, List.setIfInBounds_toArray, List.set_cons_zero, List.set_cons_succ]
                      refine Held.takeN 22 (v := ?_) hC rfl (by kernel_rfl) (by kernel_rfl) (by kernel_rfl) rfl (fun _ _ _ h => h) rfl ?_ ?_; rotate_left; · (intro W hW; obtain ⟨_, _, k0, k1, k2⟩ := hW; go_simp <;> with_reducible rfl)
                      try simp only [Act.put, List.setIfInBounds_toArray, List.set_cons_zero, List.set_cons_succ]
                      refine Held.takeN 23 (v := ?_) hC rfl (by kernel_rfl) (by kernel_rfl) (by kernel_rfl) rfl (fun _ _ _ h => h) rfl ?_ ?_; rotate_left; · (intro W hW; obtain ⟨_, _, k0, k1, k2⟩ := hW; go_simp <;> with_reducible rfl)
                      try simp only [Act.put, List.setIfInBounds_toArray, List.set_cons_zero, List.set_cons_succ]
                      refine Held.takeN 24 (v := ?_) hC rfl (by kernel_rfl) (by kernel_rfl) (by kernel_rfl) rfl (fun _ _ _ h => h) rfl ?_ ?_; rotate_left; · (intro W hW; obtain ⟨_, _, k0, k1, k2⟩ := hW; go_simp <;> with_reducible rfl)
                      try simp only [Act.put, List.setIfInBounds_toArray, List.set_cons_zero, List.set_cons_succ]
                      refine Held.takeN 25 (v := ?_) hC rfl (by kernel_rfl) (by kernel_rfl) (by kernel_rfl) rfl (fun _ _ _ h => h) rfl ?_ ?_; rotate_left; · (intro W hW; obtain ⟨_, _, k0, k1, k2⟩ := hW; go_simp <;> with_reducible rfl)
                      try simp only [Act.put, List.setIfInBounds_toArray, List.set_cons_zero, List.set_cons_succ]
                      refine Held.takeN 26 (v := ?_) hC rfl (by kernel_rfl) (by kernel_rfl) (by kernel_rfl) rfl (fun _ _ _ h => h) rfl ?_ ?_; rotate_left; · (intro W hW; obtain ⟨_, _, k0, k1, k2⟩ := hW; go_simp <;> with_reducible rfl)
                      try simp only [Act.put, List.setIfInBounds_toArray, List.set_cons_zero, List.set_cons_succ]
                      refine Held.takeN 27 (v := ?_) hC rfl (by kernel_rfl) (by kernel_rfl) (by kernel_rfl) rfl (fun _ _ _ h => h) rfl ?_ ?_; rotate_left; · (intro W hW; obtain ⟨_, _, k0, k1, k2⟩ := hW; go_simp <;> with_reducible rfl)
                      try simp only [Act.put, List.setIfInBounds_toArray, List.set_cons_zero, List.set_cons_succ]
                      refine Held.takeN 28 (v := ?_) hC rfl (by kernel_rfl) (by kernel_rfl) (by kernel_rfl) rfl (fun _ _ _ h => h) rfl ?_ ?_; rotate_left; · (intro W hW; obtain ⟨_, _, k0, k1, k2⟩ := hW; go_simp <;> with_reducible rfl)
                      try simp only [Act.put, List.setIfInBounds_toArray, List.set_cons_zero, List.set_cons_succ]
                      refine Held.takeN 29 (v := ?_) hC rfl (by kernel_rfl) (by kernel_rfl) (by kernel_rfl) rfl (fun _ _ _ h => h) rfl ?_ ?_; rotate_left; · (intro W hW; obtain ⟨_, _, k0, k1, k2⟩ := hW; go_simp <;> with_reducible rfl)
                      try simp only [Act.put, List.setIfInBounds_toArray, List.set_cons_zero, List.set_cons_succ]
                      refine Held.takeN 30 (v := ?_) hC rfl (by kernel_rfl) (by kernel_rfl) (by kernel_rfl) rfl (fun _ _ _ h => h) rfl ?_ ?_; rotate_left; · (intro W hW; obtain ⟨_, _, k0, k1, k2⟩ := hW; go_simp <;> with_reducible rfl)
                      try simp only [Act.put, List.setIfInBounds_toArray, List.set_cons_zero, List.set_cons_succ]
                      refine Held.takeN 31 (v := .agg Y) hC rfl (by kernel_rfl) (by kernel_rfl) (by kernel_rfl) rfl (fun _ _ _ h => h) rfl (fun W hW => exec_block 53 (.tmp 14) rfl rfl hW.1 Try.underlying53 rfl sW) ?_
                      try simp only [Act.put, List.setIfInBounds_toArray, List.set_cons_zero, List.set_cons_succ]
                      refine Held.takeN 32 (v := ?_) hC rfl (by kernel_rfl) (by kernel_rfl) (by kernel_rfl) rfl (fun _ _ _ h => h) rfl ?_ ?_; rotate_left; · (intro W hW; obtain ⟨_, _, k0, k1, k2⟩ := hW; go_simp <;> with_reducible rfl)
                      try simp only [Act.put, List.setIfInBounds_toArray, List.set_cons_zero, List.set_cons_succ]
                      refine Held.takeN 33 (v := ?_) hC rfl (by kernel_rfl) (by kernel_rfl) (by kernel_rfl) rfl (fun _ _ _ h => h) rfl ?_ ?_; rotate_left; · (intro W hW; obtain ⟨_, _, k0, k1, k2⟩ := hW; go_simp <;> with_reducible rfl)
                      try simp only [Act.put, List.setIfInBounds_toArray, List.set_cons_zero, List.set_cons_succ]
                      refine Held.takeN 34 (v := .agg Y) hC rfl (by kernel_rfl) (by kernel_rfl) (by kernel_rfl) rfl (fun _ _ _ h => h) rfl (fun W hW => exec_at 53 (.tmp 101) rfl rfl hW.2.1 Try.underlying53 rfl sW) ?_
                      try simp only [Act.put, List.setIfInBounds_toArray, List.set_cons_zero, List.set_cons_succ]
                      refine Held.takeN 35 (v := ?_) hC rfl (by kernel_rfl) (by kernel_rfl) (by kernel_rfl) rfl (fun _ _ _ h => h) rfl ?_ ?_; rotate_left; · (intro W hW; obtain ⟨_, _, k0, k1, k2⟩ := hW; go_simp <;> with_reducible rfl)
                      try simp only [Act.put, List.setIfInBounds_toArray, List.set_cons_zero, List.set_cons_succ]
                      refine Held.takeN 36 (v := ?_) hC rfl (by kernel_rfl) (by kernel_rfl) (by kernel_rfl) rfl (fun _ _ _ h => h) rfl ?_ ?_; rotate_left; · (intro W hW; obtain ⟨_, _, k0, k1, k2⟩ := hW; go_simp <;> with_reducible rfl)
                      try simp only [Act.put, List.setIfInBounds_toArray, List.set_cons_zero, List.set_cons_succ]
                      refine Held.takeN 37 (v := ?_) hC rfl (by kernel_rfl) (by kernel_rfl) (by kernel_rfl) rfl (fun _ _ _ h => h) rfl ?_ ?_; rotate_left; · (intro W hW; obtain ⟨_, _, k0, k1, k2⟩ := hW; go_simp <;> with_reducible rfl)
                      try simp only [Act.put, List.setIfInBounds_toArray, List.set_cons_zero, List.set_cons_succ]
                      refine Held.done (by kernel_rfl) ?_ _
                      go_wp2_with fail
                      go_meet
                      exact ⟨rfl, SD.out.tail⟩
                    | true =>
                      clear h3 q0 q1 HNO2 HSAME HXX
                      refine Held.takeN 0 (v := ?_) hC rfl (by kernel_rfl) (by kernel_rfl) (by kernel_rfl) rfl (fun _ _ _ h => h) rfl ?_ ?_; rotate_left; · (intro W hW; obtain ⟨_, _, k0, k1, k2⟩ := hW; go_simp <;> with_reducible rfl)
                      try simp only [Act.put, List.setIfInBounds_toArray, List.set_cons_zero, List.set_cons_succ]
                      refine Held.takeN 1 (v := ?_) hC rfl (by kernel_rfl) (by kernel_rfl) (by kernel_rfl) rfl (fun _ _ _ h => h) rfl ?_ ?_; rotate_left; · (intro W hW; obtain ⟨_, _, k0, k1, k2⟩ := hW; go_simp <;> with_reducible rfl)
                      try simp only [Act.put, List.setIfInBounds_toArray, List.set_cons_zero, List.set_cons_succ]
                      refine Held.takeN 2 (v := ?_) hC rfl (by kernel_rfl) (by kernel_rfl) (by kernel_rfl) rfl (fun _ _ _ h => h) rfl ?_ ?_; rotate_left; · (intro W hW; obtain ⟨_, _, k0, k1, k2⟩ := hW; go_simp <;> with_reducible rfl)
                      try simp only [Act.put, List.setIfInBounds_toArray, List.set_cons_zero, List.set_cons_succ]
                      refine Held.takeN 3 (v := ?_) hC rfl (by kernel_rfl) (by kernel_rfl) (by kernel_rfl) rfl (fun _ _ _ h => h) rfl ?_ ?_; rotate_left; · (intro W hW; obtain ⟨_, _, k0, k1, k2⟩ := hW; go_simp <;> with_reducible rfl)
                      try simp only [Act.put, List.setIfInBounds_toArray, List.set_cons_zero, List.set_cons_succ]
                      refine Held.takeN 4 (v := ?_) hC rfl (by kernel_rfl) (by kernel_rfl) (by kernel_rfl) rfl (fun _ _ _ h => h) rfl ?_ ?_; rotate_left; · (intro W hW; obtain ⟨_, _, k0, k1, k2⟩ := hW; go_simp <;> with_reducible rfl)
                      try simp only [Act.put, List.setIfInBounds_toArray, List.set_cons_zero, List.set_cons_succ]
                      refine Held.takeN 5 (v := ?_) hC rfl (by kernel_rfl) (by kernel_rfl) (by kernel_rfl) rfl (fun _ _ _ h => h) rfl ?_ ?_; rotate_left; · (intro W hW; obtain ⟨_, _, k0, k1, k2⟩ := hW; go_simp <;> with_reducible rfl)
                      try simp only [Act.put, List.setIfInBounds_toArray, List.set_cons_zero, List.set_cons_succ]
                      refine Held.takeN 6 (v := ?_) hC rfl (by kernel_rfl) (by kernel_rfl) (by kernel_rfl) rfl (fun _ _ _ h => h) rfl ?_ ?_; rotate_left; · (intro W hW; obtain ⟨_, _, k0, k1, k2⟩ := hW; go_simp <;> with_reducible rfl)
                      try simp only [Act.put, List.setIfInBounds_toArray, List.set_cons_zero, List.set_cons_succ]
                      refine Held.takeN 7 (v := ?_) hC rfl (by kernel_rfl) (by kernel_rfl) (by kernel_rfl) rfl (fun _ _ _ h => h) rfl ?_ ?_; rotate_left; · (intro W hW; obtain ⟨_, _, k0, k1, k2⟩ := hW; go_simp <;> with_reducible rfl)
                      try simp only [Act.put, List.setIfInBounds_toArray, List.set_cons_zero, List.set_cons_succ]
                      refine Held.takeN 8 (v := ?_) hC rfl (by kernel_rfl) (by kernel_rfl) (by kernel_rfl) rfl (fun _ _ _ h => h) rfl ?_ ?_; rotate_left; · (intro W hW; obtain ⟨_, _, k0, k1, k2⟩ := hW; go_simp <;> with_reducible rfl)
                      try simp only [Act.put, List.setIfInBounds_toArray, List.set_cons_zero, List.set_cons_succ]
                      refine Held.skipN 9 hC rfl (by kernel_rfl) (by kernel_rfl) (by kernel_rfl) rfl (fun _ _ _ h => h) rfl ?_
                      try simp only [Act.put, List.setIfInBounds_toArray, List.set_cons_zero, List.set_cons_succ]
                      refine Held.skipN 10 hC rfl (by kernel_rfl) (by kernel_rfl) (by kernel_rfl) rfl (fun _ _ _ h => h) rfl ?_
                      try simp only [Act.put, List.setIfInBounds_toArray, List.set_cons_zero, List.set_cons_succ]
                      refine Held.skipN 11 hC rfl (by kernel_rfl) (by kernel_rfl) (by kernel_rfl) rfl (fun _ _ _ h => h) rfl ?_
                      try simp only [Act.put, List.setIfInBounds_toArray, List.set_cons_zero, List.set_cons_succ]
                      refine Held.skipN 12 hC rfl (by kernel_rfl) (by kernel_rfl) (by kernel_rfl) rfl (fun _ _ _ h => h) rfl ?_
                      try simp only [Act.put, List.setIfInBounds_toArray, List.set_cons_zero, List.set_cons_succ]
                      refine Held.skipN 13 hC rfl (by kernel_rfl) (by kernel_rfl) (by kernel_rfl) rfl (fun _ _ _ h => h) rfl ?_
                      try simp only [Act.put, List.setIfInBounds_toArray, List.set_cons_zero, List.set_cons_succ]
                      refine Held.takeN 14 (v := ?_) hC rfl (by kernel_rfl) (by kernel_rfl) (by kernel_rfl) rfl (fun _ _ _ h => h) rfl ?_ ?_; rotate_left; · (intro W hW; obtain ⟨_, _, k0, k1, k2⟩ := hW; go_simp <;> with_reducible rfl)
                      try simp only [Act.put, List.setIfInBounds_toArray, List.set_cons_zero, List.set_cons_succ]
                      refine Held.takeN 15 (v := ?_) hC rfl (by kernel_rfl) (by kernel_rfl) (by kernel_rfl) rfl (fun _ _ _ h => h) rfl ?_ ?_; rotate_left; · (intro W hW; obtain ⟨_, _, k0, k1, k2⟩ := hW; go_simp <;> with_reducible rfl)
                      try simp only [Act.put, List.setIfInBounds_toArray, List.set_cons_zero, List.set_cons_succ]
                      refine Held.takeN 16 (v := ?_) hC rfl (by kernel_rfl) (by kernel_rfl) (by kernel_rfl) rfl (fun _ _ _ h => h) rfl ?_ ?_; rotate_left; · (intro W hW; obtain ⟨_, _, k0, k1, k2⟩ := hW; go_simp <;> with_reducible rfl)
                      try simp only [Act.put, List.setIfInBounds_toArray, List.set_cons_zero, List.set_cons_succ]
                      refine Held.takeN 17 (v := ?_) hC rfl (by kernel_rfl) (by kernel_rfl) (by kernel_rfl) rfl (fun _ _ _ h => h) rfl ?_ ?_; rotate_left; · (intro W hW; obtain ⟨_, _, k0, k1, k2⟩ := hW; go_simp <;> with_reducible rfl)
                      try simp only [Act.put, List.setIfInBounds_toArray, List.set_cons_zero, List.set_cons_succ]
                      refine Held.takeN 18 (v := ?_) hC rfl (by kernel_rfl) (by kernel_rfl) (by kernel_rfl) rfl (fun _ _ _ h => h) rfl ?_ ?_; rotate_left; · (intro W hW; obtain ⟨_, _, k0, k1, k2⟩ := hW; go_simp <;> with_reducible rfl)
                      try simp only [Act.put, List.setIfInBounds_toArray, List.set_cons_zero, List.set_cons_succ]
                      refine Held.takeN 19 (v := ?_) hC rfl (by kernel_rfl) (by kernel_rfl) (by kernel_rfl) rfl (fun _ _ _ h => h) rfl ?_ ?_; rotate_left; · (intro W hW; obtain ⟨_, _, k0, k1, k2⟩ := hW; go_simp <;> with_reducible rfl)
                      try simp only [Act.put, List.setIfInBounds_toArray, List.set_cons_zero, List.set_cons_succ]
                      refine Held.takeN 20 (v := ?_) hC rfl (by kernel_rfl) (by kernel_rfl) (by kernel_rfl) rfl (fun _ _ _ h => h) rfl ?_ ?_; rotate_left; · (intro W hW; obtain ⟨_, _, k0, k1, k2⟩ := hW; go_simp <;> with_reducible rfl)
                      try simp only [Act.put, List.setIfInBounds_toArray, List.set_cons_zero, List.set_cons_succ]
                      refine Held.takeN 21 (v := ?_) hC rfl (by kernel_rfl) (by kernel_rfl) (by kernel_rfl) rfl (fun _ _ _ h => h) rfl ?_ ?_; rotate_left; · (intro W hW; obtain ⟨_, _, k0, k1, k2⟩ := hW; go_simp <;> with_reducible rfl)
                      try simp only [Act.put, List.setIfInBounds_toArray, List.set_cons_zero, List.set_cons_succ]
                      refine Held.takeN 22 (v := ?_) hC rfl (by kernel_rfl) (by kernel_rfl) (by kernel_rfl) rfl (fun _ _ _ h => h) rfl ?_ ?_; rotate_left; · (intro W hW; obtain ⟨_, _, k0, k1, k2⟩ := hW; go_simp <;> with_reducible rfl)
                      try simp only [Act.put, List.setIfInBounds_toArray, List.set_cons_zero, List.set_cons_succ]
                      refine Held.takeN 23 (v := ?_) hC rfl (by kernel_rfl) (by kernel_rfl) (by kernel_rfl) rfl (fun _ _ _ h => h) rfl ?_ ?_; rotate_left; · (intro W hW; obtain ⟨_, _, k0, k1, k2⟩ := hW; go_simp <;> with_reducible rfl)
                      try simp only [Act.put, List.setIfInBounds_toArray, List.set_cons_zero, List.set_cons_succ]
                      refine Held.takeN 24 (v := ?_) hC rfl (by kernel_rfl) (by kernel_rfl) (by kernel_rfl) rfl (fun _ _ _ h => h) rfl ?_ ?_; rotate_left; · (intro W hW; obtain ⟨_, _, k0, k1, k2⟩ := hW; go_simp <;> with_reducible rfl)
                      try simp only [Act.put, List.setIfInBounds_toArray, List.set_cons_zero, List.set_cons_succ]
                      refine Held.takeN 25 (v := ?_) hC rfl (by kernel_rfl) (by kernel_rfl) (by kernel_rfl) rfl (fun _ _ _ h => h) rfl ?_ ?_; rotate_left; · (intro W hW; obtain ⟨_, _, k0, k1, k2⟩ := hW; go_simp <;> with_reducible rfl)
                      try simp only [Act.put, List.setIfInBounds_toArray, List.set_cons_zero, List.set_cons_succ]
                      refine Held.takeN 26 (v := ?_) hC rfl (by kernel_rfl) (by kernel_rfl) (by kernel_rfl) rfl (fun _ _ _ h => h) rfl ?_ ?_; rotate_left; · (intro W hW; obtain ⟨_, _, k0, k1, k2⟩ := hW; go_simp <;> with_reducible rfl)
                      try simp only [Act.put, List.setIfInBounds_toArray, List.set_cons_zero, List.set_cons_succ]
                      refine Held.takeN 27 (v := ?_) hC rfl (by kernel_rfl) (by kernel_rfl) (by kernel_rfl) rfl (fun _ _ _ h => h) rfl ?_ ?_; rotate_left; · (intro W hW; obtain ⟨_, _, k0, k1, k2⟩ := hW; go_simp <;> with_reducible rfl)
                      try simp only [Act.put, List.setIfInBounds_toArray, List.set_cons_zero, List.set_cons_succ]
                      refine Held.takeN 28 (v := ?_) hC rfl (by kernel_rfl) (by kernel_rfl) (by kernel_rfl) rfl (fun _ _ _ h => h) rfl ?_ ?_; rotate_left; · (intro W hW; obtain ⟨_, _, k0, k1, k2⟩ := hW; go_simp <;> with_reducible rfl)
                      try simp only [Act.put, List.setIfInBounds_toArray, List.set_cons_zero, List.set_cons_succ]
                      refine Held.takeN 29 (v := ?_) hC rfl (by kernel_rfl) (by kernel_rfl) (by kernel_rfl) rfl (fun _ _ _ h => h) rfl ?_ ?_; rotate_left; · (intro W hW; obtain ⟨_, _, k0, k1, k2⟩ := hW; go_simp <;> with_reducible rfl)
                      try simp only [Act.put, List.setIfInBounds_toArray, List.set_cons_zero, List.set_cons_succ]
                      refine Held.takeN 30 (v := ?_) hC rfl (by kernel_rfl) (by kernel_rfl) (by kernel_rfl) rfl (fun _ _ _ h => h) rfl ?_ ?_; rotate_left; · (intro W hW; obtain ⟨_, _, k0, k1, k2⟩ := hW; go_simp <;> with_reducible rfl)
                      try simp only [Act.put, List.setIfInBounds_toArray, List.set_cons_zero, List.set_cons_succ]
                      refine Held.skipN 31 hC rfl (by kernel_rfl) (by kernel_rfl) (by kernel_rfl) rfl (fun _ _ _ h => h) rfl ?_
                      try simp only [Act.put, List.setIfInBounds_toArray, List.set_cons_zero, List.set_cons_succ]
                      refine Held.skipN 32 hC rfl (by kernel_rfl) (by kernel_rfl) (by kernel_rfl) rfl (fun _ _ _ h => h) rfl ?_
                      try simp only [Act.put, List.setIfInBounds_toArray, List.set_cons_zero, List.set_cons_succ]
                      refine Held.skipN 33 hC rfl (by kernel_rfl) (by kernel_rfl) (by kernel_rfl) rfl (fun _ _ _ h => h) rfl ?_
                      try simp only [Act.put, List.setIfInBounds_toArray, List.set_cons_zero, List.set_cons_succ]
                      refine Held.skipN 34 hC rfl (by kernel_rfl) (by kernel_rfl) (by kernel_rfl) rfl (fun _ _ _ h => h) rfl ?_
                      try simp only [Act.put, List.setIfInBounds_toArray, List.set_cons_zero, List.set_cons_succ]
                      refine Held.skipN 35 hC rfl (by kernel_rfl) (by kernel_rfl) (by kernel_rfl) rfl (fun _ _ _ h => h) rfl ?_
                      try simp only [Act.put, List.setIfInBounds_toArray, List.set_cons_zero, List.set_cons_succ]
                      refine Held.takeN 36 (v := ?_) hC rfl (by kernel_rfl) (by kernel_rfl) (by kernel_rfl) rfl (fun _ _ _ h => h) rfl ?_ ?_; rotate_left; · (intro W hW; obtain ⟨_, _, k0, k1, k2⟩ := hW; go_simp <;> with_reducible rfl)
                      try simp only [Act.put, List.setIfInBounds_toArray, List.set_cons_zero, List.set_cons_succ]
                      refine Held.takeN 37 (v := ?_) hC rfl (by kernel_rfl) (by kernel_rfl) (by kernel_rfl) rfl (fun _ _ _ h => h) rfl ?_ ?_; rotate_left; · (intro W hW; obtain ⟨_, _, k0, k1, k2⟩ := hW; go_simp <;> with_reducible rfl)
                      try simp only [Act.put, List.setIfInBounds_toArray, List.set_cons_zero, List.set_cons_succ]
                      refine Held.done (by kernel_rfl) ?_ _
                      go_wp2_with fail
                      go_meet
                      exact ⟨rfl, SD.out.tail⟩
                  · have zt : ((i : Int) != t) = true := by simpa using q1
                    obtain rfl : Y = X := HXX.out (HSAME.out (.inr (.inl q1)))
                    clear h3 q0 q1 HNO2 HSAME HXX
                    refine Held.takeN 0 (v := ?_) hC rfl (by kernel_rfl) (by kernel_rfl) (by kernel_rfl) rfl (fun _ _ _ h => h) rfl ?_ ?_; rotate_left; · (intro W hW; obtain ⟨_, _, k0, k1, k2⟩ := hW; go_simp <;> with_reducible rfl)
                    try simp only [Act.put, List.setIfInBounds_toArray, List.set_cons_zero, List.set_cons_succ]
                    refine Held.takeN 1 (v := ?_) hC rfl (by kernel_rfl) (by kernel_rfl) (by kernel_rfl) rfl (fun _ _ _ h => h) rfl ?_ ?_; rotate_left; · (intro W hW; obtain ⟨_, _, k0, k1, k2⟩ := hW; go_simp <;> with_reducible rfl)
                    try simp only [Act.put, List.setIfInBounds_toArray, List.set_cons_zero, List.set_cons_succ]
                    refine Held.takeN 2 (v := ?_) hC rfl (by kernel_rfl) (by kernel_rfl) (by kernel_rfl) rfl (fun _ _ _ h => h) rfl ?_ ?_; rotate_left; · (intro W hW; obtain ⟨_, _, k0, k1, k2⟩ := hW; go_simp <;> with_reducible rfl)
                    try simp only [Act.put, List.setIfInBounds_toArray, List.set_cons_zero, List.set_cons_succ]
                    refine Held.takeN 3 (v := ?_) hC rfl (by kernel_rfl) (by kernel_rfl) (by kernel_rfl) rfl (fun _ _ _ h => h) rfl ?_ ?_; rotate_left; · (intro W hW; obtain ⟨_, _, k0, k1, k2⟩ := hW; go_simp <;> with_reducible rfl)
                    try simp only [Act.put, List.setIfInBounds_toArray, List.set_cons_zero, List.set_cons_succ]
                    refine Held.takeN 4 (v := ?_) hC rfl (by kernel_rfl) (by kernel_rfl) (by kernel_rfl) rfl (fun _ _ _ h => h) rfl ?_ ?_; rotate_left; · (intro W hW; obtain ⟨_, _, k0, k1, k2⟩ := hW; go_simp <;> with_reducible rfl)
                    try simp only [Act.put, List.setIfInBounds_toArray, List.set_cons_zero, List.set_cons_succ]
                    refine Held.takeN 5 (v := ?_) hC rfl (by kernel_rfl) (by kernel_rfl) (by kernel_rfl) rfl (fun _ _ _ h => h) rfl ?_ ?_; rotate_left; · (intro W hW; obtain ⟨_, _, k0, k1, k2⟩ := hW; go_simp <;> with_reducible rfl)
                    try simp only [Act.put, List.setIfInBounds_toArray, List.set_cons_zero, List.set_cons_succ]
                    refine Held.takeN 6 (v := ?_) hC rfl (by kernel_rfl) (by kernel_rfl) (by kernel_rfl) rfl (fun _ _ _ h => h) rfl ?_ ?_; rotate_left; · (intro W hW; obtain ⟨_, _, k0, k1, k2⟩ := hW; go_simp <;> with_reducible rfl)
                    try simp only [Act.put, List.setIfInBounds_toArray, List.set_cons_zero, List.set_cons_succ]
                    refine Held.takeN 7 (v := ?_) hC rfl (by kernel_rfl) (by kernel_rfl) (by kernel_rfl) rfl (fun _ _ _ h => h) rfl ?_ ?_; rotate_left; · (intro W hW; obtain ⟨_, _, k0, k1, k2⟩ := hW; go_simp <;> with_reducible rfl)
                    try simp only [Act.put, List.setIfInBounds_toArray, List.set_cons_zero, List.set_cons_succ]
                    refine Held.takeN 8 (v := ?_) hC rfl (by kernel_rfl) (by kernel_rfl) (by kernel_rfl) rfl (fun _ _ _ h => h) rfl ?_ ?_; rotate_left; · (intro W hW; obtain ⟨_, _, k0, k1, k2⟩ := hW; go_simp <;> with_reducible rfl)
                    try simp only [Act.put, List.setIfInBounds_toArray, List.set_cons_zero, List.set_cons_succ]
                    refine Held.skipN 9 hC rfl (by kernel_rfl) (by kernel_rfl) (by kernel_rfl) rfl (fun _ _ _ h => h) rfl ?_
                    try simp only [Act.put, List.setIfInBounds_toArray, List.set_cons_zero, List.set_cons_succ]
                    refine Held.skipN 10 hC rfl (by kernel_rfl) (by kernel_rfl) (by kernel_rfl) rfl (fun _ _ _ h => h) rfl ?_
                    try simp only [Act.put, List.setIfInBounds_toArray, List.set_cons_zero, List.set_cons_succ]
                    refine Held.skipN 11 hC rfl (by kernel_rfl) (by kernel_rfl) (by kernel_rfl) rfl (fun _ _ _ h => h) rfl ?_
                    try simp only [Act.put, List.setIfInBounds_toArray, List.set_cons_zero, List.set_cons_succ]
                    refine Held.skipN 12 hC rfl (by kernel_rfl) (by kernel_rfl) (by kernel_rfl) rfl (fun _ _ _ h => h) rfl ?_
                    try simp only [Act.put, List.setIfInBounds_toArray, List.set_cons_zero, List.set_cons_succ]
                    refine Held.skipN 13 hC rfl (by kernel_rfl) (by kernel_rfl) (by kernel_rfl) rfl (fun _ _ _ h => h) rfl ?_
                    try simp only [Act.put, List.setIfInBounds_toArray, List.set_cons_zero, List.set_cons_succ]
                    refine Held.takeN 14 (v := ?_) hC rfl (by kernel_rfl) (by kernel_rfl) (by kernel_rfl) rfl (fun _ _ _ h => h) rfl ?_ ?_; rotate_left; · (intro W hW; obtain ⟨_, _, k0, k1, k2⟩ := hW; go_simp <;> with_reducible rfl)
                    try simp only [Act.put, List.setIfInBounds_toArray, List.set_cons_zero, List.set_cons_succ]
                    refine Held.takeN 15 (v := ?_) hC rfl (by kernel_rfl) (by kernel_rfl) (by kernel_rfl) rfl (fun _ _ _ h => h) rfl ?_ ?_; rotate_left; · (intro W hW; obtain ⟨_, _, k0, k1, k2⟩ := hW; go_simp <;> with_reducible rfl)
                    try simp only [Act.put, List.setIfInBounds_toArray, List.set_cons_zero, List.set_cons_succ]
                    refine Held.takeN 16 (v := ?_) hC rfl (by kernel_rfl) (by kernel_rfl) (by kernel_rfl) rfl (fun _ _ _ h => h) rfl ?_ ?_; rotate_left; · (intro W hW; obtain ⟨_, _, k0, k1, k2⟩ := hW; go_simp <;> with_reducible rfl)
                    try simp only [Act.put, List.setIfInBounds_toArray, List.set_cons_zero, List.set_cons_succ]
                    refine Held.takeN 17 (v := ?_) hC rfl (by kernel_rfl) (by kernel_rfl) (by kernel_rfl) rfl (fun _ _ _ h => h) rfl ?_ ?_; rotate_left; · (intro W hW; obtain ⟨_, _, k0, k1, k2⟩ := hW; go_simp <;> with_reducible rfl)
                    try simp only [Act.put, List.setIfInBounds_toArray, List.set_cons_zero, List.set_cons_succ]
                    refine Held.takeN 18 (v := ?_) hC rfl (by kernel_rfl) (by kernel_rfl) (by kernel_rfl) rfl (fun _ _ _ h => h) rfl ?_ ?_; rotate_left; · (intro W hW; obtain ⟨_, _, k0, k1, k2⟩ := hW; go_simp <;> with_reducible rfl)
                    try simp only [Act.put, List.setIfInBounds_toArray, List.set_cons_zero, List.set_cons_succ]
                    refine Held.takeN 19 (v := ?_) hC rfl (by kernel_rfl) (by kernel_rfl) (by kernel_rfl) rfl (fun _ _ _ h => h) rfl ?_ ?_; rotate_left; · (intro W hW; obtain ⟨_, _, k0, k1, k2⟩ := hW; go_simp <;> with_reducible rfl)
                    try simp only [Act.put, List.setIfInBounds_toArray, List.set_cons_zero, List.set_cons_succ]
                    refine Held.takeN 20 (v := ?_) hC rfl (by kernel_rfl) (by kernel_rfl) (by kernel_rfl) rfl (fun _ _ _ h => h) rfl ?_ ?_; rotate_left; · (intro W hW; obtain ⟨_, _, k0, k1, k2⟩ := hW; go_simp <;> with_reducible rfl)
                    try simp only [Act.put, List.setIfInBounds_toArray, List.set_cons_zero, List.set_cons_succ]
                    refine Held.takeN 21 (v := ?_) hC rfl (by kernel_rfl) (by kernel_rfl) (by kernel_rfl) rfl (fun _ _ _ h => h) rfl ?_ ?_; rotate_left; · (intro W hW; obtain ⟨_, _, k0, k1, k2⟩ := hW; go_simp <;> with_reducible rfl)
                    try simp only [Act.put, List.setIfInBounds_toArray, List.set_cons_zero, List.set_cons_succ]
                    refine Held.takeN 22 (v := ?_) hC rfl (by kernel_rfl) (by kernel_rfl) (by kernel_rfl) rfl (fun _ _ _ h => h) rfl ?_ ?_; rotate_left; · (intro W hW; obtain ⟨_, _, k0, k1, k2⟩ := hW; go_simp <;> with_reducible rfl)
                    try simp only [Act.put, List.setIfInBounds_toArray, List.set_cons_zero, List.set_cons_succ]
                    refine Held.takeN 23 (v := ?_) hC rfl (by kernel_rfl) (by kernel_rfl) (by kernel_rfl) rfl (fun _ _ _ h => h) rfl ?_ ?_; rotate_left; · (intro W hW; obtain ⟨_, _, k0, k1, k2⟩ := hW; go_simp <;> with_reducible rfl)
                    try simp only [Act.put, List.setIfInBounds_toArray, List.set_cons_zero, List.set_cons_succ]
                    refine Held.takeN 24 (v := ?_) hC rfl (by kernel_rfl) (by kernel_rfl) (by kernel_rfl) rfl (fun _ _ _ h => h) rfl ?_ ?_; rotate_left; · (intro W hW; obtain ⟨_, _, k0, k1, k2⟩ := hW; go_simp <;> with_reducible rfl)
                    try simp only [Act.put, List.setIfInBounds_toArray, List.set_cons_zero, List.set_cons_succ]
                    refine Held.takeN 25 (v := ?_) hC rfl (by kernel_rfl) (by kernel_rfl) (by kernel_rfl) rfl (fun _ _ _ h => h) rfl ?_ ?_; rotate_left; · (intro W hW; obtain ⟨_, _, k0, k1, k2⟩ := hW; go_simp <;> with_reducible rfl)
                    try simp only [Act.put, List.setIfInBounds_toArray, List.set_cons_zero, List.set_cons_succ]
                    refine Held.takeN 26 (v := ?_) hC rfl (by kernel_rfl) (by kernel_rfl) (by kernel_rfl) rfl (fun _ _ _ h => h) rfl ?_ ?_; rotate_left; · (intro W hW; obtain ⟨_, _, k0, k1, k2⟩ := hW; go_simp <;> with_reducible rfl)
                    try simp only [Act.put, List.setIfInBounds_toArray, List.set_cons_zero, List.set_cons_succ]
                    refine Held.skipN 27 hC rfl (by kernel_rfl) (by kernel_rfl) (by kernel_rfl) rfl (fun _ _ _ h => h) rfl ?_
                    try simp only [Act.put, List.setIfInBounds_toArray, List.set_cons_zero, List.set_cons_succ]
                    refine Held.skipN 28 hC rfl (by kernel_rfl) (by kernel_rfl) (by kernel_rfl) rfl (fun _ _ _ h => h) rfl ?_
                    try simp only [Act.put, List.setIfInBounds_toArray, List.set_cons_zero, List.set_cons_succ]
                    refine Held.takeN 29 (v := ?_) hC rfl (by kernel_rfl) (by kernel_rfl) (by kernel_rfl) rfl (fun _ _ _ h => h) rfl ?_ ?_; rotate_left; · (intro W hW; obtain ⟨_, _, k0, k1, k2⟩ := hW; go_simp <;> with_reducible rfl)
                    try simp only [Act.put, List.setIfInBounds_toArray, List.set_cons_zero, List.set_cons_succ]
                    refine Held.takeN 30 (v := ?_) hC rfl (by kernel_rfl) (by kernel_rfl) (by kernel_rfl) rfl (fun _ _ _ h => h) rfl ?_ ?_; rotate_left; · (intro W hW; obtain ⟨_, _, k0, k1, k2⟩ := hW; go_simp <;> with_reducible rfl)
                    try simp only [Act.put, List.setIfInBounds_toArray, List.set_cons_zero, List.set_cons_succ]
                    refine Held.takeN 31 (v := .agg Y) hC rfl (by kernel_rfl) (by kernel_rfl) (by kernel_rfl) rfl (fun _ _ _ h => h) rfl (fun W hW => exec_block 53 (.tmp 14) rfl rfl hW.1 Try.underlying53 rfl sW) ?_
                    try simp only [Act.put, List.setIfInBounds_toArray, List.set_cons_zero, List.set_cons_succ]
                    refine Held.takeN 32 (v := ?_) hC rfl (by kernel_rfl) (by kernel_rfl) (by kernel_rfl) rfl (fun _ _ _ h => h) rfl ?_ ?_; rotate_left; · (intro W hW; obtain ⟨_, _, k0, k1, k2⟩ := hW; go_simp <;> with_reducible rfl)
                    try simp only [Act.put, List.setIfInBounds_toArray, List.set_cons_zero, List.set_cons_succ]
                    refine Held.takeN 33 (v := ?_) hC rfl (by kernel_rfl) (by kernel_rfl) (by kernel_rfl) rfl (fun _ _ _ h => h) rfl ?_ ?_; rotate_left; · (intro W hW; obtain ⟨_, _, k0, k1, k2⟩ := hW; go_simp <;> with_reducible rfl)
                    try simp only [Act.put, List.setIfInBounds_toArray, List.set_cons_zero, List.set_cons_succ]
                    refine Held.takeN 34 (v := .agg Y) hC rfl (by kernel_rfl) (by kernel_rfl) (by kernel_rfl) rfl (fun _ _ _ h => h) rfl (fun W hW => exec_at 53 (.tmp 101) rfl rfl hW.2.1 Try.underlying53 rfl sW) ?_
                    try simp only [Act.put, List.setIfInBounds_toArray, List.set_cons_zero, List.set_cons_succ]
                    refine Held.takeN 35 (v := ?_) hC rfl (by kernel_rfl) (by kernel_rfl) (by kernel_rfl) rfl (fun _ _ _ h => h) rfl ?_ ?_; rotate_left; · (intro W hW; obtain ⟨_, _, k0, k1, k2⟩ := hW; go_simp <;> with_reducible rfl)
                    try simp only [Act.put, List.setIfInBounds_toArray, List.set_cons_zero, List.set_cons_succ]
                    refine Held.takeN 36 (v := ?_) hC rfl (by kernel_rfl) (by kernel_rfl) (by kernel_rfl) rfl (fun _ _ _ h => h) rfl ?_ ?_; rotate_left; · (intro W hW; obtain ⟨_, _, k0, k1, k2⟩ := hW; go_simp <;> with_reducible rfl)
                    try simp only [Act.put, List.setIfInBounds_toArray, List.set_cons_zero, List.set_cons_succ]
                    refine Held.takeN 37 (v := ?_) hC rfl (by kernel_rfl) (by kernel_rfl) (by kernel_rfl) rfl (fun _ _ _ h => h) rfl ?_ ?_; rotate_left; · (intro W hW; obtain ⟨_, _, k0, k1, k2⟩ := hW; go_simp <;> with_reducible rfl)
                    try simp only [Act.put, List.setIfInBounds_toArray, List.set_cons_zero, List.set_cons_succ]
                    refine Held.done (by kernel_rfl) ?_ _
                    go_wp2_with fail
                    go_meet
                    exact ⟨rfl, SD.out.tail⟩
              case rest =>
                obtain ⟨rfl, S12⟩ := hcut
                clear SR HSAME HNO HWT HY sX
                go_wp2
                go_roundw
                case rel => exact ⟨i + 1, by omega, by go_num, S12⟩
                case measure => simp [intOf]; omega
            · have dl : decide ((i : Int) < (ln : Int)) = false := decide_eq_false (by omega)
              have dl2 : decide (i < ln) = false := decide_eq_false (by omega)
              clear hi hil HOT HEN HWL
              go_upto_region 26 with (fail)
              obtain ⟨FA, hA⟩ := ob_at S10.out 2 rfl
              have HA : Hid (I.O.A wr (.pointer (some a)) FA (L2, 30)) := hA
              obtain ⟨ln2, hln2⟩ : ∃ l, L2.length = l := ⟨_, rfl⟩
              have HLE2 : Hid (ln2 = if d = 0 ∧ E = 0 then ln + 1 else ln) := by show _ = _; rw [← hln2, HLE.out]
              have HLL : Hid (∀ Q, Below wr.heap.size wr Q → Calls Try.prog 16 #[.pointer (some a)] Q fun e w' => e = .returned (.int .i64 ln2) ∧ Below wr.heap.size wr w' ∧ Below Q.heap.size Q w') := fun Q hb => by rw [← hln2]; exact l_len HA.out hb
              have hbk := S10.out.blk_at 1 (g := ga) (o := (.cells #[.int .i64 d, .int .i64 t, .int .i64 a', .int .i64 b, .int .i64 x', .int .i64 k', .int .i64 o', .int .i64 c', .int .i64 r', .int .i64 l', .int .i64 n'] 34)) rfl
              have FK : Hid (∀ Q, Below wr.heap.size wr Q → Q.cell? ⟨ga, 0, none⟩ = some (.int .i64 d)) := fun Q hb => (hb.cell (p := ⟨ga, 0, none⟩) (lt_of_block hbk)).trans ((cell_block hbk 0).trans rfl)
              have HB0 : Hid (Below wr.heap.size wr wr.drew) := (Below.refl _ _).drew
              have wl : IntKind.i64.wrap ((ln : Int) + 1) = (ln : Int) + 1 := IntWalk.i64_in _ (by omega)
              clear hA hln2 hbk HLE
              go_cut [132] (fun s132 wx => s132 = .bool false ∧ Hid (Below wr.heap.size wr wx))
              case first => as_aux_lemma =>
                refine Held.begin_ (fun V : World => V.cell? ⟨ga, 0, none⟩ = some (.int .i64 d)) 99 (by kernel_rfl) ?_
                have hC : (fun V : World => V.cell? ⟨ga, 0, none⟩ = some (.int .i64 d)) wr.drew := FK.out _ HB0.out
                by_cases q0 : d = 0
                · have zd : (d == 0) = true := by simpa using q0
                  by_cases q1 : E = 0
                  · have zE : (E == 0) = true := by simpa using q1
                    obtain rfl : ln2 = ln + 1 := HLE2.out.trans (if_pos ⟨q0, q1⟩)
                    have n1 : ((((ln + 1 : Nat) : Int)) == (ln : Int) + 1) = true := by simp
                    have n2 : ((((ln + 1 : Nat) : Int)) != (ln : Int)) = true := by rw [bne_iff_ne]; omega
                    have n3 : ((((ln + 1 : Nat) : Int)) != (ln : Int) + 1) = false := by simp
                    clear q0 q1 HLE2
                    generalize ((ln + 1 : Nat) : Int) = lz at *
                    refine Held.takeN 0 (v := ?_) hC rfl (by kernel_rfl) (by kernel_rfl) (by kernel_rfl) rfl (fun _ _ _ h => h) rfl ?_ ?_; rotate_left; · (intro W hW; have k0 : W.cell? ⟨ga, 0, none⟩ = some (.int .i64 d) := hW; go_simp <;> with_reducible rfl)
                    try simp only [Act.put, List.setIfInBounds_toArray, List.set_cons_zero, List.set_cons_succ]
                    refine Held.takeN 2 (v := ?_) hC rfl (by kernel_rfl) (by kernel_rfl) (by kernel_rfl) rfl (fun _ _ _ h => h) rfl ?_ ?_; rotate_left; · (intro W hW; have k0 : W.cell? ⟨ga, 0, none⟩ = some (.int .i64 d) := hW; go_simp <;> with_reducible rfl)
                    try simp only [Act.put, List.setIfInBounds_toArray, List.set_cons_zero, List.set_cons_succ]
                    refine Held.takeN 3 (v := ?_) hC rfl (by kernel_rfl) (by kernel_rfl) (by kernel_rfl) rfl (fun _ _ _ h => h) rfl ?_ ?_; rotate_left; · (intro W hW; have k0 : W.cell? ⟨ga, 0, none⟩ = some (.int .i64 d) := hW; go_simp <;> with_reducible rfl)
                    try simp only [Act.put, List.setIfInBounds_toArray, List.set_cons_zero, List.set_cons_succ]
                    refine Held.takeN 5 (v := ?_) hC rfl (by kernel_rfl) (by kernel_rfl) (by kernel_rfl) rfl (fun _ _ _ h => h) rfl ?_ ?_; rotate_left; · (intro W hW; have k0 : W.cell? ⟨ga, 0, none⟩ = some (.int .i64 d) := hW; go_simp <;> with_reducible rfl)
                    try simp only [Act.put, List.setIfInBounds_toArray, List.set_cons_zero, List.set_cons_succ]
                    refine Held.takeN 6 (v := ?_) hC rfl (by kernel_rfl) (by kernel_rfl) (by kernel_rfl) rfl (fun _ _ _ h => h) rfl ?_ ?_; rotate_left; · (intro W hW; have k0 : W.cell? ⟨ga, 0, none⟩ = some (.int .i64 d) := hW; go_simp <;> with_reducible rfl)
                    try simp only [Act.put, List.setIfInBounds_toArray, List.set_cons_zero, List.set_cons_succ]
                    refine Held.takeN 7 (v := ?_) hC rfl (by kernel_rfl) (by kernel_rfl) (by kernel_rfl) rfl (fun _ _ _ h => h) rfl ?_ ?_; rotate_left; · (intro W hW; have k0 : W.cell? ⟨ga, 0, none⟩ = some (.int .i64 d) := hW; go_simp <;> with_reducible rfl)
                    try simp only [Act.put, List.setIfInBounds_toArray, List.set_cons_zero, List.set_cons_succ]
                    refine Held.onlyG 1 (by kernel_rfl) rfl rfl ?_
                    intro K hK
                    go_simp
                    refine (HLL.out _ HB0.out).mono ?_
                    rintro e u1 ⟨rfl, hb, _⟩
                    have HB1 := Lib.hid hb
                    refine hK.out _ _ (fun _ => FK.out _ hb) ?_
                    clear hK K
                    try simp only [Act.put, List.setIfInBounds_toArray, List.set_cons_zero, List.set_cons_succ]
                    have hC : (fun V : World => V.cell? ⟨ga, 0, none⟩ = some (.int .i64 d)) u1 := FK.out _ HB1.out
                    clear hb
                    refine Held.takeN 4 (v := ?_) hC rfl (by kernel_rfl) (by kernel_rfl) (by kernel_rfl) rfl (fun _ _ _ h => h) rfl ?_ ?_; rotate_left; · (intro W hW; have k0 : W.cell? ⟨ga, 0, none⟩ = some (.int .i64 d) := hW; go_simp <;> with_reducible rfl)
                    try simp only [Act.put, List.setIfInBounds_toArray, List.set_cons_zero, List.set_cons_succ]
                    refine Held.takeN 8 (v := ?_) hC rfl (by kernel_rfl) (by kernel_rfl) (by kernel_rfl) rfl (fun _ _ _ h => h) rfl ?_ ?_; rotate_left; · (intro W hW; have k0 : W.cell? ⟨ga, 0, none⟩ = some (.int .i64 d) := hW; go_simp <;> with_reducible rfl)
                    try simp only [Act.put, List.setIfInBounds_toArray, List.set_cons_zero, List.set_cons_succ]
                    refine Held.takeN 9 (v := ?_) hC rfl (by kernel_rfl) (by kernel_rfl) (by kernel_rfl) rfl (fun _ _ _ h => h) rfl ?_ ?_; rotate_left; · (intro W hW; have k0 : W.cell? ⟨ga, 0, none⟩ = some (.int .i64 d) := hW; go_simp <;> with_reducible rfl)
                    try simp only [Act.put, List.setIfInBounds_toArray, List.set_cons_zero, List.set_cons_succ]
                    refine Held.takeN 10 (v := ?_) hC rfl (by kernel_rfl) (by kernel_rfl) (by kernel_rfl) rfl (fun _ _ _ h => h) rfl ?_ ?_; rotate_left; · (intro W hW; have k0 : W.cell? ⟨ga, 0, none⟩ = some (.int .i64 d) := hW; go_simp <;> with_reducible rfl)
                    try simp only [Act.put, List.setIfInBounds_toArray, List.set_cons_zero, List.set_cons_succ]
                    refine Held.takeN 11 (v := ?_) hC rfl (by kernel_rfl) (by kernel_rfl) (by kernel_rfl) rfl (fun _ _ _ h => h) rfl ?_ ?_; rotate_left; · (intro W hW; have k0 : W.cell? ⟨ga, 0, none⟩ = some (.int .i64 d) := hW; go_simp <;> with_reducible rfl)
                    try simp only [Act.put, List.setIfInBounds_toArray, List.set_cons_zero, List.set_cons_succ]
                    refine Held.takeN 12 (v := ?_) hC rfl (by kernel_rfl) (by kernel_rfl) (by kernel_rfl) rfl (fun _ _ _ h => h) rfl ?_ ?_; rotate_left; · (intro W hW; have k0 : W.cell? ⟨ga, 0, none⟩ = some (.int .i64 d) := hW; go_simp <;> with_reducible rfl)
                    try simp only [Act.put, List.setIfInBounds_toArray, List.set_cons_zero, List.set_cons_succ]
                    refine Held.takeN 13 (v := ?_) hC rfl (by kernel_rfl) (by kernel_rfl) (by kernel_rfl) rfl (fun _ _ _ h => h) rfl ?_ ?_; rotate_left; · (intro W hW; have k0 : W.cell? ⟨ga, 0, none⟩ = some (.int .i64 d) := hW; go_simp <;> with_reducible rfl)
                    try simp only [Act.put, List.setIfInBounds_toArray, List.set_cons_zero, List.set_cons_succ]
                    refine Held.takeN 14 (v := ?_) hC rfl (by kernel_rfl) (by kernel_rfl) (by kernel_rfl) rfl (fun _ _ _ h => h) rfl ?_ ?_; rotate_left; · (intro W hW; have k0 : W.cell? ⟨ga, 0, none⟩ = some (.int .i64 d) := hW; go_simp <;> with_reducible rfl)
                    try simp only [Act.put, List.setIfInBounds_toArray, List.set_cons_zero, List.set_cons_succ]
                    refine Held.takeN 16 (v := ?_) hC rfl (by kernel_rfl) (by kernel_rfl) (by kernel_rfl) rfl (fun _ _ _ h => h) rfl ?_ ?_; rotate_left; · (intro W hW; have k0 : W.cell? ⟨ga, 0, none⟩ = some (.int .i64 d) := hW; go_simp <;> with_reducible rfl)
                    try simp only [Act.put, List.setIfInBounds_toArray, List.set_cons_zero, List.set_cons_succ]
                    refine Held.onlyG 15 (by kernel_rfl) rfl rfl ?_
                    intro K hK
                    go_simp
                    refine (HLL.out _ HB1.out).mono ?_
                    rintro e u2 ⟨rfl, hb, _⟩
                    have HB2 := Lib.hid hb
                    refine hK.out _ _ (fun _ => FK.out _ hb) ?_
                    clear hK K
                    try simp only [Act.put, List.setIfInBounds_toArray, List.set_cons_zero, List.set_cons_succ]
                    have hC : (fun V : World => V.cell? ⟨ga, 0, none⟩ = some (.int .i64 d)) u2 := FK.out _ HB2.out
                    clear hb
                    refine Held.takeN 17 (v := ?_) hC rfl (by kernel_rfl) (by kernel_rfl) (by kernel_rfl) rfl (fun _ _ _ h => h) rfl ?_ ?_; rotate_left; · (intro W hW; have k0 : W.cell? ⟨ga, 0, none⟩ = some (.int .i64 d) := hW; go_simp <;> with_reducible rfl)
                    try simp only [Act.put, List.setIfInBounds_toArray, List.set_cons_zero, List.set_cons_succ]
                    refine Held.takeN 18 (v := ?_) hC rfl (by kernel_rfl) (by kernel_rfl) (by kernel_rfl) rfl (fun _ _ _ h => h) rfl ?_ ?_; rotate_left; · (intro W hW; have k0 : W.cell? ⟨ga, 0, none⟩ = some (.int .i64 d) := hW; go_simp <;> with_reducible rfl)
                    try simp only [Act.put, List.setIfInBounds_toArray, List.set_cons_zero, List.set_cons_succ]
                    refine Held.takeN 19 (v := ?_) hC rfl (by kernel_rfl) (by kernel_rfl) (by kernel_rfl) rfl (fun _ _ _ h => h) rfl ?_ ?_; rotate_left; · (intro W hW; have k0 : W.cell? ⟨ga, 0, none⟩ = some (.int .i64 d) := hW; go_simp <;> with_reducible rfl)
                    try simp only [Act.put, List.setIfInBounds_toArray, List.set_cons_zero, List.set_cons_succ]
                    refine Held.takeN 21 (v := ?_) hC rfl (by kernel_rfl) (by kernel_rfl) (by kernel_rfl) rfl (fun _ _ _ h => h) rfl ?_ ?_; rotate_left; · (intro W hW; have k0 : W.cell? ⟨ga, 0, none⟩ = some (.int .i64 d) := hW; go_simp <;> with_reducible rfl)
                    try simp only [Act.put, List.setIfInBounds_toArray, List.set_cons_zero, List.set_cons_succ]
                    refine Held.takeN 22 (v := ?_) hC rfl (by kernel_rfl) (by kernel_rfl) (by kernel_rfl) rfl (fun _ _ _ h => h) rfl ?_ ?_; rotate_left; · (intro W hW; have k0 : W.cell? ⟨ga, 0, none⟩ = some (.int .i64 d) := hW; go_simp <;> with_reducible rfl)
                    try simp only [Act.put, List.setIfInBounds_toArray, List.set_cons_zero, List.set_cons_succ]
                    refine Held.onlyG 20 (by kernel_rfl) rfl rfl ?_
                    intro K hK
                    go_simp
                    refine (HLL.out _ HB2.out).mono ?_
                    rintro e u3 ⟨rfl, hb, _⟩
                    have HB3 := Lib.hid hb
                    refine hK.out _ _ (fun _ => FK.out _ hb) ?_
                    clear hK K
                    try simp only [Act.put, List.setIfInBounds_toArray, List.set_cons_zero, List.set_cons_succ]
                    have hC : (fun V : World => V.cell? ⟨ga, 0, none⟩ = some (.int .i64 d)) u3 := FK.out _ HB3.out
                    clear hb
                    refine Held.takeN 23 (v := ?_) hC rfl (by kernel_rfl) (by kernel_rfl) (by kernel_rfl) rfl (fun _ _ _ h => h) rfl ?_ ?_; rotate_left; · (intro W hW; have k0 : W.cell? ⟨ga, 0, none⟩ = some (.int .i64 d) := hW; go_simp <;> with_reducible rfl)
                    try simp only [Act.put, List.setIfInBounds_toArray, List.set_cons_zero, List.set_cons_succ]
                    refine Held.takeN 24 (v := ?_) hC rfl (by kernel_rfl) (by kernel_rfl) (by kernel_rfl) rfl (fun _ _ _ h => h) rfl ?_ ?_; rotate_left; · (intro W hW; have k0 : W.cell? ⟨ga, 0, none⟩ = some (.int .i64 d) := hW; go_simp <;> with_reducible rfl)
                    try simp only [Act.put, List.setIfInBounds_toArray, List.set_cons_zero, List.set_cons_succ]
                    refine Held.takeN 25 (v := ?_) hC rfl (by kernel_rfl) (by kernel_rfl) (by kernel_rfl) rfl (fun _ _ _ h => h) rfl ?_ ?_; rotate_left; · (intro W hW; have k0 : W.cell? ⟨ga, 0, none⟩ = some (.int .i64 d) := hW; go_simp <;> with_reducible rfl)
                    try simp only [Act.put, List.setIfInBounds_toArray, List.set_cons_zero, List.set_cons_succ]
                    refine Held.done (by kernel_rfl) ?_ _
                    go_wp2_with fail
                    go_meet
                    exact ⟨rfl, HB3⟩
                  · have zE : (E == 0) = false := by simpa using q1
                    obtain rfl : ln2 = ln := HLE2.out.trans (if_neg fun h => q1 h.2)
                    have n1 : ((ln2 : Int) == (ln2 : Int) + 1) = false := by rw [beq_eq_false_iff_ne]; omega
                    have n2 : ((ln2 : Int) != (ln2 : Int)) = false := by simp
                    clear q0 q1 HLE2
                    refine Held.takeN 0 (v := ?_) hC rfl (by kernel_rfl) (by kernel_rfl) (by kernel_rfl) rfl (fun _ _ _ h => h) rfl ?_ ?_; rotate_left; · (intro W hW; have k0 : W.cell? ⟨ga, 0, none⟩ = some (.int .i64 d) := hW; go_simp <;> with_reducible rfl)
                    try simp only [Act.put, List.setIfInBounds_toArray, List.set_cons_zero, List.set_cons_succ]
                    refine Held.takeN 2 (v := ?_) hC rfl (by kernel_rfl) (by kernel_rfl) (by kernel_rfl) rfl (fun _ _ _ h => h) rfl ?_ ?_; rotate_left; · (intro W hW; have k0 : W.cell? ⟨ga, 0, none⟩ = some (.int .i64 d) := hW; go_simp <;> with_reducible rfl)
                    try simp only [Act.put, List.setIfInBounds_toArray, List.set_cons_zero, List.set_cons_succ]
                    refine Held.takeN 3 (v := ?_) hC rfl (by kernel_rfl) (by kernel_rfl) (by kernel_rfl) rfl (fun _ _ _ h => h) rfl ?_ ?_; rotate_left; · (intro W hW; have k0 : W.cell? ⟨ga, 0, none⟩ = some (.int .i64 d) := hW; go_simp <;> with_reducible rfl)
                    try simp only [Act.put, List.setIfInBounds_toArray, List.set_cons_zero, List.set_cons_succ]
                    refine Held.takeN 5 (v := ?_) hC rfl (by kernel_rfl) (by kernel_rfl) (by kernel_rfl) rfl (fun _ _ _ h => h) rfl ?_ ?_; rotate_left; · (intro W hW; have k0 : W.cell? ⟨ga, 0, none⟩ = some (.int .i64 d) := hW; go_simp <;> with_reducible rfl)
                    try simp only [Act.put, List.setIfInBounds_toArray, List.set_cons_zero, List.set_cons_succ]
                    refine Held.takeN 6 (v := ?_) hC rfl (by kernel_rfl) (by kernel_rfl) (by kernel_rfl) rfl (fun _ _ _ h => h) rfl ?_ ?_; rotate_left; · (intro W hW; have k0 : W.cell? ⟨ga, 0, none⟩ = some (.int .i64 d) := hW; go_simp <;> with_reducible rfl)
                    try simp only [Act.put, List.setIfInBounds_toArray, List.set_cons_zero, List.set_cons_succ]
                    refine Held.takeN 7 (v := ?_) hC rfl (by kernel_rfl) (by kernel_rfl) (by kernel_rfl) rfl (fun _ _ _ h => h) rfl ?_ ?_; rotate_left; · (intro W hW; have k0 : W.cell? ⟨ga, 0, none⟩ = some (.int .i64 d) := hW; go_simp <;> with_reducible rfl)
                    try simp only [Act.put, List.setIfInBounds_toArray, List.set_cons_zero, List.set_cons_succ]
                    refine Held.onlyG 1 (by kernel_rfl) rfl rfl ?_
                    intro K hK
                    go_simp
                    refine (HLL.out _ HB0.out).mono ?_
                    rintro e u1 ⟨rfl, hb, _⟩
                    have HB1 := Lib.hid hb
                    refine hK.out _ _ (fun _ => FK.out _ hb) ?_
                    clear hK K
                    try simp only [Act.put, List.setIfInBounds_toArray, List.set_cons_zero, List.set_cons_succ]
                    have hC : (fun V : World => V.cell? ⟨ga, 0, none⟩ = some (.int .i64 d)) u1 := FK.out _ HB1.out
                    clear hb
                    refine Held.takeN 4 (v := ?_) hC rfl (by kernel_rfl) (by kernel_rfl) (by kernel_rfl) rfl (fun _ _ _ h => h) rfl ?_ ?_; rotate_left; · (intro W hW; have k0 : W.cell? ⟨ga, 0, none⟩ = some (.int .i64 d) := hW; go_simp <;> with_reducible rfl)
                    try simp only [Act.put, List.setIfInBounds_toArray, List.set_cons_zero, List.set_cons_succ]
                    refine Held.takeN 8 (v := ?_) hC rfl (by kernel_rfl) (by kernel_rfl) (by kernel_rfl) rfl (fun _ _ _ h => h) rfl ?_ ?_; rotate_left; · (intro W hW; have k0 : W.cell? ⟨ga, 0, none⟩ = some (.int .i64 d) := hW; go_simp <;> with_reducible rfl)
                    try simp only [Act.put, List.setIfInBounds_toArray, List.set_cons_zero, List.set_cons_succ]
                    refine Held.takeN 9 (v := ?_) hC rfl (by kernel_rfl) (by kernel_rfl) (by kernel_rfl) rfl (fun _ _ _ h => h) rfl ?_ ?_; rotate_left; · (intro W hW; have k0 : W.cell? ⟨ga, 0, none⟩ = some (.int .i64 d) := hW; go_simp <;> with_reducible rfl)
                    try simp only [Act.put, List.setIfInBounds_toArray, List.set_cons_zero, List.set_cons_succ]
                    refine Held.takeN 10 (v := ?_) hC rfl (by kernel_rfl) (by kernel_rfl) (by kernel_rfl) rfl (fun _ _ _ h => h) rfl ?_ ?_; rotate_left; · (intro W hW; have k0 : W.cell? ⟨ga, 0, none⟩ = some (.int .i64 d) := hW; go_simp <;> with_reducible rfl)
                    try simp only [Act.put, List.setIfInBounds_toArray, List.set_cons_zero, List.set_cons_succ]
                    refine Held.takeN 11 (v := ?_) hC rfl (by kernel_rfl) (by kernel_rfl) (by kernel_rfl) rfl (fun _ _ _ h => h) rfl ?_ ?_; rotate_left; · (intro W hW; have k0 : W.cell? ⟨ga, 0, none⟩ = some (.int .i64 d) := hW; go_simp <;> with_reducible rfl)
                    try simp only [Act.put, List.setIfInBounds_toArray, List.set_cons_zero, List.set_cons_succ]
                    refine Held.takeN 12 (v := ?_) hC rfl (by kernel_rfl) (by kernel_rfl) (by kernel_rfl) rfl (fun _ _ _ h => h) rfl ?_ ?_; rotate_left; · (intro W hW; have k0 : W.cell? ⟨ga, 0, none⟩ = some (.int .i64 d) := hW; go_simp <;> with_reducible rfl)
                    try simp only [Act.put, List.setIfInBounds_toArray, List.set_cons_zero, List.set_cons_succ]
                    refine Held.takeN 13 (v := ?_) hC rfl (by kernel_rfl) (by kernel_rfl) (by kernel_rfl) rfl (fun _ _ _ h => h) rfl ?_ ?_; rotate_left; · (intro W hW; have k0 : W.cell? ⟨ga, 0, none⟩ = some (.int .i64 d) := hW; go_simp <;> with_reducible rfl)
                    try simp only [Act.put, List.setIfInBounds_toArray, List.set_cons_zero, List.set_cons_succ]
                    refine Held.takeN 14 (v := ?_) hC rfl (by kernel_rfl) (by kernel_rfl) (by kernel_rfl) rfl (fun _ _ _ h => h) rfl ?_ ?_; rotate_left; · (intro W hW; have k0 : W.cell? ⟨ga, 0, none⟩ = some (.int .i64 d) := hW; go_simp <;> with_reducible rfl)
                    try simp only [Act.put, List.setIfInBounds_toArray, List.set_cons_zero, List.set_cons_succ]
                    refine Held.takeN 16 (v := ?_) hC rfl (by kernel_rfl) (by kernel_rfl) (by kernel_rfl) rfl (fun _ _ _ h => h) rfl ?_ ?_; rotate_left; · (intro W hW; have k0 : W.cell? ⟨ga, 0, none⟩ = some (.int .i64 d) := hW; go_simp <;> with_reducible rfl)
                    try simp only [Act.put, List.setIfInBounds_toArray, List.set_cons_zero, List.set_cons_succ]
                    refine Held.onlyG 15 (by kernel_rfl) rfl rfl ?_
                    intro K hK
                    go_simp
                    refine (HLL.out _ HB1.out).mono ?_
                    rintro e u2 ⟨rfl, hb, _⟩
                    have HB2 := Lib.hid hb
                    refine hK.out _ _ (fun _ => FK.out _ hb) ?_
                    clear hK K
                    try simp only [Act.put, List.setIfInBounds_toArray, List.set_cons_zero, List.set_cons_succ]
                    have hC : (fun V : World => V.cell? ⟨ga, 0, none⟩ = some (.int .i64 d)) u2 := FK.out _ HB2.out
                    clear hb
                    refine Held.takeN 17 (v := ?_) hC rfl (by kernel_rfl) (by kernel_rfl) (by kernel_rfl) rfl (fun _ _ _ h => h) rfl ?_ ?_; rotate_left; · (intro W hW; have k0 : W.cell? ⟨ga, 0, none⟩ = some (.int .i64 d) := hW; go_simp <;> with_reducible rfl)
                    try simp only [Act.put, List.setIfInBounds_toArray, List.set_cons_zero, List.set_cons_succ]
                    refine Held.takeN 18 (v := ?_) hC rfl (by kernel_rfl) (by kernel_rfl) (by kernel_rfl) rfl (fun _ _ _ h => h) rfl ?_ ?_; rotate_left; · (intro W hW; have k0 : W.cell? ⟨ga, 0, none⟩ = some (.int .i64 d) := hW; go_simp <;> with_reducible rfl)
                    try simp only [Act.put, List.setIfInBounds_toArray, List.set_cons_zero, List.set_cons_succ]
                    refine Held.skipN 19 hC rfl (by kernel_rfl) (by kernel_rfl) (by kernel_rfl) rfl (fun _ _ _ h => h) rfl ?_
                    try simp only [Act.put, List.setIfInBounds_toArray, List.set_cons_zero, List.set_cons_succ]
                    refine Held.skipN 20 hC rfl (by kernel_rfl) (by kernel_rfl) (by kernel_rfl) rfl (fun _ _ _ h => h) rfl ?_
                    try simp only [Act.put, List.setIfInBounds_toArray, List.set_cons_zero, List.set_cons_succ]
                    refine Held.skipN 21 hC rfl (by kernel_rfl) (by kernel_rfl) (by kernel_rfl) rfl (fun _ _ _ h => h) rfl ?_
                    try simp only [Act.put, List.setIfInBounds_toArray, List.set_cons_zero, List.set_cons_succ]
                    refine Held.skipN 22 hC rfl (by kernel_rfl) (by kernel_rfl) (by kernel_rfl) rfl (fun _ _ _ h => h) rfl ?_
                    try simp only [Act.put, List.setIfInBounds_toArray, List.set_cons_zero, List.set_cons_succ]
                    refine Held.skipN 23 hC rfl (by kernel_rfl) (by kernel_rfl) (by kernel_rfl) rfl (fun _ _ _ h => h) rfl ?_
                    try simp only [Act.put, List.setIfInBounds_toArray, List.set_cons_zero, List.set_cons_succ]
                    refine Held.takeN 24 (v := ?_) hC rfl (by kernel_rfl) (by kernel_rfl) (by kernel_rfl) rfl (fun _ _ _ h => h) rfl ?_ ?_; rotate_left; · (intro W hW; have k0 : W.cell? ⟨ga, 0, none⟩ = some (.int .i64 d) := hW; go_simp <;> with_reducible rfl)
                    try simp only [Act.put, List.setIfInBounds_toArray, List.set_cons_zero, List.set_cons_succ]
                    refine Held.takeN 25 (v := ?_) hC rfl (by kernel_rfl) (by kernel_rfl) (by kernel_rfl) rfl (fun _ _ _ h => h) rfl ?_ ?_; rotate_left; · (intro W hW; have k0 : W.cell? ⟨ga, 0, none⟩ = some (.int .i64 d) := hW; go_simp <;> with_reducible rfl)
                    try simp only [Act.put, List.setIfInBounds_toArray, List.set_cons_zero, List.set_cons_succ]
                    refine Held.done (by kernel_rfl) ?_ _
                    go_wp2_with fail
                    go_meet
                    exact ⟨rfl, HB2⟩
                · have zd : (d == 0) = false := by simpa using q0
                  obtain rfl : ln2 = ln := HLE2.out.trans (if_neg fun h => q0 h.1)
                  have n1 : ((ln2 : Int) == (ln2 : Int) + 1) = false := by rw [beq_eq_false_iff_ne]; omega
                  have n2 : ((ln2 : Int) != (ln2 : Int)) = false := by simp
                  clear q0 HLE2
                  refine Held.takeN 0 (v := ?_) hC rfl (by kernel_rfl) (by kernel_rfl) (by kernel_rfl) rfl (fun _ _ _ h => h) rfl ?_ ?_; rotate_left; · (intro W hW; have k0 : W.cell? ⟨ga, 0, none⟩ = some (.int .i64 d) := hW; go_simp <;> with_reducible rfl)
                  try simp only [Act.put, List.setIfInBounds_toArray, List.set_cons_zero, List.set_cons_succ]
                  refine Held.takeN 2 (v := ?_) hC rfl (by kernel_rfl) (by kernel_rfl) (by kernel_rfl) rfl (fun _ _ _ h => h) rfl ?_ ?_; rotate_left; · (intro W hW; have k0 : W.cell? ⟨ga, 0, none⟩ = some (.int .i64 d) := hW; go_simp <;> with_reducible rfl)
                  try simp only [Act.put, List.setIfInBounds_toArray, List.set_cons_zero, List.set_cons_succ]
                  refine Held.takeN 3 (v := ?_) hC rfl (by kernel_rfl) (by kernel_rfl) (by kernel_rfl) rfl (fun _ _ _ h => h) rfl ?_ ?_; rotate_left; · (intro W hW; have k0 : W.cell? ⟨ga, 0, none⟩ = some (.int .i64 d) := hW; go_simp <;> with_reducible rfl)
                  try simp only [Act.put, List.setIfInBounds_toArray, List.set_cons_zero, List.set_cons_succ]
                  refine Held.takeN 5 (v := ?_) hC rfl (by kernel_rfl) (by kernel_rfl) (by kernel_rfl) rfl (fun _ _ _ h => h) rfl ?_ ?_; rotate_left; · (intro W hW; have k0 : W.cell? ⟨ga, 0, none⟩ = some (.int .i64 d) := hW; go_simp <;> with_reducible rfl)
                  try simp only [Act.put, List.setIfInBounds_toArray, List.set_cons_zero, List.set_cons_succ]
                  refine Held.takeN 6 (v := ?_) hC rfl (by kernel_rfl) (by kernel_rfl) (by kernel_rfl) rfl (fun _ _ _ h => h) rfl ?_ ?_; rotate_left; · (intro W hW; have k0 : W.cell? ⟨ga, 0, none⟩ = some (.int .i64 d) := hW; go_simp <;> with_reducible rfl)
                  try simp only [Act.put, List.setIfInBounds_toArray, List.set_cons_zero, List.set_cons_succ]
                  refine Held.takeN 7 (v := ?_) hC rfl (by kernel_rfl) (by kernel_rfl) (by kernel_rfl) rfl (fun _ _ _ h => h) rfl ?_ ?_; rotate_left; · (intro W hW; have k0 : W.cell? ⟨ga, 0, none⟩ = some (.int .i64 d) := hW; go_simp <;> with_reducible rfl)
                  try simp only [Act.put, List.setIfInBounds_toArray, List.set_cons_zero, List.set_cons_succ]
                  refine Held.onlyG 1 (by kernel_rfl) rfl rfl ?_
                  intro K hK
                  go_simp
                  refine (HLL.out _ HB0.out).mono ?_
                  rintro e u1 ⟨rfl, hb, _⟩
                  have HB1 := Lib.hid hb
                  refine hK.out _ _ (fun _ => FK.out _ hb) ?_
                  clear hK K
                  try simp only [Act.put, List.setIfInBounds_toArray, List.set_cons_zero, List.set_cons_succ]
                  have hC : (fun V : World => V.cell? ⟨ga, 0, none⟩ = some (.int .i64 d)) u1 := FK.out _ HB1.out
                  clear hb
                  refine Held.takeN 4 (v := ?_) hC rfl (by kernel_rfl) (by kernel_rfl) (by kernel_rfl) rfl (fun _ _ _ h => h) rfl ?_ ?_; rotate_left; · (intro W hW; have k0 : W.cell? ⟨ga, 0, none⟩ = some (.int .i64 d) := hW; go_simp <;> with_reducible rfl)
                  try simp only [Act.put, List.setIfInBounds_toArray, List.set_cons_zero, List.set_cons_succ]
                  refine Held.takeN 8 (v := ?_) hC rfl (by kernel_rfl) (by kernel_rfl) (by kernel_rfl) rfl (fun _ _ _ h => h) rfl ?_ ?_; rotate_left; · (intro W hW; have k0 : W.cell? ⟨ga, 0, none⟩ = some (.int .i64 d) := hW; go_simp <;> with_reducible rfl)
                  try simp only [Act.put, List.setIfInBounds_toArray, List.set_cons_zero, List.set_cons_succ]
                  refine Held.skipN 9 hC rfl (by kernel_rfl) (by kernel_rfl) (by kernel_rfl) rfl (fun _ _ _ h => h) rfl ?_
                  try simp only [Act.put, List.setIfInBounds_toArray, List.set_cons_zero, List.set_cons_succ]
                  refine Held.skipN 10 hC rfl (by kernel_rfl) (by kernel_rfl) (by kernel_rfl) rfl (fun _ _ _ h => h) rfl ?_
                  try simp only [Act.put, List.setIfInBounds_toArray, List.set_cons_zero, List.set_cons_succ]
                  refine Held.takeN 11 (v := ?_) hC rfl (by kernel_rfl) (by kernel_rfl) (by kernel_rfl) rfl (fun _ _ _ h => h) rfl ?_ ?_; rotate_left; · (intro W hW; have k0 : W.cell? ⟨ga, 0, none⟩ = some (.int .i64 d) := hW; go_simp <;> with_reducible rfl)
                  try simp only [Act.put, List.setIfInBounds_toArray, List.set_cons_zero, List.set_cons_succ]
                  refine Held.takeN 12 (v := ?_) hC rfl (by kernel_rfl) (by kernel_rfl) (by kernel_rfl) rfl (fun _ _ _ h => h) rfl ?_ ?_; rotate_left; · (intro W hW; have k0 : W.cell? ⟨ga, 0, none⟩ = some (.int .i64 d) := hW; go_simp <;> with_reducible rfl)
                  try simp only [Act.put, List.setIfInBounds_toArray, List.set_cons_zero, List.set_cons_succ]
                  refine Held.takeN 13 (v := ?_) hC rfl (by kernel_rfl) (by kernel_rfl) (by kernel_rfl) rfl (fun _ _ _ h => h) rfl ?_ ?_; rotate_left; · (intro W hW; have k0 : W.cell? ⟨ga, 0, none⟩ = some (.int .i64 d) := hW; go_simp <;> with_reducible rfl)
                  try simp only [Act.put, List.setIfInBounds_toArray, List.set_cons_zero, List.set_cons_succ]
                  refine Held.takeN 14 (v := ?_) hC rfl (by kernel_rfl) (by kernel_rfl) (by kernel_rfl) rfl (fun _ _ _ h => h) rfl ?_ ?_; rotate_left; · (intro W hW; have k0 : W.cell? ⟨ga, 0, none⟩ = some (.int .i64 d) := hW; go_simp <;> with_reducible rfl)
                  try simp only [Act.put, List.setIfInBounds_toArray, List.set_cons_zero, List.set_cons_succ]
                  refine Held.takeN 16 (v := ?_) hC rfl (by kernel_rfl) (by kernel_rfl) (by kernel_rfl) rfl (fun _ _ _ h => h) rfl ?_ ?_; rotate_left; · (intro W hW; have k0 : W.cell? ⟨ga, 0, none⟩ = some (.int .i64 d) := hW; go_simp <;> with_reducible rfl)
                  try simp only [Act.put, List.setIfInBounds_toArray, List.set_cons_zero, List.set_cons_succ]
                  refine Held.onlyG 15 (by kernel_rfl) rfl rfl ?_
                  intro K hK
                  go_simp
                  refine (HLL.out _ HB1.out).mono ?_
                  rintro e u2 ⟨rfl, hb, _⟩
                  have HB2 := Lib.hid hb
                  refine hK.out _ _ (fun _ => FK.out _ hb) ?_
                  clear hK K
                  try simp only [Act.put, List.setIfInBounds_toArray, List.set_cons_zero, List.set_cons_succ]
                  have hC : (fun V : World => V.cell? ⟨ga, 0, none⟩ = some (.int .i64 d)) u2 := FK.out _ HB2.out
                  clear hb
                  refine Held.takeN 17 (v := ?_) hC rfl (by kernel_rfl) (by kernel_rfl) (by kernel_rfl) rfl (fun _ _ _ h => h) rfl ?_ ?_; rotate_left; · (intro W hW; have k0 : W.cell? ⟨ga, 0, none⟩ = some (.int .i64 d) := hW; go_simp <;> with_reducible rfl)
                  try simp only [Act.put, List.setIfInBounds_toArray, List.set_cons_zero, List.set_cons_succ]
                  refine Held.takeN 18 (v := ?_) hC rfl (by kernel_rfl) (by kernel_rfl) (by kernel_rfl) rfl (fun _ _ _ h => h) rfl ?_ ?_; rotate_left; · (intro W hW; have k0 : W.cell? ⟨ga, 0, none⟩ = some (.int .i64 d) := hW; go_simp <;> with_reducible rfl)
                  try simp only [Act.put, List.setIfInBounds_toArray, List.set_cons_zero, List.set_cons_succ]
                  refine Held.skipN 19 hC rfl (by kernel_rfl) (by kernel_rfl) (by kernel_rfl) rfl (fun _ _ _ h => h) rfl ?_
                  try simp only [Act.put, List.setIfInBounds_toArray, List.set_cons_zero, List.set_cons_succ]
                  refine Held.skipN 20 hC rfl (by kernel_rfl) (by kernel_rfl) (by kernel_rfl) rfl (fun _ _ _ h => h) rfl ?_
                  try simp only [Act.put, List.setIfInBounds_toArray, List.set_cons_zero, List.set_cons_succ]
                  refine Held.skipN 21 hC rfl (by kernel_rfl) (by kernel_rfl) (by kernel_rfl) rfl (fun _ _ _ h => h) rfl ?_
                  try simp only [Act.put, List.setIfInBounds_toArray, List.set_cons_zero, List.set_cons_succ]
                  refine Held.skipN 22 hC rfl (by kernel_rfl) (by kernel_rfl) (by kernel_rfl) rfl (fun _ _ _ h => h) rfl ?_
                  try simp only [Act.put, List.setIfInBounds_toArray, List.set_cons_zero, List.set_cons_succ]
                  refine Held.skipN 23 hC rfl (by kernel_rfl) (by kernel_rfl) (by kernel_rfl) rfl (fun _ _ _ h => h) rfl ?_
                  try simp only [Act.put, List.setIfInBounds_toArray, List.set_cons_zero, List.set_cons_succ]
                  refine Held.takeN 24 (v := ?_) hC rfl (by kernel_rfl) (by kernel_rfl) (by kernel_rfl) rfl (fun _ _ _ h => h) rfl ?_ ?_; rotate_left; · (intro W hW; have k0 : W.cell? ⟨ga, 0, none⟩ = some (.int .i64 d) := hW; go_simp <;> with_reducible rfl)
                  try simp only [Act.put, List.setIfInBounds_toArray, List.set_cons_zero, List.set_cons_succ]
                  refine Held.takeN 25 (v := ?_) hC rfl (by kernel_rfl) (by kernel_rfl) (by kernel_rfl) rfl (fun _ _ _ h => h) rfl ?_ ?_; rotate_left; · (intro W hW; have k0 : W.cell? ⟨ga, 0, none⟩ = some (.int .i64 d) := hW; go_simp <;> with_reducible rfl)
                  try simp only [Act.put, List.setIfInBounds_toArray, List.set_cons_zero, List.set_cons_succ]
                  refine Held.done (by kernel_rfl) ?_ _
                  go_wp2_with fail
                  go_meet
                  exact ⟨rfl, HB2⟩
              case rest =>
                obtain ⟨rfl, HB9⟩ := hcut
                have SF : Hid (∃ L : List Tk, Sep (fun _ => False) w wc [ob I.O (.pointer (some a)) (L, 30)]) := ⟨L2, (S10.out.next HB9.out).tail.tail⟩
                have hjz := HJ.out
                clear S10 HLL FK HB0 HB9 HA HLE2
                go_wp2
                go_roundw
                case rel => exact ⟨j + 1, by omega, by go_num, SF⟩
                case measure => simp [intOf]; omega
    · have HB := Lib.hid SL.out.old
      have d0 : decide ((j : Int) < (zs.length : Int)) = false := decide_eq_false (by omega)
      have d1 : decide (j < zs.length) = false := decide_eq_false hlt
      go_wp2
      go_ret
      exact ⟨rfl, HB.out⟩

theorem alone_walk (I : Tb) (A : Option Addr) (len cap : Nat) (zs : List AcT) (w : World) (hlen : len ≤ 9223372036854775807) (hz : ZsIn w A len cap zs) :
    Calls Try.prog 4 #[.slice A len cap] w fun e w' => e = .returned (.bool true) ∧ Below w.heap.size w w' := by
  by_cases hno : len ≤ 100
  · exact alone_main I A len cap zs w hz hno
  · exact alone_easy I A len cap w hlen (by omega)
end Go.Proofs.Ythdipkdolgcmgaa.TaskI
