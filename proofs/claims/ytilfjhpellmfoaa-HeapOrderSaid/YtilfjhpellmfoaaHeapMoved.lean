/-
  The walk of the law HeapMoved over any package that meets 'Heap': it returns true and leaves old memory as it was. Conditions: none but 'Heap'.
-/
import Derived.Test.YtilfjhpellmfoaaHeapS
namespace Go.Proofs.Ytilfjhpellmfoaa.HeapI
open Go.ChangeShapes Go.WideShapes Go.ChangeAt Go.RowKit Mem RefHeap Hand

/-- An act, as it lies in a slice. -/
def actE : Enc (Int × Ent) := ⟨4, fun x => [.int .i64 x.1, .int .i64 x.2.id, .int .i64 x.2.at_, .int .i64 x.2.seq], fun _ => rfl, by intro a u hu; simp at hu; rcases hu with rfl | rfl | rfl | rfl <;> rfl, by omega⟩
theorem act_cells {w : World} {G : Nat → Prop} {A : Option Addr} {n c : Nat} {L : List (Int × Ent)} (h : RdL actE w G (.slice A n c) L) {i : Nat} {a : Int × Ent} (hi : L[i]? = some a) :
    ∃ b off, A = some ⟨b, off, none⟩ ∧ G b ∧ b < w.heap.size ∧ w.cell? ⟨b, off + i * 4, none⟩ = some (.int .i64 a.1) ∧ w.cell? ⟨b, off + i * 4 + 1, none⟩ = some (.int .i64 a.2.id) ∧ w.cell? ⟨b, off + i * 4 + 2, none⟩ = some (.int .i64 a.2.at_) ∧ w.cell? ⟨b, off + i * 4 + 3, none⟩ = some (.int .i64 a.2.seq) := by
  obtain ⟨b, off, hA, hg, hb, hc⟩ := h.at_ hi
  exact ⟨b, off, hA, hg, hb, hc 0 _ rfl, hc 1 _ rfl, hc 2 _ rfl, hc 3 _ rfl⟩

section
variable {I : Heap} {B : Nat → Prop} {w wk : World} {Rs : List Res} {v : Value} {L : List Ent} {N : Int}
theorem s_do (h : Sep B w wk Rs) (i : Nat) (hi : Rs[i]? = some (hp I v L N)) (d : Int) (x : Ent) (hx : EntIn x) :
    Calls Try.prog 10 #[v, .agg #[.int .i64 d, .int .i64 x.id, .int .i64 x.at_, .int .i64 x.seq]] wk fun e wn => e = .returned (.tuple #[.int .i64 (doE L N d x), .bool (doB L d x), (doX L d x).val]) ∧ Sep B w wn (Rs.set i (hp I v (doH L N d x) N)) :=
  s_after h i hi fun _ ha => do_any I ha d x hx
end

theorem put_back {L : List Ent} {N id : Int} (hok : Ok L N) (hg : getB L id = true) (t : Int) : putHE (dropH L id) N { getE L id with at_ := t } = 0 := by
  unfold getB at hg
  rw [Option.isSome_iff_exists] at hg
  obtain ⟨a, ha⟩ := hg
  have hid : a.id = id := by simpa using List.find?_some ha
  have hm := hok.ids a (List.mem_of_find?_eq_some ha)
  have e : getE L id = a := by unfold getE; rw [ha]; rfl
  have hno : getB (dropH L id) id = false := by
    unfold getB dropH
    rw [Option.isSome_eq_false_iff, Option.isNone_iff_eq_none, List.find?_eq_none]
    intro y hy
    have := (List.mem_filter.1 hy).2
    simpa using this
  unfold putHE
  simp only [e, hid]
  rw [if_pos (by omega), hno]
  rfl
theorem getE_in {L : List Ent} {N id : Int} (hok : Ok L N) (hg : getB L id = true) : EntIn (getE L id) := by
  unfold getB at hg
  rw [Option.isSome_iff_exists] at hg
  obtain ⟨a, ha⟩ := hg
  have e : getE L id = a := by unfold getE; rw [ha]; rfl
  rw [e]
  exact hok.ins a (List.mem_of_find?_eq_some ha)

set_option maxHeartbeats 4000000 in
set_option maxRecDepth 100000 in
theorem moved_walk (I : Heap) (A : Option Addr) (len cap : Nat) (zs : List (Int × Ent)) (id t : Int) (w : World) (hlen : len ≤ 9223372036854775807) (hid : In64 id) (ht : In64 t)
    (hz : len ≤ 1000000 → zs.length = len ∧ RdL actE w (fun b => b < w.heap.size) (.slice A len cap) zs ∧ ∀ z ∈ zs, EntIn z.2) :
    Calls Try.prog 6 #[.slice A len cap, .int .i64 id, .int .i64 t] w fun e w' => e = .returned (.bool true) ∧ Below w.heap.size w w' := by
  have HZ := Lib.hid hz
  have HID := Lib.hid hid
  have HT := Lib.hid ht
  clear hz hid ht
  by_cases h120 : len ≤ 120
  · obtain ⟨hzl, hzr, hzo⟩ := HZ.out (by omega)
    have HZL := Lib.hid hzl
    have HZR := Lib.hid hzr
    have HZO := Lib.hid hzo
    clear hzl hzr hzo HZ
    go_enter Try.func6, Try.ntmps6
    go_wp2_with fail
    refine (awake_any I _).mono ?_
    rintro e w1 ⟨rfl, hb1⟩
    have S1 := Lib.hid ((Sep.nil (fun _ => False) w).next hb1)
    clear hb1
    go_wp2_with fail
    refine (s_new S1.out I 60 (by omega) (by omega)).mono ?_
    rintro e w2 ⟨a, rfl, h2⟩
    have S2 := Lib.hid h2
    clear h2 S1
    go_wp2_with fail
    refine (s_new S2.out I 60 (by omega) (by omega)).mono ?_
    rintro e w3 ⟨b, rfl, h3⟩
    have S3 := Lib.hid h3
    clear h3 S2
    go_wp2
    go_loopw [36, 12] (fun u _ wr => ∃ j : Nat, j ≤ len ∧ u = .int .i64 j ∧ Hid (∃ L, Sep (fun _ => False) w wr [hp I (.pointer (some b)) L 60, hp I (.pointer (some a)) L 60])) (fun u _ _ => len - (intOf u).toNat)
    case atStart => exact ⟨0, Nat.zero_le _, rfl, _, S3.out⟩
    case round =>
      obtain ⟨j, hj, rfl, HS⟩ := hrel
      obtain ⟨L, hS⟩ := HS.out
      have SL := Lib.hid hS
      clear HS hS S3
      by_cases hlt : j < len
      · have hx : zs[j]? = some (zs[j]'(by rw [HZL.out]; exact hlt)) := List.getElem?_eq_getElem _
        generalize zs[j]'(by rw [HZL.out]; exact hlt) = z at hx
        have hze := HZO.out z (List.mem_of_getElem? hx)
        have HE := Lib.hid hze
        obtain ⟨bb, off, rfl, _, hbb, c0, c1, c2, c3⟩ := act_cells HZR.out hx
        have hb := SL.out.old
        have q0 := (hb.cell (p := ⟨bb, off + j * 4, none⟩) hbb).trans c0
        have q1 := (hb.cell (p := ⟨bb, off + j * 4 + 1, none⟩) hbb).trans c1
        have q2 := (hb.cell (p := ⟨bb, off + j * 4 + 2, none⟩) hbb).trans c2
        have q3 := (hb.cell (p := ⟨bb, off + j * 4 + 3, none⟩) hbb).trans c3
        obtain ⟨d, x⟩ := z
        have S4 := Lib.hid (SL.out.new (.cells #[.int .i64 d, .int .i64 x.id, .int .i64 x.at_, .int .i64 x.seq] 34))
        clear hx hze c0 c1 c2 c3 hb SL
        go_wp2_with fail
        refine (s_do S4.out 2 rfl d x HE.out).mono ?_
        rintro e w5 ⟨rfl, h5⟩
        have S5 := Lib.hid h5
        have hbk := h5.blk_at 0 rfl
        have g0 := (cell_block hbk 0).trans rfl
        have g1 := (cell_block hbk 1).trans rfl
        have g2 := (cell_block hbk 2).trans rfl
        have g3 := (cell_block hbk 3).trans rfl
        clear h5 hbk S4
        go_wp2_with fail
        refine (s_do S5.out 1 rfl d x HE.out).mono ?_
        rintro e w6 ⟨rfl, h6⟩
        have S6 : Hid (∃ L, Sep (fun _ => False) w w6 [hp I (.pointer (some b)) L 60, hp I (.pointer (some a)) L 60]) := ⟨_, h6.tail⟩
        clear h6 S5 g0 g1 g2 g3
        go_wp2
        go_roundw
        case rel => exact ⟨j + 1, by omega, by go_num, S6⟩
        case measure => simp [intOf]; omega
      · have hok := s_ok SL.out 0 rfl
        have HOK := Lib.hid hok
        clear hok
        go_wp2_with fail
        refine (s_get SL.out 0 rfl id HID.out).mono ?_
        rintro e w5 ⟨rfl, h5⟩
        have hlen1 : L.length ≤ 1000 := HOK.out.len
        cases hg : getB L id with
        | true =>
          have HG := Lib.hid hg
          clear hg
          have HGE := Lib.hid (getE_in HOK.out HG.out)
          have HPB := Lib.hid (put_back HOK.out HG.out t)
          have HMV : Hid (moveH L 60 id t = putH (dropH L id) 60 { getE L id with at_ := t }) := by show _ = _; unfold moveH; rw [if_pos HG.out]
          generalize getE L id = x at *
          have S5 := Lib.hid (h5.new (.cells #[.int .i64 x.id, .int .i64 x.at_, .int .i64 x.seq] 32))
          clear h5 SL
          simp only [Ent.val]
          go_wp2_with fail
          refine (s_move S5.out 2 rfl id t HID.out HT.out HG.out HMV.out).mono ?_
          rintro e w6 ⟨rfl, h6⟩
          have S6 := Lib.hid (h6.set 0 rfl 1 (.int .i64 t))
          obtain ⟨c0, c1, c2, f0, f1, f2⟩ := box_cells h6 0 rfl
          clear h6 S5
          go_wp2_with fail
          refine (s_drop S6.out 1 rfl id HID.out HG.out rfl).mono ?_
          rintro e w7 ⟨rfl, h7⟩
          have S7 := Lib.hid h7
          obtain ⟨c0, c1, c2, _⟩ := box_cells h7 0 rfl
          clear h7 S6 f0 f1 f2
          go_wp2_with fail
          refine (s_put S7.out 1 rfl { x with at_ := t } ⟨HGE.out.1, HT.out, HGE.out.2.2⟩ HPB.out rfl).mono ?_
          rintro e w8 ⟨rfl, h8⟩
          generalize hL2 : putH (dropH L id) 60 { x with at_ := t } = L2 at *
          have HL2 := Lib.hid hL2
          have hlen2 : L2.length ≤ 1000 := (s_ok h8 1 rfl).len
          have S9 := Lib.hid h8
          clear h8 S7 hL2 c0 c1 c2
          go_wp2_with fail
          refine (s_all S9.out 2 rfl).mono ?_
          rintro e w10 ⟨A1, k1, rfl, h10, r10⟩
          have S10 := Lib.hid h10
          have R10 := Lib.hid r10
          clear h10 r10 S9
          go_wp2_with fail
          refine (s_own S10.out R10.out (by omega)).mono ?_
          rintro e w11 ⟨A2, k2, rfl, h11⟩
          have S11 := Lib.hid h11
          clear h11 S10 R10
          go_wp2_with fail
          refine (s_all S11.out 2 rfl).mono ?_
          rintro e w12 ⟨A3, k3, rfl, h12, r12⟩
          have S12 := Lib.hid h12
          have R12 := Lib.hid r12
          clear h12 r12 S11
          go_wp2_with fail
          refine (s_own S12.out R12.out (by omega)).mono ?_
          rintro e w13 ⟨A4, k4, rfl, h13⟩
          have S13 := Lib.hid h13
          clear h13 S12 R12
          go_wp2_with fail
          refine (same_any (S13.out.rdL 1 rfl) (S13.out.rdL 0 rfl)).mono ?_
          rintro e w14 ⟨rfl, n14, rfl⟩
          have hdt : decide (L2 = L2) = true := by simp
          rw [hdt]
          clear hdt
          have HB := Lib.hid (S13.out.drewN n14).old
          clear S13
          go_wp2
          go_ret
          exact ⟨rfl, HB.out⟩
        | false =>
          have HG := Lib.hid hg
          clear hg
          have HMV : Hid (moveH L 60 id t = L) := by show _ = _; unfold moveH; rw [if_neg (by rw [HG.out]; decide)]
          generalize getE L id = x at *
          have S5 := Lib.hid (h5.new (.cells #[.int .i64 x.id, .int .i64 x.at_, .int .i64 x.seq] 32))
          clear h5 SL
          simp only [Ent.val]
          go_wp2_with fail
          refine (s_move S5.out 2 rfl id t HID.out HT.out HG.out HMV.out).mono ?_
          rintro e w6 ⟨rfl, h6⟩
          have S6 := Lib.hid h6
          clear h6 S5
          go_wp2_with fail
          refine (s_all S6.out 2 rfl).mono ?_
          rintro e w10 ⟨A1, k1, rfl, h10, r10⟩
          have S10 := Lib.hid h10
          have R10 := Lib.hid r10
          clear h10 r10 S6
          go_wp2_with fail
          refine (s_own S10.out R10.out (by omega)).mono ?_
          rintro e w11 ⟨A2, k2, rfl, h11⟩
          have S11 := Lib.hid h11
          clear h11 S10 R10
          go_wp2_with fail
          refine (s_all S11.out 2 rfl).mono ?_
          rintro e w12 ⟨A3, k3, rfl, h12, r12⟩
          have S12 := Lib.hid h12
          have R12 := Lib.hid r12
          clear h12 r12 S11
          go_wp2_with fail
          refine (s_own S12.out R12.out (by omega)).mono ?_
          rintro e w13 ⟨A4, k4, rfl, h13⟩
          have S13 := Lib.hid h13
          clear h13 S12 R12
          go_wp2_with fail
          refine (same_any (S13.out.rdL 1 rfl) (S13.out.rdL 0 rfl)).mono ?_
          rintro e w14 ⟨rfl, n14, rfl⟩
          have hdt : decide (L = L) = true := by simp
          rw [hdt]
          clear hdt
          have HB := Lib.hid (S13.out.drewN n14).old
          clear S13
          go_wp2
          go_ret
          exact ⟨rfl, HB.out⟩
  · go_enter Try.func6, Try.ntmps6
    go_wp2_with fail
    refine (awake_any I _).mono ?_
    rintro e w1 ⟨rfl, hb1⟩
    have HB := Lib.hid hb1
    clear hb1
    go_wp2
    go_ret
    exact ⟨rfl, HB.out⟩
end Go.Proofs.Ytilfjhpellmfoaa.HeapI
