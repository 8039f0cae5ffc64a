/-
  Scripts as they came in, and the law's own Large, of layer 17. Condition: what the scripts read as.
-/
import Derived.Test.YtolooaahaofflaaDoorRefScrE
namespace Go.Proofs.YtolooaahaofflaaDoor.RefScr
open Go.ChangeShapes Go.WideShapes Go.ChangeAt Go.RowKit Mem MutP CodeP ScriptP Hand RefCode CodeI Scr

/-- A script that came in: its two lists can be read where they are short, and each program where it is. -/
def ScIn (w : World) (q : Sv) (qs : List (Pl In)) (xs : List It) : Prop :=
  (q.pn ≤ q.pc ∧ q.xn ≤ q.xc) ∧ (In64 q.r0 ∧ In64 q.r1 ∧ In64 q.r2 ∧ In64 q.r3) ∧
  (q.pn ≤ 1000000 → qs.length = q.pn ∧ RdL plE w (fun b => b < w.heap.size) (.slice q.pA q.pn q.pc) qs ∧ ∀ p ∈ qs, p.l.length ≤ p.c ∧ (p.l.length ≤ 1000000 → RdL inE w (fun b => b < w.heap.size) p.v p.l ∧ ∀ x ∈ p.l, InIn x)) ∧
  (q.xn ≤ 1000000 → xs.length = q.xn ∧ RdL itE w (fun b => b < w.heap.size) (.slice q.xA q.xn q.xc) xs ∧ ∀ x ∈ xs, InIt x)
/-- Is it more than is looked at? -/
def largeB (q : Sv) (qs : List (Pl In)) : Bool := decide (20 < q.pn) || decide (220 < q.xn) || qs.any fun p => decide (60 < p.l.length)
/-- What it reads as. -/
def scIn (q : Sv) (qs : List (Pl In)) (xs : List It) : Sc := ⟨[q.r0, q.r1, q.r2, q.r3], qs.map Pl.l, xs⟩
theorem small_in {w : World} {q : Sv} {qs : List (Pl In)} {xs : List It} (h : ScIn w q qs xs) (hl : largeB q qs = false) : RdS w (fun b => b < w.heap.size) q (scIn q qs xs) ∧ Small (scIn q qs xs) ∧ InSc (scIn q qs xs) := by
  obtain ⟨⟨f1, f2⟩, ⟨i0, i1, i2, i3⟩, hp, hx⟩ := h
  unfold largeB at hl
  simp only [Bool.or_eq_false_iff, decide_eq_false_iff_not] at hl
  obtain ⟨⟨l1, l2⟩, l3⟩ := hl
  obtain ⟨p1, p2, p3⟩ := hp (by omega)
  obtain ⟨x1, x2, x3⟩ := hx (by omega)
  have hs : ∀ p ∈ qs, p.l.length ≤ 60 := fun p hm => by
    have := List.any_eq_false.1 l3 p hm
    simp only [decide_eq_true_eq] at this
    omega
  refine ⟨⟨rfl, ⟨qs, rfl, p2, fun p hm => ⟨(p3 p hm).1, ((p3 p hm).2 (by have := hs p hm; omega)).1⟩⟩, x2, f1, f2⟩, ⟨?_, ?_, ?_⟩, rfl, ?_, ?_, x3⟩
  · show (qs.map Pl.l).length ≤ 20
    rw [List.length_map]; omega
  · intro p hm
    obtain ⟨z, hz, rfl⟩ := List.mem_map.1 hm
    exact hs z hz
  · show xs.length ≤ 220
    omega
  · intro x hx
    have hx : x ∈ [q.r0, q.r1, q.r2, q.r3] := hx
    simp at hx
    rcases hx with rfl | rfl | rfl | rfl <;> assumption
  · intro p hm
    obtain ⟨z, hz, rfl⟩ := List.mem_map.1 hm
    exact ((p3 z hz).2 (by have := hs z hz; omega)).2

set_option maxRecDepth 100000 in
set_option maxHeartbeats 2000000 in
theorem large_s {w wk : World} {q : Sv} {qs : List (Pl In)} {xs : List It} (h : ScIn w q qs xs) (hb : Below w.heap.size w wk) :
    Calls Tryd.prog 7 #[.agg q.arr] wk fun e w' => e = .returned (.bool (largeB q qs)) ∧ Below wk.heap.size wk w' := by
  obtain ⟨r0, r1, r2, r3, pA, pn, pc, xA, xn, xc⟩ := q
  obtain ⟨_, _, hp, _⟩ := h
  unfold Sv.arr
  simp only at *
  have HB : Hid (Below wk.heap.size wk (wk.alloc (.cells #[.int .i64 r0, .int .i64 r1, .int .i64 r2, .int .i64 r3, .slice pA pn pc, .slice xA xn xc] 28))) := new_below0 wk _
  obtain ⟨r, hr⟩ : ∃ r, largeB ⟨r0, r1, r2, r3, pA, pn, pc, xA, xn, xc⟩ qs = r := ⟨_, rfl⟩
  have HR : Hid ((decide (20 < pn) || decide (220 < xn) || qs.any fun p => decide (60 < p.l.length)) = r) := hr
  rw [hr]
  clear hr
  by_cases h1 : 20 < pn
  · have HF : Hid (r = true) := HR.out.symm.trans (by rw [decide_eq_true h1]; rfl)
    have d0 : decide ((pn : Int) > 20) = true := decide_eq_true (by omega)
    have d1 : decide (20 < pn) = true := decide_eq_true h1
    clear h1 hp HR
    go_enter Tryd.func7, Tryd.ntmps7
    go_wp2
    go_ret
    exact ⟨ret_bool HF.out.symm, HB.out⟩
  by_cases h2 : 220 < xn
  · have HF : Hid (r = true) := HR.out.symm.trans (by rw [decide_eq_false h1, decide_eq_true h2]; rfl)
    have d0 : decide ((pn : Int) > 20) = false := decide_eq_false (by omega)
    have d1 : decide (20 < pn) = false := decide_eq_false h1
    have d2 : decide ((xn : Int) > 220) = true := decide_eq_true (by omega)
    have d3 : decide (220 < xn) = true := decide_eq_true h2
    clear h1 h2 hp HR
    go_enter Tryd.func7, Tryd.ntmps7
    go_wp2
    go_ret
    exact ⟨ret_bool HF.out.symm, HB.out⟩
  obtain ⟨p1, p2, p3⟩ := hp (by omega)
  have HP : Hid (RdL plE (wk.alloc (.cells #[.int .i64 r0, .int .i64 r1, .int .i64 r2, .int .i64 r3, .slice pA pn pc, .slice xA xn xc] 28)) (fun b => b < w.heap.size) (.slice pA pn pc) qs) := (p2.below hb).alloc _
  have HL := Lib.hid p1
  rw [decide_eq_false h1, decide_eq_false h2] at HR
  have d0 : decide ((pn : Int) > 20) = false := decide_eq_false (by omega)
  have d1 : decide (20 < pn) = false := decide_eq_false h1
  have d2 : decide ((xn : Int) > 220) = false := decide_eq_false (by omega)
  have d3 : decide (220 < xn) = false := decide_eq_false h2
  have bpn : pn ≤ 20 := by omega
  clear h1 h2 hp p1 p2 p3 hb
  go_enter Tryd.func7, Tryd.ntmps7
  go_wp2
  clear d0 d1 d2 d3
  go_loopw [18] (fun v wr => ∃ i : Nat, i ≤ pn ∧ v = .int .i64 (i : Int) ∧ wr = wk.alloc (.cells #[.int .i64 r0, .int .i64 r1, .int .i64 r2, .int .i64 r3, .slice pA pn pc, .slice xA xn xc] 28) ∧ Hid ((qs.take i).any (fun p => decide (60 < p.l.length)) = false)) (fun v _ => pn - (intOf v).toNat)
  case atStart => exact ⟨0, Nat.zero_le _, rfl, rfl, by show List.any _ _ = _; simp⟩
  case round =>
    obtain ⟨i, hi, rfl, rfl, HA⟩ := hrel
    rcases (by omega : i < pn ∨ pn ≤ i) with h4 | h4
    · obtain ⟨p, hpi⟩ : ∃ p, qs[i]? = some p := ⟨_, List.getElem?_eq_getElem (by rw [HL.out]; exact h4)⟩
      obtain ⟨b, off, rfl, _, _, hc⟩ := HP.out.at_ hpi
      have e0 := hc 0 _ rfl
      rw [show off + (i * plE.sz + 0) = off + i by show off + (i * 1 + 0) = _; omega] at e0
      have HT : Hid (qs.take (i + 1) = qs.take i ++ [p]) := take_snocI _ i p hpi
      have HME : Hid (p ∈ qs) := List.mem_of_getElem? hpi
      obtain ⟨pa, pcc, pl⟩ := p
      obtain ⟨m, hm⟩ : ∃ m, pl.length = m := ⟨_, rfl⟩
      have HMM := Lib.hid hm
      have e1 : (wk.alloc (.cells #[.int .i64 r0, .int .i64 r1, .int .i64 r2, .int .i64 r3, .slice (some ⟨b, off, none⟩) pn pc, .slice xA xn xc] 28)).cell? ⟨b, off + i, none⟩ = some (.slice pa m pcc) := by rw [e0, ← hm]; rfl
      have i0 : (0 : Int) ≤ (i : Int) := by omega
      have i1 : (i : Int) < (pn : Int) := by omega
      have d0 : decide ((i : Int) < (pn : Int)) = true := decide_eq_true i1
      have d1 : decide (i < pn) = true := decide_eq_true h4
      clear hpi hc e0 hm
      rcases (by omega : 60 < m ∨ m ≤ 60) with hm | hm
      · have HF : Hid (r = true) := HR.out.symm.trans (by
          rw [List.any_eq_true.2 ⟨_, HME.out, by simp only [decide_eq_true_eq]; rw [HMM.out]; exact hm⟩]; rfl)
        have d2 : decide ((m : Int) > 60) = true := decide_eq_true (by omega)
        have d3 : decide (60 < m) = true := decide_eq_true hm
        clear hm
        go_wp2
        go_ret
        exact ⟨ret_bool HF.out.symm, HB.out⟩
      · have HA2 : Hid ((qs.take (i + 1)).any (fun p => decide (60 < p.l.length)) = false) := by
          show _ = _
          rw [HT.out, List.any_append, HA.out]
          simp only [List.any_cons, List.any_nil, Bool.or_false, Bool.false_or, decide_eq_false_iff_not]
          rw [HMM.out]; omega
        have d2 : decide ((m : Int) > 60) = false := decide_eq_false (by omega)
        have d3 : decide (60 < m) = false := decide_eq_false (by omega)
        clear hm
        go_wp2
        go_roundw
        case rel => exact ⟨i + 1, by omega, by go_num, by first | rfl | trivial, HA2⟩
        case measure => simp [intOf]; omega
    · have HF : Hid (r = false) := HR.out.symm.trans (by
        have := HA.out
        rw [List.take_of_length_le (by rw [HL.out]; exact h4)] at this
        rw [this]; rfl)
      have d0 : decide ((i : Int) < (pn : Int)) = false := decide_eq_false (by omega)
      have d1 : decide (i < pn) = false := decide_eq_false (by omega)
      go_wp2
      go_ret
      exact ⟨ret_bool HF.out.symm, HB.out⟩
end Go.Proofs.YtolooaahaofflaaDoor.RefScr
