/-
  Contracts of the functions of package countermandref16 (the document's answer for layer 16), second part: May, Eight, Num, SameBytes, Same; the law's own Own. Condition: what the slices read as.
-/
import Derived.Test.YtolooaahaofflaaDoorRefCode
namespace Go.Proofs.YtolooaahaofflaaDoor.CodeP
open Go.ChangeShapes Go.WideShapes Go.ChangeAt Go.RowKit Mem MutP
theorem bytesOf_front : ∀ (k : Nat) (m : Int), bytesOf (k + 1) m = (m / 256 ^ k) % 256 :: bytesOf k m
  | 0, m => by
    show [] ++ [m % 256] = _
    simp [bytesOf]
  | k + 1, m => by
    have ih := bytesOf_front k (m / 256)
    show bytesOf (k + 1) (m / 256) ++ [m % 256] = _
    rw [ih, List.cons_append]
    have e : m / 256 / 256 ^ k = m / 256 ^ (k + 1) := by rw [Int.pow_succ, Int.mul_comm, ← Int.ediv_ediv_of_nonneg (by omega)]
    rw [e]
    rfl
end Go.Proofs.YtolooaahaofflaaDoor.CodeP
namespace Go.Proofs.YtolooaahaofflaaDoor.RefCode
open Go.ChangeShapes Go.WideShapes Go.ChangeAt Go.RowKit Mem MutP CodeP Hand

theorem take_snocI {α : Type} (l : List α) (i : Nat) (x : α) (h : l[i]? = some x) : l.take (i + 1) = l.take i ++ [x] := by rw [List.take_add_one, h]; rfl

set_option maxRecDepth 100000 in
set_option maxHeartbeats 1000000 in
theorem may_c {w : World} {G : Nat → Prop} {A : Option Addr} {c : Nat} {l : List In} (h : RdL inE w G (.slice A l.length c) l) :
    Calls Tryd.prog 34 #[.slice A l.length c] w fun e w' => e = .returned (.bool (mayB l)) ∧ Below w.heap.size w w' := by
  have hm := h.le
  have HR := Lib.hid h
  obtain ⟨n, hn⟩ : ∃ n, l.length = n := ⟨_, rfl⟩
  have HN := Lib.hid hn
  rw [hn] at hm ⊢
  clear h hn
  go_enter Tryd.func34, Tryd.ntmps34
  go_wp2
  go_loopw [3] (fun u wr => ∃ i : Nat, i ≤ n ∧ u = .int .i64 i ∧ Hid (∀ x ∈ l.take i, rightB x n = true) ∧ Hid (Below w.heap.size w wr)) (fun u _ => n - (intOf u).toNat)
  case atStart => exact ⟨0, Nat.zero_le _, rfl, by show ∀ x ∈ _, _; simp, Below.refl _ _⟩
  case round =>
    obtain ⟨i, hi, rfl, HA, HB⟩ := hrel
    by_cases hlt : i < n
    · obtain ⟨x, hx⟩ : ∃ x, l[i]? = some x := ⟨_, List.getElem?_eq_getElem (by rw [HN.out]; exact hlt)⟩
      have HT : Hid (l.take (i + 1) = l.take i ++ [x]) := take_snocI l i x hx
      have HMEM : Hid (x ∈ l) := List.mem_of_getElem? hx
      obtain ⟨b, off, rfl, hb, c0, c1, c2, c3⟩ := in_at (n := l.length) HR.out hx
      have q0 := (HB.out.cell (p := ⟨b, off + i * 4, none⟩) hb).trans c0
      have q1 := (HB.out.cell (p := ⟨b, off + i * 4 + 1, none⟩) hb).trans c1
      have q2 := (HB.out.cell (p := ⟨b, off + i * 4 + 2, none⟩) hb).trans c2
      have q3 := (HB.out.cell (p := ⟨b, off + i * 4 + 3, none⟩) hb).trans c3
      have i0 : (0 : Int) ≤ (i : Int) := by omega
      have i1 : (i : Int) < (n : Int) := by omega
      have HC := Lib.hid (right_c x n wr)
      clear hx c0 c1 c2 c3
      cases hr : rightB x n with
      | true =>
        rw [hr] at HC
        have HA2 : Hid (∀ x ∈ l.take (i + 1), rightB x n = true) := by
          intro y hy
          rw [HT.out] at hy
          rcases List.mem_append.1 hy with hy | hy
          · exact HA.out y hy
          · rw [List.mem_singleton] at hy; subst hy; exact hr
        clear hr
        go_wp2_with fail
        refine HC.out.mono ?_
        rintro e w2 ⟨rfl, h2⟩
        have HB2 : Hid (Below w.heap.size w w2) := HB.out.trans (h2.mono HB.out.size)
        clear h2 q0 q1 q2 q3
        go_wp2
        go_roundw
        case rel => exact ⟨i + 1, by omega, by go_num, HA2, HB2⟩
        case measure => simp [intOf]; omega
      | false =>
        rw [hr] at HC
        have HE : Hid (mayB l = false) := by
          show _ = _
          rw [Bool.eq_false_iff]
          intro hm2
          have := (may_iff.1 hm2).1 x HMEM.out
          rw [HN.out, hr] at this
          cases this
        clear hr
        go_wp2_with fail
        refine HC.out.mono ?_
        rintro e w2 ⟨rfl, h2⟩
        have HB2 : Hid (Below w.heap.size w w2) := HB.out.trans (h2.mono HB.out.size)
        clear h2 q0 q1 q2 q3
        go_wp2
        go_ret
        exact ⟨ret_bool HE.out.symm, HB2.out⟩
    · have HE : Hid (mayB l = decide (1 ≤ n ∧ n ≤ 24)) := by
        have h1 := HA.out
        rw [List.take_of_length_le (by rw [HN.out]; omega)] at h1
        show _ = _
        unfold mayB
        rw [HN.out, List.all_eq_true.2 fun x hx => h1 x hx]
        rfl
      rcases (by omega : n < 1 ∨ (1 ≤ n ∧ n ≤ 24) ∨ (1 ≤ n ∧ 24 < n)) with h1 | ⟨h1, h2⟩ | ⟨h1, h2⟩
      · have HF : Hid (mayB l = false) := HE.out.trans (decide_eq_false (by omega))
        have d0 : decide (1 ≤ (n : Int)) = false := decide_eq_false (by omega)
        clear HE
        go_wp2
        go_ret
        exact ⟨ret_bool HF.out.symm, HB.out⟩
      · have HF : Hid (mayB l = true) := HE.out.trans (decide_eq_true ⟨h1, h2⟩)
        have d0 : decide ((n : Int) ≤ 24) = true := decide_eq_true (by omega)
        clear HE
        go_wp2
        go_ret
        exact ⟨ret_bool HF.out.symm, HB.out⟩
      · have HF : Hid (mayB l = false) := HE.out.trans (decide_eq_false (by omega))
        have d0 : decide ((n : Int) ≤ 24) = false := decide_eq_false (by omega)
        clear HE
        go_wp2
        go_ret
        exact ⟨ret_bool HF.out.symm, HB.out⟩

/-- 'make([]byte, n)'. -/
theorem wpList_makeB {P : Program} {ops : Array Oper} {rest : List Oper} {o : Oper} {a : Act} {Q : Exit → Act → World → Prop}
    (hg : o.guard = none) (l c : Operand) {t e : TypeId} (ht : P.underlying t = some (.slice e)) (hi : (P.info? e).map (fun i => (i.zero, i.size, i.bytes)) = some (some (.int .u8 0), 1, 1)) (hop : o.op = Op.makeSlice t l c)
    (n : Nat) (hl : a.eval l = .int .i64 (n : Int)) (hc : a.eval c = .int .i64 (n : Int)) (hn : n ≤ 100000)
    {B : Nat → Prop} {w wk : World} {Rs : List Res} (h : Sep B w wk Rs)
    (hK : ∀ wn, Sep B w wn (grow byE e (.slice (some ⟨wk.heap.size, 0, none⟩) n n) (List.replicate n 0) :: Rs) → wpList P ops Q rest (a.put o.dst (.slice (some ⟨wk.heap.size, 0, none⟩) n n)) wn) :
    wpList P ops Q (o :: rest) a wk := by
  obtain ⟨i, h2, h3, h4, h5⟩ := info_parts hi
  refine wpList_plain hg fun K hK' => ?_
  have hr := run_make (P := P) wk t e i (.int .u8 0) ht h2 h3 .i64 .i64 n n (by omega) (Int.le_refl _) (by rw [h5]; omega) (by omega)
  simp only [Int.toNat_natCast] at hr
  rw [h4] at hr
  have hm : (madeCells (Value.int .u8 0).cells (n * 1)).toList = (List.replicate n (0 : Int)).flatMap byE.cells := by
    have h6 := toList_madeCells_one (.int .u8 0) n
    have h7 : ∀ xs : List Int, xs.flatMap byE.cells = xs.map (Value.int .u8) := fun xs => by
      induction xs with
      | nil => rfl
      | cons x xs ih => rw [List.flatMap_cons, ih]; rfl
    rw [h7, Nat.mul_one, List.map_replicate]
    exact h6
  have ho := World.ownsRow_lit (e := e) (size := 1) (base := 0) wk (madeCells (Value.int .u8 0).cells (n * 1)) n (Nat.zero_le _) (by unfold maxLen; omega) (size_madeCells _ _)
  rw [hm] at ho
  unfold Oper.wp
  simp [execOp, hop, hl, hc, hr, Result.andThen]
  refine hK' _ _ (hK _ ?_)
  refine h.add (new_below0 wk _) (R := grow byE e (.slice (some ⟨wk.heap.size, 0, none⟩) n n) (List.replicate n 0)) ⟨?_, rfl⟩ fun k hk => ?_
  · show World.ownsRow _ _ _ _ _ (List.replicate n (0 : Int)).length _
    rw [List.length_replicate]
    rw [Nat.mul_one] at ho
    exact ho
  · simp [Value.ownBlock] at hk
    omega

end Go.Proofs.YtolooaahaofflaaDoor.RefCode
