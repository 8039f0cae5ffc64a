/-
  What package code does as it landed, fifth part: numberOf (by shifts and ors), a made slice of instructions, instructions. Condition: what the slices read as.
-/
import Derived.Test.YtolooaahaofflaaDoorCdD
namespace Go.Proofs.YtolooaahaofflaaDoor.CdA
open Go.ChangeShapes Go.WideShapes Go.ChangeAt Go.RowKit Mem MutP CodeP Hand RefCode CodeT CodeI

/-- One byte more, by a shift and an or. -/
theorem or_byte (u x : Int) (hx : 0 ≤ x ∧ x ≤ 255) : bits .or .i64 (IntKind.i64.wrap (IntKind.i64.wrap u * 256)) x = IntKind.i64.wrap (256 * u + x) := by
  obtain ⟨y, rfl⟩ := Int.eq_ofNat_of_zero_le hx.1
  obtain ⟨a, ha⟩ := Int.eq_ofNat_of_zero_le (Int.emod_nonneg u (show (72057594037927936 : Int) ≠ 0 by decide))
  obtain ⟨A, hA⟩ : ∃ A, IntKind.i64.wrap (IntKind.i64.wrap u * 256) = A := ⟨_, rfl⟩
  have hAm : A % 18446744073709551616 = ((a * 256 : Nat) : Int) := by
    rw [← hA, IntKind.wrap_i64, IntKind.wrap_i64]
    omega
  have ha2 : (a : Int) < 72057594037927936 := by rw [← ha]; exact Int.emod_lt_of_pos _ (by decide)
  rw [hA]
  have h1 : (BitVec.ofInt 64 A).toNat = a * 256 := by
    rw [BitVec.toNat_ofInt]
    have : (A % ((2 ^ 64 : Nat) : Int)).toNat = a * 256 := by
      rw [show ((2 ^ 64 : Nat) : Int) = 18446744073709551616 by decide, hAm, Int.toNat_natCast]
    exact this
  have h2 : (BitVec.ofInt 64 (y : Int)).toNat = y := by
    rw [BitVec.ofInt_natCast, BitVec.toNat_ofNat]; exact Nat.mod_eq_of_lt (by omega)
  show IntKind.i64.wrap ((BitVec.ofInt 64 A ||| BitVec.ofInt 64 (y : Int)).toNat : Int) = _
  rw [BitVec.toNat_or, h1, h2]
  have h3 : a * 256 ||| y = a * 256 + y := by
    have := Nat.shiftLeft_add_eq_or_of_lt (i := 8) (b := y) (show y < 2 ^ 8 by omega) a
    rw [Nat.shiftLeft_eq] at this
    exact this.symm
  rw [h3, IntKind.wrap_i64, IntKind.wrap_i64]
  omega

set_option maxRecDepth 100000 in
set_option maxHeartbeats 1000000 in
theorem number_l {w : World} {b : List Int} {A : Nat} {off c : Nat} (hl : b.length = 8) (hb : ∀ x ∈ b, Byte x)
    (hc : ∀ (i : Nat) (x : Int), b[i]? = some x → w.cell? ⟨A, off + i, none⟩ = some (.int .u8 x)) :
    Calls Tryd.prog 64 #[.slice (some ⟨A, off, none⟩) 8 c] w fun e w' => e = .returned (.int .i64 (numI b)) ∧ w = w' := by
  have HB := Lib.hid hb
  have HC := Lib.hid hc
  have HL := Lib.hid hl
  clear hb hc hl
  go_enter Tryd.func64, Tryd.ntmps64
  go_wp2
  go_loopw [3, 8] (fun u v wr => ∃ i : Nat, i ≤ 8 ∧ v = .int .i64 (i : Int) ∧ u = .int .i64 (IntKind.i64.wrap (numU (b.take i))) ∧ w = wr) (fun _ v _ => (8 - intOf v).toNat)
  case atStart => exact ⟨0, by omega, rfl, rfl, rfl⟩
  case round =>
    obtain ⟨i, hi, rfl, rfl, rfl⟩ := hrel
    rcases (by omega : i = 8 ∨ i < 8) with h8 | h8
    · have HE : Hid (IntKind.i64.wrap (numU (b.take i)) = numI b) := by
        obtain ⟨h1, h2⟩ := numU_in HB.out (i := i) (by omega) (by rw [HL.out]; omega)
        subst h8
        have e8 : (256 : Int) ^ 8 = 18446744073709551616 := by decide
        rw [e8] at h2
        show _ = _
        rw [IntKind.wrap_i64]
        unfold numI low64
        split <;> omega
      obtain ⟨u, hu⟩ : ∃ u, IntKind.i64.wrap (numU (b.take i)) = u := ⟨_, rfl⟩
      have HU := Lib.hid hu
      rw [hu]
      clear hu
      have d0 : decide ((i : Int) < 8) = false := decide_eq_false (by omega)
      go_wp2
      go_ret
      exact ⟨by rw [← HE.out, HU.out]; rfl, rfl⟩
    · obtain ⟨x, hx⟩ : ∃ x, b[i]? = some x := ⟨_, List.getElem?_eq_getElem (by rw [HL.out]; exact h8)⟩
      have hx0 : 0 ≤ x ∧ x ≤ 255 := HB.out x (List.mem_of_getElem? hx)
      have q := HC.out i x hx
      have HOR := Lib.hid (or_byte (numU (b.take i)) x hx0)
      rw [← numU_take hx] at HOR
      obtain ⟨u, hu⟩ : ∃ u, IntKind.i64.wrap (numU (b.take i)) = u := ⟨_, rfl⟩
      rw [hu] at HOR ⊢
      obtain ⟨p, hp⟩ : ∃ p, IntKind.i64.wrap (u * 256) = p := ⟨_, rfl⟩
      rw [hp] at HOR
      obtain ⟨r, hr⟩ : ∃ r, IntKind.i64.wrap (numU (b.take (i + 1))) = r := ⟨_, rfl⟩
      have HRR := Lib.hid hr
      rw [hr] at HOR
      have hor : bits .or .i64 p x = r := HOR.out
      have wx : IntKind.i64.wrap x = x := IntWalk.i64_in _ (by omega)
      have i0 : (0 : Int) ≤ (i : Int) := by omega
      have i8 : (i : Int) < 8 := by omega
      have d0 : decide ((i : Int) < 8) = true := decide_eq_true i8
      clear hx hu hr HOR
      go_wp2
      go_roundw
      case rel => exact ⟨i + 1, by omega, by go_num, by rw [HRR.out], by simp⟩
      case measure => simp [intOf]; omega

/-- The cells of a made slice. -/
theorem made_flat {α : Type} (E : Enc α) (x0 : α) (zc : Array Value) (hz : zc.toList = E.cells x0) (n : Nat) : (madeCells zc (n * E.sz)).toList = (List.replicate n x0).flatMap E.cells := by
  have hs : zc.size = E.sz := by rw [← Array.length_toList, hz, E.len]
  apply List.ext_getElem?
  intro q
  by_cases hq : q < n * E.sz
  · have hk : q / E.sz < n := Nat.div_lt_of_lt_mul (by rwa [Nat.mul_comm])
    have hj : q % E.sz < E.sz := Nat.mod_lt _ E.pos
    have hu : (E.cells x0)[q % E.sz]? = some ((E.cells x0)[q % E.sz]'(by rw [E.len]; exact hj)) := List.getElem?_eq_getElem _
    have h1 := flat_get (E := E) (List.replicate n x0) (q / E.sz) x0 (by simp [hk]) (q % E.sz) _ hu
    rw [show q / E.sz * E.sz + q % E.sz = q by rw [Nat.mul_comm]; exact Nat.div_add_mod _ _] at h1
    rw [h1, ← hu, ← hz]
    simp [madeCells, hq, hs, getElem!_def]
    cases h : zc[q % E.sz]? with
    | none => rw [Array.getElem?_eq_none_iff] at h; omega
    | some v => simp
  · have hl : ((List.replicate n x0).flatMap E.cells).length = n * E.sz := by
      have : ∀ k : Nat, ((List.replicate k x0).flatMap E.cells).length = k * E.sz := fun k => by
        induction k with
        | zero => simp
        | succ k ih => rw [List.replicate_succ, List.flatMap_cons, List.length_append, ih, E.len, Nat.succ_mul]; omega
      exact this n
    rw [List.getElem?_eq_none (by rw [Array.length_toList, size_madeCells]; omega), List.getElem?_eq_none (by omega)]
/-- 'make([]T, n)' as a thing at hand. -/
theorem wpList_makeE {α : Type} (E : Enc α) (x0 : α) {P : Program} {ops : Array Oper} {rest : List Oper} {o : Oper} {a : Act} {Q : Exit → Act → World → Prop}
    (hg : o.guard = none) (l c : Operand) {t e : TypeId} {z : Value} {by_ : Nat} (ht : P.underlying t = some (.slice e)) (hi : (P.info? e).map (fun i => (i.zero, i.size, i.bytes)) = some (some z, E.sz, by_)) (hz : z.cells.toList = E.cells x0) (hby : by_ ≤ 1000) (hop : o.op = Op.makeSlice t l c)
    (n : Nat) (hl : a.eval l = .int .i64 (n : Int)) (hc : a.eval c = .int .i64 (n : Int)) (hn : n ≤ 100000) (hsz : E.sz ≤ 100)
    {B : Nat → Prop} {w wk : World} {Rs : List Res} (h : Sep B w wk Rs)
    (hK : ∀ wn, Sep B w wn (grow E e (.slice (some ⟨wk.heap.size, 0, none⟩) n n) (List.replicate n x0) :: Rs) → wpList P ops Q rest (a.put o.dst (.slice (some ⟨wk.heap.size, 0, none⟩) n n)) wn) :
    wpList P ops Q (o :: rest) a wk := by
  obtain ⟨i, h2, h3, h4, h5⟩ := info_parts hi
  refine wpList_plain hg fun K hK' => ?_
  have hb : (by_ : Int) * (n : Int) ≤ 281474976710656 := by
    have : by_ * n ≤ 1000 * 100000 := Nat.mul_le_mul hby hn
    rw [← Int.natCast_mul]
    omega
  have hr := run_make (P := P) wk t e i z ht h2 h3 .i64 .i64 n n (by omega) (Int.le_refl _) (by rw [h5]; exact hb) (by omega)
  simp only [Int.toNat_natCast] at hr
  rw [h4] at hr
  have ho := World.ownsRow_lit (e := e) (size := E.sz) (base := 0) wk (madeCells z.cells (n * E.sz)) n (Nat.zero_le _) (by
    have : n * E.sz ≤ 100000 * 100 := Nat.mul_le_mul hn hsz
    unfold maxLen; omega) (size_madeCells _ _)
  rw [made_flat E x0 z.cells hz n] at ho
  unfold Oper.wp
  simp [execOp, hop, hl, hc, hr, Result.andThen]
  refine hK' _ _ (hK _ ?_)
  refine h.add (new_below0 wk _) (R := grow E e (.slice (some ⟨wk.heap.size, 0, none⟩) n n) (List.replicate n x0)) ⟨?_, rfl⟩ fun k hk => ?_
  · show World.ownsRow _ _ _ _ _ (List.replicate n x0).length _
    rw [List.length_replicate]
    exact ho
  · simp [Value.ownBlock] at hk
    omega
end Go.Proofs.YtolooaahaofflaaDoor.CdA
