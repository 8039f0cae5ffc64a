/-
  Proved: the law RingDoes returns true for every input and leaves its arguments as they were, over any package that meets 'Ring'. Condition: 'Ring'.
-/
import Derived.Test.YtaoagoklgjcdcaaLaw
import Derived.Test.YtaoagoklgjcdcaaRingDoes
namespace Go.Proofs.Ytaoagoklgjcdcaa.ringDoes
open Go.ChangeShapes Go.WideShapes Go.ChangeAt Go.RowKit RingI

theorem own : ownKnob Try.prog.godebug = none := by kernel_rfl
theorem laidOut : laidOutB Try.prog = true := by kernel_rfl
theorem cellsAct : Try.prog.cellsOf 32 = 3 := by kernel_rfl

theorem acts_of {H : Type} {enc : TypeId × Value → H} {w : World} {fuel : Nat} {A : Option Addr} {len cap : Nat} {x : DataW H × List MemPlace} {base : Nat} {spare : Nat → Bool} {held : Bool} (h : DataW.trod enc Try.prog w base spare held fuel 22 [.slice A len cap] = some x) :
    len ≤ 9223372036854775807 ∧ ∃ zs, Acts w A len zs := by
  obtain ⟨fs, hfs, h3, hone, hint⟩ : ∃ fs : Array Field, Try.prog.underlying 32 = some (.struct fs) ∧ fs.size = 3 ∧ Go.Deep.oneCellFields Try.prog fs = true ∧ ∀ (j : Nat) (f : Field), fs[j]? = some f → Try.prog.underlying f.type = some (.int .i64) := by
    refine ⟨_, Try.underlying32, rfl, by kernel_rfl, fun j f hj => ?_⟩
    match j, hj with
    | 0, hj => simp at hj; subst hj; exact Try.underlying3
    | 1, hj => simp at hj; subst hj; exact Try.underlying3
    | 2, hj => simp at hj; subst hj; exact Try.underlying3
    | j + 3, hj => simp at hj
  obtain ⟨hm, hx⟩ := LawK.open_rows Try.underlying22 hfs (by rw [cellsAct, h3]) hone hint (by omega) h
  unfold maxLen at hm
  refine ⟨by omega, ?_⟩
  rcases Nat.eq_zero_or_pos len with h0 | h0
  · subst h0
    exact ⟨[], rfl, (fun z hz => by cases hz), fun h => absurd h (by omega)⟩
  · obtain ⟨b, off, rfl, hb, hc⟩ := hx h0
    rw [h3] at hc
    refine ⟨(List.range len).map fun i => (LawK.numAt w ⟨b, off + (i * 3 + 0), none⟩, LawK.numAt w ⟨b, off + (i * 3 + 1), none⟩, LawK.numAt w ⟨b, off + (i * 3 + 2), none⟩), by simp, ?_, fun _ => ⟨b, off, rfl, hb, fun j hj => ?_⟩⟩
    · intro z hz
      obtain ⟨i, hi, rfl⟩ := List.mem_map.1 hz
      have hi' := List.mem_range.1 hi
      exact ⟨(hc i 1 hi' (by omega)).2, (hc i 2 hi' (by omega)).2⟩
    · have e : ((List.range len).map fun i => (LawK.numAt w ⟨b, off + (i * 3 + 0), none⟩, LawK.numAt w ⟨b, off + (i * 3 + 1), none⟩, LawK.numAt w ⟨b, off + (i * 3 + 2), none⟩)).getD j (0, 0, 0) = (LawK.numAt w ⟨b, off + (j * 3 + 0), none⟩, LawK.numAt w ⟨b, off + (j * 3 + 1), none⟩, LawK.numAt w ⟨b, off + (j * 3 + 2), none⟩) := by
        simp [List.getD_eq_getElem?_getD, hj]
      rw [e]
      exact ⟨(hc j 0 hj (by omega)).1, (hc j 1 hj (by omega)).1, (hc j 2 hj (by omega)).1⟩

set_option maxRecDepth 100000 in
theorem lifted (I : Ring) (os : Os) (started : os.Started) (H : Type) (enc : TypeId × Value → H) :
    ReturnsInHanded {} Try.checked os 3 .any (Rows.ringDoesSpec.pre6 enc Try.prog Try.f3 Rows.ringDoesRow.domain false) (Rows.ringDoesSpec.post enc Try.prog Try.f3 false true false false) := by
  refine returnsInHanded_of_change (C := Try.checked) own started (by kernel_rfl) Try.func3
    (ChangeSpec.witness6 (enc := enc) (C := Try.checked) false ⟨#[], #[.int .i64 0, .int .i64 0, .slice none 0 0], []⟩ 8 (by kernel_rfl) (by kernel_rfl) (by kernel_rfl) (by kernel_rfl)) ?_
  intro W base args ds gs before hval0 hW hcnd _
  have hval : ∀ (j : Nat) t v, Try.f3.params[j]? = some t → args[j]? = some v → Value.okWide Try.prog W .any base t v := hval0
  have hW' := hW
  obtain ⟨p, q, hA0, hV, rfl, hfz, hnd⟩ := hW
  have hA : DataW.TrodAll enc Try.prog W 0 (fun _ => true) true Try.f3.params.toList args.toList ds p := hA0
  rw [Try.params3] at hA hval
  obtain ⟨v0, vs0, d0, ds0, p0, q0, hargs, rfl, rfl, h0, r0⟩ := trodAll_cons hA
  obtain ⟨v1, vs1, d1, ds1, p1, q1, rfl, rfl, rfl, h1, r1⟩ := trodAll_cons r0
  obtain ⟨v2, vs2, d2, ds2, p2, q2, rfl, rfl, rfl, h2, r2⟩ := trodAll_cons r1
  obtain ⟨rfl, rfl, rfl⟩ := trodAll_nil r2
  obtain rfl : args = #[v0, v1, v2] := by cases args; simp_all
  obtain ⟨rfl, rfl⟩ := trodVars_none hV
  obtain ⟨a0, rfl, rfl, rfl, w0⟩ := open_int Try.underlying3 (hval 0 3 v0 rfl rfl) h0
  obtain ⟨a1, rfl, rfl, rfl, w1⟩ := open_int Try.underlying3 (hval 1 3 v1 rfl rfl) h1
  obtain ⟨A, len, cap, rfl⟩ := okWide_slice Try.underlying22 (hval 2 22 v2 rfl rfl)
  obtain ⟨fuel, hf⟩ := h2
  clear hA0 hval0
  obtain ⟨hlen, zs, hz⟩ := acts_of (A := A) (len := len) (cap := cap) hf
  refine (does_walk I a0 a1 A len cap zs W (LawK.in64 w0) (LawK.in64 w1) hlen hz).mono fun e W' ⟨he, hg⟩ => ?_
  subst he
  exact ⟨_, rfl, LawK.law_post laidOut (by rw [Try.params3]; decide +kernel) rfl (by kernel_rfl) Try.underlying4 rfl hW' hg⟩

theorem over (I : Ring) : Rows.RingDoesSaid :=
  OpenClaim.holds_of_wide 3 Try.f3 rfl rfl rfl rfl rfl rfl rfl ⟨rfl, rfl, rfl, rfl, rfl⟩ rfl rfl rfl rfl rfl (by kernel_rfl) Try.func3 (by kernel_rfl)
    (of_decide_eq_true (by kernel_rfl)) (by unfold Func.isWrapper; first | (rw [if_pos (by decide +kernel)]; kernel_rfl) | (rw [if_neg (by decide +kernel)]; exact ⟨rfl, rfl⟩))
    (fun os started H enc _ => lifted I os started H enc)
#print axioms over
end Go.Proofs.Ytaoagoklgjcdcaa.ringDoes
