/-
  Contracts of the functions of package ctx, as it landed, fifth part: who is ended. Condition: the arena is at hand.
-/
import Derived.Test.YtidkppjhmgehoaaCxD
import Derived.Test.YtidkppjhmgehoaaGrow
namespace Go.Proofs.Ytidkppjhmgehoaa.CxC
open Go.ChangeShapes Go.WideShapes Go.ChangeAt Go.RowKit Mem TreeP CtxP Hand TreeC CtxI

/-- Putting an end, as a function value. -/
def putF (e z : Int) : Value := .func (.func 58) #[endV e z] #[]

section
variable {B : Nat → Prop} {w wk : World} {Rs : List Res}
theorem own_frozen {W : World} {α : Type} {E : Enc α} {e : TypeId} {b n c : Nat} {X : List α} (h : Sep B w W Rs) (i : Nat) (hi : Rs[i]? = some (grow E e (.slice (some ⟨b, 0, none⟩) n c) X)) (m : Nat) : W.frozen? ⟨b, m, none⟩ = false := by
  have ho := h.own i hi
  rcases ho.2 with ⟨h', _⟩ | ⟨g, cap, cur, h', hb, hg, _⟩
  · injection h' with h'; cases h'
  · have : b = g := by injection h' with h'; injection h' with h'; injection h'
    subst this
    exact frozen_block hg m
/-- What is put on one who isn't done; on one who is, nothing. -/
def putX (X : List Cn) (k : Nat) (x : Cn) (e z : Int) : List Cn := if x.e = 0 then X.set k (CtxP.mark e z x) else X

set_option maxRecDepth 100000 in
theorem put_s (h : Sep B w wk Rs) (i : Nat) {b n c : Nat} {X : List Cn} (hi : Rs[i]? = some (grow xE 76 (.slice (some ⟨b, 0, none⟩) n c) X)) {k : Nat} {x : Cn} (hx : X[k]? = some x) (e z : Int) :
    Calls Try.prog 58 #[endV e z, .pointer (some ⟨b, k * 9, none⟩)] wk fun r wn => r = .returned (.bool (decide (x.e = 0))) ∧ Sep B w wn (Rs.set i (grow xE 76 (.slice (some ⟨b, 0, none⟩) n c) (putX X k x e z))) := by
  have S0 := Lib.hid (h.next (new_below0 wk (.cells #[.int .i64 e, .int .i64 z] 70)))
  have HP : Hid (putX X k x e z = if x.e = 0 then X.set k (CtxP.mark e z x) else X) := rfl
  have HI := Lib.hid hi
  have HX := Lib.hid hx
  have HDC := Lib.hid done_c
  have hbx : (wk.alloc (.cells #[.int .i64 e, .int .i64 z] 70)).heap[wk.heap.size]? = some (.cells #[.int .i64 e, .int .i64 z] 70 (0, 0)) := heap_alloc_new wk _
  obtain ⟨b', c', eA, hbl, hcell, _⟩ := S0.out.elem i hi hx
  obtain rfl : b = b' := by injection eA with e1; injection e1 with e1; injection e1
  have d7 : (wk.alloc (.cells #[.int .i64 e, .int .i64 z] 70)).cell? ⟨b, k * 9 + 7, none⟩ = some (.int .i64 x.e) := hcell 7 _ rfl
  have d8 : (wk.alloc (.cells #[.int .i64 e, .int .i64 z] 70)).cell? ⟨b, k * 9 + 8, none⟩ = some (.int .i64 x.cause) := hcell 8 _ rfl
  have HBX := Lib.hid hbx
  clear h hcell eA hbx hi hx
  unfold endV at *
  generalize hw1 : wk.alloc (.cells #[.int .i64 e, .int .i64 z] 70) = w1 at *
  have HW1 := Lib.hid hw1
  rw [← hw1] at d7 d8
  clear hw1
  go_enter Try.func58, Try.ntmps58
  go_wp2_with fail
  rw [HW1.out]
  refine (HDC.out x.e x.cause w1).mono ?_
  rintro r w2 ⟨rfl, hb⟩
  have S2 := Lib.hid (S0.out.next hb)
  have HB2 := Lib.hid ((hb.block _ (lt_of_block HBX.out)).trans HBX.out)
  clear hb d7 d8
  by_cases h0 : x.e = 0
  · have hd : decide (x.e ≠ 0) = false := by simpa using h0
    have hd2 : decide (x.e = 0) = true := by simpa using h0
    have HP2 : Hid (putX X k x e z = X.set k (CtxP.mark e z x)) := by show _ = _; rw [HP.out, if_pos h0]
    have c0 : w2.cell? ⟨wk.heap.size, 0, none⟩ = some (.int .i64 e) := (cell_block HB2.out 0).trans rfl
    have c1 : w2.cell? ⟨wk.heap.size, 1, none⟩ = some (.int .i64 z) := (cell_block HB2.out 1).trans rfl
    have f7 := own_frozen S2.out i HI.out (k * 9 + 7)
    have f8 : w2.frozen? ⟨b, k * 9 + 7 + 1, none⟩ = false := own_frozen S2.out i HI.out (k * 9 + 8)
    obtain ⟨b', c', eA, _, hcell, _⟩ := S2.out.elem i HI.out HX.out
    obtain rfl : b = b' := by injection eA with e1; injection e1 with e1; injection e1
    have d7 : w2.cell? ⟨b, k * 9 + 7, none⟩ = some (.int .i64 x.e) := hcell 7 _ rfl
    have d8 : w2.cell? ⟨b, k * 9 + 7 + 1, none⟩ = some (.int .i64 x.cause) := hcell 8 _ rfl
    clear hcell eA
    have S3 : Hid (Sep B w ((w2.setCell ⟨b, k * 9 + 7, none⟩ (.int .i64 e)).setCell ⟨b, k * 9 + 7 + 1, none⟩ (.int .i64 z)) (Rs.set i (grow xE 76 (.slice (some ⟨b, 0, none⟩) n c) (X.set k (CtxP.mark e z x))))) := by
      have h1 := S2.out.setc i HI.out (x' := { x with e := e }) (j := 7) (u := .int .i64 e) HX.out (by show 7 < 9; omega) rfl
      have hil : i < Rs.length := (List.getElem?_eq_some_iff.1 HI.out).1
      have hkl : k < X.length := (List.getElem?_eq_some_iff.1 HX.out).1
      have h2 := h1.setc i (k := k) (x := { x with e := e }) (x' := CtxP.mark e z x) (j := 8) (u := .int .i64 z) (by rw [List.getElem?_set, if_pos rfl, if_pos hil]) (by rw [List.getElem?_set, if_pos rfl, if_pos hkl]) (by show 8 < 9; omega) rfl
      rw [List.set_set, List.set_set] at h2
      exact h2
    generalize decide (x.e ≠ 0) = dd at *
    subst hd
    clear HP h0 S2
    go_wp2
    go_ret
    rw [HP2.out, hd2]
    exact ⟨rfl, S3.out⟩
  · have hd : decide (x.e ≠ 0) = true := by simpa using h0
    have hd2 : decide (x.e = 0) = false := by simpa using h0
    have HP2 : Hid (putX X k x e z = X) := by show _ = _; rw [HP.out, if_neg h0]
    have S3 : Hid (Sep B w w2 (Rs.set i (grow xE 76 (.slice (some ⟨b, 0, none⟩) n c) X))) := by
      have : Rs.set i (grow xE 76 (.slice (some ⟨b, 0, none⟩) n c) X) = Rs := by
        obtain ⟨hil, e⟩ := List.getElem?_eq_some_iff.1 HI.out
        rw [← e, List.set_getElem_self]
      show Sep _ _ _ _
      rw [this]; exact S2.out
    generalize decide (x.e ≠ 0) = dd at *
    subst hd
    clear HP h0 S2
    go_wp2
    go_ret
    rw [HP2.out, hd2]
    exact ⟨rfl, S3.out⟩
end
end Go.Proofs.Ytidkppjhmgehoaa.CxC
