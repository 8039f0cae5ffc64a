/-
  What the walks of layer 16 share: arguments as the laws get them, a slice's first part, calls on slices that came in. Conditions: none but 'Co'.
-/
import Derived.Test.YtoblkoljaeobkaaDoorCodeM
import Derived.Deep.DeepCutAuto
import Derived.Deep.CutBlock
namespace Go.Proofs.YtoblkoljaeobkaaDoor.CodeI
open Go.ChangeShapes Go.WideShapes Go.ChangeAt Go.RowKit Mem MutP CodeP Hand RefCode

/-- A slice that came in, of instructions, of bytes. -/
def LsIn (w : World) (A : Option Addr) (n c : Nat) (l : List In) : Prop := n ≤ c ∧ (n ≤ 1000000 → l.length = n ∧ RdL inE w (fun b => b < w.heap.size) (.slice A n c) l ∧ ∀ x ∈ l, InIn x)
def BsIn (w : World) (A : Option Addr) (n c : Nat) (b : List Int) : Prop := n ≤ c ∧ (n ≤ 1000000 → b.length = n ∧ RdL byE w (fun b => b < w.heap.size) (.slice A n c) b ∧ ∀ x ∈ b, Byte x)

theorem rdL_take {α : Type} {E : Enc α} {w : World} {G : Nat → Prop} {A : Option Addr} {n c k : Nat} {l : List α} (h : RdL E w G (.slice A n c) l) (hk : k ≤ n) : RdL E w G (.slice A k c) (l.take k) := by
  have hn := len_of h
  have hle := h.le
  obtain ⟨A', c', e, _, hx⟩ := h
  injection e with e1 e2 e3
  subst e1 e3
  have hl : (l.take k).length = k := by rw [List.length_take]; omega
  refine ⟨A, c, by rw [hl], by omega, fun hp => ?_⟩
  obtain ⟨b, off, hA, hG, hb, hc⟩ := hx (by omega)
  refine ⟨b, off, hA, hG, hb, fun i a hi j u hu => hc i a ?_ j u hu⟩
  rw [List.getElem?_take] at hi
  split at hi
  · exact hi
  · cases hi
theorem ins_byte {x : In} {k : Int} (h : rightB x k = true) : ∀ y ∈ insL x, Byte y := by
  obtain ⟨⟨o0, o1⟩, ⟨a0, a1⟩, b0, b1⟩ := right_small h
  intro y hy
  unfold insL at hy
  rcases List.mem_append.1 hy with hy | hy
  · simp at hy
    unfold Byte
    rcases hy with rfl | rfl | rfl <;> omega
  · exact bytesOf_byte 8 _ y hy
theorem bytesL_byte {l : List In} (h : mayB l = true) : ∀ y ∈ bytesL l, Byte y := by
  obtain ⟨h1, h2, h3⟩ := may_iff.1 h
  intro y hy
  unfold bytesL at hy
  rcases List.mem_cons.1 hy with rfl | hy
  · unfold Byte; omega
  · unfold bodyL at hy
    obtain ⟨x, hx, hy⟩ := List.mem_flatMap.1 hy
    exact ins_byte (h1 x hx) y hy
theorem bytesR_byte (l : List In) : ∀ y ∈ bytesR l, Byte y := by
  unfold bytesR
  split
  · exact bytesL_byte (by assumption)
  · simp

section
variable {G G' : Nat → Prop} {w wk : World} {Rs : List Res} {A A' : Option Addr} {n n' c c' : Nat} {l m : List In} {b b' : List Int}
theorem a_may (I : Co w) (h : Sep (fun _ => False) w wk Rs) (hr : RdL inE w G (.slice A n c) l) (hc : n ≤ c) (hl : ∀ x ∈ l, InIn x) {r : Bool} (hb : mayB l = r) : Calls Tryd.prog 16 #[.slice A n c] wk fun e wn => e = .returned (.bool r) ∧ Sep (fun _ => False) w wn Rs := by
  subst hb
  exact (I.may h.old (hr.below h.old) hc hl).mono fun _ _ ⟨he, hb⟩ => ⟨he, h.next hb⟩
theorem a_bytes (I : Co w) (h : Sep (fun _ => False) w wk Rs) (hr : RdL inE w G (.slice A n c) l) (hc : n ≤ c) (hl : ∀ x ∈ l, InIn x) {E : Int} {R : List Int} {k : Nat} (hE : bytesE l = E) (hR : bytesR l = R) (hk : R.length = k) : Calls Tryd.prog 7 #[.slice A n c] wk fun e wn => ∃ A' c', k ≤ c' ∧ e = .returned (.tuple #[.slice A' k c', .int .i64 E]) ∧ Sep (fun _ => False) w wn (told byE (.slice A' k c') R :: Rs) := by
  subst hE hR hk
  refine (I.bytes h.old (hr.below h.old) hc hl).mono ?_
  rintro e wn ⟨A', n', c', hc', rfl, hs⟩
  obtain rfl := len_of hs.1
  exact ⟨A', c', hc', rfl, SaysL.sep h hs⟩
theorem a_read (I : Co w) (h : Sep (fun _ => False) w wk Rs) (hr : RdL byE wk G (.slice A n c) b) (hc : n ≤ c) (hl : ∀ x ∈ b, Byte x) {E N : Int} {R : List In} {k : Nat} (hE : readE b = E) (hN : readN b = N) (hR : readR b = R) (hk : R.length = k) : Calls Tryd.prog 10 #[.slice A n c] wk fun e wn => ∃ A' c', k ≤ c' ∧ e = .returned (.tuple #[.slice A' k c', .int .i64 N, .int .i64 E]) ∧ Sep (fun _ => False) w wn (told inE (.slice A' k c') R :: Rs) := by
  subst hE hN hR hk
  refine (I.read h.old hr hc hl).mono ?_
  rintro e wn ⟨A', n', c', hc', rfl, hs⟩
  obtain rfl := len_of hs.1
  exact ⟨A', c', hc', rfl, SaysL.sep h hs⟩
theorem a_own (h : Sep (fun _ => False) w wk Rs) (hr : RdL inE w G (.slice A n c) l) (hl : l.length ≤ 100000) : Calls Tryd.prog 9 #[.slice A n c] wk fun e wn => ∃ A' c', e = .returned (.slice A' n c') ∧ Sep (fun _ => False) w wn (told inE (.slice A' n c') l :: Rs) := by
  obtain rfl := len_of hr
  refine (own_c (hr.below h.old) hl).mono ?_
  rintro e wn ⟨v, rfl, hs⟩
  obtain ⟨A', c', rfl⟩ := hs.1.form
  exact ⟨A', c', rfl, SaysL.sep h hs⟩
theorem a_sameB (h : Sep (fun _ => False) w wk Rs) (ha : RdL byE wk G (.slice A n c) b) (hb : RdL byE wk G' (.slice A' n' c') b') {r : Bool} (hr : decide (b = b') = r) : Calls Tryd.prog 18 #[.slice A n c, .slice A' n' c'] wk fun e wn => e = .returned (.bool r) ∧ Sep (fun _ => False) w wn Rs := by
  subst hr
  exact (bytes_c ha hb).mono fun _ _ ⟨he, k, hw⟩ => ⟨he, by rw [hw]; exact h.drewN k⟩
theorem a_same (I : Co w) (h : Sep (fun _ => False) w wk Rs) (ha : RdL inE w G (.slice A n c) l) (hc : n ≤ c) (hb : RdL inE w G' (.slice A' n' c') m) (hc' : n' ≤ c') (hl : ∀ x ∈ l, InIn x) (hm : ∀ x ∈ m, InIn x) {r : Bool} (hr : decide (l = m) = r) : Calls Tryd.prog 20 #[.slice A n c, .slice A' n' c'] wk fun e wn => e = .returned (.bool r) ∧ Sep (fun _ => False) w wn Rs := by
  subst hr
  exact (I.same (ha.below h.old) hc (hb.below h.old) hc' hl hm).mono fun _ _ ⟨he, hb⟩ => ⟨he, h.next hb⟩
end
end Go.Proofs.YtoblkoljaeobkaaDoor.CodeI
