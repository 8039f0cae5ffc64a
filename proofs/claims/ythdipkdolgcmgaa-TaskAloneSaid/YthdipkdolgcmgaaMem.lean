/-
  General words for memory, over any program: what one call may have changed ('Only'), a slice that reads as a list of int64 ('Rd'). No condition.
-/
import Derived.WalkKit
import Derived.ProofKit
import Derived.OpenShut
import Derived.Below
import Derived.IntWalk
import Derived.Lib.Hide
import Derived.Deep.Draws
import Derived.Laws.Rows
import Derived.Laws.OwnMore
import Derived.Maps.AppendAt
import Derived.Deep.AppendLies
import Derived.RegionTactic
import Derived.OwnWalk
namespace Go.Proofs.Ythdipkdolgcmgaa.Mem
open Go.ChangeShapes Go.WideShapes Go.ChangeAt Go.RowKit

theorem ret_int {k : IntKind} {a b : Int} (h : a = b) : Ending.returned (.int k a) = .returned (.int k b) := by rw [h]
theorem ret_bool {a b : Bool} (h : a = b) : Ending.returned (.bool a) = .returned (.bool b) := by rw [h]

/-- Of the blocks that were there only those in F may have changed. -/
structure Only (F : Nat → Prop) (w w' : World) : Prop where
  os : w'.os = w.os
  tape : w'.tape = w.tape
  output : w'.output = w.output
  size : w.heap.size ≤ w'.heap.size
  block : ∀ k, k < w.heap.size → ¬ F k → w'.heap[k]? = w.heap[k]?

section
variable {F F' : Nat → Prop} {w w1 w2 : World}
theorem Only.refl (F : Nat → Prop) (w : World) : Only F w w := ⟨rfl, rfl, rfl, Nat.le_refl _, fun _ _ _ => rfl⟩
theorem Only.trans (h : Only F w w1) (k : Only F' w1 w2) (hF : ∀ b, b < w.heap.size → F' b → F b) : Only F w w2 :=
  ⟨k.os.trans h.os, k.tape.trans h.tape, k.output.trans h.output, Nat.le_trans h.size k.size,
   fun b hb hn => (k.block b (Nat.lt_of_lt_of_le hb h.size) (fun hf => hn (hF b hb hf))).trans (h.block b hb hn)⟩
theorem Only.mono (h : Only F w w1) (hF : ∀ b, b < w.heap.size → F b → F' b) : Only F' w w1 :=
  ⟨h.os, h.tape, h.output, h.size, fun b hb hn => h.block b hb (fun hf => hn (hF b hb hf))⟩
theorem Only.drewN (h : Only F w w1) (n : Nat) : Only F w (w1.drewN n) := ⟨h.os, h.tape, h.output, h.size, h.block⟩
theorem Only.drew (h : Only F w w1) : Only F w w1.drew := ⟨h.os, h.tape, h.output, h.size, h.block⟩
theorem Only.alloc (h : Only F w w1) (o : Obj) : Only F w (w1.alloc o) :=
  ⟨h.os, h.tape, h.output, Nat.le_trans h.size (by simp), fun b hb hn => (Below.heap_alloc w1 o b (Nat.lt_of_lt_of_le hb h.size)).trans (h.block b hb hn)⟩
theorem Only.setCell (h : Only F w w1) {a : Addr} (ha : F a.block ∨ w.heap.size ≤ a.block) (u : Value) : Only F w (w1.setCell a u) :=
  ⟨h.os, h.tape, h.output, by simpa [World.setCell] using h.size, fun b hb hn => (Below.heap_setCell w1 a u b (by
    rintro rfl
    rcases ha with ha | ha
    · exact hn ha
    · omega)).trans (h.block b hb hn)⟩
theorem Only.of_below (h : Below w.heap.size w w1) : Only F w w1 := ⟨h.os, h.tape, h.output, h.size, fun b hb _ => h.block b hb⟩
theorem Only.to_below (h : Only (fun _ => False) w w1) : Below w.heap.size w w1 := ⟨h.os, h.tape, h.output, h.size, fun b hb => h.block b hb (fun f => f)⟩
theorem Only.of_grown {row : Option Nat} (h : w.grownBy w1 row) (hr : ∀ k, row = some k → k < w.heap.size → F k) : Only F w w1 :=
  ⟨h.os, h.tape, h.output, h.size, fun b hb hn => h.block b hb (fun e => hn (hr b e.symm hb))⟩
theorem Only.cell (h : Only F w w1) {p : Addr} (hp : p.block < w.heap.size) (hn : ¬ F p.block) : w1.cell? p = w.cell? p := World.cell?_of_block (w := w) (h.block p.block hp hn)
end

theorem lt_of_block {w : World} {g : Nat} {o : Obj} (h : w.heap[g]? = some o) : g < w.heap.size := by
  rcases Nat.lt_or_ge g w.heap.size with hlt | hge
  · exact hlt
  · rw [Array.getElem?_eq_none hge] at h; cases h
theorem cell_block {w : World} {g : Nat} {cs : Array Value} {t : TypeId} {fr : Nat × Nat} (h : w.heap[g]? = some (.cells cs t fr)) (i : Nat) : w.cell? ⟨g, i, none⟩ = cs[i]? := cell_of_row w g i cs t fr h
theorem frozen_block {w : World} {g : Nat} {cs : Array Value} {t : TypeId} (h : w.heap[g]? = some (.cells cs t (0, 0))) (i : Nat) : w.frozen? ⟨g, i, none⟩ = false := by
  simp [World.frozen?, h]

/-- The slice value v reads as the int64s xs; where there are any they lie in a block of G. -/
def Rd (w : World) (G : Nat → Prop) (v : Value) (xs : List Int) : Prop :=
  ∃ A c, v = .slice A xs.length c ∧ xs.length ≤ 1000000 ∧ (0 < xs.length → ∃ b off, A = some ⟨b, off, none⟩ ∧ G b ∧ b < w.heap.size ∧ ∀ j, j < xs.length → w.cell? ⟨b, off + j, none⟩ = some (.int .i64 (xs.getD j 0)))

theorem Rd.keep {w w' : World} {G : Nat → Prop} {v : Value} {xs : List Int} (h : Rd w G v xs) (hs : w.heap.size ≤ w'.heap.size) (hk : ∀ k, k < w.heap.size → G k → w'.heap[k]? = w.heap[k]?) : Rd w' G v xs := by
  obtain ⟨A, c, e, hm, hx⟩ := h
  refine ⟨A, c, e, hm, fun hp => ?_⟩
  obtain ⟨b, off, ha, hg, hb, hc⟩ := hx hp
  exact ⟨b, off, ha, hg, by omega, fun j hj => (World.cell?_of_block (w := w) (hk b hb hg)).trans (hc j hj)⟩
theorem Rd.below {w w' : World} {G : Nat → Prop} {v : Value} {xs : List Int} (h : Rd w G v xs) (hb : Below w.heap.size w w') : Rd w' G v xs := h.keep hb.size fun k hk _ => hb.block k hk
theorem Rd.grown {w w' : World} {G : Nat → Prop} {v : Value} {xs : List Int} {row : Option Nat} (h : Rd w G v xs) (hg : w.grownBy w' row) (hr : ∀ k, row = some k → ¬ G k) : Rd w' G v xs := h.keep hg.size fun k hk hG => hg.block k hk (fun e => hr k e.symm hG)
theorem Rd.drew {w : World} {G : Nat → Prop} {v : Value} {xs : List Int} (h : Rd w G v xs) : Rd w.drew G v xs := h
theorem Rd.alloc {w : World} {G : Nat → Prop} {v : Value} {xs : List Int} (h : Rd w G v xs) (o : Obj) : Rd (w.alloc o) G v xs := h.below ((Below.refl _ _).alloc (Nat.le_refl _) o)
theorem Rd.mono {w : World} {G G' : Nat → Prop} {v : Value} {xs : List Int} (h : Rd w G v xs) (hG : ∀ k, k < w.heap.size → G k → G' k) : Rd w G' v xs := by
  obtain ⟨A, c, e, hm, hx⟩ := h
  refine ⟨A, c, e, hm, fun hp => ?_⟩
  obtain ⟨b, off, ha, hg, hb, hc⟩ := hx hp
  exact ⟨b, off, ha, hG b hb hg, hb, hc⟩
theorem Rd.nil (w : World) (G : Nat → Prop) (A : Option Addr) (c : Nat) : Rd w G (.slice A 0 c) [] := ⟨A, c, rfl, by simp, fun h => by simp at h⟩

/-- The slice value v, made by the call itself from block 'base' on, owns the int64s xs. -/
def Own (w : World) (base : Nat) (e : TypeId) (v : Value) (xs : List Int) : Prop := w.ownsRow base e 1 v xs.length (xs.map (Value.int .i64))

theorem Own.rd {w : World} {base : Nat} {e : TypeId} {v : Value} {xs : List Int} {G : Nat → Prop} (h : Own w base e v xs) (hm : xs.length ≤ 1000000) (hG : ∀ k, v.ownBlock = some k → G k) : Rd w G v xs := by
  rcases h.2 with ⟨rfl, hn⟩ | ⟨g, cap, cur, rfl, hb, hg, hnc, hcm, hcs, hcur⟩
  · have : xs = [] := List.eq_nil_of_length_eq_zero hn
    subst this
    exact Rd.nil _ _ _ _
  · refine ⟨_, _, rfl, hm, fun hp => ⟨g, 0, rfl, hG g rfl, lt_of_block hg, fun j hj => ?_⟩⟩
    have hx : (xs.map (Value.int .i64))[j]? = some (.int .i64 (xs.getD j 0)) := by simp [List.getD_eq_getElem?_getD, hj]
    have := World.ownsRow.cells h (g := g) rfl j _ hx
    rw [add_plain] at this
    exact this
theorem Own.form {w : World} {base : Nat} {e : TypeId} {v : Value} {xs : List Int} (h : Own w base e v xs) : ∃ A c, v = .slice A xs.length c := by
  rcases h.2 with ⟨rfl, hn⟩ | ⟨g, cap, cur, rfl, _⟩
  · exact ⟨none, 0, by rw [hn]⟩
  · exact ⟨_, _, rfl⟩
theorem Own.drewN {w : World} {base : Nat} {e : TypeId} {v : Value} {xs : List Int} (h : Own w base e v xs) (n : Nat) : Own (w.drewN n) base e v xs := h
theorem Own.drew {w : World} {base : Nat} {e : TypeId} {v : Value} {xs : List Int} (h : Own w base e v xs) : Own w.drew base e v xs := h
theorem Own.alloc {w : World} {base : Nat} {e : TypeId} {v : Value} {xs : List Int} (h : Own w base e v xs) (o : Obj) : Own (w.alloc o) base e v xs := World.ownsRow.alloc h o
theorem Own.lit0 (w : World) (base : Nat) (e : TypeId) (hb : base ≤ w.heap.size) : Own (w.alloc (.cells #[] e)) base e (.slice (some ⟨w.heap.size, 0, none⟩) 0 0) [] :=
  World.ownsRow_lit w #[] 0 hb (by simp [maxLen]) (by simp)
theorem Own.lit1 (w : World) (base : Nat) (e : TypeId) (x : Int) (hb : base ≤ w.heap.size) : Own (w.alloc (.cells #[.int .i64 x] e)) base e (.slice (some ⟨w.heap.size, 0, none⟩) 1 1) [x] :=
  World.ownsRow_lit w #[.int .i64 x] 1 hb (by simp [maxLen]) (by simp)
theorem Rd.lit1 (w : World) (e : TypeId) (x : Int) (G : Nat → Prop) (hg : G w.heap.size) : Rd (w.alloc (.cells #[.int .i64 x] e)) G (.slice (some ⟨w.heap.size, 0, none⟩) 1 1) [x] :=
  (Own.lit1 w 0 e x (Nat.zero_le _)).rd (by simp) (fun k hk => by simp [Value.ownBlock] at hk; exact hk ▸ hg)

theorem new_below (w : World) (o : Obj) : Below w.heap.size w (w.alloc o).drew := ((Below.refl _ _).alloc (Nat.le_refl _) o).drew
theorem new_below0 (w : World) (o : Obj) : Below w.heap.size w (w.alloc o) := (Below.refl _ _).alloc (Nat.le_refl _) o

/-- Two new blocks: the empty row, then the row of x; and the other way round. -/
theorem two_new (w : World) (e : TypeId) (x : Int) :
    Own ((w.alloc (.cells #[] e)).alloc (.cells #[.int .i64 x] e)).drew w.heap.size e (.slice (some ⟨w.heap.size, 0, none⟩) 0 0) [] ∧
    Rd ((w.alloc (.cells #[] e)).alloc (.cells #[.int .i64 x] e)).drew (fun b => b ≠ w.heap.size) (.slice (some ⟨w.heap.size + 1, 0, none⟩) 1 1) [x] ∧
    Below w.heap.size w ((w.alloc (.cells #[] e)).alloc (.cells #[.int .i64 x] e)).drew ∧
    Own ((w.alloc (.cells #[.int .i64 x] e)).alloc (.cells #[] e)).drew w.heap.size e (.slice (some ⟨w.heap.size + 1, 0, none⟩) 0 0) [] ∧
    Rd ((w.alloc (.cells #[.int .i64 x] e)).alloc (.cells #[] e)).drew (fun b => b ≠ w.heap.size + 1) (.slice (some ⟨w.heap.size, 0, none⟩) 1 1) [x] ∧
    Below w.heap.size w ((w.alloc (.cells #[.int .i64 x] e)).alloc (.cells #[] e)).drew := by
  have e1 : (w.alloc (.cells #[] e)).heap.size = w.heap.size + 1 := by simp
  have e2 : (w.alloc (.cells #[.int .i64 x] e)).heap.size = w.heap.size + 1 := by simp
  refine ⟨((Own.lit0 w _ e (Nat.le_refl _)).alloc _).drew, ?_, (((Below.refl _ _).alloc (Nat.le_refl _) _).alloc (by simp) _).drew, ?_, ((Rd.lit1 w e x (fun b => b ≠ w.heap.size + 1) (by omega)).alloc _).drew, (((Below.refl _ _).alloc (Nat.le_refl _) _).alloc (by simp) _).drew⟩
  · have := (Rd.lit1 (w.alloc (.cells #[] e)) e x (fun b => b ≠ w.heap.size) (by rw [e1]; omega)).drew
    rw [e1] at this
    exact this
  · have := (Own.lit0 (w.alloc (.cells #[.int .i64 x] e)) w.heap.size e (by rw [e2]; omega)).drew
    rw [e2] at this
    exact this

theorem below_drewN {B : Nat} {a w : World} (h : Below B a w) (n : Nat) : Below B a (w.drewN n) := ⟨h.os, h.tape, h.output, h.size, h.block⟩

/-- t is the type of the slices of int64s, whose type is e. -/
def IntElem (P : Program) (t e : TypeId) : Prop := P.underlying t = some (.slice e) ∧ ∃ i, P.info? e = some i ∧ i.zero = some (.int .i64 0) ∧ i.size = 1 ∧ i.bytes = 8
theorem intElem_of {P : Program} {t e : TypeId} (ht : P.underlying t = some (.slice e)) (h : (P.info? e).map (fun i => (i.zero, i.size, i.bytes)) = some (some (.int .i64 0), 1, 8)) : IntElem P t e := by
  obtain ⟨i, h1, h2, h3, h4⟩ := info_parts h
  exact ⟨ht, i, h1, h2, h3, h4⟩

theorem run_app {P : Program} {w : World} {t ty e : TypeId} (he : IntElem P t e) {base : Nat} {v sv : Value} {xs ys : List Int} {G : Nat → Prop} (hown : Own w base e v xs) (hr : Rd w G sv ys)
    (hlen : xs.length + ys.length ≤ 1000000) (hb : base ≤ w.heap.size) :
    ∃ v' w', (Builtin.append_ #[t, t] ty #[v, sv]).run P w = .ok v' w' ∧ Own w' base e v' (xs ++ ys) ∧ w.grownBy w' v.ownBlock ∧ (v'.ownBlock = v.ownBlock ∨ v'.ownBlock = some w.heap.size) := by
  obtain ⟨ht, i, hi, hz, hs, hy⟩ := he
  obtain ⟨A, c, rfl, hm, hx⟩ := hr
  rcases A with _ | ad
  · have hl0 : ys = [] := by
      rcases Nat.eq_zero_or_pos ys.length with h0 | h0
      · exact List.eq_nil_of_length_eq_zero h0
      · obtain ⟨b, off, h, _⟩ := hx h0
        cases h
    subst hl0
    refine ⟨v, w, ?_, by simpa [Own] using hown, World.grownBy.refl w _, .inl rfl⟩
    rcases hown.2 with ⟨rfl, h0⟩ | ⟨g, cap, cur, rfl, _, _, hnc, _⟩
    · simp [Builtin.append_, run_underlying ht, sizeOf, typeInfo, hi, Builtin.lenOf, Builtin.firstCells]
    · simp [Builtin.append_, run_underlying ht, sizeOf, typeInfo, hi, Builtin.lenOf, Builtin.firstCells, hnc, storeCells]
  · have hnews : ∀ j u, (ys.map (Value.int .i64))[j]? = some u → w.cell? (ad.add j) = some u := by
      intro j u hu
      rcases Nat.eq_zero_or_pos ys.length with h0 | h0
      · have : ys = [] := List.eq_nil_of_length_eq_zero h0
        subst this
        simp at hu
      · obtain ⟨b, off, h, _, _, hc⟩ := hx h0
        injection h with h
        subst h
        rcases Nat.lt_or_ge j ys.length with hj | hj
        · rw [add_plain, hc j hj]
          simp [List.getElem?_eq_getElem hj] at hu
          simp [List.getD_eq_getElem?_getD, List.getElem?_eq_getElem hj, hu]
        · rw [List.getElem?_eq_none (by simpa using hj)] at hu
          cases hu
    obtain ⟨v', w', hrun, h2, h3, _, h5⟩ := run_append_own_at (P := P) w base t ty e i (.int .i64 0) 1 8 ht hi hz hs hy rfl (by omega) v xs.length _ hown ad ys.length c (ys.map (Value.int .i64)) (by simp) hnews
      (by intro u hu; obtain ⟨x, _, rfl⟩ := List.mem_map.1 hu; rfl) (by unfold maxLen; omega) (by omega) hb
    exact ⟨v', w', hrun, by simpa [Own] using h2, h3, h5⟩

theorem wp_app {P : Program} {w : World} {o : Oper} {a : Act} {K : Act → World → Prop} {Q : Exit → Act → World → Prop} (s x : Operand) {t e : TypeId} (he : IntElem P t e)
    (ho : o.op = .call { callee := .builtin .append, args := #[s, x], argTypes := #[t, t] })
    {base : Nat} {v sv : Value} {xs ys : List Int} {G : Nat → Prop} (hs : a.eval s = v) (hx : a.eval x = sv) (hown : Own w base e v xs) (hr : Rd w G sv ys) (hlen : xs.length + ys.length ≤ 1000000) (hb : base ≤ w.heap.size)
    (h : ∀ v' w', Own w' base e v' (xs ++ ys) → w.grownBy w' v.ownBlock → (v'.ownBlock = v.ownBlock ∨ v'.ownBlock = some w.heap.size) → K (a.put o.dst v') w') : o.wp P a w K Q := by
  obtain ⟨v', w', hrun, h2, h3, h4⟩ := run_app (P := P) (ty := o.type) he hown hr hlen hb
  unfold Oper.wp execOp
  simp only [ho, resolve, invoke, builtin, Sem.run_bind, Sem.run_pure, Result.andThen_ok, List.map_toArray, List.map_cons, List.map_nil, hs, hx, hrun]
  exact h v' w' h2 h3 h4
theorem wpList_app {P : Program} {w : World} {ops : Array Oper} {rest : List Oper} {o : Oper} {a : Act} {Q : Exit → Act → World → Prop} (hgd : o.guard = none) (s x : Operand) {t e : TypeId} (he : IntElem P t e)
    (ho : o.op = .call { callee := .builtin .append, args := #[s, x], argTypes := #[t, t] })
    {base : Nat} {v sv : Value} {xs ys : List Int} {G : Nat → Prop} (hs : a.eval s = v) (hx : a.eval x = sv) (hown : Own w base e v xs) (hr : Rd w G sv ys) (hlen : xs.length + ys.length ≤ 1000000) (hb : base ≤ w.heap.size)
    (h : ∀ v' w', Own w' base e v' (xs ++ ys) → w.grownBy w' v.ownBlock → (v'.ownBlock = v.ownBlock ∨ v'.ownBlock = some w.heap.size) → wpList P ops Q rest (a.put o.dst v') w') : wpList P ops Q (o :: rest) a w :=
  wpList_plain hgd fun _ hK => wp_app s x he ho hs hx hown hr hlen hb fun v' w' h2 h3 h4 => hK _ _ (h v' w' h2 h3 h4)
theorem step_app {P : Program} {w : World} {ops : Array Oper} {o : Oper} {a : Act} {K : Act → World → Prop} {Q : Exit → Act → World → Prop} {E : Prop} (hgd : o.guard = none) (s x : Operand) {t e : TypeId} (he : IntElem P t e)
    (ho : o.op = .call { callee := .builtin .append, args := #[s, x], argTypes := #[t, t] })
    {base : Nat} {v sv : Value} {xs ys : List Int} {G : Nat → Prop} (hs : a.eval s = v) (hx : a.eval x = sv) (hown : Own w base e v xs) (hr : Rd w G sv ys) (hlen : xs.length + ys.length ≤ 1000000) (hb : base ≤ w.heap.size)
    (h : ∀ v' w', Own w' base e v' (xs ++ ys) → w.grownBy w' v.ownBlock → (v'.ownBlock = v.ownBlock ∨ v'.ownBlock = some w.heap.size) → K (a.put o.dst v') w') :
    if Region.wanted o (yielded ops a.tmps) = true then Oper.wp P o a w K Q else E := by
  have hw : Region.wanted o (yielded ops a.tmps) = true := by simp [Region.wanted, hgd]
  rw [if_pos hw]
  exact wp_app s x he ho hs hx hown hr hlen hb h
end Go.Proofs.Ythdipkdolgcmgaa.Mem
