/-
  General words for slices whose elements take any fixed number of cells: 'RdL' (a slice value reads as a list), 'OwnL' (a slice that the call made owns a list), and append on them. Over any program. No condition.
-/
import Derived.Test.YthdipkdolgcmgaaMem
namespace Go.Proofs.Ythdipkdolgcmgaa.Mem
open Go.ChangeShapes Go.WideShapes Go.ChangeAt Go.RowKit

/-- How a thing lies in memory: so many cells, one value each. -/
structure Enc (α : Type) where
  sz : Nat
  cells : α → List Value
  len : ∀ a, (cells a).length = sz
  one : ∀ a, ∀ u ∈ cells a, u.oneCell' = true
  pos : 0 < sz

section
variable {α : Type} (E : Enc α)

/-- The slice value v reads as the things xs; where there are any they lie in a block of G. -/
def RdL (w : World) (G : Nat → Prop) (v : Value) (xs : List α) : Prop :=
  ∃ A c, v = .slice A xs.length c ∧ xs.length ≤ 1000000 ∧ (0 < xs.length → ∃ b off, A = some ⟨b, off, none⟩ ∧ G b ∧ b < w.heap.size ∧
    ∀ i a, xs[i]? = some a → ∀ j u, (E.cells a)[j]? = some u → w.cell? ⟨b, off + (i * E.sz + j), none⟩ = some u)
/-- The slice value v, made by the call itself from block 'base' on, owns the things xs. -/
def OwnL (w : World) (base : Nat) (e : TypeId) (v : Value) (xs : List α) : Prop := w.ownsRow base e E.sz v xs.length (xs.flatMap E.cells)

variable {E}
variable {w w' : World} {G G' : Nat → Prop} {v : Value} {xs ys : List α} {base : Nat} {e : TypeId}

theorem RdL.keep (h : RdL E w G v xs) (hs : w.heap.size ≤ w'.heap.size) (hk : ∀ k, k < w.heap.size → G k → w'.heap[k]? = w.heap[k]?) : RdL E w' G v xs := by
  obtain ⟨A, c, he, hm, hx⟩ := h
  refine ⟨A, c, he, hm, fun hp => ?_⟩
  obtain ⟨b, off, ha, hg, hb, hc⟩ := hx hp
  exact ⟨b, off, ha, hg, by omega, fun i a hi j u hj => (World.cell?_of_block (w := w) (hk b hb hg)).trans (hc i a hi j u hj)⟩
theorem RdL.below (h : RdL E w G v xs) (hb : Below w.heap.size w w') : RdL E w' G v xs := h.keep hb.size fun k hk _ => hb.block k hk
theorem RdL.grown {row : Option Nat} (h : RdL E w G v xs) (hg : w.grownBy w' row) (hr : ∀ k, row = some k → ¬ G k) : RdL E w' G v xs := h.keep hg.size fun k hk hG => hg.block k hk (fun e => hr k e.symm hG)
theorem RdL.drew (h : RdL E w G v xs) : RdL E w.drew G v xs := h
theorem RdL.drewN (h : RdL E w G v xs) (n : Nat) : RdL E (w.drewN n) G v xs := h
theorem RdL.alloc (h : RdL E w G v xs) (o : Obj) : RdL E (w.alloc o) G v xs := h.below ((Below.refl _ _).alloc (Nat.le_refl _) o)
theorem RdL.mono (h : RdL E w G v xs) (hG : ∀ k, k < w.heap.size → G k → G' k) : RdL E w G' v xs := by
  obtain ⟨A, c, he, hm, hx⟩ := h
  refine ⟨A, c, he, hm, fun hp => ?_⟩
  obtain ⟨b, off, ha, hg, hb, hc⟩ := hx hp
  exact ⟨b, off, ha, hG b hb hg, hb, hc⟩
theorem RdL.nil (w : World) (G : Nat → Prop) (A : Option Addr) (c : Nat) : RdL E w G (.slice A 0 c) ([] : List α) := ⟨A, c, rfl, by simp, fun h => by simp at h⟩
theorem RdL.form (h : RdL E w G v xs) : ∃ A c, v = .slice A xs.length c := by obtain ⟨A, c, he, _⟩ := h; exact ⟨A, c, he⟩
theorem RdL.le (h : RdL E w G v xs) : xs.length ≤ 1000000 := by obtain ⟨A, c, _, hm, _⟩ := h; exact hm
/-- The cells of one element. -/
theorem RdL.at_ {A : Option Addr} {n c : Nat} (h : RdL E w G (.slice A n c) xs) {i : Nat} {a : α} (hi : xs[i]? = some a) : ∃ b off, A = some ⟨b, off, none⟩ ∧ G b ∧ b < w.heap.size ∧ ∀ j u, (E.cells a)[j]? = some u → w.cell? ⟨b, off + (i * E.sz + j), none⟩ = some u := by
  obtain ⟨A', c', he, hm, hx⟩ := h
  injection he with h1 h2 h3
  subst h1
  have hp : 0 < xs.length := by
    have := (List.getElem?_eq_some_iff.1 hi).1
    omega
  obtain ⟨b, off, ha, hg, hb, hc⟩ := hx hp
  exact ⟨b, off, ha, hg, hb, fun j u hj => hc i a hi j u hj⟩

theorem flat_length (xs : List α) : (xs.flatMap E.cells).length = xs.length * E.sz := by
  induction xs with
  | nil => simp
  | cons x xs ih => rw [List.flatMap_cons, List.length_append, E.len, ih, List.length_cons, Nat.succ_mul]; omega
theorem flat_get : ∀ (xs : List α) (i : Nat) (a : α), xs[i]? = some a → ∀ j u, (E.cells a)[j]? = some u → (xs.flatMap E.cells)[i * E.sz + j]? = some u
  | [], i, a, h, _, _, _ => by simp at h
  | x :: xs, 0, a, h, j, u, hj => by
    simp at h
    subst h
    have hl : j < (E.cells x).length := (List.getElem?_eq_some_iff.1 hj).1
    rw [List.flatMap_cons, Nat.zero_mul, Nat.zero_add, List.getElem?_append_left hl]
    exact hj
  | x :: xs, i + 1, a, h, j, u, hj => by
    have hl := E.len x
    rw [List.flatMap_cons, List.getElem?_append_right (by rw [hl, Nat.succ_mul]; omega), hl, show (i + 1) * E.sz + j - E.sz = i * E.sz + j from by rw [Nat.succ_mul]; omega]
    exact flat_get xs i a (by simpa using h) j u hj

theorem OwnL.rd (h : OwnL E w base e v xs) (hm : xs.length ≤ 1000000) (hG : ∀ k, v.ownBlock = some k → G k) : RdL E w G v xs := by
  rcases h.2 with ⟨rfl, hn⟩ | ⟨g, cap, cur, rfl, hb, hg, hnc, hcm, hcs, hcur⟩
  · have : xs = [] := List.eq_nil_of_length_eq_zero hn
    subst this
    exact RdL.nil _ _ _ _
  · refine ⟨_, _, rfl, hm, fun hp => ⟨g, 0, rfl, hG g rfl, lt_of_block hg, fun i a hi j u hj => ?_⟩⟩
    have := World.ownsRow.cells h (g := g) rfl (i * E.sz + j) u (flat_get xs i a hi j u hj)
    rw [add_plain] at this
    exact this
theorem OwnL.form (h : OwnL E w base e v xs) : ∃ A c, v = .slice A xs.length c := by
  rcases h.2 with ⟨rfl, hn⟩ | ⟨g, cap, cur, rfl, _⟩
  · exact ⟨none, 0, by rw [hn]⟩
  · exact ⟨_, _, rfl⟩
theorem OwnL.drew (h : OwnL E w base e v xs) : OwnL E w.drew base e v xs := h
theorem OwnL.drewN (h : OwnL E w base e v xs) (n : Nat) : OwnL E (w.drewN n) base e v xs := h
theorem OwnL.alloc (h : OwnL E w base e v xs) (o : Obj) : OwnL E (w.alloc o) base e v xs := World.ownsRow.alloc h o
theorem OwnL.of_blocks (h : OwnL E w base e v xs) (hk : ∀ g, v.ownBlock = some g → g < w.heap.size → w'.heap[g]? = w.heap[g]?) : OwnL E w' base e v xs := by
  refine ⟨h.1, ?_⟩
  rcases h.2 with h0 | ⟨g, cap, cur, rfl, hb, hg, rest⟩
  · exact .inl h0
  · exact .inr ⟨g, cap, cur, rfl, hb, (hk g rfl (lt_of_block hg)).trans hg, rest⟩
theorem OwnL.lt (h : OwnL E w base e v xs) : ∀ k, v.ownBlock = some k → base ≤ k ∧ k < w.heap.size := World.ownsRow.lt h
theorem OwnL.lit0 (w : World) (base : Nat) (e : TypeId) (hb : base ≤ w.heap.size) : OwnL E (w.alloc (.cells #[] e)) base e (.slice (some ⟨w.heap.size, 0, none⟩) 0 0) ([] : List α) :=
  World.ownsRow_lit w #[] 0 hb (by simp [maxLen]) (by simp)
theorem OwnL.none_ (w : World) (base : Nat) (e : TypeId) : OwnL E w base e (.slice none 0 0) ([] : List α) := World.ownsRow_nil _ _ _ _
theorem OwnL.lit1 (w : World) (base : Nat) (e : TypeId) (a : α) {cs : Array Value} (hc : cs.toList = E.cells a) (hb : base ≤ w.heap.size) : OwnL E (w.alloc (.cells cs e)) base e (.slice (some ⟨w.heap.size, 0, none⟩) 1 1) [a] := by
  have h := World.ownsRow_lit (e := e) (size := E.sz) w cs 1 hb (by simp [maxLen]) (by rw [← Array.length_toList, hc, E.len, Nat.one_mul])
  rw [hc] at h
  have e1 : ([a] : List α).flatMap E.cells = E.cells a := by simp
  show World.ownsRow _ base e E.sz _ 1 (([a] : List α).flatMap E.cells)
  rw [e1]
  exact h
theorem RdL.lit1 (w : World) (e : TypeId) (a : α) {cs : Array Value} (hc : cs.toList = E.cells a) (G : Nat → Prop) (hg : G w.heap.size) : RdL E (w.alloc (.cells cs e)) G (.slice (some ⟨w.heap.size, 0, none⟩) 1 1) [a] :=
  (OwnL.lit1 (E := E) w 0 e a hc (Nat.zero_le _)).rd (by simp) (fun k hk => by simp [Value.ownBlock] at hk; exact hk ▸ hg)

/-- t is the type of the slices whose elements, of type e, lie as E says. -/
def Elem (E : Enc α) (P : Program) (t e : TypeId) : Prop := P.underlying t = some (.slice e) ∧ ∃ i z bytes, P.info? e = some i ∧ i.zero = some z ∧ i.size = E.sz ∧ i.bytes = bytes ∧ z.cells.size = E.sz ∧ bytes ≤ 100000
theorem elem_of {P : Program} {t e : TypeId} {z : Value} {bytes : Nat} (ht : P.underlying t = some (.slice e)) (h : (P.info? e).map (fun i => (i.zero, i.size, i.bytes)) = some (some z, E.sz, bytes)) (hz : z.cells.size = E.sz) (hb : bytes ≤ 100000) : Elem E P t e := by
  obtain ⟨i, h1, h2, h3, h4⟩ := info_parts h
  exact ⟨ht, i, z, bytes, h1, h2, h3, h4, hz, hb⟩

theorem run_appL {P : Program} {t ty : TypeId} (he : Elem E P t e) {sv : Value} (hown : OwnL E w base e v xs) (hr : RdL E w G sv ys)
    (hlen : xs.length + ys.length ≤ 1000000) (hb : base ≤ w.heap.size) :
    ∃ v' w', (Builtin.append_ #[t, t] ty #[v, sv]).run P w = .ok v' w' ∧ OwnL E w' base e v' (xs ++ ys) ∧ w.grownBy w' v.ownBlock ∧ (v'.ownBlock = v.ownBlock ∨ v'.ownBlock = some w.heap.size) := by
  obtain ⟨ht, i, z, bytes, hi, hz, hs, hy, hzs, hby⟩ := he
  obtain ⟨A, c, rfl, hm, hx⟩ := hr
  rcases A with _ | ad
  · have hl0 : ys = [] := by
      rcases Nat.eq_zero_or_pos ys.length with h0 | h0
      · exact List.eq_nil_of_length_eq_zero h0
      · obtain ⟨b, off, h, _⟩ := hx h0
        cases h
    subst hl0
    refine ⟨v, w, ?_, by simpa [OwnL] using hown, World.grownBy.refl w _, .inl rfl⟩
    rcases hown.2 with ⟨rfl, h0⟩ | ⟨g, cap, cur, rfl, _, _, hnc, _⟩
    · simp [Builtin.append_, run_underlying ht, sizeOf, typeInfo, hi, Builtin.lenOf, Builtin.firstCells]
    · simp [Builtin.append_, run_underlying ht, sizeOf, typeInfo, hi, Builtin.lenOf, Builtin.firstCells, hnc, storeCells]
  · have hnews : ∀ j u, (ys.flatMap E.cells)[j]? = some u → w.cell? (ad.add j) = some u := by
      intro j u hu
      rcases Nat.eq_zero_or_pos ys.length with h0 | h0
      · have : ys = [] := List.eq_nil_of_length_eq_zero h0
        subst this
        simp at hu
      · obtain ⟨b, off, h, _, _, hc⟩ := hx h0
        injection h with h
        subst h
        have hj : j < ys.length * E.sz := by
          rw [← flat_length (E := E) ys]
          exact (List.getElem?_eq_some_iff.1 hu).1
        have hq : j / E.sz < ys.length := (Nat.div_lt_iff_lt_mul E.pos).2 hj
        have hr2 : j % E.sz < E.sz := Nat.mod_lt _ E.pos
        have ha : ys[j / E.sz]? = some ys[j / E.sz] := List.getElem?_eq_getElem hq
        have hcj : (E.cells ys[j / E.sz])[j % E.sz]? = some ((E.cells ys[j / E.sz])[j % E.sz]'(by rw [E.len]; exact hr2)) := List.getElem?_eq_getElem _
        have hfl := flat_get (E := E) ys _ _ ha _ _ hcj
        have hjj : j / E.sz * E.sz + j % E.sz = j := by rw [Nat.mul_comm]; exact Nat.div_add_mod j E.sz
        rw [hjj] at hfl
        have hcell := hc _ _ ha _ _ hcj
        rw [hjj] at hcell
        rw [add_plain, hcell, ← hfl, hu]
    obtain ⟨v', w', hrun, h2, h3, _, h5⟩ := run_append_own_at (P := P) w base t ty e i z E.sz bytes ht hi hz hs hy hzs E.pos v xs.length _ hown ad ys.length c (ys.flatMap E.cells) (flat_length ys) hnews
      (by intro u hu; obtain ⟨a, _, ha⟩ := List.mem_flatMap.1 hu; exact E.one a u ha) (by unfold maxLen; omega) (by
        have : (xs.length + ys.length) * bytes ≤ 1000000 * 100000 := Nat.mul_le_mul hlen hby
        omega) hb
    refine ⟨v', w', hrun, ?_, h3, h5⟩
    unfold OwnL
    rw [List.flatMap_append, List.length_append]
    exact h2

theorem wp_appL {P : Program} {o : Oper} {a : Act} {K : Act → World → Prop} {Q : Exit → Act → World → Prop} (s x : Operand) {t : TypeId} (he : Elem E P t e)
    (ho : o.op = .call { callee := .builtin .append, args := #[s, x], argTypes := #[t, t] })
    {sv : Value} (hs : a.eval s = v) (hx : a.eval x = sv) (hown : OwnL E w base e v xs) (hr : RdL E w G sv ys) (hlen : xs.length + ys.length ≤ 1000000) (hb : base ≤ w.heap.size)
    (h : ∀ v' w', OwnL E w' base e v' (xs ++ ys) → w.grownBy w' v.ownBlock → (v'.ownBlock = v.ownBlock ∨ v'.ownBlock = some w.heap.size) → K (a.put o.dst v') w') : o.wp P a w K Q := by
  obtain ⟨v', w', hrun, h2, h3, h4⟩ := run_appL (P := P) (ty := o.type) he hown hr hlen hb
  unfold Oper.wp execOp
  simp only [ho, resolve, invoke, builtin, Sem.run_bind, Sem.run_pure, Result.andThen_ok, List.map_toArray, List.map_cons, List.map_nil, hs, hx, hrun]
  exact h v' w' h2 h3 h4
theorem wpList_appL {P : Program} {ops : Array Oper} {rest : List Oper} {o : Oper} {a : Act} {Q : Exit → Act → World → Prop} (hgd : o.guard = none) (s x : Operand) {t : TypeId} (he : Elem E P t e)
    (ho : o.op = .call { callee := .builtin .append, args := #[s, x], argTypes := #[t, t] })
    {sv : Value} (hs : a.eval s = v) (hx : a.eval x = sv) (hown : OwnL E w base e v xs) (hr : RdL E w G sv ys) (hlen : xs.length + ys.length ≤ 1000000) (hb : base ≤ w.heap.size)
    (h : ∀ v' w', OwnL E w' base e v' (xs ++ ys) → w.grownBy w' v.ownBlock → (v'.ownBlock = v.ownBlock ∨ v'.ownBlock = some w.heap.size) → wpList P ops Q rest (a.put o.dst v') w') : wpList P ops Q (o :: rest) a w :=
  wpList_plain hgd fun _ hK => wp_appL s x he ho hs hx hown hr hlen hb fun v' w' h2 h3 h4 => hK _ _ (h v' w' h2 h3 h4)
end
end Go.Proofs.Ythdipkdolgcmgaa.Mem
