/-
  A map from numbers to entries that the call makes, as the list of its entries (layer 3). No condition.
-/
import Derived.Test.YtilfjhpellmfoaaHeapMoved
import Derived.Maps.OwnSet
import Derived.Maps.RangeWalk
namespace Go.Proofs.Ytilfjhpellmfoaa.HeapI
open Go.ChangeShapes Go.WideShapes Go.ChangeAt Go.RowKit Mem RefHeap Hand Go.Maps

/-- What an entry reads as. -/
def entD (x : Ent) : DataW Unit := .agg [.lit (.int .i64 x.id), .lit (.int .i64 x.at_), .lit (.int .i64 x.seq)]
def entR (v : Value) : Option (DataW Unit × List MemPlace) := match v with
  | .agg cs => match cs.toList with
    | [.int .i64 a, .int .i64 b, .int .i64 c] => some (entD ⟨a, b, c⟩, [])
    | _ => none
  | _ => none
theorem entR_mk (x : Ent) : entR (.agg #[.int .i64 x.id, .int .i64 x.at_, .int .i64 x.seq]) = some (entD x, []) := rfl
theorem entR_inv {v : Value} {y : DataW Unit × List MemPlace} (h : entR v = some y) : ∃ x : Ent, v = .agg #[.int .i64 x.id, .int .i64 x.at_, .int .i64 x.seq] ∧ y = (entD x, []) := by
  unfold entR at h
  split at h
  · rename_i cs
    split at h
    · rename_i a b c hcs
      injection h with h
      refine ⟨⟨a, b, c⟩, ?_, h.symm⟩
      congr 1
      exact Array.ext' hcs
    · cases h
  · cases h
theorem entD_inj {x y : Ent} (h : entD x = entD y) : x = y := by
  unfold entD at h
  injection h with h
  simp at h
  cases x; cases y; simp_all

theorem law : Keyed Try.prog 3 := int_keyed Try.underlying3
theorem zeroE (w : World) : (zeroValue 32).run Try.prog w = .ok (.agg #[.int .i64 0, .int .i64 0, .int .i64 0]) w := by kernel_rfl
theorem wf64 {a : Int} (h : In64 a) : (Lit.int .i64 a).wf = true := by
  have h1 : IntKind.i64.min = -9223372036854775808 := rfl
  have h2 : IntKind.i64.max = 9223372036854775807 := rfl
  simp only [Lit.wf, Bool.and_eq_true, decide_eq_true_eq]
  have := h.1; have := h.2
  omega
theorem hkey {a : Int} (h : In64 a) : keyOf Try.prog 3 (.int .i64 a) = some (.int .i64 a) := keyOf_int_mk Try.underlying3 (wf64 h)

/-- The map reads as the entries L. -/
structure Tells (D : DataW Unit) (L : List Ent) : Prop where
  has : ∀ id, Maps.has D (.int .i64 id) = getB L id
  at_ : ∀ id z, getB L id = true → D.atKey (.int .i64 id) z = entD (getE L id)
  size : Maps.size D = L.length

theorem getB_ins (x : Ent) (id : Int) : ∀ L : List Ent, getB (insH x L) id = (x.id == id || getB L id)
  | [] => by
    unfold getB insH
    by_cases e : x.id = id <;> simp [e]
  | y :: l => by
    unfold insH
    have ih := getB_ins x id l
    unfold getB at ih ⊢
    split
    · simp only [List.find?_cons]
      cases hx : x.id == id <;> simp
    · simp only [List.find?_cons]
      cases hy : y.id == id
      · simpa using ih
      · simp
theorem getE_ins (x : Ent) (id : Int) : ∀ L : List Ent, getB L x.id = false → getE (insH x L) id = if x.id = id then x else getE L id
  | [], _ => by
    unfold getE insH
    by_cases e : x.id = id <;> simp [e]
  | y :: l, h => by
    have hy : (y.id == x.id) = false := by
      unfold getB at h
      simp only [List.find?_cons] at h
      cases hh : y.id == x.id
      · rfl
      · rw [hh] at h; simp at h
    have hl : getB l x.id = false := by
      unfold getB at h ⊢
      simpa [List.find?_cons, hy] using h
    have ih := getE_ins x id l hl
    unfold insH
    unfold getE at ih ⊢
    split
    · simp only [List.find?_cons]
      by_cases e : x.id = id
      · simp [e]
      · have : (x.id == id) = false := by simpa using e
        simp [this, e]
    · simp only [List.find?_cons]
      cases hyi : y.id == id
      · simpa using ih
      · have e : x.id ≠ id := by
          intro e
          rw [← e] at hyi
          rw [hyi] at hy; cases hy
        simp [e]
theorem tells_put {D : DataW Unit} {L : List Ent} (h : Tells D L) (hD : Maps.Tidy D) {x : Ent} (hn : getB L x.id = false) : Tells (D.put (.int .i64 x.id) (entD x)) (insH x L) := by
  have hk : WideAt.IsKeyLit (.int .i64 x.id) := trivial
  refine ⟨fun id => ?_, fun id z hid => ?_, ?_⟩
  · rw [getB_ins]
    by_cases e : x.id = id
    · subst e; rw [has_put_same hD.isMap hk]; simp
    · rw [has_put_other (by intro h; injection h with _ h; exact e h.symm), h.has id]
      have : (x.id == id) = false := by simpa using e
      simp [this]
  · rw [getE_ins x id L hn]
    by_cases e : x.id = id
    · subst e; rw [atKey_put_same hD.isMap hk, if_pos rfl]
    · rw [atKey_put_other (by intro h; injection h with _ h; exact e h.symm), if_neg e]
      rw [getB_ins] at hid
      have : (x.id == id) = false := by simpa using e
      exact h.at_ id z (by simpa [this] using hid)
  · rw [size_put hD, h.has, hn, h.size]
    simp [ins_length]
theorem getB_drop (L : List Ent) (k id : Int) : getB (dropH L k) id = if id = k then false else getB L id := by
  unfold getB dropH
  induction L with
  | nil => split <;> rfl
  | cons y l ih =>
    simp only [List.filter_cons, List.find?_cons]
    by_cases hy : y.id = k
    · have h1 : (y.id != k) = false := by simpa using hy
      rw [h1]
      by_cases e : id = k
      · rw [if_pos e] at ih ⊢
        simpa using ih
      · rw [if_neg e] at ih ⊢
        have : (y.id == id) = false := by simp; omega
        simpa [this] using ih
    · have h1 : (y.id != k) = true := by simpa using hy
      rw [h1, if_pos rfl, List.find?_cons]
      cases hh : y.id == id
      · simpa using ih
      · have : y.id = id := by simpa using hh
        rw [if_neg (by omega)]
theorem getE_drop (L : List Ent) (k id : Int) (h : id ≠ k) : getE (dropH L k) id = getE L id := by
  unfold getE dropH
  congr 1
  rw [List.find?_filter]
  congr 1
  funext y
  by_cases e : y.id = id
  · have : y.id ≠ k := by omega
    simp [e, h]
  · have : (y.id == id) = false := by simpa using e
    simp [this]
theorem drop_length {L : List Ent} (hn : (L.map (·.id)).Nodup) {k : Int} (h : getB L k = true) : (dropH L k).length + 1 = L.length := by
  unfold getB at h
  rw [Option.isSome_iff_exists] at h
  obtain ⟨a, ha⟩ := h
  have hid : a.id = k := by simpa using List.find?_some ha
  obtain ⟨p, q, rfl⟩ := List.append_of_mem (List.mem_of_find?_eq_some ha)
  simp only [List.map_append, List.map_cons, List.nodup_append, List.nodup_cons] at hn
  unfold dropH
  have hp : p.filter (fun y => y.id != k) = p := List.filter_eq_self.2 fun y hy => by
    have := hn.2.2 y.id (List.mem_map_of_mem hy) a.id (by simp)
    simpa [hid] using this
  have hq : q.filter (fun y => y.id != k) = q := List.filter_eq_self.2 fun y hy => by
    have := hn.2.1.1
    simp
    intro e
    exact this (by rw [hid, ← e]; exact List.mem_map_of_mem hy)
  simp [List.filter_append, hp, hq, hid]
  omega
theorem tells_del {D : DataW Unit} {L : List Ent} (h : Tells D L) (hD : Maps.Tidy D) (hn : (L.map (·.id)).Nodup) {k : Int} (hk : getB L k = true) : Tells (D.del (.int .i64 k)) (dropH L k) := by
  refine ⟨fun id => ?_, fun id z hid => ?_, ?_⟩
  · rw [getB_drop]
    by_cases e : id = k
    · subst e; rw [has_del_same, if_pos rfl]
    · rw [has_del_other (by intro h; injection h with _ h; exact e h), if_neg e, h.has]
  · rw [getB_drop] at hid
    by_cases e : id = k
    · rw [if_pos e] at hid; cases hid
    · rw [if_neg e] at hid
      rw [atKey_del_other (by intro h; injection h with _ h; exact e h), getE_drop L k id e, h.at_ id z hid]
  · have h1 := size_del (k := .int .i64 k) hD
    rw [h.has, hk, if_pos rfl, h.size] at h1
    have := drop_length hn hk
    omega
theorem tells_empty : Tells (.map []) [] := ⟨fun _ => rfl, (fun _ _ h => by cases h), rfl⟩

/-- A map of one's own, of at most n entries. -/
def mp (b n : Nat) (L : List Ent) : Res where
  holds w F := (∃ D, w.ownsMap Try.prog 3 entR b n D ∧ Tells D L) ∧ F = fun k => k = b
  keep := fun ⟨⟨D, ⟨es, clock, hb, hr⟩, ht⟩, e⟩ _ hk => ⟨⟨D, ⟨es, clock, (hk b (lt_of_block hb) (by rw [e])).trans hb, hr⟩, ht⟩, e⟩
  lt := fun ⟨⟨_, ⟨_, _, hb, _⟩, _⟩, e⟩ k hk => by rw [e] at hk; exact hk ▸ lt_of_block hb

/-- How many are late, of those that no longer are to come. -/
def late (now : Int) (left : Lit → Bool) (L : List Ent) : Nat := (L.filter fun y => decide (now < y.at_) && !left (.int .i64 y.id)).length
theorem late_start {now : Int} {left : Lit → Bool} {L : List Ent} (h : ∀ y ∈ L, left (.int .i64 y.id) = true) : late now left L = 0 := by
  unfold late
  rw [List.length_eq_zero_iff, List.filter_eq_nil_iff]
  intro y hy
  simp [h y hy]
theorem late_end {now : Int} {left : Lit → Bool} {L : List Ent} (h : ∀ kl, left kl = false) : late now left L = (L.filter fun y => decide (now < y.at_)).length := by
  unfold late
  simp [h]
theorem sameKey_self (a : Int) : (Lit.int .i64 a).sameKey (.int .i64 a) = true := by simp [Lit.sameKey]
theorem sameKey_of (a b : Int) (h : a ≠ b) : (Lit.int .i64 a).sameKey (.int .i64 b) = false := sameKey_ne (by intro e; injection e with _ e; exact h e)
theorem late_step {now : Int} {left : Lit → Bool} {L : List Ent} (hn : (L.map (·.id)).Nodup) {e : Ent} (he : e ∈ L) (hl : left (.int .i64 e.id) = true) :
    late now (fun z => left z && !z.sameKey (.int .i64 e.id)) L = late now left L + if now < e.at_ then 1 else 0 := by
  obtain ⟨p, q, rfl⟩ := List.append_of_mem he
  simp only [List.map_append, List.map_cons, List.nodup_append, List.nodup_cons] at hn
  unfold late
  have hp : p.filter (fun y => decide (now < y.at_) && !(left (.int .i64 y.id) && !(Lit.int .i64 y.id).sameKey (.int .i64 e.id))) = p.filter (fun y => decide (now < y.at_) && !left (.int .i64 y.id)) := List.filter_congr fun y hy => by
    have := hn.2.2 y.id (List.mem_map_of_mem hy) e.id (by simp)
    rw [sameKey_of _ _ this]; simp
  have hq : q.filter (fun y => decide (now < y.at_) && !(left (.int .i64 y.id) && !(Lit.int .i64 y.id).sameKey (.int .i64 e.id))) = q.filter (fun y => decide (now < y.at_) && !left (.int .i64 y.id)) := List.filter_congr fun y hy => by
    have : y.id ≠ e.id := fun h => hn.2.1.1 (h ▸ List.mem_map_of_mem hy)
    rw [sameKey_of _ _ this]; simp
  rw [List.filter_append, List.filter_append, List.filter_cons, List.filter_cons, hp, hq]
  simp only [hl, sameKey_self]
  by_cases hlt : now < e.at_ <;> simp [hlt] <;> omega

/-- Of entries in order: as soon as one's time has not come, none's has. -/
theorem late_rest {N now : Int} {a : Ent} {L : List Ent} (hok : Ok (a :: L) N) (ha : now < a.at_) : ((a :: L).filter fun y => decide (now < y.at_)).length = (a :: L).length := by
  rw [List.filter_eq_self.2 fun y hy => ?_]
  rcases List.mem_cons.1 hy with rfl | hy
  · simpa using ha
  · have := (List.pairwise_cons.1 hok.order).1 y hy
    have hle : a.at_ ≤ y.at_ := by
      unfold RefHeap.ahead at this
      split at this
      · simp at this; omega
      · omega
    simp; omega
theorem get_head {a : Ent} {L : List Ent} : getB (a :: L) a.id = true ∧ getE (a :: L) a.id = a := by
  unfold getB getE
  simp
theorem drop_head {N : Int} {a : Ent} {L : List Ent} (hok : Ok (a :: L) N) : dropH (a :: L) a.id = L := by
  have hn := hok.once
  simp only [List.map_cons, List.nodup_cons] at hn
  unfold dropH
  rw [List.filter_cons, if_neg (by simp)]
  refine List.filter_eq_self.2 fun y hy => ?_
  simp
  intro e
  exact hn.1 (by rw [← e]; exact List.mem_map_of_mem hy)
theorem len_le (n : Nat) : ∀ (m : Nat) (l : List Int), m = n → l.Nodup → (∀ x ∈ l, 0 ≤ x ∧ x < (n : Int)) → l.length ≤ n := by
  induction n with
  | zero =>
    intro m l _ _ h
    cases l with
    | nil => simp
    | cons x l => have := h x (by simp); omega
  | succ n ih =>
    intro m l _ hn h
    by_cases hm : (n : Int) ∈ l
    · have := ih n (l.erase n) rfl (hn.erase _) (fun x hx => by
        have h1 := h x (List.mem_of_mem_erase hx)
        have h2 : x ≠ n := fun e => by subst e; exact absurd hx (by simp [hn.mem_erase_iff])
        omega)
      rw [List.length_erase_of_mem hm] at this
      omega
    · have := ih n l rfl hn (fun x hx => by
        have h1 := h x hx
        have h2 : x ≠ n := fun e => hm (e ▸ hx)
        omega)
      omega
theorem len60 {L : List Ent} (hok : Ok L 60) : L.length ≤ 60 := by
  have := len_le 60 60 (L.map (·.id)) rfl hok.once (fun x hx => by
    obtain ⟨y, hy, rfl⟩ := List.mem_map.1 hx
    exact hok.ids y hy)
  simpa using this

theorem below_grown {w w' : World} (h : w.grownBy w' none) : Below w.heap.size w w' := ⟨h.os, h.tape, h.output, h.size, fun k hk => h.block k hk (by simp)⟩
theorem s_mapnew {B : Nat → Prop} {w wk : World} {Rs : List Res} (h : Sep B w wk Rs) : Sep B w (wk.alloc (.map #[] 0)) (mp wk.heap.size 0 [] :: Rs) :=
  h.add (new_below0 wk _) (R := mp wk.heap.size 0 []) ⟨⟨_, World.ownsMap_made wk Try.prog 3 entR, tells_empty⟩, rfl⟩ fun _ hk => Nat.le_of_eq hk.symm
/-- The map's new entry, and one that is gone. -/
theorem s_mapput {B : Nat → Prop} {w wk wn : World} {Rs : List Res} (h : Sep B w wk Rs) (i : Nat) {b n m : Nat} {L L' : List Ent} (hi : Rs[i]? = some (mp b n L)) {D : DataW Unit} (ho : wn.ownsMap Try.prog 3 entR b m D) (ht : Tells D L') (hg : wk.grownBy wn (some b)) : Sep B w wn (Rs.set i (mp b m L')) := by
  obtain ⟨F, ⟨_, rfl⟩, _, hn⟩ := h.upd i hi
  exact hn (mp b m L') ⟨⟨D, ho, ht⟩, rfl⟩ (Only.of_grown hg fun k hk _ => by injection hk with hk; exact hk.symm) fun k hk => .inl hk
theorem s_mapis {B : Nat → Prop} {w wk : World} {Rs : List Res} (h : Sep B w wk Rs) (i : Nat) {b n : Nat} {L : List Ent} (hi : Rs[i]? = some (mp b n L)) : ∃ D, wk.ownsMap Try.prog 3 entR b n D ∧ Tells D L := by
  obtain ⟨F, hD, _⟩ := h.get i hi
  exact hD
/-- A map that is gone through. -/
def rng (b r n : Nat) (D : DataW Unit) (left : Lit → Bool) (cnt : Nat) : Res where
  holds w F := w.ranges Try.prog 3 entR b r n D left cnt ∧ F = fun k => k = b ∨ k = r
  keep := fun ⟨⟨es, clock, since, seen, c0, hb, h1, h2, h3, hr, hh⟩, e⟩ _ hk => ⟨⟨es, clock, since, seen, c0, (hk b (lt_of_block hb) (by rw [e]; exact .inl rfl)).trans hb, h1, h2, h3, (hk r (lt_of_block hr) (by rw [e]; exact .inr rfl)).trans hr, hh⟩, e⟩
  lt := fun ⟨⟨es, clock, since, seen, c0, hb, h1, h2, h3, hr, hh⟩, e⟩ k hk => by
    rw [e] at hk
    rcases hk with rfl | rfl
    · exact lt_of_block hb
    · exact lt_of_block hr
theorem s_range {B : Nat → Prop} {w wk wn : World} {Rs : List Res} (h : Sep B w wk Rs) (i : Nat) {b n : Nat} {L : List Ent} (hi : Rs[i]? = some (mp b n L)) {D : DataW Unit} {left : Lit → Bool} {cnt : Nat} (hr : wn.ranges Try.prog 3 entR b wk.heap.size n D left cnt) (hg : wk.grownBy wn none) : Sep B w wn (Rs.set i (rng b wk.heap.size n D left cnt)) := by
  obtain ⟨F, ⟨_, rfl⟩, _, hn⟩ := h.upd i hi
  exact hn (rng b wk.heap.size n D left cnt) ⟨hr, rfl⟩ (Only.of_below (below_grown hg)) fun k hk => hk.imp id fun e => Nat.le_of_eq e.symm
theorem s_next {B : Nat → Prop} {w wk wn : World} {Rs : List Res} (h : Sep B w wk Rs) (i : Nat) {b r n : Nat} {D : DataW Unit} {left left' : Lit → Bool} {cnt cnt' : Nat} (hi : Rs[i]? = some (rng b r n D left cnt)) (hr : wn.ranges Try.prog 3 entR b r n D left' cnt') (hg : wk.grownBy wn (some r)) : Sep B w wn (Rs.set i (rng b r n D left' cnt')) := by
  obtain ⟨F, ⟨_, rfl⟩, _, hn⟩ := h.upd i hi
  exact hn (rng b r n D left' cnt') ⟨hr, rfl⟩ (Only.of_grown hg fun k hk _ => by injection hk with hk; exact .inr hk.symm) fun k hk => .inl hk
theorem s_ranged {B : Nat → Prop} {w wk : World} {Rs : List Res} (h : Sep B w wk Rs) (i : Nat) {b r n : Nat} {D : DataW Unit} {left : Lit → Bool} {cnt : Nat} {L : List Ent} (hi : Rs[i]? = some (rng b r n D left cnt)) (ht : Tells D L) : Sep B w wk (Rs.set i (mp b n L)) := by
  obtain ⟨F, ⟨hr, rfl⟩, _, hn⟩ := h.upd i hi
  exact hn (mp b n L) ⟨⟨D, hr.owns, ht⟩, rfl⟩ (Only.refl _ _) fun k hk => .inl (.inl hk)
theorem s_rng {B : Nat → Prop} {w wk : World} {Rs : List Res} (h : Sep B w wk Rs) (i : Nat) {b r n : Nat} {D : DataW Unit} {left : Lit → Bool} {cnt : Nat} (hi : Rs[i]? = some (rng b r n D left cnt)) : wk.ranges Try.prog 3 entR b r n D left cnt := by
  obtain ⟨F, hr, _⟩ := h.get i hi
  exact hr

section
variable {w : World} {ops : Array Oper} {rest : List Oper} {o : Oper} {a : Act} {Q : Exit → Act → World → Prop}
/-- 'y, there := came[id]', where it is there. -/
theorem wp_look (hg : o.guard = none) (m x : Operand) (hop : o.op = Op.lookup 61 m x true) {b n : Nat} {D : DataW Unit} {L : List Ent} (hm : a.eval m = .map (some b)) (hown : w.ownsMap Try.prog 3 entR b n D) (ht : Tells D L) {id : Int} (hid : In64 id) (hx : a.eval x = .int .i64 id) {e : Ent} (hB : getB L id = true) (hE : getE L id = e)
    (hK : wpList Try.prog ops Q rest (a.put o.dst (.tuple #[.agg #[.int .i64 e.id, .int .i64 e.at_, .int .i64 e.seq], .bool true])) w) : wpList Try.prog ops Q (o :: rest) a w := by
  refine wpList_lookup_own_ok w hg m x 61 hop 3 32 law Try.underlying61 entR (zeroE w) (entD zeroEnt) [] rfl b n D hm hown _ (.int .i64 id) hx (hkey hid) ?_
  intro v ps hv
  rw [ht.at_ id _ hB, hE] at hv
  obtain ⟨y, rfl, hy⟩ := entR_inv hv
  have : e = y := entD_inj (by simpa using congrArg Prod.fst hy)
  subst this
  rw [ht.has, hB]
  exact hK
/-- 'len(came)'. -/
theorem wp_len (hg : o.guard = none) (m : Operand) (hop : o.op = Op.call { callee := Callee.builtin Builtin.len, args := #[m], argTypes := #[61] }) {b n : Nat} {D : DataW Unit} {L : List Ent} (hm : a.eval m = .map (some b)) (hown : w.ownsMap Try.prog 3 entR b n D) (ht : Tells D L)
    (hK : wpList Try.prog ops Q rest (a.put o.dst (.int .i64 L.length)) w) : wpList Try.prog ops Q (o :: rest) a w := by
  refine wpList_len_own w hg m 61 hop 3 32 Try.underlying61 entR b n D hm hown ?_
  rw [ht.size]
  exact hK
/-- The next entry of a map that is gone through. -/
theorem wp_next (hg : o.guard = none) (it : Operand) (hop : o.op = Op.next it false) {b r n : Nat} {D : DataW Unit} {L : List Ent} {left : Lit → Bool} {cnt : Nat} (hit : a.eval it = .pointer (some ⟨r, 0, none⟩)) (h : w.ranges Try.prog 3 entR b r n D left cnt) (ht : Tells D L)
    (hDone : (∀ kl, left kl = false) → wpList Try.prog ops Q rest (a.put o.dst (.tuple #[.bool false])) w)
    (hMore : ∀ (e : Ent) (w' : World) (cnt' : Nat), e ∈ L → left (.int .i64 e.id) = true → w'.ranges Try.prog 3 entR b r n D (fun z => left z && !z.sameKey (.int .i64 e.id)) cnt' → cnt' < cnt → w.grownBy w' (some r) →
      (Instr.entry (.pointer (some ⟨r, 0, none⟩))).run Try.prog w' = .ok (.tuple #[.int .i64 e.id, .agg #[.int .i64 e.id, .int .i64 e.at_, .int .i64 e.seq]]) w' →
      wpList Try.prog ops Q rest (a.put o.dst (.tuple #[.bool true, .int .i64 e.id, .agg #[.int .i64 e.id, .int .i64 e.at_, .int .i64 e.seq]])) w') : wpList Try.prog ops Q (o :: rest) a w := by
  refine wpList_next_ranges w hg it hop 3 law entR (fun x : Int => .int .i64 x) (fun e : Ent => .agg #[.int .i64 e.id, .int .i64 e.at_, .int .i64 e.seq])
    (fun key kl hk => by obtain ⟨x, rfl, _⟩ := Maps.keyOf_int_inv Try.underlying3 hk; exact ⟨x, rfl⟩) (fun v y hv => by obtain ⟨x, rfl, _⟩ := entR_inv hv; exact ⟨x, rfl⟩) b r n D left cnt hit h (fun _ hl => hDone hl) ?_
  intro x c kl y w' cnt' hk hlk hv hat hr hlt hgr _ hen
  obtain ⟨x', ex, rfl, _⟩ := Maps.keyOf_int_inv Try.underlying3 hk
  injection ex with _ ex
  subst ex
  rw [entR_mk] at hv
  injection hv with hv
  subst hv
  have hb : getB L x = true := by rw [← ht.has]; exact Maps.has_true_of_atKey hat
  have hc : getE L x = c := entD_inj (by rw [← ht.at_ x (.agg []) hb, hat])
  have hid : c.id = x ∧ c ∈ L := by
    unfold getB at hb
    rw [Option.isSome_iff_exists] at hb
    obtain ⟨e, he⟩ := hb
    have e1 : getE L x = e := by unfold getE; rw [he]; rfl
    have : c = e := hc.symm.trans e1
    subst this
    exact ⟨by simpa using List.find?_some he, List.mem_of_find?_eq_some he⟩
  obtain ⟨rfl, hm⟩ := hid
  exact hMore c w' cnt' hm hlk hr hlt hgr hen
end
end Go.Proofs.Ytilfjhpellmfoaa.HeapI
