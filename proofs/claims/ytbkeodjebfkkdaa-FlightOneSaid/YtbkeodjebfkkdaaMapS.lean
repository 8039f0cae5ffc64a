/-
  A map from numbers to slices that are only read, behind a pointer, as things at hand. No condition.
-/
import Derived.Test.YtbkeodjebfkkdaaMutP
import Derived.Test.YtbkeodjebfkkdaaSep
import Derived.Test.YtbkeodjebfkkdaaRows
import Derived.Maps.OwnSet
namespace Go.Proofs.Ytbkeodjebfkkdaa.MapS
open Go.ChangeShapes Go.WideShapes Go.ChangeAt Go.RowKit Mem MutP Hand Go.Maps

/-- No slice. -/
def vN : Value := .slice none 0 0
/-- A slice in the map is read as it stands. -/
def hR (v : Value) : Option (DataW Value × List MemPlace) := some (.held v, [])
def Holds (D : DataW Value) (f : Int → Value) : Prop := ∀ d : Int, D.atKey (.int .i64 d) (.held vN) = .held (f d)
theorem kLaw : Keyed Try.prog 3 := int_keyed Try.underlying3
theorem zeroS (w : World) : (zeroValue 33).run Try.prog w = .ok vN w := by kernel_rfl
theorem wf64 {a : Int} (h : In64 a) : (Lit.int .i64 a).wf = true := by
  have h1 : IntKind.i64.min = -9223372036854775808 := rfl
  have h2 : IntKind.i64.max = 9223372036854775807 := rfl
  simp only [Lit.wf, Bool.and_eq_true, decide_eq_true_eq]
  have := h.1; have := h.2
  omega
theorem hkey {a : Int} (h : In64 a) : keyOf Try.prog 3 (.int .i64 a) = some (.int .i64 a) := keyOf_int_mk Try.underlying3 (wf64 h)
def upd (f : Int → Value) (d : Int) (v : Value) : Int → Value := fun x => if x = d then v else f x
theorem upd_same (f : Int → Value) (d : Int) (v : Value) : upd f d v d = v := if_pos rfl
theorem upd_other {f : Int → Value} {d x : Int} (v : Value) (h : x ≠ d) : upd f d v x = f x := if_neg h
theorem lit_ne {a b : Int} (h : a ≠ b) : (Lit.int .i64 a) ≠ .int .i64 b := fun e => by injection e with _ e; exact h e
section
variable {D : DataW Value} {f : Int → Value}
theorem holds_put (h : Holds D f) (hD : IsMap D) (d : Int) (v : Value) : Holds (D.put (.int .i64 d) (.held v)) (upd f d v) := fun x => by
  by_cases e : x = d
  · subst e
    rw [atKey_put_same hD (show WideAt.IsKeyLit (.int .i64 x) from trivial), upd_same]
  · rw [atKey_put_other (lit_ne e), upd_other v e, h x]
theorem holds_del (h : Holds D f) (d : Int) : Holds (D.del (.int .i64 d)) (upd f d vN) := fun x => by
  by_cases e : x = d
  · subst e
    rw [atKey_del_same, upd_same]
  · rw [atKey_del_other (lit_ne e), upd_other vN e, h x]
theorem holds_has (h : Holds D f) {d : Int} (hv : f d ≠ vN) : Maps.has D (.int .i64 d) = true := by
  cases hh : Maps.has D (.int .i64 d)
  · have h1 := h d
    rw [atKey_of_not_has hh] at h1
    injection h1 with h1
    exact absurd h1.symm hv
  · rfl
end
theorem owns_tight {P : Program} {k : TypeId} {R : Value → Option (DataW Value × List MemPlace)} {w : World} {b n : Nat} {D : DataW Value} (h : w.ownsMap P k R b n D) : w.ownsMap P k R b (Maps.size D) D := by
  obtain ⟨es, clock, hb, F, hs, rfl⟩ := h
  exact ⟨es, clock, hb, F, by simp [Maps.size, length_sorted], rfl⟩

/-- A map of at most n slices. -/
def sm (b n : Nat) (f : Int → Value) : Res where
  holds w F := (∃ D, w.ownsMap Try.prog 3 hR b n D ∧ Holds D f) ∧ F = fun k => k = b
  keep := fun ⟨⟨D, ⟨es, clock, hb, hr⟩, ht⟩, e⟩ _ hk => ⟨⟨D, ⟨es, clock, (hk b (lt_of_block hb) (by rw [e])).trans hb, hr⟩, ht⟩, e⟩
  lt := fun ⟨⟨_, ⟨_, _, hb, _⟩, _⟩, e⟩ k hk => by rw [e] at hk; exact hk ▸ lt_of_block hb

/-- Lists that can be read, by their numbers. -/
def readsF (f : Int → Value) (W : Int → List Int) : Res where
  holds w F := (∀ d, Rd w F (f d) (W d)) ∧ ∀ k, F k → k < w.heap.size
  keep := fun ⟨h, e⟩ hs hk => ⟨fun d => (h d).keep hs hk, fun k hF => Nat.lt_of_lt_of_le (e k hF) hs⟩
  lt := fun ⟨_, e⟩ => e
section
variable {B : Nat → Prop} {w wk wn : World} {Rs : List Res} {b n : Nat} {f : Int → Value} {W W' : Int → List Int}
theorem sm_new (h : Sep B w wk Rs) : Sep B w (wk.alloc (.map #[] 0)) (sm wk.heap.size 0 (fun _ => vN) :: Rs) :=
  h.add (new_below0 wk _) (R := sm wk.heap.size 0 fun _ => vN) ⟨⟨_, World.ownsMap_made wk Try.prog 3 hR, fun _ => rfl⟩, rfl⟩ fun _ hk => Nat.le_of_eq hk.symm
theorem sm_at (h : Sep B w wk Rs) (i : Nat) (hi : Rs[i]? = some (sm b n f)) : ∃ D, wk.ownsMap Try.prog 3 hR b n D ∧ Holds D f := by
  obtain ⟨F, hD, _⟩ := h.get i hi
  exact hD
/-- 'm[d]'. -/
theorem sm_look (h : Sep B w wk Rs) (i : Nat) (hi : Rs[i]? = some (sm b n f)) {d : Int} (hd : In64 d) : (Instr.lookup 56 (.map (some b)) (.int .i64 d) false).run Try.prog wk = .ok (f d) wk := by
  obtain ⟨D, ho, ht⟩ := sm_at h i hi
  obtain ⟨v, ps, hrun, hv⟩ := ho.lookup kLaw Try.underlying56 (zeroS wk) (zd := .held vN) (zp := []) rfl (hkey hd)
  rw [ht d] at hv
  unfold hR at hv
  injection hv with hv
  injection hv with hv _
  injection hv with hv
  rw [hrun, hv]
/-- The map is another one. -/
theorem sm_turn (h : Sep B w wk Rs) (i : Nat) (hi : Rs[i]? = some (sm b n f)) {D : DataW Value} {m : Nat} {g : Int → Value} (ho : wn.ownsMap Try.prog 3 hR b m D) (ht : Holds D g) (hg : wk.grownBy wn (some b)) : Sep B w wn (Rs.set i (sm b m g)) := by
  obtain ⟨F, ⟨_, rfl⟩, _, hn⟩ := h.upd i hi
  exact hn (sm b m g) ⟨⟨D, ho, ht⟩, rfl⟩ (Only.of_grown hg fun k hk _ => by injection hk with hk; exact hk.symm) fun k hk => .inl hk
theorem sm_more (h : Sep B w wk Rs) (i : Nat) (hi : Rs[i]? = some (sm b n f)) {m : Nat} (hm : n ≤ m) : Sep B w wk (Rs.set i (sm b m f)) := by
  obtain ⟨D, ho, ht⟩ := sm_at h i hi
  exact sm_turn h i hi (ho.mono hm) ht (World.grownBy.refl _ _)
/-- 'm[d] = v'. -/
theorem sm_put (h : Sep B w wk Rs) (i : Nat) (hi : Rs[i]? = some (sm b n f)) {d : Int} (hd : In64 d) (v : Value) {m : Nat} (hm : m = n + 1 ∨ m = n ∧ f d ≠ vN) (hn : n < 1000000) :
    ∃ wn, (Instr.mapUpdate 56 (.map (some b)) (.int .i64 d) v).run Try.prog wk = .ok () wn ∧ Sep B w wn (Rs.set i (sm b m (upd f d v))) := by
  obtain ⟨D, ho, ht⟩ := sm_at h i hi
  have ht' := holds_put ht ho.isMap d v
  obtain ⟨wn, hrun, h1, h2⟩ := ho.store kLaw Try.underlying56 (by unfold maxLen; omega) (hkey hd) (val := v) (d := .held v) (ps := []) rfl
  refine ⟨wn, hrun, ?_⟩
  rcases hm with rfl | ⟨rfl, hv⟩
  · exact sm_turn h i hi h1 ht' h2.grown
  · have h3 := owns_tight h1
    have h4 := ho.size_le
    rw [size_put (ho.tidy kLaw), holds_has ht hv, if_pos rfl] at h3
    exact sm_turn h i hi (h3.mono (by omega)) ht' h2.grown
/-- 'delete(m, d)'. -/
theorem sm_del (h : Sep B w wk Rs) (i : Nat) (hi : Rs[i]? = some (sm b n f)) {d : Int} (hd : In64 d) (ty : TypeId) :
    ∃ wn, (Builtin.delete_ #[56, 3] ty #[.map (some b), .int .i64 d]).run Try.prog wk = .ok (.tuple #[]) wn ∧ Sep B w wn (Rs.set i (sm b n (upd f d vN))) := by
  obtain ⟨D, ho, ht⟩ := sm_at h i hi
  obtain ⟨wn, hrun, h1, h2⟩ := ho.drop kLaw Try.underlying56 (hkey hd) ty
  exact ⟨wn, hrun, sm_turn h i hi h1 (holds_del ht d) h2.grown⟩

theorem wp_sput {ops : Array Oper} {rest : List Oper} {o : Oper} {a : Act} {Q : Exit → Act → World → Prop} (hg : o.guard = none) (m x y : Operand) (hop : o.op = Op.mapUpdate 56 m x y)
    (hm : a.eval m = .map (some b)) {d : Int} {v : Value} (hx : a.eval x = .int .i64 d) (hv : a.eval y = v) (h : Sep B w wk Rs) (i : Nat) (hi : Rs[i]? = some (sm b n f)) (hd : In64 d) {n' : Nat} (hn' : n' = n + 1 ∨ n' = n ∧ f d ≠ vN) (hn : n < 1000000)
    (hK : ∀ wn, Sep B w wn (Rs.set i (sm b n' (upd f d v))) → wpList Try.prog ops Q rest (a.put o.dst undef) wn) : wpList Try.prog ops Q (o :: rest) a wk := by
  refine wpList_plain hg fun K' hK' => ?_
  obtain ⟨wn, hrun, h1⟩ := sm_put h i hi hd v hn' hn
  unfold Oper.wp
  simp [execOp, hop, hm, hx, hv, hrun, Result.andThen]
  exact hK' _ _ (hK wn h1)
/-- .. in a region that draws its order. -/
theorem wp_sputK {o : Oper} {a : Act} {K : Act → World → Prop} {Q : Exit → Act → World → Prop} (m x y : Operand) (hop : o.op = Op.mapUpdate 56 m x y)
    (hm : a.eval m = .map (some b)) {d : Int} {v : Value} (hx : a.eval x = .int .i64 d) (hv : a.eval y = v) (h : Sep B w wk Rs) (i : Nat) (hi : Rs[i]? = some (sm b n f)) (hd : In64 d) {n' : Nat} (hn' : n' = n + 1 ∨ n' = n ∧ f d ≠ vN) (hn : n < 1000000)
    (hK : ∀ wn, Sep B w wn (Rs.set i (sm b n' (upd f d v))) → K (a.put o.dst undef) wn) : o.wp Try.prog a wk K Q := by
  obtain ⟨wn, hrun, h1⟩ := sm_put h i hi hd v hn' hn
  unfold Oper.wp
  simp [execOp, hop, hm, hx, hv, hrun, Result.andThen]
  exact hK wn h1
theorem wp_sdel {ops : Array Oper} {rest : List Oper} {o : Oper} {a : Act} {Q : Exit → Act → World → Prop} (hg : o.guard = none) (m x : Operand) (hop : o.op = Op.call { callee := Callee.builtin Builtin.delete, args := #[m, x], argTypes := #[56, 3] })
    (hm : a.eval m = .map (some b)) {d : Int} (hx : a.eval x = .int .i64 d) (h : Sep B w wk Rs) (i : Nat) (hi : Rs[i]? = some (sm b n f)) (hd : In64 d)
    (hK : ∀ wn, Sep B w wn (Rs.set i (sm b n (upd f d vN))) → wpList Try.prog ops Q rest (a.put o.dst (.tuple #[])) wn) : wpList Try.prog ops Q (o :: rest) a wk := by
  refine wpList_plain hg fun K' hK' => ?_
  obtain ⟨wn, hrun, h1⟩ := sm_del h i hi hd o.type
  unfold Oper.wp
  simp [execOp, hop, resolve, invoke, builtin, hm, hx, hrun, Result.andThen]
  exact hK' _ _ (hK wn h1)


theorem readsF_new (h : Sep B w wk Rs) : Sep B w wk (readsF (fun _ => vN) (fun _ => []) :: Rs) :=
  h.add (Below.refl _ _) (R := readsF _ _) (F := fun _ => False) ⟨fun _ => Rd.nil _ _ _ _, fun _ h => h.elim⟩ fun _ h => h.elim
theorem readsF_add {v : Value} {l : List Int} {d : Int} (h : Sep B w wk (nums v l :: readsF f W :: Rs)) (hd : W' d = l) (hW : ∀ x, x ≠ d → W' x = W x) : Sep B w wk (readsF (upd f d v) W' :: Rs) := by
  obtain ⟨ho, F1, F2, ⟨h1, e1⟩, ⟨F3, F4, ⟨h3, e3⟩, h4, s3, s4, d3⟩, s1, s2, d1⟩ := h
  refine ⟨ho, fun k => F1 k ∨ F3 k, F4, ⟨fun x => ?_, fun k hk => hk.elim (e1 k) (e3 k)⟩, h4, fun k hk => hk.elim (s1 k) fun hk => s2 k (s3 k hk), fun k hk => s2 k (s4 k hk), fun k a b => a.elim (fun a => d1 k a (s4 k b)) fun a => d3 k a b⟩
  by_cases e : x = d
  · subst e; rw [upd_same, hd]; exact h1.mono fun k _ hk => .inl hk
  · rw [upd_other v e, hW x e]; exact (h3 x).mono fun k _ hk => .inr hk
theorem readsF_none {d : Int} (h : Sep B w wk (readsF f W :: Rs)) (hd : W' d = []) (hW : ∀ x, x ≠ d → W' x = W x) : Sep B w wk (readsF (upd f d vN) W' :: Rs) := by
  obtain ⟨ho, F1, F2, ⟨h1, e1⟩, h2, s1, s2, dj⟩ := h
  refine ⟨ho, F1, F2, ⟨fun x => ?_, e1⟩, h2, s1, s2, dj⟩
  by_cases e : x = d
  · subst e; rw [upd_same, hd]; exact Rd.nil _ _ _ _
  · rw [upd_other vN e, hW x e]; exact h1 x
theorem readsF_same (h : Sep B w wk (readsF f W :: Rs)) (hW : ∀ x, W' x = W x) : Sep B w wk (readsF f W' :: Rs) := by
  have e : W' = W := funext hW
  rw [e]; exact h
theorem readsF_at (h : Sep B w wk Rs) (i : Nat) (hi : Rs[i]? = some (readsF f W)) (d : Int) : Rd wk (fun _ => True) (f d) (W d) := by
  obtain ⟨F, h1, _⟩ := h.get i hi
  exact (h1 d).mono fun _ _ _ => trivial
theorem readsF_form (h : Sep B w wk Rs) (i : Nat) (hi : Rs[i]? = some (readsF f W)) (d : Int) : ∃ A c, f d = .slice A (W d).length c := by
  obtain ⟨A, c, e, _⟩ := readsF_at h i hi d
  exact ⟨A, c, e⟩
end
end Go.Proofs.Ytbkeodjebfkkdaa.MapS
