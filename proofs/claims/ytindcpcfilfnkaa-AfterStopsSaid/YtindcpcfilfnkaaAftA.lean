/-
  A map from numbers to slices that each grow in a block of their own, as things at hand; a list of what comes after, as package after keeps it. No condition.
-/
import Derived.Test.YtindcpcfilfnkaaAfterI
import Derived.Test.YtindcpcfilfnkaaGrow
import Derived.Test.YtindcpcfilfnkaaInts
import Derived.Maps.OwnSet
namespace Go.Proofs.Ytindcpcfilfnkaa.AftC
open Go.ChangeShapes Go.WideShapes Go.ChangeAt Go.RowKit Mem AfterP Hand RefAfter Go.Maps

/-- No slice. -/
def vN : Value := .slice none 0 0
/-- A slice in the map is read as it stands. -/
def hR (v : Value) : Option (DataW Value × List MemPlace) := some (.held v, [])
def Holds (D : DataW Value) (f : Int → Value) : Prop := ∀ d : Int, D.atKey (.int .i64 d) (.held vN) = .held (f d)
theorem kLaw : Keyed Try.prog 3 := int_keyed Try.underlying3
theorem zeroS (w : World) : (zeroValue 32).run Try.prog w = .ok vN w := by kernel_rfl
theorem wf64 {a : Int} (h : In64 a) : (Lit.int .i64 a).wf = true := by
  have h1 : IntKind.i64.min = -9223372036854775808 := rfl
  have h2 : IntKind.i64.max = 9223372036854775807 := rfl
  simp only [Lit.wf, Bool.and_eq_true, decide_eq_true_eq]
  have := h.1; have := h.2
  omega
theorem hkey {a : Int} (h : In64 a) : keyOf Try.prog 3 (.int .i64 a) = some (.int .i64 a) := keyOf_int_mk Try.underlying3 (wf64 h)
def upd (f : Int → Value) (d : Int) (v : Value) : Int → Value := fun x => if x = d then v else f x
theorem upd_same (f : Int → Value) (d : Int) (v : Value) : upd f d v d = v := if_pos rfl
theorem upd_other {f : Int → Value} {d x : Int} (v : Value) (h : x ≠ d) : upd f d v x = f x := if_neg h
theorem lit_ne {a b : Int} (h : a ≠ b) : (Lit.int .i64 a) ≠ .int .i64 b := fun e => by injection e with _ e; exact h e
section
variable {D : DataW Value} {f : Int → Value}
theorem holds_put (h : Holds D f) (hD : IsMap D) (d : Int) (v : Value) : Holds (D.put (.int .i64 d) (.held v)) (upd f d v) := fun x => by
  by_cases e : x = d
  · subst e
    rw [atKey_put_same hD (show WideAt.IsKeyLit (.int .i64 x) from trivial), upd_same]
  · rw [atKey_put_other (lit_ne e), upd_other v e, h x]
theorem holds_del (h : Holds D f) (d : Int) : Holds (D.del (.int .i64 d)) (upd f d vN) := fun x => by
  by_cases e : x = d
  · subst e
    rw [atKey_del_same, upd_same]
  · rw [atKey_del_other (lit_ne e), upd_other vN e, h x]
theorem holds_has (h : Holds D f) {d : Int} (hv : f d ≠ vN) : Maps.has D (.int .i64 d) = true := by
  cases hh : Maps.has D (.int .i64 d)
  · have h1 := h d
    rw [atKey_of_not_has hh] at h1
    injection h1 with h1
    exact absurd h1.symm hv
  · rfl
end
theorem owns_tight {P : Program} {k : TypeId} {R : Value → Option (DataW Value × List MemPlace)} {w : World} {b n : Nat} {D : DataW Value} (h : w.ownsMap P k R b n D) : w.ownsMap P k R b (Maps.size D) D := by
  obtain ⟨es, clock, hb, F, hs, rfl⟩ := h
  exact ⟨es, clock, hb, F, by simp [Maps.size, length_sorted], rfl⟩

/-- A map of at most n slices. -/
def sm (b n : Nat) (f : Int → Value) : Res where
  holds w F := (∃ D, w.ownsMap Try.prog 3 hR b n D ∧ Holds D f) ∧ F = fun k => k = b
  keep := fun ⟨⟨D, ⟨es, clock, hb, hr⟩, ht⟩, e⟩ _ hk => ⟨⟨D, ⟨es, clock, (hk b (lt_of_block hb) (by rw [e])).trans hb, hr⟩, ht⟩, e⟩
  lt := fun ⟨⟨_, ⟨_, _, hb, _⟩, _⟩, e⟩ k hk => by rw [e] at hk; exact hk ▸ lt_of_block hb
/-- Slices, each with a row of its own, of those numbers of which p holds. -/
def fam (p : Int → Prop) (f : Int → Value) (W : Int → List Int) : Res where
  holds w F := (∀ d, p d → OwnL intE w 0 3 (f d) (W d)) ∧ (∀ d d' k, p d → p d' → (f d).ownBlock = some k → (f d').ownBlock = some k → d = d') ∧ F = fun k => ∃ d, p d ∧ (f d).ownBlock = some k
  keep := fun ⟨h, a, e⟩ _ hk => ⟨fun d hp => (h d hp).of_blocks fun g hg hl => hk g hl (by rw [e]; exact ⟨d, hp, hg⟩), a, e⟩
  lt := fun ⟨h, _, e⟩ k hk => by
    rw [e] at hk
    obtain ⟨d, hp, hg⟩ := hk
    exact ((h d hp).lt k hg).2

section
variable {B : Nat → Prop} {w wk wn : World} {Rs : List Res} {b n : Nat} {f : Int → Value} {W : Int → List Int}
theorem sm_new (h : Sep B w wk Rs) : Sep B w (wk.alloc (.map #[] 0)) (sm wk.heap.size 0 (fun _ => vN) :: Rs) :=
  h.add (new_below0 wk _) (R := sm wk.heap.size 0 fun _ => vN) ⟨⟨_, World.ownsMap_made wk Try.prog 3 hR, fun _ => rfl⟩, rfl⟩ fun _ hk => Nat.le_of_eq hk.symm
theorem fam_new (h : Sep B w wk Rs) : Sep B w wk (fam (fun _ => True) (fun _ => vN) (fun _ => []) :: Rs) :=
  h.add (Below.refl _ _) (R := fam _ _ _) (F := fun _ => False) ⟨fun _ _ => OwnL.none_ _ _ _, fun _ _ _ _ _ h => by simp [vN, Value.ownBlock] at h, by funext k; simp [vN, Value.ownBlock]⟩ fun _ h => h.elim
theorem sm_at (h : Sep B w wk Rs) (i : Nat) (hi : Rs[i]? = some (sm b n f)) : ∃ D, wk.ownsMap Try.prog 3 hR b n D ∧ Holds D f := by
  obtain ⟨F, hD, _⟩ := h.get i hi
  exact hD
/-- 'm[d]'. -/
theorem sm_look (h : Sep B w wk Rs) (i : Nat) (hi : Rs[i]? = some (sm b n f)) {d : Int} (hd : In64 d) : (Instr.lookup 58 (.map (some b)) (.int .i64 d) false).run Try.prog wk = .ok (f d) wk := by
  obtain ⟨D, ho, ht⟩ := sm_at h i hi
  obtain ⟨v, ps, hrun, hv⟩ := ho.lookup kLaw Try.underlying58 (zeroS wk) (zd := .held vN) (zp := []) rfl (hkey hd)
  rw [ht d] at hv
  unfold hR at hv
  injection hv with hv
  injection hv with hv _
  injection hv with hv
  rw [hrun, hv]
/-- The map is another one. -/
theorem sm_turn (h : Sep B w wk Rs) (i : Nat) (hi : Rs[i]? = some (sm b n f)) {D : DataW Value} {m : Nat} {g : Int → Value} (ho : wn.ownsMap Try.prog 3 hR b m D) (ht : Holds D g) (hg : wk.grownBy wn (some b)) : Sep B w wn (Rs.set i (sm b m g)) := by
  obtain ⟨F, ⟨_, rfl⟩, _, hn⟩ := h.upd i hi
  exact hn (sm b m g) ⟨⟨D, ho, ht⟩, rfl⟩ (Only.of_grown hg fun k hk _ => by injection hk with hk; exact hk.symm) fun k hk => .inl hk
theorem sm_more (h : Sep B w wk Rs) (i : Nat) (hi : Rs[i]? = some (sm b n f)) {m : Nat} (hm : n ≤ m) : Sep B w wk (Rs.set i (sm b m f)) := by
  obtain ⟨D, ho, ht⟩ := sm_at h i hi
  exact sm_turn h i hi (ho.mono hm) ht (World.grownBy.refl _ _)
/-- 'm[d] = v'. -/
theorem sm_put (h : Sep B w wk Rs) (i : Nat) (hi : Rs[i]? = some (sm b n f)) {d : Int} (hd : In64 d) (v : Value) {m : Nat} (hm : m = n + 1 ∨ m = n ∧ f d ≠ vN) (hn : n < 1000000) :
    ∃ wn, (Instr.mapUpdate 58 (.map (some b)) (.int .i64 d) v).run Try.prog wk = .ok () wn ∧ Sep B w wn (Rs.set i (sm b m (upd f d v))) := by
  obtain ⟨D, ho, ht⟩ := sm_at h i hi
  have ht' := holds_put ht ho.isMap d v
  obtain ⟨wn, hrun, h1, h2⟩ := ho.store kLaw Try.underlying58 (by unfold maxLen; omega) (hkey hd) (val := v) (d := .held v) (ps := []) rfl
  refine ⟨wn, hrun, ?_⟩
  rcases hm with rfl | ⟨rfl, hv⟩
  · exact sm_turn h i hi h1 ht' h2.grown
  · have h3 := owns_tight h1
    have h4 := ho.size_le
    rw [size_put (ho.tidy kLaw), holds_has ht hv, if_pos rfl] at h3
    exact sm_turn h i hi (h3.mono (by omega)) ht' h2.grown
/-- 'delete(m, d)'. -/
theorem sm_del (h : Sep B w wk Rs) (i : Nat) (hi : Rs[i]? = some (sm b n f)) {d : Int} (hd : In64 d) (ty : TypeId) :
    ∃ wn, (Builtin.delete_ #[58, 3] ty #[.map (some b), .int .i64 d]).run Try.prog wk = .ok (.tuple #[]) wn ∧ Sep B w wn (Rs.set i (sm b n (upd f d vN))) := by
  obtain ⟨D, ho, ht⟩ := sm_at h i hi
  obtain ⟨wn, hrun, h1, h2⟩ := ho.drop kLaw Try.underlying58 (hkey hd) ty
  exact ⟨wn, hrun, sm_turn h i hi h1 (holds_del ht d) h2.grown⟩

theorem wp_sput {ops : Array Oper} {rest : List Oper} {o : Oper} {a : Act} {Q : Exit → Act → World → Prop} (hg : o.guard = none) (m x y : Operand) (hop : o.op = Op.mapUpdate 58 m x y)
    (hm : a.eval m = .map (some b)) {d : Int} {v : Value} (hx : a.eval x = .int .i64 d) (hv : a.eval y = v) (h : Sep B w wk Rs) (i : Nat) (hi : Rs[i]? = some (sm b n f)) (hd : In64 d) {n' : Nat} (hn' : n' = n + 1 ∨ n' = n ∧ f d ≠ vN) (hn : n < 1000000)
    (hK : ∀ wn, Sep B w wn (Rs.set i (sm b n' (upd f d v))) → wpList Try.prog ops Q rest (a.put o.dst undef) wn) : wpList Try.prog ops Q (o :: rest) a wk := by
  refine wpList_plain hg fun K' hK' => ?_
  obtain ⟨wn, hrun, h1⟩ := sm_put h i hi hd v hn' hn
  unfold Oper.wp
  simp [execOp, hop, hm, hx, hv, hrun, Result.andThen]
  exact hK' _ _ (hK wn h1)
/-- .. in a region that draws its order. -/
theorem wp_sputK {o : Oper} {a : Act} {K : Act → World → Prop} {Q : Exit → Act → World → Prop} (m x y : Operand) (hop : o.op = Op.mapUpdate 58 m x y)
    (hm : a.eval m = .map (some b)) {d : Int} {v : Value} (hx : a.eval x = .int .i64 d) (hv : a.eval y = v) (h : Sep B w wk Rs) (i : Nat) (hi : Rs[i]? = some (sm b n f)) (hd : In64 d) {n' : Nat} (hn' : n' = n + 1 ∨ n' = n ∧ f d ≠ vN) (hn : n < 1000000)
    (hK : ∀ wn, Sep B w wn (Rs.set i (sm b n' (upd f d v))) → K (a.put o.dst undef) wn) : o.wp Try.prog a wk K Q := by
  obtain ⟨wn, hrun, h1⟩ := sm_put h i hi hd v hn' hn
  unfold Oper.wp
  simp [execOp, hop, hm, hx, hv, hrun, Result.andThen]
  exact hK wn h1
theorem wp_sdel {ops : Array Oper} {rest : List Oper} {o : Oper} {a : Act} {Q : Exit → Act → World → Prop} (hg : o.guard = none) (m x : Operand) (hop : o.op = Op.call { callee := Callee.builtin Builtin.delete, args := #[m, x], argTypes := #[58, 3] })
    (hm : a.eval m = .map (some b)) {d : Int} (hx : a.eval x = .int .i64 d) (h : Sep B w wk Rs) (i : Nat) (hi : Rs[i]? = some (sm b n f)) (hd : In64 d)
    (hK : ∀ wn, Sep B w wn (Rs.set i (sm b n (upd f d vN))) → wpList Try.prog ops Q rest (a.put o.dst (.tuple #[])) wn) : wpList Try.prog ops Q (o :: rest) a wk := by
  refine wpList_plain hg fun K' hK' => ?_
  obtain ⟨wn, hrun, h1⟩ := sm_del h i hi hd o.type
  unfold Oper.wp
  simp [execOp, hop, resolve, invoke, builtin, hm, hx, hrun, Result.andThen]
  exact hK' _ _ (hK wn h1)

/-- One of the slices at hand, beside the others. -/
theorem fam_take (h : Sep B w wk (fam (fun _ => True) f W :: Rs)) (d : Int) : Sep B w wk (grow intE 3 (f d) (W d) :: fam (fun x => x ≠ d) f W :: Rs) := by
  obtain ⟨ho, F1, F2, ⟨h1, ha, rfl⟩, h2, s1, s2, dj⟩ := h
  refine ⟨ho, fun k => (f d).ownBlock = some k, fun k => (∃ x, x ≠ d ∧ (f x).ownBlock = some k) ∨ F2 k, ⟨h1 d trivial, rfl⟩, ⟨fun k => ∃ x, x ≠ d ∧ (f x).ownBlock = some k, F2, ⟨fun x _ => h1 x trivial, fun x y k _ _ => ha x y k trivial trivial, rfl⟩, h2, fun k hk => .inl hk, fun k hk => .inr hk, fun k ⟨x, _, hx⟩ h => dj k ⟨x, trivial, hx⟩ h⟩, fun k hk => s1 k ⟨d, trivial, hk⟩, fun k hk => hk.elim (fun ⟨x, _, hx⟩ => s1 k ⟨x, trivial, hx⟩) (s2 k), fun k hk hk' => ?_⟩
  rcases hk' with ⟨x, hx, hk'⟩ | hk'
  · exact hx (ha x d k trivial trivial hk' hk)
  · exact dj k ⟨d, trivial, hk⟩ hk'
/-- .. and back among them. -/
theorem fam_put {d : Int} {v : Value} {l : List Int} {W' : Int → List Int} (h : Sep B w wk (grow intE 3 v l :: fam (fun x => x ≠ d) f W :: Rs)) (hd : W' d = l) (hW : ∀ x, x ≠ d → W' x = W x) : Sep B w wk (fam (fun _ => True) (upd f d v) W' :: Rs) := by
  obtain ⟨ho, F1, F2, ⟨h1, rfl⟩, ⟨F3, F4, ⟨h3, ha, rfl⟩, h4, s3, s4, d3⟩, s1, s2, dj⟩ := h
  refine ⟨ho, fun k => ∃ x, True ∧ (upd f d v x).ownBlock = some k, F4, ⟨fun x _ => ?_, fun x y k _ _ hx hy => ?_, rfl⟩, h4, fun k ⟨x, _, hk⟩ => ?_, fun k hk => s2 k (s4 k hk), fun k ⟨x, _, hk⟩ h => ?_⟩
  · by_cases e : x = d
    · subst e; rw [upd_same, hd]; exact h1
    · rw [upd_other v e, hW x e]; exact h3 x e
  · by_cases e : x = d <;> by_cases e' : y = d
    · rw [e, e']
    · subst e
      rw [upd_same] at hx
      rw [upd_other v e'] at hy
      exact absurd (s3 k ⟨y, e', hy⟩) (dj k hx)
    · subst e'
      rw [upd_same] at hy
      rw [upd_other v e] at hx
      exact absurd (s3 k ⟨x, e, hx⟩) (dj k hy)
    · rw [upd_other v e] at hx
      rw [upd_other v e'] at hy
      exact ha x y k e e' hx hy
  · by_cases e : x = d
    · subst e; rw [upd_same] at hk; exact s1 k hk
    · rw [upd_other v e] at hk; exact s2 k (s3 k ⟨x, e, hk⟩)
  · by_cases e : x = d
    · subst e; rw [upd_same] at hk; exact dj k hk (s4 k h)
    · rw [upd_other v e] at hk; exact d3 k ⟨x, e, hk⟩ h
/-- .. and it is as it was. -/
theorem fam_back {d : Int} (h : Sep B w wk (grow intE 3 (f d) (W d) :: fam (fun x => x ≠ d) f W :: Rs)) : Sep B w wk (fam (fun _ => True) f W :: Rs) := by
  have h1 := fam_put (W' := W) h rfl fun _ _ => rfl
  have e : upd f d (f d) = f := by
    funext x
    unfold upd
    split
    · rename_i e; rw [e]
    · rfl
  rwa [e] at h1
/-- .. and it is none. -/
theorem fam_none {d : Int} {W' : Int → List Int} (h : Sep B w wk (fam (fun x => x ≠ d) f W :: Rs)) (hd : W' d = []) (hW : ∀ x, x ≠ d → W' x = W x) : Sep B w wk (fam (fun _ => True) (upd f d vN) W' :: Rs) := by
  have h1 := h.add (Below.refl _ _) (R := grow intE 3 vN []) (F := fun _ => False) ⟨OwnL.none_ _ _ _, by funext k; simp [vN, Value.ownBlock]⟩ fun _ h => h.elim
  exact fam_put h1 hd hW
theorem grow_none (h : Sep B w wk Rs) {α : Type} (E : Enc α) (e : TypeId) : Sep B w wk (grow E e (.slice none 0 0) [] :: Rs) :=
  h.add (Below.refl _ _) (R := grow E e (.slice none 0 0) []) (F := fun _ => False) ⟨OwnL.none_ _ _ _, by funext k; simp [Value.ownBlock]⟩ fun _ h => h.elim
theorem set_self {i : Nat} {R : Res} (hi : Rs[i]? = some R) : Rs.set i R = Rs := by
  obtain ⟨hil, e⟩ := List.getElem?_eq_some_iff.1 hi
  rw [← e, List.set_getElem_self]
end

theorem aRowElem : Elem rgE Try.prog 45 54 := elem_of (z := .agg #[.int .i64 0, .int .i64 0, .int .i64 0]) (bytes := 24) Try.underlying45 (by kernel_rfl) rfl (by omega)
/-- A list of what comes after, behind the pointer to block p, taken apart: its registrations X, and who waits for what, by the map, W. -/
def lst (p : Nat) (M : Int) (u : Value) (b n : Nat) (f : Int → Value) (X : List Rg) (W : Int → List Int) : List Res :=
  [blk p (.cells #[.int .i64 M, u, .map (some b)] 60), grow rgE 54 u X, sm b n f, fam (fun _ => True) f W]
def la (p : Nat) (L : List Rg) (M : Int) : Res := someR (fun _ => Ok L M) fun x : Value × Nat × (Int → Value) => pack (lst p M x.1 x.2.1 L.length x.2.2 L (waitsL L))
section
variable {B : Nat → Prop} {w wk : World} {Rs : List Res} {p : Nat} {L : List Rg} {M : Int}
theorem la_open (h : Sep B w wk (la p L M :: Rs)) : ∃ A c b f, Sep B w wk (lst p M (.slice A L.length c) b L.length f L (waitsL L) ++ Rs) ∧ Ok L M := by
  obtain ⟨⟨u, b, f⟩, hok, h1⟩ := h.ex
  have h2 := h1.unpack
  obtain ⟨A, c, rfl⟩ := (h2.own 1 rfl).form
  exact ⟨A, c, b, f, h2, hok⟩
theorem la_close {u : Value} {b n : Nat} {f : Int → Value} (h : Sep B w wk (lst p M u b n f L (waitsL L) ++ Rs)) (hn : n ≤ L.length) (hok : Ok L M) : Sep B w wk (la p L M :: Rs) := by
  have h1 := sm_more h 2 rfl hn
  exact Sep.hide (R := fun x : Value × Nat × (Int → Value) => pack (lst p M x.1 x.2.1 L.length x.2.2 L (waitsL L))) (a := (u, b, f)) hok (Sep.packed (Ss := lst p M u b L.length f L (waitsL L)) h1)
theorem la_ok (h : Sep B w wk (la p L M :: Rs)) : Ok L M := by obtain ⟨_, _, _, _, _, hok⟩ := la_open h; exact hok
end
end Go.Proofs.Ytindcpcfilfnkaa.AftC
