/-
  A range over a function whose iterator changes memory between two rounds: the statement's law by the loop's record alone, and things at hand ('Sep') across it. Over any program. No condition.
-/
import Derived.RangeFuncRecord
import Derived.RangeFuncSeq
import Derived.TacticsInMore
import Derived.OwnWalkIn
import Derived.Test.YtbnijgcbifpijaaSep
namespace Go.Proofs.Ytbnijgcbifpijaa.Range
open Go.ChangeShapes Go.WideShapes Go.ChangeAt Go.RowKit Mem Hand

/-- What a round's body leaves: the record as it was, busy; yield hands back whether it goes on. -/
def bodyQ (l : Nat) (lp : LoopState → Option Code → Obj) (R : Ending → World → Prop) : Exit → Act → World → Prop
  | .normal, _, w => w.heap[l]? = some (lp .busy none) ∧ R (.returned (.bool true)) (w.putObj l (lp .ready none))
  | .ret, _, w => w.heap[l]? = some (lp .busy none) ∧ R (.returned (.bool false)) (w.putObj l (lp .done (some .ret)))
  | .exit id, _, w => w.heap[l]? = some (lp .busy none) ∧ R (.returned (.bool false)) (w.putObj l (lp .done (some (.exit id))))
  | .goto t, _, w => w.heap[l]? = some (lp .busy none) ∧ R (.returned (.bool false)) (w.putObj l (lp .done (some (.goto t))))
  | .panic _, _, _ => False
  | .outgrown, _, _ => False

/-- A round, out of the walk of its body. -/
def Rounds (P : Program) (l : Nat) (lp : LoopState → Option Code → Obj) (ps : Array Tmp) (assign body : Code) (tmps : Array Value) : Prop :=
  ∀ (args : Array Value) (W : World) (R : Ending → World → Prop), args.size = ps.size → W.heap[l]? = some (lp .ready none) →
    (∀ m, assign.wpIn (Fence.wide.inRound l) m P (Exit.then (fun a1 W1 => W1.heap[l]? = some (lp .ready none) ∧ body.wpIn (Fence.wide.inRound l) m P (bodyQ l lp R) a1 (W1.putObj l (lp .busy none))) (fun _ _ _ => False)) { tmps := (ps.zip args).foldl (fun t (p, v) => t.setIfInBounds p v) tmps, defers := [] } W) →
    ∀ m, YieldAt Fence.wide m P l args W R

theorem range_law {P : Program} {n : Nat} {g : Operand} {ps : Array Tmp} {assign body : Code} {Q : Exit → Act → World → Prop} {a : Act} {w : World} {gf : Nat} {first cap : Array Value}
    (hg : a.eval g = .func (.func gf) first cap) (eg : ∀ args w, (callFunc gf args).run P w = .ok (.enter gf args) w)
    (h : ∀ (lp : LoopState → Option Code → Obj), Rounds P (w.heap.size + 1) lp ps assign body a.tmps →
      Calls P gf ((first ++ #[.func (.yield (w.heap.size + 1)) #[] #[]]) ++ cap) ((w.alloc (.deferred (some []))).alloc (lp .ready none)) fun e W2 => (∃ v, e = .returned v) ∧
        ((W2.heap[w.heap.size + 1]? = some (lp .ready none) ∧ Q .normal { a with defers := { target := .collected w.heap.size, args := #[] } :: a.defers } (W2.putObj (w.heap.size + 1) (lp .exhausted none))) ∨
         ∃ c, W2.heap[w.heap.size + 1]? = some (lp .done (some c)) ∧ c.wpIn Fence.wide n P Q { a with defers := { target := .collected w.heap.size, args := #[] } :: a.defers } (W2.putObj (w.heap.size + 1) (lp .exhausted (some c))))) :
    (Code.rangeFunc g ps assign body).wpIn Fence.wide n P Q a w := by
  refine wpIn_rangeFunc ?_
  intro fn hfn
  obtain ⟨rec, hrec⟩ : ∃ rec : LoopState → Option Code → Loop, rec = fun st pe => { state := st, pending := pe, fn, tmps := a.tmps, params := ps, assign, body, defers := w.heap.size } := ⟨_, rfl⟩
  obtain ⟨W1, hW1⟩ : ∃ W1, (w.alloc (.deferred (some []))).alloc (.loop (rec .ready none)) = W1 := ⟨_, rfl⟩
  refine ⟨w.heap.size + 1, [{ target := .collected w.heap.size, args := #[] }], W1, { target := .fn (.func gf) cap, args := first ++ #[.func (.yield (w.heap.size + 1)) #[] #[]] }, W1, gf,
    (first ++ #[.func (.yield (w.heap.size + 1)) #[] #[]]) ++ cap, W1, ?_, ?_, ?_, ?_, fun h => by simp [Fence.wide] at h, callsIn_wide.2 ?_⟩
  · rw [← hW1, hrec]; exact run_enterLoop_outer _ _ _ _ _
  · simp only [resolve, hg]
    simp [go_sem]
  · intro f' hf'; trivial
  · simp [invoke, go_sem, eg]
  · rw [← hW1]
    refine (h (fun st pe => .loop (rec st pe)) ?_).mono ?_
    · intro args W R hs hl hb m
      have hy := run_yield (P := P) (args := args) hl (by rw [hrec]; exact hs)
      rw [hrec] at hy
      refine ⟨fn, _, assign, body, hy, roundIn_of_wpIn hfn (wpIn_mono (hb m) ?_)⟩
      intro e a1 W1 hq
      cases e with
      | normal =>
        obtain ⟨hl1, hq⟩ := hq
        refine ⟨_, run_beginRound hl1 (by rw [hrec]), ?_⟩
        have hlt : w.heap.size + 1 < W1.heap.size := (Array.getElem?_eq_some_iff.1 hl1).1
        refine wpIn_mono ?_ (fun e a3 W3 hp => ?_) (Q := bodyQ (w.heap.size + 1) (fun st pe => .loop (rec st pe)) R)
        · have e0 : ({ rec .ready none with state := .busy } : Loop) = rec .busy none := by rw [hrec]
          rw [e0]
          exact hq
        · have fin : ∀ (jump : Option Code), W3.heap[w.heap.size + 1]? = some (.loop (rec .busy none)) →
            (Instr.endRound (w.heap.size + 1) jump).run P W3 = .ok (.bool jump.isNone) (W3.putObj (w.heap.size + 1) (.loop (rec (if jump.isNone then .ready else .done) jump))) := fun jump hl3 => by
              have := run_endRound (P := P) jump hl3
              rw [hrec] at this ⊢
              exact this
          cases e with
          | normal => exact ⟨_, _, fin none hp.1, hp.2⟩
          | ret => exact ⟨_, _, fin (some .ret) hp.1, hp.2⟩
          | exit id => exact ⟨_, _, fin (some (.exit id)) hp.1, hp.2⟩
          | goto t => exact ⟨_, _, fin (some (.goto t)) hp.1, hp.2⟩
          | panic ch => exact hp.elim
          | outgrown => exact hp.elim
      | ret => exact hq.elim
      | exit id => exact hq.elim
      | goto t => exact hq.elim
      | panic ch => exact hq.elim
      | outgrown => exact hq.elim
    · rintro e W2 ⟨⟨v, rfl⟩, (⟨hl, hq⟩ | ⟨c, hl, hq⟩)⟩
      · have := run_endLoop (P := P) hl (by rw [hrec]; simp)
        refine ⟨none, _, ?_, hq⟩
        rw [hrec] at this ⊢
        exact this
      · have := run_endLoop (P := P) hl (by rw [hrec]; simp)
        refine ⟨some c, _, ?_, hq⟩
        rw [hrec] at this ⊢
        exact this

section
variable {B : Nat → Prop} {w wk wn : World} {Rs : List Res}
theorem only_putObj (w : World) (g : Nat) (o : Obj) : Only (fun b => b = g) w (w.putObj g o) := ⟨rfl, rfl, rfl, by simp, fun k _ hk => World.putObj_heap_other hk⟩
/-- A block at hand becomes another thing. -/
theorem _root_.Go.Proofs.Ytbnijgcbifpijaa.Hand.Sep.putObj (h : Sep B w wk Rs) (i : Nat) {g : Nat} {o : Obj} (hi : Rs[i]? = some (blk g o)) (o' : Obj) : Sep B w (wk.putObj g o') (Rs.set i (blk g o')) := by
  obtain ⟨F, ⟨h1, rfl⟩, hF, hn⟩ := h.upd i hi
  exact hn (blk g _) ⟨World.putObj_heap_same (Array.getElem?_eq_some_iff.1 h1).1, rfl⟩ (only_putObj _ _ _) fun k hk => .inl hk

variable {α : Type} {E : Enc α} {e : TypeId} {v : Value} {xs ys : List α}
theorem wpListIn_appL {F : Fence} {n : Nat} {P : Program} {ops : Array Oper} {rest : List Oper} {o : Oper} {a : Act} {Q : Exit → Act → World → Prop} (hgd : o.guard = none) (s x : Operand) {t : TypeId} (he : Elem E P t e)
    (ho : o.op = .call { callee := .builtin .append, args := #[s, x], argTypes := #[t, t] })
    {base : Nat} {G : Nat → Prop} {sv : Value} (hs : a.eval s = v) (hx : a.eval x = sv) (hown : OwnL E w base e v xs) (hr : RdL E w G sv ys) (hlen : xs.length + ys.length ≤ 1000000) (hb : base ≤ w.heap.size)
    (h : ∀ v' w', OwnL E w' base e v' (xs ++ ys) → w.grownBy w' v.ownBlock → (v'.ownBlock = v.ownBlock ∨ v'.ownBlock = some w.heap.size) → wpListIn F n P ops Q rest (a.put o.dst v') w') : wpListIn F n P ops Q (o :: rest) a w := by
  refine wpListIn_plain hgd fun K hK' => ?_
  obtain ⟨v', w', hrun, h2, h3, h4⟩ := run_appL (P := P) (ty := o.type) he hown hr hlen hb
  unfold Oper.wpIn
  refine ⟨?_, ?_⟩
  · simp [Oper.about, ho, resolve, Target.leads, Sem.run_pure]
  · rw [Oper.semAt_plain F _ _ (by rw [ho]; intro c hc'; cases hc')]
    simp only [execOp, ho, resolve, invoke, builtin, Sem.run_bind, Sem.run_pure, Result.andThen_ok, List.map_toArray, List.map_cons, List.map_nil, hs, hx, hrun]
    exact hK' _ _ (h v' w' h2 h3 h4)
/-- 'append', of a slice of one's own, inside a fence. -/
theorem wpListIn_appS {F : Fence} {n : Nat} {P : Program} {ops : Array Oper} {rest : List Oper} {o : Oper} {a : Act} {Q : Exit → Act → World → Prop} (hgd : o.guard = none) (s x : Operand) {t : TypeId} (he : Elem E P t e)
    (ho : o.op = .call { callee := .builtin .append, args := #[s, x], argTypes := #[t, t] })
    {sv : Value} {G : Nat → Prop} (hs : a.eval s = v) (hx : a.eval x = sv) (h : Sep B w wk Rs) (i : Nat) (hi : Rs[i]? = some (grow E e v xs)) (hr : RdL E wk G sv ys) (hlen : xs.length + ys.length ≤ 1000000)
    (hK : ∀ A c wn l, Hid (l = xs ++ ys) → Sep B w wn (Rs.set i (grow E e (.slice A l.length c) l)) → wpListIn F n P ops Q rest (a.put o.dst (.slice A l.length c)) wn) : wpListIn F n P ops Q (o :: rest) a wk :=
  wpListIn_appL hgd s x he ho hs hx (h.own i hi) hr hlen (Nat.zero_le _) fun v' w' h2 h3 h4 => by
    obtain ⟨A, c, rfl⟩ := h2.form
    exact hK A c w' _ rfl (h.grown i hi h2 h3 h4)
end
end Go.Proofs.Ytbnijgcbifpijaa.Range
