/-
  Parts of the walk of the law TimerDoes over any package that meets 'Clk'. Conditions: none but 'Clk'.
-/
import Derived.Test.YtpoolfnfboohjaaTimerSteps
import Derived.Deep.RegionHeld3
import Derived.Deep.DeepCutAuto
import Derived.Deep.CutBlock
import Derived.StillTailTactics
namespace Go.Proofs.Ytpoolfnfboohjaa.TimerI
open Go.ChangeShapes Go.WideShapes Go.ChangeAt Go.RowKit Mem RefHeap RefTimer Hand

theorem still_of {P : Program} {f : FuncId} {args : Array Value} {w : World} {v : Value} (h : Calls P f args w fun e w' => e = .returned v ∧ w = w') : Calls P f args w fun e w' => e = .returned v ∧ w' = w :=
  h.mono fun _ _ ⟨he, hm⟩ => ⟨he, hm.symm⟩
/-- '!=' of an alarm and itself. -/
theorem run_neq_self (W : World) (x : Ent) : (binOp .neq 51 (.agg #[.int .i64 x.id, .int .i64 x.at_, .int .i64 x.seq]) (.agg #[.int .i64 x.id, .int .i64 x.at_, .int .i64 x.seq])).run Try.prog W = .ok (.bool false) W := by
  have := run_neq_ent W x.id x.at_ x.seq x.id x.at_ x.seq
  simpa using this
theorem ent_blk {W : World} {g : Nat} {t : TypeId} {a b c : Value} (h : W.heap[g]? = some (.cells #[a, b, c] t (0, 0))) : W.cell? ⟨g, 0, none⟩ = some a ∧ W.cell? ⟨g, 1, none⟩ = some b ∧ W.cell? ⟨g, 2, none⟩ = some c :=
  ⟨(cell_block h 0).trans rfl, (cell_block h 1).trans rfl, (cell_block h 2).trans rfl⟩

section
variable {I : Clk} {wq W : World} {v : Value} {F : Nat → Prop} {T C : Int} {L : List Ent} {M : Int}
theorem l_now (hA : I.A wq v F T C L M) (hb : Below wq.heap.size wq W) : Calls Try.prog 17 #[v] W fun e w' => e = .returned (.int .i64 T) ∧ Below wq.heap.size wq w' :=
  (I.now (I.keep hA hb.size fun k hk _ => hb.block k hk)).mono fun _ _ ⟨he, h'⟩ => ⟨he, hb.trans (h'.mono hb.size)⟩
theorem l_next (hA : I.A wq v F T C L M) (hb : Below wq.heap.size wq W) : Calls Try.prog 18 #[v] W fun e w' => e = .returned (.int .i64 (nextT L)) ∧ Below wq.heap.size wq w' :=
  (I.next (I.keep hA hb.size fun k hk _ => hb.block k hk)).mono fun _ _ ⟨he, h'⟩ => ⟨he, hb.trans (h'.mono hb.size)⟩
theorem l_alarms (hA : I.A wq v F T C L M) (hb : Below wq.heap.size wq W) : Calls Try.prog 20 #[v] W fun e w' => ∃ A c, e = .returned (.slice A L.length c) ∧ RdL entE w' (fun _ => True) (.slice A L.length c) L ∧ Below wq.heap.size wq w' := by
  refine (I.alarms (I.keep hA hb.size fun k hk _ => hb.block k hk)).mono ?_
  rintro e w' ⟨u, rfl, hu, h'⟩
  obtain ⟨A, c, rfl⟩ := hu.form
  exact ⟨A, c, rfl, hu.mono fun _ _ _ => trivial, hb.trans (h'.mono hb.size)⟩
theorem l_refnext {G : Nat → Prop} {p : Nat} (hR : RC wq G p T C L M) (hb : Below wq.heap.size wq W) : Calls Try.prog 19 #[.pointer (some ⟨p, 0, none⟩)] W fun e w' => e = .returned (.int .i64 (nextT L)) ∧ Below wq.heap.size wq w' :=
  (next_any (hR.below hb)).mono fun _ _ ⟨he, h'⟩ => ⟨he, by subst h'; exact hb⟩
theorem l_own {u : Value} {l : List Ent} (hu : RdL entE W (fun _ => True) u l) (hl : l.length ≤ 100000) (hb : Below wq.heap.size wq W) :
    Calls Try.prog 16 #[u] W fun e w' => ∃ A c, e = .returned (.slice A l.length c) ∧ RdL entE w' (fun _ => True) (.slice A l.length c) l ∧ Below wq.heap.size wq w' := by
  refine (own_any hu hl).mono ?_
  rintro e w' ⟨A, c, rfl, hs⟩
  exact ⟨A, c, rfl, (hs.own 0 rfl).rd (by omega) fun _ _ => trivial, hb.trans (hs.old.mono hb.size)⟩
theorem l_same {u u' : Value} {l : List Ent} (hu : RdL entE W (fun _ => True) u l) (hu' : RdL entE wq (fun _ => True) u' l) (hb : Below wq.heap.size wq W) :
    Calls Try.prog 15 #[u, u'] W fun e w' => e = .returned (.bool true) ∧ Below wq.heap.size wq w' := by
  refine (same_any hu (hu'.below hb)).mono ?_
  rintro e w' ⟨rfl, n, rfl⟩
  exact ⟨by simp, below_drewN hb n⟩
end

set_option maxHeartbeats 4000000 in
set_option maxRecDepth 100000 in
theorem does_easy (I : Clk) (n : Int) (A : Option Addr) (len cap : Nat) (w : World) (hn : In64 n) (hlen : len ≤ 9223372036854775807) (hno : ¬ (1 ≤ n ∧ n ≤ 40 ∧ len ≤ 120)) :
    Calls Try.prog 3 #[.int .i64 n, .slice A len cap] w fun e w' => e = .returned (.bool true) ∧ Below w.heap.size w w' := by
  have HN := Lib.hid hn
  clear hn
  rcases (by omega : (40 < n ∧ n ≤ 1000) ∨ (n ≤ 40 ∧ 120 < len) ∨ (1000 < n ∧ 120 < len) ∨ (n < 1 ∧ len ≤ 120) ∨ (1000 < n ∧ len ≤ 120)) with ⟨h1, h2⟩ | ⟨h1, h2⟩ | ⟨h1, h2⟩ | ⟨h1, h2⟩ | ⟨h1, h2⟩
  · clear hno
    go_enter Try.func3, Try.ntmps3
    go_wp2_with fail
    refine (awake_any I _).mono ?_
    rintro e w1 ⟨rfl, hb1⟩
    have HB := Lib.hid hb1
    clear hb1
    go_wp2
    go_ret
    exact ⟨rfl, HB.out⟩
  · clear hno
    go_enter Try.func3, Try.ntmps3
    go_wp2_with fail
    refine (awake_any I _).mono ?_
    rintro e w1 ⟨rfl, hb1⟩
    have HB := Lib.hid hb1
    clear hb1
    go_wp2
    go_ret
    exact ⟨rfl, HB.out⟩
  · clear hno
    go_enter Try.func3, Try.ntmps3
    go_wp2_with fail
    refine (awake_any I _).mono ?_
    rintro e w1 ⟨rfl, hb1⟩
    have HB := Lib.hid hb1
    clear hb1
    go_wp2
    go_ret
    exact ⟨rfl, HB.out⟩
  · clear hno
    go_enter Try.func3, Try.ntmps3
    go_wp2_with fail
    refine (awake_any I _).mono ?_
    rintro e w1 ⟨rfl, hb1⟩
    have HB := Lib.hid hb1
    clear hb1
    go_wp2_with fail
    refine (I.new_no n _ HN.out (by omega)).mono ?_
    rintro e w2 ⟨rfl, hb2⟩
    have HB2 : Hid (Below w.heap.size w w2) := HB.out.trans (hb2.mono HB.out.size)
    clear hb2
    go_wp2_with fail
    refine (RefTimer.new_no n _ (by omega)).mono ?_
    rintro e w3 ⟨rfl, rfl⟩
    go_wp2
    go_ret
    exact ⟨rfl, HB2.out⟩
  · clear hno
    go_enter Try.func3, Try.ntmps3
    go_wp2_with fail
    refine (awake_any I _).mono ?_
    rintro e w1 ⟨rfl, hb1⟩
    have HB := Lib.hid hb1
    clear hb1
    go_wp2_with fail
    refine (I.new_no n _ HN.out (by omega)).mono ?_
    rintro e w2 ⟨rfl, hb2⟩
    have HB2 : Hid (Below w.heap.size w w2) := HB.out.trans (hb2.mono HB.out.size)
    clear hb2
    go_wp2_with fail
    refine (RefTimer.new_no n _ (by omega)).mono ?_
    rintro e w3 ⟨rfl, rfl⟩
    go_wp2
    go_ret
    exact ⟨rfl, HB2.out⟩

/-- The reference's calls. -/
theorem d_new {B : Nat → Prop} {w wk : World} {Rs : List Res} (h : Sep B w wk Rs) (n : Int) (h1 : 1 ≤ n) (h2 : n ≤ 1000) :
    Calls Try.prog 8 #[.int .i64 n] wk fun e wn => ∃ p, e = .returned (.tuple #[.pointer (some ⟨p, 0, none⟩), .int .i64 0]) ∧ Sep B w wn (rc p 0 0 [] n :: Rs) := by
  refine (RefTimer.new_yes n wk h1 h2).mono ?_
  rintro e wn ⟨p, rfl, ha, hb⟩
  exact ⟨p, rfl, h.add hb (R := rc p _ _ _ _) ⟨ha.mono (G' := fun k => wk.heap.size ≤ k ∧ k < wn.heap.size) fun k hk hg => ⟨hg, hk⟩, fun k hk => hk.2⟩ fun k hk => hk.1⟩
theorem drop_tells (L : List Ent) (id : Int) : getB L id = decide ((dropH L id).length < L.length) := by
  unfold getB dropH
  induction L with
  | nil => rfl
  | cons a L ih =>
    have hl := List.length_filter_le (fun y : Ent => y.id != id) L
    by_cases e : a.id = id
    · simp [e]; omega
    · simp only [List.find?_cons, List.filter_cons, show (a.id == id) = false by simpa using e, show (a.id != id) = true by simpa using e, if_true, List.length_cons]
      rw [ih]
      exact decide_eq_decide.2 (by omega)
section
variable {B : Nat → Prop} {w wk : World} {Rs : List Res} {p : Nat} {T C : Int} {L : List Ent} {M : Int}
theorem d_set (h : Sep B w wk Rs) (i : Nat) (hi : Rs[i]? = some (rc p T C L M)) (hl : L.length ≤ 100000) (h0 : 0 ≤ C) (h1 : C ≤ 1000000) (key t : Int) {E C' : Int} {L' : List Ent} (hE : setE L M key = E) (hN : setN L M C key = C') (hL : setL L M C key t = L') :
    Calls Try.prog 10 #[.pointer (some ⟨p, 0, none⟩), .int .i64 key, .int .i64 t] wk fun e wn => e = .returned (.int .i64 E) ∧ Sep B w wn (Rs.set i (rc p T C' L' M)) := by subst hE hN hL; exact h.to i hi fun _ ha => set_any ha hl h0 h1 key t
theorem d_reset (h : Sep B w wk Rs) (i : Nat) (hi : Rs[i]? = some (rc p T C L M)) (hl : L.length ≤ 100000) (h0 : 0 ≤ C) (h1 : C ≤ 1000000) (key t : Int) {E C' : Int} {L' : List Ent} (hE : resE M key = E) (hN : resN M C key = C') (hL : resL L M C key t = L') :
    Calls Try.prog 12 #[.pointer (some ⟨p, 0, none⟩), .int .i64 key, .int .i64 t] wk fun e wn => e = .returned (.int .i64 E) ∧ Sep B w wn (Rs.set i (rc p T C' L' M)) := by subst hE hN hL; exact h.to i hi fun _ ha => reset_any ha hl h0 h1 key t
theorem d_stop (h : Sep B w wk Rs) (i : Nat) (hi : Rs[i]? = some (rc p T C L M)) (key : Int) {E : Bool} {L' : List Ent} (hE : getB L key = E) (hL : dropH L key = L') :
    Calls Try.prog 13 #[.pointer (some ⟨p, 0, none⟩), .int .i64 key] wk fun e wn => e = .returned (.bool E) ∧ Sep B w wn (Rs.set i (rc p T C L' M)) := by
  subst hE hL
  rw [drop_tells]
  exact h.to i hi fun _ ha => stop_c ha key
theorem d_to (h : Sep B w wk Rs) (i : Nat) (hi : Rs[i]? = some (rc p T C L M)) (hlen : L.length ≤ 100000) (t : Int) {T' : Int} (hT : toT T t = T') {l l' : List Ent} (hl : L.filter (fun y => decide (y.at_ ≤ T')) = l) (hl' : L.filter (fun y => decide (T' < y.at_)) = l') :
    Calls Try.prog 14 #[.pointer (some ⟨p, 0, none⟩), .int .i64 t] wk fun e wn => ∃ A c, e = .returned (.slice A l.length c) ∧ Sep B w wn (grow entE 51 (.slice A l.length c) l :: Rs.set i (rc p T' C l' M)) := by
  subst hT hl hl'
  obtain ⟨F, hR, hn⟩ := h.splice2 i hi
  refine (to_loop hR hlen t).mono ?_
  rintro e wn ⟨A, c, rfl, hs⟩
  exact ⟨A, c, rfl, hn hs.swap⟩
end
end Go.Proofs.Ytpoolfnfboohjaa.TimerI
