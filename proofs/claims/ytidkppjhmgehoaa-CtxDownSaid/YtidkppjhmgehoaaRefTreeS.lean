/-
  The reference's tree of layer 5 as a thing at hand, and its calls. Condition: it is at hand.
-/
import Derived.Test.YtidkppjhmgehoaaRefTree
import Derived.Test.YtidkppjhmgehoaaSep
namespace Go.Proofs.Ytidkppjhmgehoaa.TreeI
open Go.ChangeShapes Go.WideShapes Go.ChangeAt Go.RowKit Mem TreeP RefTree Hand

/-- The reference's tree. -/
def rt (p : Nat) (L : List Nd) (M : Int) : Res where
  holds w F := RT w F p L M ∧ ∀ k, F k → k < w.heap.size
  keep := fun ⟨h, e⟩ hs hk => ⟨h.keep hs hk, fun k hF => Nat.lt_of_lt_of_le (e k hF) hs⟩
  lt := fun ⟨_, e⟩ => e

/-- The reference's Reach of what is no node. -/
theorem reach_out {w : World} {G : Nat → Prop} {p : Nat} {L : List Nd} {M : Int} (h : RT w G p L M) (n : Int) (ht : there L n = false) :
    Calls Try.prog 63 #[.pointer (some ⟨p, 0, none⟩), .int .i64 n] w fun e w' => ∃ u, e = .returned u ∧ Rd w' (fun k => w.heap.size ≤ k) u (reachT L n) ∧ Below w.heap.size w w' := by
  have HE : Hid (reachT L n = []) := by
    show _ = _
    unfold reachT
    cases hL : L.length with
    | zero => rfl
    | succ k => rw [reachF, if_neg (by rw [ht]; simp)]
  have H1 := Lib.hid (h.below (new_below0 w (.cells #[] 3)))
  have HT := Lib.hid ht
  clear ht h
  go_enter Try.func63, Try.ntmps63
  go_wp2_with fail
  refine (there_any H1.out n).mono ?_
  rintro e w1 ⟨rfl, rfl⟩
  rw [HT.out]
  go_wp2
  go_ret
  exact ⟨_, rfl, by rw [HE.out]; exact Rd.nil _ _ _ _, new_below0 w _⟩

section
variable {B : Nat → Prop} {w wk : World} {Rs : List Res} {L : List Nd} {M : Int} {p : Nat}
/-- The reference's calls. -/
theorem r_after (h : Sep B w wk Rs) (i : Nat) (hi : Rs[i]? = some (rt p L M)) {f : FuncId} {args : Array Value} {e0 : Ending} {L' : List Nd}
    (hc : ∀ G : Nat → Prop, RT wk G p L M → (∀ b, wk.heap.size ≤ b → G b) → Calls Try.prog f args wk fun e wn => e = e0 ∧ RT wn G p L' M ∧ Only (fun b => b = p) wk wn) : Calls Try.prog f args wk fun e wn => e = e0 ∧ Sep B w wn (Rs.set i (rt p L' M)) := by
  obtain ⟨F, ⟨hR, hlt⟩, _, hn⟩ := h.upd i hi
  refine (hc (fun k => F k ∨ wk.heap.size ≤ k) (hR.mono fun _ _ h => .inl h) fun _ h => .inr h).mono ?_
  rintro e wn ⟨rfl, ha, ho⟩
  have hp : F p := by obtain ⟨_, _, hg, _⟩ := hR; exact hg
  exact ⟨rfl, hn (rt p L' M) (F' := fun k => (F k ∨ wk.heap.size ≤ k) ∧ k < wn.heap.size) ⟨ha.mono fun k hk h => ⟨h, hk⟩, fun k hk => hk.2⟩ (ho.mono fun b _ e => by rw [e]; exact hp) fun k hk => hk.1⟩
theorem r_rt (h : Sep B w wk Rs) (i : Nat) (hi : Rs[i]? = some (rt p L M)) : ∃ F, RT wk F p L M := by
  obtain ⟨F, hR, _⟩ := h.get i hi
  exact ⟨F, hR⟩
theorem r_put (h : Sep B w wk Rs) (i : Nat) (hi : Rs[i]? = some (rt p L M)) (hlen : L.length ≤ 100000) (o : Int) (c : Bool) {V E : Int} {L' : List Nd} (hV : putV L M = V) (hE : putE L M = E) (hL : putL L M ⟨o, c⟩ = L') :
    Calls Try.prog 34 #[.pointer (some ⟨p, 0, none⟩), .int .i64 o, .bool c] wk fun e wn => e = .returned (.tuple #[.int .i64 V, .int .i64 E]) ∧ Sep B w wn (Rs.set i (rt p L' M)) := by subst hV hE hL; exact r_after h i hi fun _ ha hG => put_any ha hG hlen o c
theorem r_add (h : Sep B w wk Rs) (i : Nat) (hi : Rs[i]? = some (rt p L M)) (hlen : L.length ≤ 100000) (o : Int) (c : Bool) {V E : Int} {L' : List Nd} (hV : addV L M o = V) (hE : addE L M o = E) (hL : addL L M o c = L') :
    Calls Try.prog 62 #[.pointer (some ⟨p, 0, none⟩), .int .i64 o, .bool c] wk fun e wn => e = .returned (.tuple #[.int .i64 V, .int .i64 E]) ∧ Sep B w wn (Rs.set i (rt p L' M)) := by subst hV hE hL; exact r_after h i hi fun _ ha hG => add_any ha hG hlen o c
theorem r_new (h : Sep B w wk Rs) (n : Int) (h1 : 1 ≤ n) (h2 : n ≤ 200) :
    Calls Try.prog 33 #[.int .i64 n] wk fun e wn => ∃ p, e = .returned (.tuple #[.pointer (some ⟨p, 0, none⟩), .int .i64 0]) ∧ Sep B w wn (rt p [] n :: Rs) := by
  refine (RefTree.new_yes n wk h1 h2).mono ?_
  rintro e wn ⟨p, rfl, ha, hb⟩
  exact ⟨p, rfl, h.add hb (R := rt p _ _) ⟨ha.mono (G' := fun k => wk.heap.size ≤ k ∧ k < wn.heap.size) fun k hk hg => ⟨hg, hk⟩, fun k hk => hk.2⟩ fun k hk => hk.1⟩
end
end Go.Proofs.Ytidkppjhmgehoaa.TreeI
