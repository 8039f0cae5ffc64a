/-
  What the laws of layer 18 ask of package task, as one structure (a table), and its calls over things at hand. Conditions: those that each statement names.
-/
import Derived.Test.YthdipkdolgcmgaaRefTaskE
import Derived.Test.YthdipkdolgcmgaaSameI
import Derived.Test.YthdipkdolgcmgaaWhole
namespace Go.Proofs.Ythdipkdolgcmgaa.TaskI
open Go.ChangeShapes Go.WideShapes Go.ChangeAt Go.RowKit Mem MutP TaskP Hand RefTask

/-- What one waits for, as a value. -/
def pkA (q : Pk) : Array Value := #[.int .i64 q.k, .int .i64 q.o, .int .i64 q.c, .int .i64 q.r, .int .i64 q.l, .int .i64 q.n]
def InPk (q : Pk) : Prop := In64 q.k ∧ In64 q.o ∧ In64 q.c ∧ In64 q.r ∧ In64 q.l ∧ In64 q.n
/-- A table's tasks, and how many there may be. -/
abbrev St := List Tk × Int

/-- A table. -/
structure Tb where
  O : Ob St
  ok : ∀ {w v F s}, O.A w v F s → TaskP.Ok s.1 s.2
  new_no : ∀ (n : Int) (w : World), In64 n → (n < 1 ∨ 200 < n) → Calls Try.prog 7 #[.int .i64 n] w fun e w' => e = .returned (.tuple #[.pointer none, .int .i64 1]) ∧ Below w.heap.size w w'
  new_yes : ∀ (n : Int) (w : World), 1 ≤ n → n ≤ 200 → Calls Try.prog 7 #[.int .i64 n] w fun e w' => ∃ v F, e = .returned (.tuple #[v, .int .i64 0]) ∧ O.A w' v F (([], n) : St) ∧ Below w.heap.size w w' ∧ ∀ k, F k → w.heap.size ≤ k
  begin_ : ∀ {w v F s}, O.A w v F s → ∀ g m, In64 g → In64 m → Calls Try.prog 27 #[v, .int .i64 g, .int .i64 m] w fun e w' => e = .returned (.tuple #[.int .i64 (beginV s.1 s.2), .int .i64 (beginE s.1 s.2)]) ∧ Stays (ob O v ((beginL s.1 s.2 g m, s.2) : St)) F w w'
  go : ∀ {w v F s}, O.A w v F s → ∀ n a, In64 n → In64 a → Calls Try.prog 28 #[v, .int .i64 n, .int .i64 a] w fun e w' => e = .returned (.bool (isB s.1 n 1)) ∧ Stays (ob O v ((goL s.1 n a, s.2) : St)) F w w'
  set_ : ∀ {w v F s}, O.A w v F s → ∀ n r x, In64 n → In64 r → In64 x → Calls Try.prog 29 #[v, .int .i64 n, .int .i64 r, .int .i64 x] w fun e w' => e = .returned (.bool (setB s.1 n r)) ∧ Stays (ob O v ((setL s.1 n r x, s.2) : St)) F w w'
  park : ∀ {w v F s}, O.A w v F s → ∀ n (q : Pk), In64 n → InPk q → Calls Try.prog 30 #[v, .int .i64 n, .agg (pkA q)] w fun e w' => e = .returned (.bool (parkB s.1 n q)) ∧ Stays (ob O v ((parkL s.1 n q, s.2) : St)) F w w'
  again : ∀ {w v F s}, O.A w v F s → ∀ n (q : Pk), In64 n → InPk q → Calls Try.prog 25 #[v, .int .i64 n, .agg (pkA q)] w fun e w' => e = .returned (.bool (againB s.1 n q)) ∧ Stays (ob O v ((againL s.1 n q, s.2) : St)) F w w'
  wake : ∀ {w v F s}, O.A w v F s → ∀ n x, In64 n → In64 x → Calls Try.prog 26 #[v, .int .i64 n, .int .i64 x] w fun e w' => e = .returned (.bool (isB s.1 n 2)) ∧ Stays (ob O v ((wakeL s.1 n x, s.2) : St)) F w w'
  end_ : ∀ {w v F s}, O.A w v F s → ∀ n x, In64 n → In64 x → Calls Try.prog 31 #[v, .int .i64 n, .int .i64 x] w fun e w' => e = .returned (.bool (liveB s.1 n)) ∧ Stays (ob O v ((endL s.1 n x, s.2) : St)) F w w'
  len : ∀ {w v F s}, O.A w v F s → Calls Try.prog 16 #[v] w fun e w' => e = .returned (.int .i64 s.1.length) ∧ Below w.heap.size w w'
  get : ∀ {w v F s}, O.A w v F s → ∀ n, In64 n → Calls Try.prog 22 #[v, .int .i64 n] w fun e w' => e = .returned (.tuple #[.agg (tkA (getT s.1 n)), .bool (getB s.1 n)]) ∧ Below w.heap.size w w'
  in_ : ∀ {w v F s}, O.A w v F s → ∀ x, In64 x → Calls Try.prog 18 #[v, .int .i64 x] w fun e w' => ∃ u, e = .returned u ∧ Says w w' u (inS s.1 x)
  under : ∀ {w v F s}, O.A w v F s → ∀ x, In64 x → Calls Try.prog 20 #[v, .int .i64 x] w fun e w' => ∃ u, e = .returned u ∧ Says w w' u (underS s.1 x)

theorem inS_len (L : List Tk) (x : Int) : (inS L x).length ≤ L.length := pick_len _ _ _
theorem underS_len (L : List Tk) (x : Int) : (underS L x).length ≤ L.length := pick_len _ _ _

section
variable {I : Tb} {B : Nat → Prop} {w wk : World} {Rs : List Res} {v : Value} {L L' : List Tk} {N : Int}
theorem t_ok (h : Sep B w wk Rs) (i : Nat) (hi : Rs[i]? = some (ob I.O v (L, N))) : TaskP.Ok L N := by
  obtain ⟨F, hR⟩ := h.get i hi
  exact I.ok hR
theorem t_new (h : Sep B w wk Rs) (I : Tb) (n : Int) (h1 : 1 ≤ n) (h2 : n ≤ 200) : Calls Try.prog 7 #[.int .i64 n] wk fun e wn => ∃ a, e = .returned (.tuple #[.pointer (some a), .int .i64 0]) ∧ Sep B w wn (ob I.O (.pointer (some a)) ([], n) :: Rs) :=
  ob_new h (e0 := fun v => .returned (.tuple #[v, .int .i64 0])) (I.new_yes n wk h1 h2)
theorem t_no (h : Sep (fun _ => False) w wk Rs) (I : Tb) (n : Int) (hn : In64 n) (h1 : n < 1 ∨ 200 < n) : Calls Try.prog 7 #[.int .i64 n] wk fun e wn => e = .returned (.tuple #[.pointer none, .int .i64 1]) ∧ Sep (fun _ => False) w wn Rs :=
  (I.new_no n wk hn h1).mono fun _ _ ⟨he, hb⟩ => ⟨he, h.next hb⟩
theorem t_begin (h : Sep B w wk Rs) (i : Nat) (hi : Rs[i]? = some (ob I.O v (L, N))) (g m : Int) (hg : In64 g) (hm : In64 m) {V E : Int} (hV : beginV L N = V) (hE : beginE L N = E) (hL : beginL L N g m = L') :
    Calls Try.prog 27 #[v, .int .i64 g, .int .i64 m] wk fun e wn => e = .returned (.tuple #[.int .i64 V, .int .i64 E]) ∧ Sep B w wn (Rs.set i (ob I.O v (L', N))) := by
  subst hV hE hL
  exact ob_to h i hi fun _ hA => I.begin_ hA g m hg hm
theorem t_go (h : Sep B w wk Rs) (i : Nat) (hi : Rs[i]? = some (ob I.O v (L, N))) (n a : Int) (hn : In64 n) (ha : In64 a) {b : Bool} (hb : isB L n 1 = b) (hL : goL L n a = L') :
    Calls Try.prog 28 #[v, .int .i64 n, .int .i64 a] wk fun e wn => e = .returned (.bool b) ∧ Sep B w wn (Rs.set i (ob I.O v (L', N))) := by
  subst hb hL
  exact ob_to h i hi fun _ hA => I.go hA n a hn ha
theorem t_set (h : Sep B w wk Rs) (i : Nat) (hi : Rs[i]? = some (ob I.O v (L, N))) (n r x : Int) (hn : In64 n) (hr : In64 r) (hx : In64 x) {b : Bool} (hb : setB L n r = b) (hL : setL L n r x = L') :
    Calls Try.prog 29 #[v, .int .i64 n, .int .i64 r, .int .i64 x] wk fun e wn => e = .returned (.bool b) ∧ Sep B w wn (Rs.set i (ob I.O v (L', N))) := by
  subst hb hL
  exact ob_to h i hi fun _ hA => I.set_ hA n r x hn hr hx
theorem t_park (h : Sep B w wk Rs) (i : Nat) (hi : Rs[i]? = some (ob I.O v (L, N))) (n : Int) (q : Pk) (hn : In64 n) (hq : InPk q) {b : Bool} (hb : parkB L n q = b) (hL : parkL L n q = L') :
    Calls Try.prog 30 #[v, .int .i64 n, .agg (pkA q)] wk fun e wn => e = .returned (.bool b) ∧ Sep B w wn (Rs.set i (ob I.O v (L', N))) := by
  subst hb hL
  exact ob_to h i hi fun _ hA => I.park hA n q hn hq
theorem t_again (h : Sep B w wk Rs) (i : Nat) (hi : Rs[i]? = some (ob I.O v (L, N))) (n : Int) (q : Pk) (hn : In64 n) (hq : InPk q) {b : Bool} (hb : againB L n q = b) (hL : againL L n q = L') :
    Calls Try.prog 25 #[v, .int .i64 n, .agg (pkA q)] wk fun e wn => e = .returned (.bool b) ∧ Sep B w wn (Rs.set i (ob I.O v (L', N))) := by
  subst hb hL
  exact ob_to h i hi fun _ hA => I.again hA n q hn hq
theorem t_wake (h : Sep B w wk Rs) (i : Nat) (hi : Rs[i]? = some (ob I.O v (L, N))) (n x : Int) (hn : In64 n) (hx : In64 x) {b : Bool} (hb : isB L n 2 = b) (hL : wakeL L n x = L') :
    Calls Try.prog 26 #[v, .int .i64 n, .int .i64 x] wk fun e wn => e = .returned (.bool b) ∧ Sep B w wn (Rs.set i (ob I.O v (L', N))) := by
  subst hb hL
  exact ob_to h i hi fun _ hA => I.wake hA n x hn hx
theorem t_end (h : Sep B w wk Rs) (i : Nat) (hi : Rs[i]? = some (ob I.O v (L, N))) (n x : Int) (hn : In64 n) (hx : In64 x) {b : Bool} (hb : liveB L n = b) (hL : endL L n x = L') :
    Calls Try.prog 31 #[v, .int .i64 n, .int .i64 x] wk fun e wn => e = .returned (.bool b) ∧ Sep B w wn (Rs.set i (ob I.O v (L', N))) := by
  subst hb hL
  exact ob_to h i hi fun _ hA => I.end_ hA n x hn hx
theorem t_len (h : Sep B w wk Rs) (i : Nat) (hi : Rs[i]? = some (ob I.O v (L, N))) : Calls Try.prog 16 #[v] wk fun e wn => e = .returned (.int .i64 L.length) ∧ Sep B w wn Rs ∧ Below wk.heap.size wk wn :=
  ob_still h i hi fun _ hA => I.len hA
theorem t_get (h : Sep B w wk Rs) (i : Nat) (hi : Rs[i]? = some (ob I.O v (L, N))) (n : Int) (hn : In64 n) {t : Tk} {b : Bool} (ht : getT L n = t) (hb : getB L n = b) :
    Calls Try.prog 22 #[v, .int .i64 n] wk fun e wn => e = .returned (.tuple #[.agg (tkA t), .bool b]) ∧ Sep B w wn Rs ∧ Below wk.heap.size wk wn := by
  subst ht hb
  exact ob_still h i hi fun _ hA => I.get hA n hn
theorem t_in (h : Sep B w wk Rs) (i : Nat) (hi : Rs[i]? = some (ob I.O v (L, N))) (x : Int) (hx : In64 x) {l : List Int} {m : Nat} (hl : inS L x = l) (hm : l.length = m) :
    Calls Try.prog 18 #[v, .int .i64 x] wk fun e wn => ∃ A c, e = .returned (.slice A m c) ∧ Sep B w wn (nums (.slice A m c) l :: Rs) ∧ Below wk.heap.size wk wn := by
  subst hl hm
  exact ob_told h i hi fun _ hA => I.in_ hA x hx
theorem t_under (h : Sep B w wk Rs) (i : Nat) (hi : Rs[i]? = some (ob I.O v (L, N))) (x : Int) (hx : In64 x) {l : List Int} {m : Nat} (hl : underS L x = l) (hm : l.length = m) :
    Calls Try.prog 20 #[v, .int .i64 x] wk fun e wn => ∃ A c, e = .returned (.slice A m c) ∧ Sep B w wn (nums (.slice A m c) l :: Rs) ∧ Below wk.heap.size wk wn := by
  subst hl hm
  exact ob_told h i hi fun _ hA => I.under hA x hx
end
end Go.Proofs.Ythdipkdolgcmgaa.TaskI
