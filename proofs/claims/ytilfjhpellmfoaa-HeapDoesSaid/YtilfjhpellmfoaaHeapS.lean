/-
  Heaps of the program and of the reference among the things that a call has at hand; the law's own do(). Conditions: none but 'Heap'.
-/
import Derived.Test.YtilfjhpellmfoaaHeapM
import Derived.Test.YtilfjhpellmfoaaSep
namespace Go.Proofs.Ytilfjhpellmfoaa.HeapI
open Go.ChangeShapes Go.WideShapes Go.ChangeAt Go.RowKit Mem RefHeap Hand
variable (I : Heap)

/-- The program's heap. -/
def hp (v : Value) (L : List Ent) (N : Int) : Res where
  holds w F := I.A w v F L N
  keep := I.keep
  lt := I.lt
/-- The reference's heap. -/
def rh (p : Nat) (L : List Ent) (N : Int) : Res where
  holds w F := RH w F p L N ∧ ∀ k, F k → k < w.heap.size
  keep := fun ⟨h, e⟩ hs hk => ⟨h.keep hs hk, fun k hF => Nat.lt_of_lt_of_le (e k hF) hs⟩
  lt := fun ⟨_, e⟩ => e

section
variable {I} {B : Nat → Prop} {w wk : World} {Rs : List Res} {v : Value} {L : List Ent} {N : Int} {p : Nat}

theorem s_after (h : Sep B w wk Rs) (i : Nat) (hi : Rs[i]? = some (hp I v L N)) {f : FuncId} {args : Array Value} {e0 : Ending} {L' : List Ent}
    (hc : ∀ F, I.A wk v F L N → Calls Try.prog f args wk fun e wn => e = e0 ∧ After I.A wk wn v F L' N) : Calls Try.prog f args wk fun e wn => e = e0 ∧ Sep B w wn (Rs.set i (hp I v L' N)) := by
  obtain ⟨F, hR, _, hn⟩ := h.upd i hi
  refine (hc F hR).mono ?_
  rintro e wn ⟨rfl, F', ha, ho, hF⟩
  exact ⟨rfl, hn (hp I v L' N) ha ho hF⟩
theorem s_still (h : Sep B w wk Rs) (i : Nat) (hi : Rs[i]? = some (hp I v L N)) {f : FuncId} {args : Array Value} {e0 : Ending}
    (hc : ∀ F, I.A wk v F L N → Calls Try.prog f args wk fun e wn => e = e0 ∧ Below wk.heap.size wk wn) : Calls Try.prog f args wk fun e wn => e = e0 ∧ Sep B w wn Rs := by
  obtain ⟨F, hR⟩ := h.get i hi
  refine (hc F hR).mono ?_
  rintro e wn ⟨rfl, hb⟩
  exact ⟨rfl, h.next hb⟩

theorem s_put (h : Sep B w wk Rs) (i : Nat) (hi : Rs[i]? = some (hp I v L N)) (x : Ent) (hx : EntIn x) {E : Int} (hE : putHE L N x = E) {L' : List Ent} (hL : putH L N x = L') :
    Calls Try.prog 27 #[v, x.val] wk fun e wn => e = .returned (.int .i64 E) ∧ Sep B w wn (Rs.set i (hp I v L' N)) := by subst hE hL; exact s_after h i hi fun _ ha => I.put ha x hx
theorem s_drop (h : Sep B w wk Rs) (i : Nat) (hi : Rs[i]? = some (hp I v L N)) (id : Int) (hx : In64 id) {E : Bool} (hE : getB L id = E) {L' : List Ent} (hL : dropH L id = L') :
    Calls Try.prog 30 #[v, .int .i64 id] wk fun e wn => e = .returned (.bool E) ∧ Sep B w wn (Rs.set i (hp I v L' N)) := by subst hE hL; exact s_after h i hi fun _ ha => I.drop ha id hx
theorem s_move (h : Sep B w wk Rs) (i : Nat) (hi : Rs[i]? = some (hp I v L N)) (id t : Int) (hx : In64 id) (ht : In64 t) {E : Bool} (hE : getB L id = E) {L' : List Ent} (hL : moveH L N id t = L') :
    Calls Try.prog 29 #[v, .int .i64 id, .int .i64 t] wk fun e wn => e = .returned (.bool E) ∧ Sep B w wn (Rs.set i (hp I v L' N)) := by subst hE hL; exact s_after h i hi fun _ ha => I.move ha id t hx ht
theorem s_take (h : Sep B w wk Rs) (i : Nat) (hi : Rs[i]? = some (hp I v L N)) (t : Int) (ht : In64 t) {x : Ent} (hx : takeE L t = x) {E : Bool} (hE : takeB L t = E) {L' : List Ent} (hL : takeH L t = L') :
    Calls Try.prog 28 #[v, .int .i64 t] wk fun e wn => e = .returned (.tuple #[x.val, .bool E]) ∧ Sep B w wn (Rs.set i (hp I v L' N)) := by subst hx hE hL; exact s_after h i hi fun _ ha => I.take ha t ht
theorem s_get (h : Sep B w wk Rs) (i : Nat) (hi : Rs[i]? = some (hp I v L N)) (id : Int) (hx : In64 id) :
    Calls Try.prog 24 #[v, .int .i64 id] wk fun e wn => e = .returned (.tuple #[(getE L id).val, .bool (getB L id)]) ∧ Sep B w wn Rs := s_still h i hi fun _ ha => I.get ha id hx
theorem s_first (h : Sep B w wk Rs) (i : Nat) (hi : Rs[i]? = some (hp I v L N)) :
    Calls Try.prog 15 #[v] wk fun e wn => e = .returned (.tuple #[(firstE L).val, .bool (!L.isEmpty)]) ∧ Sep B w wn Rs := s_still h i hi fun _ ha => I.first ha
theorem s_len (h : Sep B w wk Rs) (i : Nat) (hi : Rs[i]? = some (hp I v L N)) :
    Calls Try.prog 17 #[v] wk fun e wn => e = .returned (.int .i64 L.length) ∧ Sep B w wn Rs := s_still h i hi fun _ ha => (I.len ha).mono fun _ _ ⟨he, m, hm⟩ => ⟨he, by rw [hm]; exact below_drewN (Below.refl _ _) m⟩
theorem s_all (h : Sep B w wk Rs) (i : Nat) (hi : Rs[i]? = some (hp I v L N)) :
    Calls Try.prog 20 #[v] wk fun e wn => ∃ A c, e = .returned (.slice A L.length c) ∧ Sep B w wn Rs ∧ RdL entE wn (fun _ => True) (.slice A L.length c) L := by
  obtain ⟨F, hR⟩ := h.get i hi
  refine (I.all hR).mono ?_
  rintro e wn ⟨u, rfl, hu, hb⟩
  obtain ⟨A, c, rfl⟩ := hu.form
  exact ⟨A, c, rfl, h.next hb, hu.mono fun _ _ _ => trivial⟩
theorem s_rows (h : Sep B w wk Rs) (i : Nat) (hi : Rs[i]? = some (hp I v L N)) :
    Calls Try.prog 22 #[v] wk fun e wn => ∃ A c R, e = .returned (.slice A L.length c) ∧ R.Perm L ∧ Held4 R ∧ Sep B w wn Rs ∧ RdL entE wn (fun _ => True) (.slice A L.length c) R := by
  obtain ⟨F, hR⟩ := h.get i hi
  refine (I.rows hR).mono ?_
  rintro e wn ⟨u, R, rfl, hu, hp, h4, hb⟩
  obtain ⟨A, c, rfl⟩ := hu.form
  rw [hp.length_eq] at hu ⊢
  exact ⟨A, c, R, rfl, hp, h4, h.next hb, hu.mono fun _ _ _ => trivial⟩
theorem s_own (h : Sep B w wk Rs) {u : Value} {l : List Ent} (hu : RdL entE wk (fun _ => True) u l) (hl : l.length ≤ 100000) :
    Calls Try.prog 19 #[u] wk fun e wn => ∃ A c, e = .returned (.slice A l.length c) ∧ Sep B w wn (told entE (.slice A l.length c) l :: Rs) := by
  refine (own_any hu hl).mono ?_
  rintro e wn ⟨u', rfl, hu', hb⟩
  obtain ⟨A, c, rfl⟩ := hu'.form
  exact ⟨A, c, rfl, h.add hb (R := told entE _ l) ⟨hu'.mono (G' := fun k => wk.heap.size ≤ k ∧ k < wn.heap.size) fun k hk hg => ⟨hg, hk⟩, fun k hk => hk.2⟩ fun k hk => hk.1⟩
theorem s_new (h : Sep B w wk Rs) (I : Heap) (n : Int) (h1 : 1 ≤ n) (h2 : n ≤ 1000) :
    Calls Try.prog 8 #[.int .i64 n] wk fun e wn => ∃ a, e = .returned (.tuple #[.pointer (some a), .int .i64 0]) ∧ Sep B w wn (hp I (.pointer (some a)) [] n :: Rs) := by
  refine (I.new_yes n wk h1 h2).mono ?_
  rintro e wn ⟨v, F, rfl, ha, hb, hf⟩
  obtain ⟨a, rfl⟩ := I.ptr ha
  exact ⟨a, rfl, h.add hb (R := hp I _ _ _) ha hf⟩
theorem s_ok (h : Sep B w wk Rs) (i : Nat) (hi : Rs[i]? = some (hp I v L N)) : Ok L N := by
  obtain ⟨F, hR⟩ := h.get i hi
  exact I.ok hR

/-- The reference's calls. -/
theorem r_after (h : Sep B w wk Rs) (i : Nat) (hi : Rs[i]? = some (rh p L N)) {f : FuncId} {args : Array Value} {e0 : Ending} {L' : List Ent}
    (hc : ∀ G : Nat → Prop, RH wk G p L N → (∀ b, wk.heap.size ≤ b → G b) → Calls Try.prog f args wk fun e wn => e = e0 ∧ RH wn G p L' N ∧ Only (fun b => b = p) wk wn) : Calls Try.prog f args wk fun e wn => e = e0 ∧ Sep B w wn (Rs.set i (rh p L' N)) := by
  obtain ⟨F, ⟨hR, hlt⟩, _, hn⟩ := h.upd i hi
  refine (hc (fun k => F k ∨ wk.heap.size ≤ k) (hR.mono fun _ _ h => .inl h) fun _ h => .inr h).mono ?_
  rintro e wn ⟨rfl, ha, ho⟩
  have hp : F p := by obtain ⟨_, _, hg, _⟩ := hR; exact hg
  exact ⟨rfl, hn (rh p L' N) (F' := fun k => (F k ∨ wk.heap.size ≤ k) ∧ k < wn.heap.size) ⟨ha.mono fun k hk h => ⟨h, hk⟩, fun k hk => hk.2⟩ (ho.mono fun b _ e => by rw [e]; exact hp) fun k hk => hk.1⟩
theorem r_still (h : Sep B w wk Rs) (i : Nat) (hi : Rs[i]? = some (rh p L N)) {f : FuncId} {args : Array Value} {e0 : Ending}
    (hc : ∀ F, RH wk F p L N → Calls Try.prog f args wk fun e wn => e = e0 ∧ Below wk.heap.size wk wn) : Calls Try.prog f args wk fun e wn => e = e0 ∧ Sep B w wn Rs := by
  obtain ⟨F, hR, _⟩ := h.get i hi
  refine (hc F hR).mono ?_
  rintro e wn ⟨rfl, hb⟩
  exact ⟨rfl, h.next hb⟩
theorem r_put (h : Sep B w wk Rs) (i : Nat) (hi : Rs[i]? = some (rh p L N)) (hlen : L.length ≤ 100000) (x : Ent) {E : Int} (hE : putHE L N x = E) {L' : List Ent} (hL : putH L N x = L') :
    Calls Try.prog 11 #[.pointer (some ⟨p, 0, none⟩), .agg #[.int .i64 x.id, .int .i64 x.at_, .int .i64 x.seq]] wk fun e wn => e = .returned (.int .i64 E) ∧ Sep B w wn (Rs.set i (rh p L' N)) := by subst hE hL; exact r_after h i hi fun _ ha hG => RefHeap.put_any ha hG hlen x
theorem drop_tells (L : List Ent) (id : Int) : getB L id = decide ((dropH L id).length < L.length) := by
  unfold getB dropH
  induction L with
  | nil => rfl
  | cons a L ih =>
    have hl := List.length_filter_le (fun y : Ent => y.id != id) L
    by_cases e : a.id = id
    · simp [e]; omega
    · simp only [List.find?_cons, List.filter_cons, show (a.id == id) = false by simpa using e, show (a.id != id) = true by simpa using e, if_true, List.length_cons]
      rw [ih]
      exact decide_eq_decide.2 (by omega)
theorem r_drop (h : Sep B w wk Rs) (i : Nat) (hi : Rs[i]? = some (rh p L N)) (id : Int) {E : Bool} (hE : getB L id = E) {L' : List Ent} (hL : dropH L id = L') :
    Calls Try.prog 12 #[.pointer (some ⟨p, 0, none⟩), .int .i64 id] wk fun e wn => e = .returned (.bool E) ∧ Sep B w wn (Rs.set i (rh p L' N)) := by
  subst hE hL
  rw [drop_tells]
  exact r_after h i hi fun _ ha hG => RefHeap.drop_any ha hG id
theorem r_move (h : Sep B w wk Rs) (i : Nat) (hi : Rs[i]? = some (rh p L N)) (hlen : L.length ≤ 100000) (id t : Int) {E : Bool} (hE : getB L id = E) {L' : List Ent} (hL : moveH L N id t = L') :
    Calls Try.prog 13 #[.pointer (some ⟨p, 0, none⟩), .int .i64 id, .int .i64 t] wk fun e wn => e = .returned (.bool E) ∧ Sep B w wn (Rs.set i (rh p L' N)) := by subst hE hL; exact r_after h i hi fun _ ha hG => RefHeap.move_any ha hG hlen id t
theorem r_take (h : Sep B w wk Rs) (i : Nat) (hi : Rs[i]? = some (rh p L N)) (t : Int) {x : Ent} (hx : takeE L t = x) {E : Bool} (hE : takeB L t = E) {L' : List Ent} (hL : takeH L t = L') :
    Calls Try.prog 14 #[.pointer (some ⟨p, 0, none⟩), .int .i64 t] wk fun e wn => e = .returned (.tuple #[x.val, .bool E]) ∧ Sep B w wn (Rs.set i (rh p L' N)) := by subst hx hE hL; exact r_after h i hi fun _ ha hG => RefHeap.take_any ha hG t
theorem r_get (h : Sep B w wk Rs) (i : Nat) (hi : Rs[i]? = some (rh p L N)) (id : Int) :
    Calls Try.prog 23 #[.pointer (some ⟨p, 0, none⟩), .int .i64 id] wk fun e wn => e = .returned (.tuple #[(getE L id).val, .bool (getB L id)]) ∧ Sep B w wn Rs := r_still h i hi fun _ ha => RefHeap.get_any ha id
theorem r_first (h : Sep B w wk Rs) (i : Nat) (hi : Rs[i]? = some (rh p L N)) :
    Calls Try.prog 16 #[.pointer (some ⟨p, 0, none⟩)] wk fun e wn => e = .returned (.tuple #[(firstE L).val, .bool (!L.isEmpty)]) ∧ Sep B w wn Rs := r_still h i hi fun _ ha => RefHeap.first_any ha
theorem r_new (h : Sep B w wk Rs) (n : Int) (h1 : 1 ≤ n) (h2 : n ≤ 1000) :
    Calls Try.prog 9 #[.int .i64 n] wk fun e wn => ∃ p, e = .returned (.tuple #[.pointer (some ⟨p, 0, none⟩), .int .i64 0]) ∧ Sep B w wn (rh p [] n :: Rs) := by
  refine (RefHeap.new_yes n wk h1 h2).mono ?_
  rintro e wn ⟨p, rfl, ha, hb⟩
  exact ⟨p, rfl, h.add hb (R := rh p _ _) ⟨ha.mono (G' := fun k => wk.heap.size ≤ k ∧ k < wn.heap.size) fun k hk hg => ⟨hg, hk⟩, fun k hk => hk.2⟩ fun k hk => hk.1⟩
end

/-- What an act answers, and the things behind it. -/
def doE (L : List Ent) (N d : Int) (x : Ent) : Int := if d = 0 then putHE L N x else 0
def doB (L : List Ent) (d : Int) (x : Ent) : Bool := if d = 1 ∨ d = 2 then getB L x.id else if d = 3 then takeB L x.at_ else false
def doX (L : List Ent) (d : Int) (x : Ent) : Ent := if d = 3 then takeE L x.at_ else zeroEnt
def doH (L : List Ent) (N d : Int) (x : Ent) : List Ent := if d = 0 then putH L N x else if d = 1 then dropH L x.id else if d = 2 then moveH L N x.id x.at_ else if d = 3 then takeH L x.at_ else L

/-- An act, as it lies in memory. -/
def actCells (d : Int) (x : Ent) : Array Value := #[.int .i64 d, .int .i64 x.id, .int .i64 x.at_, .int .i64 x.seq]

/-- The act's own block, the answer's, and the heap. -/
theorem do_begin {w : World} {v : Value} {F : Nat → Prop} {L : List Ent} {N : Int} (h : I.A w v F L N) (d : Int) (x : Ent) :
    Sep F w ((w.alloc (.cells (actCells d x) 34)).alloc (.cells #[.int .i64 0, .int .i64 0, .int .i64 0] 32)) [blk (w.heap.size + 1) (.cells #[.int .i64 0, .int .i64 0, .int .i64 0] 32), blk w.heap.size (.cells (actCells d x) 34), hp I v L N] := by
  have h1 := ((Sep.of (R := hp I v L N) h).new (.cells (actCells d x) 34)).new (.cells #[.int .i64 0, .int .i64 0, .int .i64 0] 32)
  have e : (w.alloc (.cells (actCells d x) 34)).heap.size = w.heap.size + 1 := by simp
  rw [e] at h1
  exact h1
theorem do_end {w wn : World} {v : Value} {F : Nat → Prop} {L : List Ent} {N : Int} {R1 R2 : Res} (h : Sep F w wn [R1, R2, hp I v L N]) : After I.A w wn v F L N := by
  obtain ⟨F', hR, hF, _⟩ := h.upd 2 rfl
  exact ⟨F', hR, h.only, hF⟩
/-- The answer's cells. -/
theorem box_cells {B : Nat → Prop} {w wn : World} {Rs : List Res} (h : Sep B w wn Rs) (i : Nat) {g : Nat} {t : TypeId} {a b c : Value} (hi : Rs[i]? = some (blk g (.cells #[a, b, c] t))) :
    wn.cell? ⟨g, 0, none⟩ = some a ∧ wn.cell? ⟨g, 1, none⟩ = some b ∧ wn.cell? ⟨g, 2, none⟩ = some c ∧ wn.frozen? ⟨g, 0, none⟩ = false ∧ wn.frozen? ⟨g, 1, none⟩ = false ∧ wn.frozen? ⟨g, 2, none⟩ = false := by
  have := h.blk_at i hi
  exact ⟨(cell_block this 0).trans rfl, (cell_block this 1).trans rfl, (cell_block this 2).trans rfl, frozen_block this 0, frozen_block this 1, frozen_block this 2⟩
theorem box_set {B : Nat → Prop} {w wn : World} {Rs : List Res} (h : Sep B w wn Rs) (i : Nat) {g : Nat} {t : TypeId} {a b c : Value} (hi : Rs[i]? = some (blk g (.cells #[a, b, c] t))) (u0 u1 u2 : Value) :
    Sep B w (((wn.setCell ⟨g, 0, none⟩ u0).setCell ⟨g, 1, none⟩ u1).setCell ⟨g, 2, none⟩ u2) (Rs.set i (blk g (.cells #[u0, u1, u2] t))) := by
  obtain ⟨F, ⟨h1, rfl⟩, hF, hn⟩ := h.upd i hi
  exact hn (blk g _) ⟨set3 h1 u0 u1 u2, rfl⟩ ((((Only.refl (fun b => b = g) _).setCell (.inl rfl) u0).setCell (.inl rfl) u1).setCell (.inl rfl) u2) fun k hk => .inl hk

set_option maxHeartbeats 1000000 in
theorem do_any {w : World} {v : Value} {F : Nat → Prop} {L : List Ent} {N : Int} (h : I.A w v F L N) (d : Int) (x : Ent) (hx : EntIn x) :
    Calls Try.prog 10 #[v, .agg (actCells d x)] w fun e w' => e = .returned (.tuple #[.int .i64 (doE L N d x), .bool (doB L d x), (doX L d x).val]) ∧ After I.A w w' v F (doH L N d x) N := by
  obtain ⟨pa, rfl⟩ := I.ptr h
  have S0 := Lib.hid (do_begin I h d x)
  have HX := Lib.hid hx
  have H := Lib.hid h
  clear h hx
  unfold actCells at *
  rcases (by omega : d = 0 ∨ d = 1 ∨ d = 2 ∨ d = 3 ∨ (d ≠ 0 ∧ d ≠ 1 ∧ d ≠ 2 ∧ d ≠ 3)) with rfl | rfl | rfl | rfl | ⟨d0, d1, d2, d3⟩
  · go_enter Try.func10, Try.ntmps10
    go_wp2_with fail
    refine (s_put S0.out 2 rfl x HX.out rfl rfl).mono ?_
    rintro e w1 ⟨rfl, h1⟩
    have S1 := Lib.hid (box_set h1 0 rfl (.int .i64 0) (.int .i64 0) (.int .i64 0))
    obtain ⟨c0, c1, c2, f0, f1, f2⟩ := box_cells h1 0 rfl
    clear h1
    go_wp2
    obtain ⟨r0, r1, r2, _⟩ := box_cells S1.out 0 rfl
    exact bodyPost_ret (v := .tuple #[.int .i64 (putHE L N x), .bool false, zeroEnt.val]) (by simp [results, Try.results10, go_sem, Ent.val, zeroEnt, r0, r1, r2]) rfl ⟨rfl, do_end I S1.out⟩
  · go_enter Try.func10, Try.ntmps10
    go_wp2_with fail
    refine (s_drop S0.out 2 rfl x.id HX.out.1 rfl rfl).mono ?_
    rintro e w1 ⟨rfl, h1⟩
    have S1 := Lib.hid (box_set h1 0 rfl (.int .i64 0) (.int .i64 0) (.int .i64 0))
    obtain ⟨c0, c1, c2, f0, f1, f2⟩ := box_cells h1 0 rfl
    clear h1
    go_wp2
    obtain ⟨r0, r1, r2, _⟩ := box_cells S1.out 0 rfl
    exact bodyPost_ret (v := .tuple #[.int .i64 0, .bool (getB L x.id), zeroEnt.val]) (by simp [results, Try.results10, go_sem, Ent.val, zeroEnt, r0, r1, r2]) rfl ⟨rfl, do_end I S1.out⟩
  · go_enter Try.func10, Try.ntmps10
    go_wp2_with fail
    refine (s_move S0.out 2 rfl x.id x.at_ HX.out.1 HX.out.2.1 rfl rfl).mono ?_
    rintro e w1 ⟨rfl, h1⟩
    have S1 := Lib.hid (box_set h1 0 rfl (.int .i64 0) (.int .i64 0) (.int .i64 0))
    obtain ⟨c0, c1, c2, f0, f1, f2⟩ := box_cells h1 0 rfl
    clear h1
    go_wp2
    obtain ⟨r0, r1, r2, _⟩ := box_cells S1.out 0 rfl
    exact bodyPost_ret (v := .tuple #[.int .i64 0, .bool (getB L x.id), zeroEnt.val]) (by simp [results, Try.results10, go_sem, Ent.val, zeroEnt, r0, r1, r2]) rfl ⟨rfl, do_end I S1.out⟩
  · obtain ⟨y, hy⟩ : ∃ y, takeE L x.at_ = y := ⟨_, rfl⟩
    have HY := Lib.hid hy
    clear hy
    go_enter Try.func10, Try.ntmps10
    go_wp2_with fail
    refine (s_take S0.out 2 rfl x.at_ HX.out.2.1 HY.out rfl rfl).mono ?_
    rintro e w1 ⟨rfl, h1⟩
    simp only [Ent.val]
    generalize hB : takeB L x.at_ = bb at *
    have HB := Lib.hid hB
    have h2 := h1.new (.cells #[.int .i64 y.id, .int .i64 y.at_, .int .i64 y.seq] 32)
    have S2 := Lib.hid (box_set h2 1 rfl (.int .i64 y.id) (.int .i64 y.at_) (.int .i64 y.seq))
    obtain ⟨c0, c1, c2, f0, f1, f2⟩ := box_cells h2 1 rfl
    obtain ⟨a0, a1, a2, _⟩ := box_cells h2 0 rfl
    generalize hw2 : w1.alloc (.cells #[.int .i64 y.id, .int .i64 y.at_, .int .i64 y.seq] 32) = w2 at *
    clear hB h1 h2
    go_wp2
    clear hw2
    go_region
    go_wp2
    have S3 := S2.out.drew
    obtain ⟨r0, r1, r2, _⟩ := box_cells S3 1 rfl
    refine bodyPost_ret (v := .tuple #[.int .i64 0, .bool bb, y.val]) (by simp [results, Try.results10, go_sem, Ent.val, r0, r1, r2]) rfl ⟨?_, do_end I S3.tail⟩
    show _ = Ending.returned (.tuple #[.int .i64 0, .bool (takeB L x.at_), (takeE L x.at_).val])
    rw [HB.out, HY.out]
  · have HR : Hid (doE L N d x = 0 ∧ doB L d x = false ∧ doX L d x = zeroEnt ∧ doH L N d x = L) := by
      show _ ∧ _
      unfold doE doB doX doH
      rw [if_neg d0, if_neg (by omega), if_neg d3, if_neg d3, if_neg d0, if_neg d1, if_neg d2, if_neg d3]
      exact ⟨rfl, rfl, rfl, rfl⟩
    have e0 : (d == 0) = false := by simpa using d0
    have e1 : (d == 1) = false := by simpa using d1
    have e2 : (d == 2) = false := by simpa using d2
    have e3 : (d == 3) = false := by simpa using d3
    clear d0 d1 d2 d3
    go_enter Try.func10, Try.ntmps10
    go_wp2
    obtain ⟨q0, q1, q2, q3⟩ := HR.out
    rw [q0, q1, q2, q3]
    exact bodyPost_ret (v := .tuple #[.int .i64 0, .bool false, zeroEnt.val]) (by simp [results, Try.results10, go_sem, Ent.val, zeroEnt]) rfl ⟨rfl, do_end I S0.out⟩
end Go.Proofs.Ytilfjhpellmfoaa.HeapI
