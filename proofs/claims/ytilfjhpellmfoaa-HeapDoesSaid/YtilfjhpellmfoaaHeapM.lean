/-
  The law's own awake() of layer 3 over any package that meets 'Heap': it returns true and leaves old memory as it was. Conditions: none but 'Heap'.
-/
import Derived.Test.YtilfjhpellmfoaaHeapI
namespace Go.Proofs.Ytilfjhpellmfoaa.HeapI
open Go.ChangeShapes Go.WideShapes Go.ChangeAt Go.RowKit Mem RefHeap
variable (I : Heap)

/-- A heap of the call's own, in a world in which nothing that lay in w has changed; blocks that are kept, and slices that were told. -/
def Mine (w wk : World) (v : Value) (L : List Ent) (N : Int) (Ks : List (Nat × Obj)) (Hs : List (Value × List Ent)) : Prop :=
  ∃ F, I.A wk v F L N ∧ Below w.heap.size w wk ∧ (∀ k, F k → w.heap.size ≤ k) ∧ (∀ k ∈ Ks, wk.heap[k.1]? = some k.2 ∧ ¬ F k.1) ∧ ∀ h ∈ Hs, RdL entE wk (fun k => ¬ F k) h.1 h.2

section
variable {I} {w wk wn : World} {v : Value} {L L' : List Ent} {N : Int} {Ks : List (Nat × Obj)} {Hs : List (Value × List Ent)}
theorem Mine.ok (h : Mine I w wk v L N Ks Hs) : Ok L N := by obtain ⟨F, ha, _⟩ := h; exact I.ok ha
theorem Mine.ptr (h : Mine I w wk v L N Ks Hs) : ∃ a, v = .pointer (some a) := by obtain ⟨F, ha, _⟩ := h; exact I.ptr ha
theorem Mine.old (h : Mine I w wk v L N Ks Hs) : Below w.heap.size w wk := by obtain ⟨F, _, hb, _⟩ := h; exact hb
theorem Mine.kept (h : Mine I w wk v L N Ks Hs) {k : Nat} {o : Obj} (hk : (k, o) ∈ Ks) : wk.heap[k]? = some o := by obtain ⟨F, _, _, _, hk', _⟩ := h; exact (hk' _ hk).1
theorem Mine.rd (h : Mine I w wk v L N Ks Hs) {x : Value × List Ent} (hx : x ∈ Hs) : RdL entE wk (fun _ => True) x.1 x.2 := by
  obtain ⟨F, _, _, _, _, hh⟩ := h
  exact (hh x hx).mono fun _ _ _ => trivial
theorem Mine.next (h : Mine I w wk v L N Ks Hs) (hb : Below wk.heap.size wk wn) : Mine I w wn v L N Ks Hs := by
  obtain ⟨F, ha, ho, hf, hk, hh⟩ := h
  exact ⟨F, I.keep ha hb.size fun k hk _ => hb.block k hk, ho.trans (hb.mono ho.size), hf, fun k hk' => ⟨(hb.block k.1 (lt_of_block (hk k hk').1)).trans (hk k hk').1, (hk k hk').2⟩, fun x hx => (hh x hx).below hb⟩
theorem Mine.new (h : Mine I w wk v L N Ks Hs) (o : Obj) : Mine I w (wk.alloc o) v L N ((wk.heap.size, o) :: Ks) Hs := by
  have hb := new_below0 wk o
  obtain ⟨F, ha, ho, hf, hk, hh⟩ := h
  refine ⟨F, I.keep ha hb.size fun k hk _ => hb.block k hk, ho.trans (hb.mono ho.size), hf, fun k hk' => ?_, fun x hx => (hh x hx).below hb⟩
  rcases List.mem_cons.1 hk' with rfl | hk'
  · exact ⟨heap_alloc_new wk o, fun hF => by have := I.lt ha _ hF; omega⟩
  · exact ⟨(hb.block k.1 (lt_of_block (hk k hk').1)).trans (hk k hk').1, (hk k hk').2⟩
theorem mine_after {F : Nat → Prop} (ho : Below w.heap.size w wk) (hf : ∀ k, F k → w.heap.size ≤ k) (hk : ∀ k ∈ Ks, wk.heap[k.1]? = some k.2 ∧ ¬ F k.1) (hh : ∀ h ∈ Hs, RdL entE wk (fun k => ¬ F k) h.1 h.2)
    (h : After I.A wk wn v F L' N) : Mine I w wn v L' N Ks Hs := by
  obtain ⟨F', ha', hon, hF'⟩ := h
  refine ⟨F', ha', ?_, fun k hk => ?_, fun k hk' => ⟨(hon.block k.1 (lt_of_block (hk k hk').1) (hk k hk').2).trans (hk k hk').1, fun h' => ?_⟩, fun x hx => ?_⟩
  · exact ⟨hon.os.trans ho.os, hon.tape.trans ho.tape, hon.output.trans ho.output, Nat.le_trans ho.size hon.size, fun k hk => (hon.block k (Nat.lt_of_lt_of_le hk ho.size) (fun hF => by have := hf k hF; omega)).trans (ho.block k hk)⟩
  · rcases hF' k hk with h | h
    · exact hf k h
    · exact Nat.le_trans ho.size h
  · rcases hF' _ h' with h | h
    · exact (hk k hk').2 h
    · have := lt_of_block (hk k hk').1; omega
  · refine (RdL.keep (G := fun k => ¬ F k ∧ ¬ F' k) ((hh x hx).mono fun k hk hF => ⟨hF, fun h' => ?_⟩) hon.size fun k hk hF => hon.block k hk hF.1).mono fun _ _ h => h.2
    rcases hF' k h' with h | h
    · exact hF h
    · omega
theorem m_put (h : Mine I w wk v L N Ks Hs) (x : Ent) (hx : EntIn x) {E : Int} (hE : putHE L N x = E) (hL : putH L N x = L') :
    Calls Try.prog 27 #[v, x.val] wk fun e wn => e = .returned (.int .i64 E) ∧ Mine I w wn v L' N Ks Hs := by
  obtain ⟨F, ha, ho, hf, hk, hh⟩ := h
  subst hE hL
  exact (I.put ha x hx).mono fun _ _ k => ⟨k.1, mine_after ho hf hk hh k.2⟩
theorem m_drop (h : Mine I w wk v L N Ks Hs) (id : Int) (hi : In64 id) {B : Bool} (hB : getB L id = B) (hL : dropH L id = L') :
    Calls Try.prog 30 #[v, .int .i64 id] wk fun e wn => e = .returned (.bool B) ∧ Mine I w wn v L' N Ks Hs := by
  obtain ⟨F, ha, ho, hf, hk, hh⟩ := h
  subst hB hL
  exact (I.drop ha id hi).mono fun _ _ k => ⟨k.1, mine_after ho hf hk hh k.2⟩
theorem m_move (h : Mine I w wk v L N Ks Hs) (id t : Int) (hi : In64 id) (ht : In64 t) {B : Bool} (hB : getB L id = B) (hL : moveH L N id t = L') :
    Calls Try.prog 29 #[v, .int .i64 id, .int .i64 t] wk fun e wn => e = .returned (.bool B) ∧ Mine I w wn v L' N Ks Hs := by
  obtain ⟨F, ha, ho, hf, hk, hh⟩ := h
  subst hB hL
  exact (I.move ha id t hi ht).mono fun _ _ k => ⟨k.1, mine_after ho hf hk hh k.2⟩
theorem m_take (h : Mine I w wk v L N Ks Hs) (t : Int) (ht : In64 t) {x : Ent} {B : Bool} (hx : takeE L t = x) (hB : takeB L t = B) (hL : takeH L t = L') :
    Calls Try.prog 28 #[v, .int .i64 t] wk fun e wn => e = .returned (.tuple #[x.val, .bool B]) ∧ Mine I w wn v L' N Ks Hs := by
  obtain ⟨F, ha, ho, hf, hk, hh⟩ := h
  subst hx hB hL
  exact (I.take ha t ht).mono fun _ _ k => ⟨k.1, mine_after ho hf hk hh k.2⟩
theorem m_get (h : Mine I w wk v L N Ks Hs) (id : Int) (hi : In64 id) {x : Ent} {B : Bool} (hx : getE L id = x) (hB : getB L id = B) :
    Calls Try.prog 24 #[v, .int .i64 id] wk fun e wn => e = .returned (.tuple #[x.val, .bool B]) ∧ Mine I w wn v L N Ks Hs := by
  have h' := h
  obtain ⟨F, ha, ho, hf, hk, hh⟩ := h
  subst hx hB
  exact (I.get ha id hi).mono fun _ _ k => ⟨k.1, h'.next k.2⟩
theorem m_first (h : Mine I w wk v L N Ks Hs)  {x : Ent} {B : Bool} (hx : firstE L = x) (hB : (!L.isEmpty) = B) :
    Calls Try.prog 15 #[v] wk fun e wn => e = .returned (.tuple #[x.val, .bool B]) ∧ Mine I w wn v L N Ks Hs := by
  have h' := h
  obtain ⟨F, ha, ho, hf, hk, hh⟩ := h
  subst hx hB
  exact (I.first ha).mono fun _ _ k => ⟨k.1, h'.next k.2⟩
theorem m_len (h : Mine I w wk v L N Ks Hs)  {E : Int} (hE : (L.length : Int) = E) :
    Calls Try.prog 17 #[v] wk fun e wn => e = .returned (.int .i64 E) ∧ Mine I w wn v L N Ks Hs := by
  have h' := h
  obtain ⟨F, ha, ho, hf, hk, hh⟩ := h
  subst hE
  exact (I.len ha).mono fun _ _ k => ⟨k.1, by obtain ⟨m, hm⟩ := k.2; subst hm; exact h'.next (below_drewN (Below.refl _ _) m)⟩
theorem m_all (h : Mine I w wk v L N Ks Hs) :
    Calls Try.prog 20 #[v] wk fun e wn => ∃ A c, e = .returned (.slice A L.length c) ∧ Mine I w wn v L N Ks ((.slice A L.length c, L) :: Hs) := by
  obtain ⟨F, ha, ho, hf, hk, hh⟩ := h
  refine (I.all ha).mono ?_
  rintro e wn ⟨u, rfl, hu, hb⟩
  obtain ⟨A, c, rfl⟩ := hu.form
  refine ⟨A, c, rfl, F, I.keep ha hb.size fun k hk _ => hb.block k hk, ho.trans (hb.mono ho.size), hf, fun k hk' => ⟨(hb.block k.1 (lt_of_block (hk k hk').1)).trans (hk k hk').1, (hk k hk').2⟩, fun x hx => ?_⟩
  rcases List.mem_cons.1 hx with rfl | hx
  · exact hu
  · exact (hh x hx).below hb
theorem m_rows (h : Mine I w wk v L N Ks Hs) :
    Calls Try.prog 22 #[v] wk fun e wn => ∃ A c R, e = .returned (.slice A L.length c) ∧ R.Perm L ∧ Held4 R ∧ Mine I w wn v L N Ks ((.slice A L.length c, R) :: Hs) := by
  obtain ⟨F, ha, ho, hf, hk, hh⟩ := h
  refine (I.rows ha).mono ?_
  rintro e wn ⟨u, R, rfl, hu, hp, h4, hb⟩
  obtain ⟨A, c, rfl⟩ := hu.form
  rw [hp.length_eq] at hu ⊢
  refine ⟨A, c, R, rfl, hp, h4, F, I.keep ha hb.size fun k hk _ => hb.block k hk, ho.trans (hb.mono ho.size), hf, fun k hk' => ⟨(hb.block k.1 (lt_of_block (hk k hk').1)).trans (hk k hk').1, (hk k hk').2⟩, fun x hx => ?_⟩
  rcases List.mem_cons.1 hx with rfl | hx
  · exact hu
  · exact (hh x hx).below hb
/-- own(l) of a slice that was told. -/
theorem m_own (h : Mine I w wk v L N Ks Hs) {u : Value} {l : List Ent} (hu : (u, l) ∈ Hs) (hl : l.length ≤ 100000) :
    Calls Try.prog 19 #[u] wk fun e wn => ∃ A c, e = .returned (.slice A l.length c) ∧ Mine I w wn v L N Ks ((.slice A l.length c, l) :: Hs) := by
  have hr := h.rd hu
  refine (own_any hr hl).mono ?_
  rintro e wn ⟨u', rfl, hu', hb⟩
  obtain ⟨A, c, rfl⟩ := hu'.form
  have h' := h.next hb
  obtain ⟨F, ha, ho, hf, hk, hh⟩ := h
  obtain ⟨F2, ha2, ho2, hf2, hk2, hh2⟩ := h'
  refine ⟨A, c, rfl, F, I.keep ha hb.size fun k hk _ => hb.block k hk, ho.trans (hb.mono ho.size), hf, fun k hk' => ⟨(hb.block k.1 (lt_of_block (hk k hk').1)).trans (hk k hk').1, (hk k hk').2⟩, fun x hx => ?_⟩
  rcases List.mem_cons.1 hx with rfl | hx
  · exact hu'.mono fun k _ hG hF => by have := I.lt ha k hF; omega
  · exact (hh x hx).below hb
theorem m_new (n : Int) (w wk : World) (ho : Below w.heap.size w wk) (h1 : 1 ≤ n) (h2 : n ≤ 1000) :
    Calls Try.prog 8 #[.int .i64 n] wk fun e wn => ∃ v, e = .returned (.tuple #[v, .int .i64 0]) ∧ Mine I w wn v [] n [] [] := by
  refine (I.new_yes n wk h1 h2).mono ?_
  rintro e wn ⟨v, F, rfl, ha, hb, hf⟩
  exact ⟨v, rfl, F, ha, ho.trans (hb.mono ho.size), fun k hk => Nat.le_trans ho.size (hf k hk), (fun k hk => by cases hk), fun x hx => by cases hx⟩
end

theorem entIn (a b c : Int) (h : -1000 ≤ a ∧ a ≤ 1000 ∧ -1000 ≤ b ∧ b ≤ 1000 ∧ -1000 ≤ c ∧ c ≤ 1000) : EntIn ⟨a, b, c⟩ := ⟨⟨by show _ ≤ a; omega, by show a ≤ _; omega⟩, ⟨by show _ ≤ b; omega, by show b ≤ _; omega⟩, ⟨by show _ ≤ c; omega, by show c ≤ _; omega⟩⟩

theorem lit3 (w : World) (e : TypeId) (x y z : Ent) : RdL entE (w.alloc (.cells #[.int .i64 x.id, .int .i64 x.at_, .int .i64 x.seq, .int .i64 y.id, .int .i64 y.at_, .int .i64 y.seq, .int .i64 z.id, .int .i64 z.at_, .int .i64 z.seq] e)) (fun _ => True) (.slice (some ⟨w.heap.size, 0, none⟩) 3 3) [x, y, z] :=
  OwnL.rd (E := entE) (base := 0) (e := e) (World.ownsRow_lit w #[.int .i64 x.id, .int .i64 x.at_, .int .i64 x.seq, .int .i64 y.id, .int .i64 y.at_, .int .i64 y.seq, .int .i64 z.id, .int .i64 z.at_, .int .i64 z.seq] 3 (Nat.zero_le _) (by simp [maxLen]) (by rfl)) (by simp) fun _ _ => trivial

set_option maxHeartbeats 4000000 in
set_option maxRecDepth 100000 in
theorem awake_any (I : Heap) (w : World) : Calls Try.prog 7 #[] w fun e w' => e = .returned (.bool true) ∧ Below w.heap.size w w' := by
  go_enter Try.func7, Try.ntmps7
  go_wp2_with fail
  refine (m_new (I := I) 4 w w (Below.refl _ _) (by omega) (by omega)).mono ?_
  rintro e w1 ⟨v, rfl, hm1⟩
  obtain ⟨pa, rfl⟩ := hm1.ptr
  have M1 := Lib.hid hm1
  clear hm1
  go_wp2_with fail
  refine (I.new_no 0 w1 ⟨by omega, by omega⟩ (by omega)).mono ?_
  rintro e w2 ⟨rfl, hb2⟩
  have M2 := Lib.hid (M1.out.next hb2)
  clear hb2 M1
  go_wp2_with fail
  refine (m_put M2.out ⟨3, 9, 1⟩ (entIn _ _ _ (by omega)) (E := 0) (L' := [⟨3, 9, 1⟩]) (by decide) (by decide)).mono ?_
  rintro e w3 ⟨rfl, hm⟩
  have M3 := Lib.hid hm
  clear hm M2
  go_wp2_with fail
  refine (m_put M3.out ⟨1, 5, 2⟩ (entIn _ _ _ (by omega)) (E := 0) (L' := [⟨1, 5, 2⟩, ⟨3, 9, 1⟩]) (by decide) (by decide)).mono ?_
  rintro e w4 ⟨rfl, hm⟩
  have M4 := Lib.hid hm
  clear hm M3
  go_wp2_with fail
  refine (m_put M4.out ⟨2, 5, 1⟩ (entIn _ _ _ (by omega)) (E := 0) (L' := [⟨2, 5, 1⟩, ⟨1, 5, 2⟩, ⟨3, 9, 1⟩]) (by decide) (by decide)).mono ?_
  rintro e w5 ⟨rfl, hm⟩
  have M5 := Lib.hid hm
  clear hm M4
  go_wp2_with fail
  refine (m_put M5.out ⟨2, 0, 0⟩ (entIn _ _ _ (by omega)) (E := 6) (L' := [⟨2, 5, 1⟩, ⟨1, 5, 2⟩, ⟨3, 9, 1⟩]) (by decide) (by decide)).mono ?_
  rintro e w6 ⟨rfl, hm⟩
  have M6 := Lib.hid hm
  clear hm M5
  go_wp2_with fail
  refine (m_all M6.out).mono ?_
  rintro e w7 ⟨A1, c1, rfl, hm⟩
  have M7 := Lib.hid hm
  clear hm M6
  go_wp2_with fail
  refine (m_own M7.out (List.mem_cons_self ..) (by decide)).mono ?_
  rintro e w8 ⟨A2, c2, rfl, hm⟩
  have M8 := Lib.hid hm
  clear hm M7
  go_wp2_with fail
  refine (m_take M8.out 5 ⟨by omega, by omega⟩ (x := ⟨2, 5, 1⟩) (B := true) (L' := [⟨1, 5, 2⟩, ⟨3, 9, 1⟩]) (by decide) (by decide) (by decide)).mono ?_
  rintro e w9 ⟨rfl, hm⟩
  have M9 := Lib.hid (hm.new (.cells #[.int .i64 2, .int .i64 5, .int .i64 1] 32))
  clear hm M8
  simp only [Ent.val]
  go_wp2_with fail
  refine (m_take M9.out 4 ⟨by omega, by omega⟩ (x := ⟨0, 0, 0⟩) (B := false) (L' := [⟨1, 5, 2⟩, ⟨3, 9, 1⟩]) (by decide) (by decide) (by decide)).mono ?_
  rintro e w10 ⟨rfl, hm⟩
  have M10 := Lib.hid (hm.new (.cells #[.int .i64 0, .int .i64 0, .int .i64 0] 32))
  clear hm M9
  simp only [Ent.val]
  go_wp2_with fail
  refine (m_move M10.out 3 1 ⟨by omega, by omega⟩ ⟨by omega, by omega⟩ (B := true) (L' := [⟨3, 1, 1⟩, ⟨1, 5, 2⟩]) (by decide) (by decide)).mono ?_
  rintro e w11 ⟨rfl, hm⟩
  have M11 := Lib.hid hm
  clear hm M10
  go_wp2_with fail
  refine (m_first M11.out (x := ⟨3, 1, 1⟩) (B := true) (by decide) (by decide)).mono ?_
  rintro e w12 ⟨rfl, hm⟩
  have M12 := Lib.hid (hm.new (.cells #[.int .i64 3, .int .i64 1, .int .i64 1] 32))
  clear hm M11
  simp only [Ent.val]
  go_wp2_with fail
  refine (m_drop M12.out 1 ⟨by omega, by omega⟩ (B := true) (L' := [⟨3, 1, 1⟩]) (by decide) (by decide)).mono ?_
  rintro e w13 ⟨rfl, hm⟩
  have M13 := Lib.hid hm
  clear hm M12
  go_wp2_with fail
  refine (m_get M13.out 3 ⟨by omega, by omega⟩ (x := ⟨3, 1, 1⟩) (B := true) (by decide) (by decide)).mono ?_
  rintro e w14 ⟨rfl, hm⟩
  have M14 := Lib.hid (hm.new (.cells #[.int .i64 3, .int .i64 1, .int .i64 1] 32))
  clear hm M13
  simp only [Ent.val]
  go_wp2_with fail
  have N1 := Lib.hid (M14.out.next (new_below0 _ (.cells #[.int .i64 2, .int .i64 5, .int .i64 1, .int .i64 1, .int .i64 5, .int .i64 2, .int .i64 3, .int .i64 9, .int .i64 1] 37)))
  have HL3 : Hid (RdL entE ((w14.alloc (.cells #[.int .i64 3, .int .i64 1, .int .i64 1] 32)).alloc (.cells #[.int .i64 2, .int .i64 5, .int .i64 1, .int .i64 1, .int .i64 5, .int .i64 2, .int .i64 3, .int .i64 9, .int .i64 1] 37)) (fun _ => True) (.slice (some ⟨w14.heap.size + 1, 0, none⟩) 3 3) [⟨2, 5, 1⟩, ⟨1, 5, 2⟩, ⟨3, 9, 1⟩]) := by
    have hl := lit3 (w14.alloc (.cells #[.int .i64 3, .int .i64 1, .int .i64 1] 32)) 37 ⟨2, 5, 1⟩ ⟨1, 5, 2⟩ ⟨3, 9, 1⟩
    have es : (w14.alloc (.cells #[.int .i64 3, .int .i64 1, .int .i64 1] 32)).heap.size = w14.heap.size + 1 := by simp
    rw [es] at hl
    exact hl
  refine (same_any (N1.out.rd (List.mem_cons_self ..)) HL3.out).mono ?_
  rintro e wd ⟨rfl, n1, rfl⟩
  have M20 := Lib.hid (N1.out.next (below_drewN (Below.refl _ _) n1))
  clear N1 M14 HL3
  rw [show decide (([⟨2, 5, 1⟩, ⟨1, 5, 2⟩, ⟨3, 9, 1⟩] : List Ent) = [⟨2, 5, 1⟩, ⟨1, 5, 2⟩, ⟨3, 9, 1⟩]) = true from by decide]
  generalize hwD : ((w14.alloc (.cells #[.int .i64 3, .int .i64 1, .int .i64 1] 32)).alloc (.cells #[.int .i64 2, .int .i64 5, .int .i64 1, .int .i64 1, .int .i64 5, .int .i64 2, .int .i64 3, .int .i64 9, .int .i64 1] 37)).drewN n1 = w20 at *
  clear hwD
  have bx := M20.out.kept (k := w9.heap.size) (o := .cells #[.int .i64 2, .int .i64 5, .int .i64 1] 32) (by simp)
  have bx0 := (cell_block bx 0).trans rfl
  have bx1 := (cell_block bx 1).trans rfl
  have bx2 := (cell_block bx 2).trans rfl
  clear bx
  have by_ := M20.out.kept (k := w12.heap.size) (o := .cells #[.int .i64 3, .int .i64 1, .int .i64 1] 32) (by simp)
  have by_0 := (cell_block by_ 0).trans rfl
  have by_1 := (cell_block by_ 1).trans rfl
  have by_2 := (cell_block by_ 2).trans rfl
  clear by_
  have bz := M20.out.kept (k := w14.heap.size) (o := .cells #[.int .i64 3, .int .i64 1, .int .i64 1] 32) (by simp)
  have bz0 := (cell_block bz 0).trans rfl
  have bz1 := (cell_block bz 1).trans rfl
  have bz2 := (cell_block bz 2).trans rfl
  clear bz
  go_wp2_with fail
  refine (m_len M20.out (E := 1) (by decide)).mono ?_
  rintro e w21 ⟨rfl, hm⟩
  have M21 := Lib.hid hm
  clear hm M20 bx0 bx1 bx2 by_0 by_1 by_2 bz0 bz1 bz2
  go_wp2_with fail
  refine (m_rows M21.out).mono ?_
  rintro e w22 ⟨A5, c5, R5, rfl, _, _, hm⟩
  have M22 := Lib.hid hm
  clear hm M21
  have bx := M22.out.kept (k := w9.heap.size) (o := .cells #[.int .i64 2, .int .i64 5, .int .i64 1] 32) (by simp)
  have bx0 := (cell_block bx 0).trans rfl
  have bx1 := (cell_block bx 1).trans rfl
  have bx2 := (cell_block bx 2).trans rfl
  clear bx
  have by_ := M22.out.kept (k := w12.heap.size) (o := .cells #[.int .i64 3, .int .i64 1, .int .i64 1] 32) (by simp)
  have by_0 := (cell_block by_ 0).trans rfl
  have by_1 := (cell_block by_ 1).trans rfl
  have by_2 := (cell_block by_ 2).trans rfl
  clear by_
  go_wp2_with fail
  refine (I.ahead ⟨3, 1, 1⟩ ⟨2, 5, 1⟩ _ (entIn _ _ _ (by omega)) (entIn _ _ _ (by omega))).mono ?_
  rintro e w23 ⟨rfl, hb23⟩
  have M23 := Lib.hid (M22.out.next hb23)
  clear hb23 M22 bx0 bx1 bx2 by_0 by_1 by_2
  rw [show RefHeap.ahead ⟨3, 1, 1⟩ ⟨2, 5, 1⟩ = true from by decide]
  go_wp2_with fail
  refine (m_put M23.out ⟨4, 0, 0⟩ (entIn _ _ _ (by omega)) (E := 3) (L' := [⟨3, 1, 1⟩]) (by decide) (by decide)).mono ?_
  rintro e w24 ⟨rfl, hm⟩
  have M24 := Lib.hid hm
  clear hm M23
  go_wp2
  go_ret
  exact ⟨rfl, M24.out.old⟩
end Go.Proofs.Ytilfjhpellmfoaa.HeapI
