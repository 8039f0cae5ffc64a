/-
  The walk of the law HeapDoes over any package that meets 'Heap': it returns true and leaves old memory as it was. Conditions: none but 'Heap'.
-/
import Derived.Test.YtilfjhpellmfoaaHeapMoved
import Derived.Deep.RegionHeld3
import Derived.Deep.DeepCutAuto
import Derived.Deep.CutBlock
namespace Go.Proofs.Ytilfjhpellmfoaa.HeapI
open Go.ChangeShapes Go.WideShapes Go.ChangeAt Go.RowKit Mem RefHeap Hand

theorem kept_in {R L : List Ent} {N : Int} (hok : Ok L N) (hp : R.Perm L) {k : Ent} (hk : k ∈ R) : getB L k.id = true ∧ getE L k.id = k := by
  have hm : k ∈ L := hp.mem_iff.1 hk
  have hf : L.find? (fun y => y.id == k.id) = some k := by
    obtain ⟨i, hi, hx⟩ := List.getElem_of_mem hm
    refine get_hit (i := i) (by rw [List.getElem?_eq_getElem hi, hx]) rfl fun j b hj hb e => ?_
    have hjl := (List.getElem?_eq_some_iff.1 hb).1
    have hbe := (List.getElem?_eq_some_iff.1 hb).2
    have := List.pairwise_iff_getElem.1 hok.once j i (by simpa using hjl) (by simpa using hi) hj
    simp only [List.getElem_map, hbe, hx] at this
    exact this e
  unfold getB getE
  rw [hf]
  exact ⟨rfl, rfl⟩

/-- '!=' of an entry and itself. -/
theorem run_neq_self (W : World) (x : Ent) :
    (binOp .neq 37 (.agg #[.int .i64 x.id, .int .i64 x.at_, .int .i64 x.seq]) (.agg #[.int .i64 x.id, .int .i64 x.at_, .int .i64 x.seq])).run Try.prog W = .ok (.bool false) W := by
  have := run_neq_ent W x.id x.at_ x.seq x.id x.at_ x.seq
  simpa using this

section
variable {I : Heap} {wq W : World} {v : Value} {F : Nat → Prop} {L : List Ent} {N : Int}
theorem l_len (hA : I.A wq v F L N) (hb : Below wq.heap.size wq W) : Calls Try.prog 17 #[v] W fun e w' => e = .returned (.int .i64 L.length) ∧ Below wq.heap.size wq w' :=
  (I.len (I.keep hA hb.size fun k hk _ => hb.block k hk)).mono fun _ _ ⟨he, m, hm⟩ => ⟨he, by rw [hm]; exact below_drewN hb m⟩
theorem l_all (hA : I.A wq v F L N) (hb : Below wq.heap.size wq W) : Calls Try.prog 20 #[v] W fun e w' => ∃ A c, e = .returned (.slice A L.length c) ∧ RdL entE w' (fun _ => True) (.slice A L.length c) L ∧ Below wq.heap.size wq w' := by
  refine (I.all (I.keep hA hb.size fun k hk _ => hb.block k hk)).mono ?_
  rintro e w' ⟨u, rfl, hu, h'⟩
  obtain ⟨A, c, rfl⟩ := hu.form
  exact ⟨A, c, rfl, hu.mono fun _ _ _ => trivial, hb.trans (h'.mono hb.size)⟩
theorem l_rows (hA : I.A wq v F L N) (hb : Below wq.heap.size wq W) : Calls Try.prog 22 #[v] W fun e w' => ∃ A c R, e = .returned (.slice A L.length c) ∧ R.Perm L ∧ Held4 R ∧ RdL entE w' (fun _ => True) (.slice A L.length c) R ∧ Below wq.heap.size wq w' := by
  refine (I.rows (I.keep hA hb.size fun k hk _ => hb.block k hk)).mono ?_
  rintro e w' ⟨u, R, rfl, hu, hp, h4, h'⟩
  obtain ⟨A, c, rfl⟩ := hu.form
  rw [hp.length_eq] at hu ⊢
  exact ⟨A, c, R, rfl, hp, h4, hu.mono fun _ _ _ => trivial, hb.trans (h'.mono hb.size)⟩
theorem l_own {u : Value} {l : List Ent} (hu : RdL entE W (fun _ => True) u l) (hl : l.length ≤ 100000) (hb : Below wq.heap.size wq W) :
    Calls Try.prog 19 #[u] W fun e w' => ∃ A c, e = .returned (.slice A l.length c) ∧ RdL entE w' (fun _ => True) (.slice A l.length c) l ∧ Below wq.heap.size wq w' := by
  refine (own_any hu hl).mono ?_
  rintro e w' ⟨u', rfl, hu', h'⟩
  obtain ⟨A, c, rfl⟩ := hu'.form
  exact ⟨A, c, rfl, hu'.mono fun _ _ _ => trivial, hb.trans (h'.mono hb.size)⟩
theorem l_same {u u' : Value} {l : List Ent} (hu : RdL entE W (fun _ => True) u l) (hu' : RdL entE wq (fun _ => True) u' l) (hb : Below wq.heap.size wq W) :
    Calls Try.prog 18 #[u, u'] W fun e w' => e = .returned (.bool true) ∧ Below wq.heap.size wq w' := by
  refine (same_any hu (hu'.below hb)).mono ?_
  rintro e w' ⟨rfl, n, rfl⟩
  exact ⟨by simp, below_drewN hb n⟩
theorem l_held {u : Value} {l : List Ent} (hu : RdL entE W (fun _ => True) u l) (h4 : Held4 l) (hb : Below wq.heap.size wq W) :
    Calls Try.prog 21 #[u] W fun e w' => e = .returned (.bool true) ∧ Below wq.heap.size wq w' := by
  refine (rows_any hu h4).mono ?_
  rintro e w' ⟨rfl, h'⟩
  exact ⟨rfl, hb.trans (h'.mono hb.size)⟩
end

theorem ent_blk {W : World} {g : Nat} {t : TypeId} {a b c : Value} (h : W.heap[g]? = some (.cells #[a, b, c] t (0, 0))) : W.cell? ⟨g, 0, none⟩ = some a ∧ W.cell? ⟨g, 1, none⟩ = some b ∧ W.cell? ⟨g, 2, none⟩ = some c :=
  ⟨(cell_block h 0).trans rfl, (cell_block h 1).trans rfl, (cell_block h 2).trans rfl⟩
theorem act_blk {W : World} {g : Nat} {t : TypeId} {a b c d : Value} (h : W.heap[g]? = some (.cells #[a, b, c, d] t (0, 0))) : W.cell? ⟨g, 0, none⟩ = some a ∧ W.cell? ⟨g, 1, none⟩ = some b ∧ W.cell? ⟨g, 2, none⟩ = some c ∧ W.cell? ⟨g, 3, none⟩ = some d :=
  ⟨(cell_block h 0).trans rfl, (cell_block h 1).trans rfl, (cell_block h 2).trans rfl, (cell_block h 3).trans rfl⟩
theorem s_do2 {I : Heap} {B : Nat → Prop} {w wk : World} {Rs : List Res} {v : Value} {L : List Ent} {N : Int} (h : Sep B w wk Rs) (i : Nat) (hi : Rs[i]? = some (hp I v L N)) (d : Int) (x : Ent) (hx : EntIn x) {E : Int} {Bo : Bool} {X : Ent} {L2 : List Ent}
    (hE : doE L N d x = E) (hB : doB L d x = Bo) (hX : doX L d x = X) (hL : doH L N d x = L2) :
    Calls Try.prog 10 #[v, .agg #[.int .i64 d, .int .i64 x.id, .int .i64 x.at_, .int .i64 x.seq]] wk fun e wn => e = .returned (.tuple #[.int .i64 E, .bool Bo, .agg #[.int .i64 X.id, .int .i64 X.at_, .int .i64 X.seq]]) ∧ Sep B w wn (Rs.set i (hp I v L2 N)) := by
  subst hE hB hX hL
  exact s_do h i hi d x hx

set_option maxHeartbeats 8000000 in
set_option maxRecDepth 100000 in
theorem does_easy (I : Heap) (n : Int) (A : Option Addr) (len cap : Nat) (w : World) (hn : In64 n) (hlen : len ≤ 9223372036854775807)
    (hno : ¬ (1 ≤ n ∧ n ≤ 60 ∧ len ≤ 120)) :
    Calls Try.prog 3 #[.int .i64 n, .slice A len cap] w fun e w' => e = .returned (.bool true) ∧ Below w.heap.size w w' := by
  have HN := Lib.hid hn
  clear hn
  rcases (by omega : (60 < n ∧ n ≤ 1000) ∨ ((n ≤ 60 ∨ 1000 < n) ∧ 120 < len) ∨ (n < 1 ∧ len ≤ 120) ∨ (1000 < n ∧ len ≤ 120)) with ⟨h1, h2⟩ | ⟨h1 | h1, h2⟩ | ⟨h1, h2⟩ | ⟨h1, h2⟩
  · go_enter Try.func3, Try.ntmps3
    go_wp2_with fail
    refine (awake_any I _).mono ?_
    rintro e w1 ⟨rfl, hb1⟩
    have HB := Lib.hid hb1
    clear hb1
    go_wp2
    go_ret
    exact ⟨rfl, HB.out⟩
  · go_enter Try.func3, Try.ntmps3
    go_wp2_with fail
    refine (awake_any I _).mono ?_
    rintro e w1 ⟨rfl, hb1⟩
    have HB := Lib.hid hb1
    clear hb1
    go_wp2
    go_ret
    exact ⟨rfl, HB.out⟩
  · go_enter Try.func3, Try.ntmps3
    go_wp2_with fail
    refine (awake_any I _).mono ?_
    rintro e w1 ⟨rfl, hb1⟩
    have HB := Lib.hid hb1
    clear hb1
    go_wp2
    go_ret
    exact ⟨rfl, HB.out⟩
  · go_enter Try.func3, Try.ntmps3
    go_wp2_with fail
    refine (awake_any I _).mono ?_
    rintro e w1 ⟨rfl, hb1⟩
    have HB := Lib.hid hb1
    clear hb1
    go_wp2_with fail
    refine (I.new_no n _ HN.out (by omega)).mono ?_
    rintro e w2 ⟨rfl, hb2⟩
    have HB2 : Hid (Below w.heap.size w w2) := HB.out.trans (hb2.mono HB.out.size)
    clear hb2
    go_wp2_with fail
    refine (RefHeap.new_no n _ (by omega)).mono ?_
    rintro e w3 ⟨rfl, rfl⟩
    go_wp2
    go_ret
    exact ⟨rfl, HB2.out⟩
  · go_enter Try.func3, Try.ntmps3
    go_wp2_with fail
    refine (awake_any I _).mono ?_
    rintro e w1 ⟨rfl, hb1⟩
    have HB := Lib.hid hb1
    clear hb1
    go_wp2_with fail
    refine (I.new_no n _ HN.out (by omega)).mono ?_
    rintro e w2 ⟨rfl, hb2⟩
    have HB2 : Hid (Below w.heap.size w w2) := HB.out.trans (hb2.mono HB.out.size)
    clear hb2
    go_wp2_with fail
    refine (RefHeap.new_no n _ (by omega)).mono ?_
    rintro e w3 ⟨rfl, rfl⟩
    go_wp2
    go_ret
    exact ⟨rfl, HB2.out⟩
end Go.Proofs.Ytilfjhpellmfoaa.HeapI
