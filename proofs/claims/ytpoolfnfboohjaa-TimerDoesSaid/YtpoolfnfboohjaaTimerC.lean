/-
  Contracts of To and By of package timer, as it landed. Condition: the pointer is as 'TA' says.
-/
import Derived.Test.YtpoolfnfboohjaaTimerB
import Derived.RangeFuncLeaves
namespace Go.Proofs.Ytpoolfnfboohjaa.TimerC
open Go.ChangeShapes Go.WideShapes Go.ChangeAt Go.RowKit Mem RefHeap RefTimer HeapC Hand

attribute [local go_sem] Oper.semAt_some

theorem max_toT (T t : Int) : max T t = toT T t := by unfold toT; split <;> omega
theorem toT_in {T t : Int} (hT : In64 T) (ht : In64 t) : In64 (toT T t) := by unfold toT; split <;> assumption
theorem ta_time {w : World} {g : Nat} {F : Nat → Prop} {T C : Int} {L : List Ent} {M : Int} (h : TA w (.pointer (some ⟨g, 0, none⟩)) F T C L M) {T' : Int} (ht : In64 T') :
    TA (w.setCell ⟨g, 0, none⟩ (.int .i64 T')) (.pointer (some ⟨g, 0, none⟩)) F T' C L M ∧ Only F w (w.setCell ⟨g, 0, none⟩ (.int .i64 T')) := by
  obtain ⟨g', hv, FH, e, hg, ha, hn, rfl, ho⟩ := h
  obtain rfl : g = g' := by injection e with e; injection e with e; injection e
  refine ⟨⟨g, hv, FH, rfl, by simp [World.setCell, Array.getElem?_modify, hg], ha.keep fun k _ hk => Below.heap_setCell _ _ _ k fun e => hn (by have e : k = g := e; exact e ▸ hk), hn, rfl, ok_time ho ht⟩, (Only.refl _ _).setCell (.inl (.inl rfl)) _⟩

/-- What To has at hand beside its clock: whom it has heard so far, in its box; the loop's record; the rounds' deferred calls. -/
def offX (l D bo : Nat) (lp : LoopState → Option Code → Obj) (pre : List Ent) (Rs : List Res) : Prop :=
  ∃ A c, Rs = [grow entE 48 (.slice A pre.length c) pre, blk l (lp .ready none), blk D (.deferred (some [])), blk bo (.cells #[.slice A pre.length c] 33)]

set_option maxRecDepth 100000 in
theorem to_c {w : World} {v : Value} {F : Nat → Prop} {T C : Int} {L : List Ent} {M : Int} (h : TA w v F T C L M) (t : Int) (ht : In64 t) :
    Calls Try.prog 23 #[v, .int .i64 t] w fun e w' => ∃ u, e = .returned u ∧ TimerI.AfterTold TA w w' v F (toT T t) C (L.filter (fun y => decide (toT T t < y.at_))) M u (L.filter (fun y => decide (y.at_ ≤ toT T t))) := by
  obtain ⟨g, rfl⟩ : ∃ g, v = .pointer (some ⟨g, 0, none⟩) := by obtain ⟨g, _, _, e, _⟩ := h; exact ⟨g, e⟩
  have HT := Lib.hid (toT_in h.ok.t64 ht)
  have hmax := max_toT T t
  have hlen := h.ok.len
  have HLEN := Lib.hid hlen
  have S0 := Lib.hid (Sep.of (R := tk _ T C L M) h)
  have k0 : w.cell? ⟨g, 0, none⟩ = some (.int .i64 T) := by obtain ⟨g', _, _, e, hg, _⟩ := h; have eg : g = g' := (by injection e with e; injection e with e; injection e); subst eg; exact (cell_block hg 0).trans rfl
  have f0 : w.frozen? ⟨g, 0, none⟩ = false := by obtain ⟨g', _, _, e, hg, _⟩ := h; have eg : g = g' := (by injection e with e; injection e with e; injection e); subst eg; exact frozen_block hg 0
  have S1 : Hid (Sep F w (w.setCell ⟨g, 0, none⟩ (.int .i64 (toT T t))) [tk (.pointer (some ⟨g, 0, none⟩)) (toT T t) C L M]) := by
    obtain ⟨F1, h1, hF1, hn⟩ := S0.out.upd 0 rfl
    exact hn (tk _ _ _ _ _) (ta_time h1 HT.out).1 (ta_time h1 HT.out).2 fun k hk => .inl hk
  have S2 := Lib.hid (S1.out.new (.cells #[.slice none 0 0] 33))
  have esz : (w.setCell ⟨g, 0, none⟩ (.int .i64 (toT T t))).heap.size = w.heap.size := by simp [World.setCell]
  rw [esz] at S2
  clear h ht hlen S0 S1 esz
  generalize toT T t = T' at *
  refine (callsIn_wide (n := 3)).1 ?_
  refine callsIn_of_wp_marks Try.func23 rfl trivial ?_ rfl
  simp only [Try.ntmps23, List.size_toArray, List.length_cons, List.length_nil, Nat.reduceAdd, Nat.reduceSub, Array.replicate_succ, Array.replicate_zero, List.push_toArray, List.append_toArray, List.nil_append, List.cons_append]
  gi_wp2
  generalize (w.setCell ⟨g, 0, none⟩ (.int .i64 T')).alloc (.cells #[.slice none 0 0] 33) = W2 at *
  generalize w.heap.size = bo at *
  refine Range.range_law rfl (enters_of Try.func35 (by kernel_rfl) rfl) ?_
  intro lp HRD
  have S3 := Lib.hid (((S2.out.new (.deferred (some []))).new (lp .ready none)).growN entE 48)
  rw [World.size_alloc] at S3
  generalize hl : W2.heap.size + 1 = l at *
  have S4 : Hid (Sep F w ((W2.alloc (.deferred (some []))).alloc (lp .ready none)) (tk (.pointer (some ⟨g, 0, none⟩)) T' C L M :: [grow entE 48 (.slice none ([] : List Ent).length 0) [], blk l (lp .ready none), blk W2.heap.size (.deferred (some [])), blk bo (.cells #[.slice none ([] : List Ent).length 0] 33)])) := S3.out.perm (by exact (List.perm_append_comm (l₁ := [_, _, _, _]) (l₂ := [_])))
  have HRD' := Lib.hid HRD
  clear S3 HRD S2
  refine (due_c (offX l W2.heap.size bo lp) ⟨none, 0, rfl⟩ S4.out ?_).mono ?_
  · rintro pre x L' Rs W hlt ⟨A, c, rfl⟩ hS m
    refine HRD'.out #[x.val] W _ rfl (hS.blk_at 2 rfl) ?_ m
    intro m
    have HPL : Hid (pre.length ≤ 1000) := by have := HLEN.out; show _ ≤ _; omega
    have S6 := Lib.hid ((hS.new (.cells #[.int .i64 x.id, .int .i64 x.at_, .int .i64 x.seq] 48)).putObj 3 rfl (lp .busy none))
    have HL6 : Hid ((W.alloc (.cells #[.int .i64 x.id, .int .i64 x.at_, .int .i64 x.seq] 48)).heap[l]? = some (lp .ready none)) := (hS.next (new_below0 _ _)).blk_at 2 rfl
    clear hS hlt HRD' S4
    simp only [Ent.val]
    gi_wp2
    refine ⟨HL6.out, ?_⟩
    generalize (W.alloc (.cells #[.int .i64 x.id, .int .i64 x.at_, .int .i64 x.seq] 48)).putObj l (lp .busy none) = W6 at *
    generalize W.heap.size = bx at *
    clear HL6
    have k1 := (cell_block (S6.out.blk_at 5 rfl) 0).trans rfl
    have x0 := (cell_block (S6.out.blk_at 0 rfl) 0).trans rfl
    have x1 := (cell_block (S6.out.blk_at 0 rfl) 1).trans rfl
    have x2 := (cell_block (S6.out.blk_at 0 rfl) 2).trans rfl
    have HX : Hid (RdL entE (W6.alloc (.cells #[.int .i64 x.id, .int .i64 x.at_, .int .i64 x.seq] 48)) (fun _ => True) (.slice (some ⟨W6.heap.size, 0, none⟩) 1 1) [x]) :=
      RdL.lit1 (E := entE) W6 48 x (cs := #[.int .i64 x.id, .int .i64 x.at_, .int .i64 x.seq]) rfl (fun _ => True) trivial
    gi_wp2_with (gi_at_builtin; refine Range.wpListIn_appS rfl _ _ alarmElem rfl rfl rfl (S6.out.next (new_below0 _ _)) 2 rfl HX.out (by have := HPL.out; simp; omega) ?_; intro A3 c3 w3 l3 HL3 h3; have S7 := Lib.hid h3; have hb3 := h3.blk_at 5 rfl; have kb := (cell_block hb3 0).trans rfl; have fb := frozen_block hb3 0; clear h3 hb3)
    obtain rfl := HL3.out
    have S8 := Lib.hid (S7.out.set 5 rfl 0 (.slice A3 (pre ++ [x]).length c3))
    exact ⟨S8.out.blk_at 3 rfl, rfl, _, ⟨A3, c3, rfl⟩, (S8.out.putObj 3 rfl (lp .ready none)).tail⟩
  · rintro e W5 ⟨⟨u, rfl⟩, Rs', ⟨A, c, rfl⟩, hS⟩
    refine ⟨⟨_, rfl⟩, .inl ⟨hS.blk_at 2 rfl, ?_⟩⟩
    have S6 := Lib.hid (hS.putObj 2 rfl (lp .exhausted none))
    generalize W5.putObj l (lp .exhausted none) = W6 at *
    have k1 := (cell_block (S6.out.blk_at 4 rfl) 0).trans rfl
    have HD := Lib.hid (S6.out.blk_at 3 rfl)
    have HPL : Hid ((L.filter (fun y => decide (y.at_ ≤ T'))).length ≤ 1000) := Nat.le_trans (List.length_filter_le _ _) HLEN.out
    clear hS HRD' S4
    generalize hoff : L.filter (fun y => decide (y.at_ ≤ T')) = off at *
    generalize hleft : L.filter (fun y => decide (T' < y.at_)) = left at *
    have HOF := Lib.hid hoff
    have HLF := Lib.hid hleft
    clear hoff hleft
    gi_wp2
    refine ⟨by simp, .inl ⟨_, _, rfl, run_takeDeferred HD.out, ?_⟩⟩
    refine ⟨_, results_tmp rfl _ _ _, ?_⟩
    rw [HOF.out, HLF.out]
    obtain ⟨ho, F1, F2, h1, ⟨F3, F4, ⟨h3, e3⟩, h4, s3, s4, d3⟩, s1, s2, d1⟩ := S6.out.putObj 3 rfl (.deferred none)
    refine ⟨_, rfl, F1, F3, h1, OwnL.rd h3 (by have := HPL.out; omega) fun k hk => by rw [e3]; exact hk, ho, s1, fun k hk => s2 k (s3 k hk), fun k hk hk' => d1 k hk' (s3 k hk)⟩
theorem by_c {w : World} {v : Value} {F : Nat → Prop} {T C : Int} {L : List Ent} {M : Int} (h : TA w v F T C L M) (d : Int) (hd : In64 d) :
    Calls Try.prog 26 #[v, .int .i64 d] w fun e w' => ∃ u, e = .returned u ∧ TimerI.AfterTold TA w w' v F (toT T (laterT T d)) C (L.filter (fun y => decide (toT T (laterT T d) < y.at_))) M u (L.filter (fun y => decide (y.at_ ≤ toT T (laterT T d)))) := by
  obtain ⟨p, rfl⟩ := h.ptr
  have H := Lib.hid h
  have HL := Lib.hid (laterT_in h.ok.t64 hd)
  clear h
  go_enter Try.func26, Try.ntmps26
  go_wp2_with fail
  refine (later_c H.out d hd).mono ?_
  rintro e w1 ⟨rfl, h1⟩
  have H1 := Lib.hid h1
  clear h1
  go_wp2_with fail
  refine (to_c (H.out.below H1.out) (laterT T d) HL.out).mono ?_
  rintro e w2 ⟨u, rfl, h2⟩
  have H2 := Lib.hid h2
  clear h2
  go_wp2
  go_ret
  obtain ⟨F', G', ha, hr, ho, hF, hG, hd'⟩ := H2.out
  exact ⟨_, rfl, F', G', ha, hr, (Only.of_below (F := F) H1.out).trans ho fun _ _ h => h, fun k hk => (hF k hk).imp id (Nat.le_trans H1.out.size), fun k hk => (hG k hk).imp id (Nat.le_trans H1.out.size), hd'⟩

/-- Package timer, as the laws ask for it. -/
def theClk : TimerI.Clk where
  A := TA
  ptr := fun h => h.ptr
  keep := fun h _ hk => h.keep hk
  lt := fun h k hk => h.lt k hk
  ok := fun h => h.ok
  new_no := fun n w _ h => new_no_c n w h
  new_yes := fun n w h1 h2 => new_yes_c n w h1 h2
  now := fun h => now_c h
  set := fun h hC key t hk ht => set_c h hC key t hk ht
  after := fun h hC key d hk hd => after_c h hC key d hk hd
  reset := fun h hC key t hk ht => reset_c h hC key t hk ht
  stop := fun h key _ => stop_c h key
  get := fun h key _ => get_c h key
  next := fun h => next_c h
  alarms := fun h => alarms_c h
  to_ := fun h t ht => to_c h t ht
  by_ := fun h d hd => by_c h d hd
end Go.Proofs.Ytpoolfnfboohjaa.TimerC
