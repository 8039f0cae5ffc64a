/-
  Package cond, as it landed: who is told goes out by a range over a function; Signal, Broadcast. No condition.
-/
import Derived.Test.YtbnijgcbifpijaaCondA
import Derived.Test.YtbnijgcbifpijaaRange
import Derived.Deep.LoopGhost
import Derived.Deep.CutBlock
import Derived.RangeFuncLeaves
import Derived.Shelf.Abstract
namespace Go.Proofs.Ytbnijgcbifpijaa.CondA
open Go.ChangeShapes Go.WideShapes Go.ChangeAt Go.RowKit Mem MutP CondP Hand Arena

theorem take_is {x : Tl} {W : List Tl} {N : Int} (hok : CondP.Ok (x :: W) N) : RefRing.firstL [(x :: W).map Tl.t] 0 = x.t ∧ decide (0 ≤ RefRing.inL [(x :: W).map Tl.t] x.t) = true ∧ RefRing.dropL [(x :: W).map Tl.t] x.t = [W.map Tl.t] := by
  have hf : RefRing.firstL [(x :: W).map Tl.t] 0 = x.t := by rw [one_first]; rfl
  refine ⟨hf, ?_, ?_⟩
  · rw [one_in, if_pos (by simp)]; rfl
  · have h := one_take ((x :: W).map Tl.t) hok.once (fun y hy => by obtain ⟨z, hz, rfl⟩ := List.mem_map.1 hy; exact (hok.ws z hz).1)
    rw [hf] at h
    exact h
theorem take_no : RefRing.firstL [([] : List Tl).map Tl.t] 0 = -1 ∧ decide (0 ≤ RefRing.inL [([] : List Tl).map Tl.t] (-1)) = false ∧ RefRing.dropL [([] : List Tl).map Tl.t] (-1) = [([] : List Tl).map Tl.t] := by
  refine ⟨by rw [one_first]; rfl, by rw [one_in, if_neg (by simp)]; rfl, by rw [one_drop]; rfl⟩

section
variable {B : Nat → Prop} {w wk : World} {Rs : List Res} {g : Nat} {va us : Value} {ls : List Int} {W : List Tl} {N : Int}
theorem take_s0 (h : Sep B w wk (ca g va us ls [] N ++ Rs)) : Calls Try.prog 30 #[va, .int .i64 0] wk fun e wn => e = .returned (.tuple #[.int .i64 (-1), .bool false]) ∧ Sep B w wn (ca g va us ls [] N ++ Rs) := by
  have ht := a_take h 1 rfl 0
  rw [take_no.1, take_no.2.1, take_no.2.2] at ht
  exact ht
theorem take_s1 {x : Tl} (hok : CondP.Ok (x :: W) N) (h : Sep B w wk (ca g va us ls (x :: W) N ++ Rs)) : Calls Try.prog 30 #[va, .int .i64 0] wk fun e wn => e = .returned (.tuple #[.int .i64 x.t, .bool true]) ∧ Sep B w wn (ca g va us ls W N ++ Rs) := by
  have ht := a_take h 1 rfl 0
  obtain ⟨e1, e2, e3⟩ := take_is hok
  rw [e1, e2, e3] at ht
  exact ht

set_option maxRecDepth 100000 in
/-- Those who wait are let go, one by one, to whoever ranges over them, till all are, or he leaves. -/
theorem told_c {W0 : World} {l : Nat} (X Y : List Tl → List Res → Prop) {Rs0 : List Res} (hX0 : X [] Rs0) (hS : Sep B w W0 (ca g va us ls W N ++ Rs0)) (hk : Lk ls W N) (hok : CondP.Ok W N)
    (hY : ∀ (pre : List Tl) (x : Tl) (W' : List Tl) (Rs : List Res) (Wd : World), pre ++ x :: W' = W → X pre Rs → Sep B w Wd (ca g va us ls W' N ++ Rs) → ∀ m, YieldAt Fence.wide m Try.prog l #[x.val] Wd fun e Wd' => ∃ b Rs', e = .returned (.bool b) ∧ (if b = true then X (pre ++ [x]) Rs' else Y (pre ++ [x]) Rs') ∧ Sep B w Wd' (ca g va us ls W' N ++ Rs')) :
    Calls Try.prog 23 #[.pointer (some ⟨g, 0, none⟩), .func (.yield l) #[] #[]] W0 fun e Wd' => (∃ u, e = .returned u) ∧ ∃ pre W' Rs', pre ++ W' = W ∧ ((W' = [] ∧ X pre Rs') ∨ Y pre Rs') ∧ Sep B w Wd' (ca g va us ls W' N ++ Rs') := by
  obtain ⟨a, rfl⟩ := ca_ptr hS
  have HX0 := Lib.hid hX0
  have S0 := Lib.hid hS
  have HY := Lib.hid hY
  have HK := Lib.hid hk
  have HO := Lib.hid hok
  clear hX0 hS hY hk hok
  go_enter Try.func23, Try.ntmps23
  go_wp2
  go_loopg [] W.length (fun k wr => ∃ (pre W' : List Tl) (Rs : List Res), Hid (k = W'.length ∧ pre ++ W' = W ∧ X pre Rs ∧ Sep B w wr (ca g (.pointer (some a)) us ls W' N ++ Rs)))
  case atStart => exact ⟨[], W, Rs0, rfl, rfl, HX0.out, S0.out⟩
  case round =>
    obtain ⟨pre, W', Rs, HR⟩ := hrel
    have c0 : wr.cell? ⟨g, 0, none⟩ = some (.pointer (some a)) := (cell_block (HR.out.2.2.2.blk_at 0 rfl) 0).trans rfl
    clear S0
    cases W' with
    | nil =>
      go_wp2_with fail
      refine (take_s0 HR.out.2.2.2).mono ?_
      rintro e w1 ⟨rfl, h1⟩
      have H1 := Lib.hid h1
      clear h1
      go_wp2
      exact bodyPost_ret (results_none rfl _ _ _) rfl ⟨⟨_, rfl⟩, pre, [], Rs, HR.out.2.1, .inl ⟨rfl, HR.out.2.2.1⟩, H1.out⟩
    | cons x W' =>
      have hsub : List.Sublist (x :: W') W := by rw [← HR.out.2.1]; exact List.sublist_append_right _ _
      have HOX := Lib.hid (HO.out.sub hsub)
      have HXK := Lib.hid (HK.out.at_ x (hsub.subset (List.mem_cons_self ..)))
      have HX64 := Lib.hid (HOX.out.ws x (List.mem_cons_self ..)).1
      clear hsub
      go_wp2_with fail
      refine (take_s1 HOX.out HR.out.2.2.2).mono ?_
      rintro e w1 ⟨rfl, h1⟩
      have H1 := Lib.hid h1
      clear h1 c0
      go_upto_region 1 with (fail)
      refine wpIn_wide (n := 3) |>.1 ?_
      gi_wp2_with (refine ⟨trivial, ?_⟩; gi_at_call 22; refine (callsIn_wide.2 (with_s H1.out x.t x.k HX64.out HXK.out)).mono ?_; rintro e w2 ⟨rfl, h2⟩; have H2 := Lib.hid h2; clear h2; obtain ⟨yf, yt, ya, yb, hy, hR⟩ := HY.out pre x W' Rs w2 HR.out.2.1 HR.out.2.2.1 (H1.out.next H2.out) 2; simp only [Tl.val] at hy; have HRR := Lib.hid hR; clear hR)
      refine HRR.out.mono ?_
      rintro e w3 ⟨b, Rs', rfl, hX', hS'⟩
      have HS' := Lib.hid hS'
      clear hS' hy HRR
      cases b with
      | true =>
        have HX' : Hid (X (pre ++ [x]) Rs') := hX'
        clear hX'
        gi_wp2
        go_wp2
        go_roundg (W'.length)
        case measure => have := HR.out.1; simp at this; omega
        case rel => exact ⟨pre ++ [x], W', Rs', rfl, by rw [List.append_assoc]; exact HR.out.2.1, HX'.out, HS'.out⟩
      | false =>
        have HX' : Hid (Y (pre ++ [x]) Rs') := hX'
        clear hX'
        gi_wp2
        go_wp2
        exact bodyPost_ret (results_none rfl _ _ _) rfl ⟨⟨_, rfl⟩, pre ++ [x], W', Rs', by rw [List.append_assoc]; exact HR.out.2.1, .inr HX'.out, HS'.out⟩
end

attribute [local go_sem] Oper.semAt_some

/-- A condition behind a pointer, in blocks of F. -/
def CA : Ob CondI.St where
  A w v F s := CondP.Ok s.1 s.2 ∧ ∃ g va us ls, Lk ls s.1 s.2 ∧ v = .pointer (some ⟨g, 0, none⟩) ∧ (pack (ca g va us ls s.1 s.2)).holds w F
  ptr := fun ⟨_, _, _, _, _, _, e, _⟩ => ⟨_, e⟩
  keep := fun ⟨o, g, va, us, ls, k, e, h⟩ hs hk => ⟨o, g, va, us, ls, k, e, (pack (ca g va us ls _ _)).keep h hs hk⟩
  lt := fun ⟨_, g, va, us, ls, _, _, h⟩ => (pack (ca g va us ls _ _)).lt h
section
variable {w wn : World} {F : Nat → Prop} {g : Nat} {va us : Value} {ls : List Int} {W : List Tl} {N : Int}
theorem ca_sep (h : (pack (ca g va us ls W N)).holds w F) : Sep F w w (ca g va us ls W N ++ []) := (Sep.of h).unpack
theorem ca_stays (hok : CondP.Ok W N) (hk : Lk ls W N) (h : Sep F w wn (ca g va us ls W N ++ [])) : Stays (ob CA (.pointer (some ⟨g, 0, none⟩)) (W, N)) F w wn := by
  obtain ⟨F', hR, ho, hF⟩ := h.packed.left 0 rfl
  exact ⟨F', ⟨hok, g, va, us, ls, hk, rfl, hR⟩, ho, hF⟩
theorem ca_tells {u : Value} {l : List Tl} (hok : CondP.Ok W N) (hk : Lk ls W N) (h : Sep F w wn (told tlE u l :: (ca g va us ls W N ++ []))) : TellsL tlE (ob CA (.pointer (some ⟨g, 0, none⟩)) (W, N)) F w wn u l := by
  have h1 : Sep F w wn (ca g va us ls W N ++ [told tlE u l]) := h.perm (by rw [List.append_nil]; exact List.perm_append_comm (l₁ := [_]))
  refine tellsL_of ?_
  obtain ⟨ho, F1, F2, ha, hb, s1, s2, d⟩ := h1.packed.swap
  obtain ⟨F3, F4, hc, hd, s3, s4, e⟩ := hb
  exact ⟨ho, F1, F2, ha, ⟨F3, F4, ⟨hok, g, va, us, ls, hk, rfl, hc⟩, hd, s3, s4, e⟩, s1, s2, d⟩
end

/-- What Broadcast has at hand beside its condition: who has been told so far, in its box; the loop's record; the rounds' deferred calls. -/
def allX (l D bo : Nat) (lp : LoopState → Option Code → Obj) (pre : List Tl) (Rs : List Res) : Prop :=
  ∃ A c, Rs = [grow tlE 50 (.slice A pre.length c) pre, blk l (lp .ready none), blk D (.deferred (some [])), blk bo (.cells #[.slice A pre.length c] 33)]

set_option maxRecDepth 100000 in
theorem broadcast_c {w : World} {F : Nat → Prop} {g : Nat} {va us : Value} {ls : List Int} {W : List Tl} {N : Int} (h : Sep F w w (ca g va us ls W N ++ [])) (hk : Lk ls W N) (hok : CondP.Ok W N) :
    Calls Try.prog 17 #[.pointer (some ⟨g, 0, none⟩)] w fun e w' => ∃ u, e = .returned u ∧ TellsL tlE (ob CA (.pointer (some ⟨g, 0, none⟩)) ([], N)) F w w' u W := by
  have HK := Lib.hid hk
  have HO := Lib.hid hok
  have hlen := hok.wlen
  have HLEN := Lib.hid hlen
  have S2 := Lib.hid (h.new (.cells #[.slice none 0 0] 33))
  clear h hk hok hlen
  refine (callsIn_wide (n := 3)).1 ?_
  refine callsIn_of_wp_marks Try.func17 rfl trivial ?_ rfl
  simp only [Try.ntmps17, List.size_toArray, List.length_cons, List.length_nil, Nat.reduceAdd, Nat.reduceSub, Array.replicate_succ, Array.replicate_zero, List.push_toArray, List.append_toArray, List.nil_append, List.cons_append]
  gi_wp2
  generalize w.alloc (.cells #[.slice none 0 0] 33) = W2 at *
  generalize w.heap.size = bo at *
  refine Range.range_law rfl (enters_of Try.func23 (by kernel_rfl) rfl) ?_
  intro lp HRD
  have S3 := Lib.hid (((S2.out.new (.deferred (some []))).new (lp .ready none)).growN0 tlE 50)
  rw [World.size_alloc] at S3
  generalize hl : W2.heap.size + 1 = l at *
  have S4 : Hid (Sep F w ((W2.alloc (.deferred (some []))).alloc (lp .ready none)) (ca g va us ls W N ++ [grow tlE 50 (.slice none ([] : List Tl).length 0) [], blk l (lp .ready none), blk W2.heap.size (.deferred (some [])), blk bo (.cells #[.slice none ([] : List Tl).length 0] 33)])) := S3.out.perm (by rw [List.append_nil]; exact (List.perm_append_comm (l₁ := [_, _, _, _])))
  have HRD' := Lib.hid HRD
  clear S3 HRD S2
  refine (told_c (allX l W2.heap.size bo lp) (fun _ _ => False) ⟨none, 0, rfl⟩ S4.out HK.out HO.out ?_).mono ?_
  · rintro pre x W' Rs Wd hpre ⟨A, c, rfl⟩ hS m
    refine HRD'.out #[x.val] Wd _ rfl (hS.blk_at 4 rfl) ?_ m
    intro m
    have HPL : Hid (pre.length ≤ 1000) := by have := HLEN.out; rw [← hpre, List.length_append] at this; show _ ≤ _; omega
    have S6 := Lib.hid ((hS.new (.cells #[.int .i64 x.t, .int .i64 x.k] 50)).putObj 5 rfl (lp .busy none))
    have HL6 : Hid ((Wd.alloc (.cells #[.int .i64 x.t, .int .i64 x.k] 50)).heap[l]? = some (lp .ready none)) := (hS.next (new_below0 _ _)).blk_at 4 rfl
    clear hS hpre HRD' S4
    simp only [Tl.val]
    gi_wp2
    refine ⟨HL6.out, ?_⟩
    generalize (Wd.alloc (.cells #[.int .i64 x.t, .int .i64 x.k] 50)).putObj l (lp .busy none) = W6 at *
    generalize Wd.heap.size = bx at *
    clear HL6
    have k1 := (cell_block (S6.out.blk_at 7 rfl) 0).trans rfl
    have x0 := (cell_block (S6.out.blk_at 0 rfl) 0).trans rfl
    have x1 := (cell_block (S6.out.blk_at 0 rfl) 1).trans rfl
    have HX : Hid (RdL tlE (W6.alloc (.cells #[.int .i64 x.t, .int .i64 x.k] 50)) (fun _ => True) (.slice (some ⟨W6.heap.size, 0, none⟩) 1 1) [x]) :=
      RdL.lit1 (E := tlE) W6 50 x (cs := #[.int .i64 x.t, .int .i64 x.k]) rfl (fun _ => True) trivial
    gi_wp2_with (gi_at_builtin; refine Range.wpListIn_appS rfl _ _ tdElem rfl rfl rfl (S6.out.next (new_below0 _ _)) 4 rfl HX.out (by have := HPL.out; simp; omega) ?_; intro A3 c3 w3 l3 HL3 h3; have S7 := Lib.hid h3; have hb3 := h3.blk_at 7 rfl; have kb := (cell_block hb3 0).trans rfl; have fb := frozen_block hb3 0; clear h3 hb3)
    obtain rfl := HL3.out
    have S8 := Lib.hid (S7.out.set 7 rfl 0 (.slice A3 (pre ++ [x]).length c3))
    exact ⟨S8.out.blk_at 5 rfl, true, _, rfl, ⟨A3, c3, rfl⟩, (S8.out.putObj 5 rfl (lp .ready none)).tail⟩
  · rintro e W5 ⟨⟨u, rfl⟩, pre, W', Rs', hpre, (⟨rfl, A, c, rfl⟩ | h), hS⟩
    · refine ⟨⟨_, rfl⟩, .inl ⟨hS.blk_at 4 rfl, ?_⟩⟩
      rw [List.append_nil] at hpre
      subst hpre
      have S6 := Lib.hid (hS.putObj 4 rfl (lp .exhausted none))
      generalize W5.putObj l (lp .exhausted none) = W6 at *
      have k1 := (cell_block (S6.out.blk_at 6 rfl) 0).trans rfl
      have HD := Lib.hid (S6.out.blk_at 5 rfl)
      clear hS HRD' S4
      gi_wp2
      refine ⟨by simp, .inl ⟨_, _, rfl, run_takeDeferred HD.out, ?_⟩⟩
      refine ⟨_, results_tmp rfl _ _ _, ?_⟩
      have h9 : Sep F w _ ((ca g va us ls [] N ++ []) ++ [grow tlE 50 (.slice A pre.length c) pre]) := (S6.out.putObj 5 rfl (.deferred none)).sub (.cons_cons _ (.cons_cons _ (.cons_cons _ (.cons_cons _ (.cons _ (.cons _ (.cons _ .slnil)))))))
      exact ⟨_, rfl, ca_tells (HO.out.sub (List.nil_sublist _)) (HK.out.sub (fun x h => by cases h)) (grow_told (h9.perm (by exact (List.perm_append_comm (l₁ := [_, _, _])))) (by have := HLEN.out; omega))⟩
    · exact h.elim

/-- What Signal has at hand beside its condition, before one is told, and behind that. -/
def oneX (l D bo : Nat) (lp : LoopState → Option Code → Obj) (pre : List Tl) (Rs : List Res) : Prop :=
  pre = [] ∧ Rs = [blk l (lp .ready none), blk D (.deferred (some [])), blk bo (.cells #[.slice none 0 0] 33)]
def oneY (l D bo : Nat) (lp : LoopState → Option Code → Obj) (pre : List Tl) (Rs : List Res) : Prop :=
  ∃ x b, pre = [x] ∧ Rs = [told tlE (.slice (some ⟨b, 0, none⟩) 1 1) [x], blk l (lp .done (some .ret)), blk D (.deferred (some [])), blk bo (.cells #[.slice (some ⟨b, 0, none⟩) 1 1] 33)]

set_option maxRecDepth 100000 in
theorem signal_c {w : World} {F : Nat → Prop} {g : Nat} {va us : Value} {ls : List Int} {W : List Tl} {N : Int} (h : Sep F w w (ca g va us ls W N ++ [])) (hk : Lk ls W N) (hok : CondP.Ok W N) :
    Calls Try.prog 16 #[.pointer (some ⟨g, 0, none⟩)] w fun e w' => ∃ u, e = .returned u ∧ TellsL tlE (ob CA (.pointer (some ⟨g, 0, none⟩)) (restT W, N)) F w w' u (oneT W) := by
  have HK := Lib.hid hk
  have HO := Lib.hid hok
  have S2 := Lib.hid (h.new (.cells #[.slice none 0 0] 33))
  clear h hk hok
  refine (callsIn_wide (n := 3)).1 ?_
  refine callsIn_of_wp_marks Try.func16 rfl trivial ?_ rfl
  simp only [Try.ntmps16, List.size_toArray, List.length_cons, List.length_nil, Nat.reduceAdd, Nat.reduceSub, Array.replicate_succ, Array.replicate_zero, List.push_toArray, List.append_toArray, List.nil_append, List.cons_append]
  gi_wp2
  generalize w.alloc (.cells #[.slice none 0 0] 33) = W2 at *
  generalize w.heap.size = bo at *
  refine Range.range_law rfl (enters_of Try.func23 (by kernel_rfl) rfl) ?_
  intro lp HRD
  have S3 := Lib.hid ((S2.out.new (.deferred (some []))).new (lp .ready none))
  rw [World.size_alloc] at S3
  generalize hl : W2.heap.size + 1 = l at *
  have S4 : Hid (Sep F w ((W2.alloc (.deferred (some []))).alloc (lp .ready none)) (ca g va us ls W N ++ [blk l (lp .ready none), blk W2.heap.size (.deferred (some [])), blk bo (.cells #[.slice none 0 0] 33)])) := S3.out.perm (by rw [List.append_nil]; exact (List.perm_append_comm (l₁ := [_, _, _])))
  have HRD' := Lib.hid HRD
  clear S3 HRD S2
  refine (told_c (oneX l W2.heap.size bo lp) (oneY l W2.heap.size bo lp) ⟨rfl, rfl⟩ S4.out HK.out HO.out ?_).mono ?_
  · rintro pre x W' Rs Wd hpre ⟨rfl, rfl⟩ hS m
    refine HRD'.out #[x.val] Wd _ rfl (hS.blk_at 3 rfl) ?_ m
    intro m
    have S6 := Lib.hid ((hS.new (.cells #[.int .i64 x.t, .int .i64 x.k] 50)).putObj 4 rfl (lp .busy none))
    have HL6 : Hid ((Wd.alloc (.cells #[.int .i64 x.t, .int .i64 x.k] 50)).heap[l]? = some (lp .ready none)) := (hS.next (new_below0 _ _)).blk_at 3 rfl
    clear hS hpre HRD' S4
    simp only [Tl.val]
    gi_wp2
    refine ⟨HL6.out, ?_⟩
    generalize (Wd.alloc (.cells #[.int .i64 x.t, .int .i64 x.k] 50)).putObj l (lp .busy none) = W6 at *
    generalize Wd.heap.size = bx at *
    clear HL6
    have k1 := (cell_block (S6.out.blk_at 6 rfl) 0).trans rfl
    have kf := frozen_block (S6.out.blk_at 6 rfl) 0
    have kl := lt_of_block (S6.out.blk_at 6 rfl)
    have x0 := (cell_block (S6.out.blk_at 0 rfl) 0).trans rfl
    have x1 := (cell_block (S6.out.blk_at 0 rfl) 1).trans rfl
    have es : (W6.setCell ⟨bo, 0, none⟩ (.slice (some ⟨W6.heap.size, 0, none⟩) 1 1)).heap.size = W6.heap.size := by simp [World.setCell]
    have h8 := (S6.out.set 6 rfl 0 (.slice (some ⟨W6.heap.size, 0, none⟩) 1 1)).lit_told 50 [x] (cs := #[.int .i64 x.t, .int .i64 x.k]) (E := tlE) rfl (by simp) (n := 1) rfl
    rw [es] at h8
    have S8 := Lib.hid h8
    clear h8 es
    gi_wp2
    have S9 : Hid (Sep F w _ (ca g va us ls W' N ++ [told tlE (.slice (some ⟨W6.heap.size, 0, none⟩) 1 1) [x], blk l (lp .done (some .ret)), blk W2.heap.size (.deferred (some [])), blk bo (.cells #[.slice (some ⟨W6.heap.size, 0, none⟩) 1 1] 33)])) := ((S8.out.putObj 5 rfl (lp .done (some .ret))).sub (.cons_cons _ (.cons _ (List.Sublist.refl _)))).perm (by exact (List.perm_append_comm (l₁ := [_]) (l₂ := [_, _, _])).append_right [_, _, _])
    exact ⟨S8.out.blk_at 5 rfl, false, _, rfl, ⟨x, _, rfl, rfl⟩, S9.out⟩
  · rintro e W5 ⟨⟨u, rfl⟩, pre, W', Rs', hpre, (⟨rfl, rfl, rfl⟩ | ⟨x, b, rfl, rfl⟩), hS⟩
    · refine ⟨⟨_, rfl⟩, .inl ⟨hS.blk_at 3 rfl, ?_⟩⟩
      obtain rfl : [] = W := hpre
      have S6 := Lib.hid ((hS.putObj 3 rfl (lp .exhausted none)).set 5 rfl 0 (.slice none 0 0))
      have k1 := (cell_block ((hS.putObj 3 rfl (lp .exhausted none)).blk_at 5 rfl) 0).trans rfl
      have kf := frozen_block ((hS.putObj 3 rfl (lp .exhausted none)).blk_at 5 rfl) 0
      generalize W5.putObj l (lp .exhausted none) = W6 at *
      have HD := Lib.hid (S6.out.blk_at 4 rfl)
      have h9 := S6.out.putObj 4 rfl (.deferred none)
      have k2 := (cell_block (h9.blk_at 5 rfl) 0).trans rfl
      have S9 := Lib.hid h9
      clear hS HRD' S4 h9
      gi_wp2
      refine ⟨by simp, .inl ⟨_, _, rfl, run_takeDeferred HD.out, ?_⟩⟩
      refine ⟨.slice none 0 0, by simp [results, Try.results16, go_sem, k2], ?_⟩
      have h9 : Sep F w _ (ca g va us ls [] N ++ []) := S9.out.sub (.cons_cons _ (.cons_cons _ (.cons_cons _ (.cons _ (.cons _ (.cons _ .slnil))))))
      exact ⟨_, rfl, ca_tells HO.out HK.out (h9.nil_told tlE)⟩
    · refine ⟨⟨_, rfl⟩, .inr ⟨.ret, hS.blk_at 4 rfl, ?_⟩⟩
      obtain rfl : x :: W' = W := hpre
      have S6 := Lib.hid (hS.putObj 4 rfl (lp .exhausted (some .ret)))
      generalize W5.putObj l (lp .exhausted (some .ret)) = W6 at *
      have HD := Lib.hid (S6.out.blk_at 5 rfl)
      have h9 := S6.out.putObj 5 rfl (.deferred none)
      have k2 := (cell_block (h9.blk_at 6 rfl) 0).trans rfl
      have S9 := Lib.hid h9
      clear hS HRD' S4 h9
      gi_wp2
      refine ⟨by simp, .inl ⟨_, _, rfl, run_takeDeferred HD.out, ?_⟩⟩
      refine ⟨.slice (some ⟨b, 0, none⟩) 1 1, by simp [results, Try.results16, go_sem, k2], ?_⟩
      have h9 : Sep F w _ ((ca g va us ls W' N ++ []) ++ [told tlE (.slice (some ⟨b, 0, none⟩) 1 1) [x]]) := S9.out.sub (.cons_cons _ (.cons_cons _ (.cons_cons _ (.cons_cons _ (.cons _ (.cons _ (.cons _ .slnil)))))))
      exact ⟨_, rfl, ca_tells (HO.out.sub (List.sublist_cons_self ..)) (HK.out.sub (fun y h => List.mem_cons_of_mem _ h)) (h9.perm (by exact (List.perm_append_comm (l₁ := [_, _, _]))))⟩

/-- Package cond, as the laws ask for it. -/
def theCd : CondI.Cd where
  O := CA
  ok := fun h => h.1
  new_no := fun n w _ h => new_no_c n w h
  new_yes := fun n w h1 h2 => by
    obtain ⟨n, rfl⟩ := Int.eq_ofNat_of_zero_le (by omega : 0 ≤ n)
    refine (new_yes_c (Sep.nil (fun _ => False) w) n (by omega) (by omega)).mono ?_
    rintro e wn ⟨g, va, us, rfl, hs⟩
    have hb := hs.old
    obtain ⟨_, F1, _, h3, _, s1, _, _⟩ := hs.packed
    exact ⟨_, F1, rfl, ⟨Ok.new h1 h2, g, va, us, _, ⟨by rw [List.length_replicate], fun x hx => by cases hx⟩, rfl, h3⟩, hb, fun k hk => (s1 k hk).resolve_left id⟩
  wait := fun {w v F W N} h t k _ _ => by
    obtain ⟨hok, g, va, us, ls, hk, rfl, h⟩ := h
    refine (wait_s (ca_sep h) hk hok t k).mono ?_
    rintro e wn ⟨rfl, ls', hk', hs⟩
    exact ⟨rfl, ca_stays (hok.wait t k) hk' hs⟩
  signal := fun {w v F W N} h => by
    obtain ⟨hok, g, va, us, ls, hk, rfl, h⟩ := h
    exact signal_c (ca_sep h) hk hok
  broadcast := fun {w v F W N} h => by
    obtain ⟨hok, g, va, us, ls, hk, rfl, h⟩ := h
    exact broadcast_c (ca_sep h) hk hok
  leave := fun {w v F W N} h t _ => by
    obtain ⟨hok, g, va, us, ls, hk, rfl, h⟩ := h
    refine (leave_s (ca_sep h) hk hok t).mono ?_
    rintro e wn ⟨rfl, hs⟩
    exact ⟨rfl, ca_stays (hok.out t) (hk.sub fun x hx => (List.mem_filter.1 hx).1) hs⟩
  waiting := fun {w v F W N} h => by
    obtain ⟨hok, g, va, us, ls, hk, rfl, h⟩ := h
    exact waiting_s (ca_sep h) hk hok
end Go.Proofs.Ytbnijgcbifpijaa.CondA
