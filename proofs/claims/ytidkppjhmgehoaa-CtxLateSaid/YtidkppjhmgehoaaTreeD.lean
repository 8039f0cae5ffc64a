/-
  Contracts of the functions of package tree, as it landed, fourth part: Chain and Path, by a way up that ends where a rule says. Condition: the tree is as 'View' says.
-/
import Derived.Test.YtidkppjhmgehoaaTreeC
import Derived.Deep.LoopGhost
namespace Go.Proofs.Ytidkppjhmgehoaa.TreeC
open Go.ChangeShapes Go.WideShapes Go.ChangeAt Go.RowKit Mem TreeP Hand

/-- The rule that Chain hands over: whether a node is cut. -/
def cutV (p : Nat) : Value := .func (.func 65) #[.pointer (some ⟨p, 0, none⟩)] #[]
/-- The test of one rule, at the node whose number stands in block s. -/
def endV (s : Nat) : Value := .func (.func 75) #[] #[.pointer (some ⟨s, 0, none⟩)]

theorem ends_c {w : World} {G : Nat → Prop} {p s : Nat} {L : List Nd} {M : Int} (h : View w G p L M) (n : Int) (hs : w.cell? ⟨s, 0, none⟩ = some (.int .i64 n)) :
    Calls Try.prog 75 #[cutV p, .pointer (some ⟨s, 0, none⟩)] w fun e w' => e = .returned (.bool (cutT L n)) ∧ w = w' := by
  have HC := Lib.hid (cut_c h n)
  clear h
  unfold cutV
  go_enter Try.func75, Try.ntmps75
  go_wp2_with fail
  refine HC.out.mono ?_
  rintro e w1 ⟨rfl, rfl⟩
  go_wp2
  go_ret
  exact ⟨rfl, rfl⟩
theorem index_no (w : World) (s : Nat) :
    Calls Try.prog 78 #[.slice none 0 0, endV s] w fun e w' => e = .returned (.int .i64 (-1)) ∧ w = w' := by
  unfold endV
  go_enter Try.func78, Try.ntmps78
  go_wp2
  refine wp_loop_rounds 1 ?_
  rw [rounds_succ]
  go_wp2
  go_ret
  exact ⟨rfl, rfl⟩
theorem index_one {w : World} {G : Nat → Prop} {p s g : Nat} {L : List Nd} {M : Int} (h : View w G p L M) (n : Int) (hs : w.cell? ⟨s, 0, none⟩ = some (.int .i64 n)) (hg : w.cell? ⟨g, 0, none⟩ = some (cutV p)) :
    Calls Try.prog 78 #[.slice (some ⟨g, 0, none⟩) 1 1, endV s] w fun e w' => e = .returned (.int .i64 (if cutT L n = true then 0 else -1)) ∧ w = w' := by
  have HC := Lib.hid (ends_c h n hs)
  clear h hs
  unfold cutV at hg HC
  unfold endV
  cases hc : cutT L n with
  | true =>
    rw [hc] at HC
    clear hc
    go_enter Try.func78, Try.ntmps78
    go_wp2
    refine wp_loop_rounds 1 ?_
    rw [rounds_succ]
    go_wp2_with fail
    refine HC.out.mono ?_
    rintro e w1 ⟨rfl, rfl⟩
    go_wp2
    go_ret
    exact ⟨rfl, rfl⟩
  | false =>
    rw [hc] at HC
    clear hc
    go_enter Try.func78, Try.ntmps78
    go_wp2
    refine wp_loop_rounds 2 ?_
    rw [rounds_succ]
    go_wp2_with fail
    refine HC.out.mono ?_
    rintro e w1 ⟨rfl, rfl⟩
    go_wp2
    rw [rounds_succ]
    go_wp2
    go_ret
    exact ⟨rfl, rfl⟩
theorem contains_no (w : World) (s : Nat) :
    Calls Try.prog 74 #[.slice none 0 0, endV s] w fun e w' => e = .returned (.bool false) ∧ w = w' := by
  have HC := Lib.hid (index_no w s)
  unfold endV at *
  go_enter Try.func74, Try.ntmps74
  go_wp2_with fail
  refine HC.out.mono ?_
  rintro e w1 ⟨rfl, rfl⟩
  go_wp2
  go_ret
  exact ⟨rfl, rfl⟩
theorem contains_one {w : World} {G : Nat → Prop} {p s g : Nat} {L : List Nd} {M : Int} (h : View w G p L M) (n : Int) (hs : w.cell? ⟨s, 0, none⟩ = some (.int .i64 n)) (hg : w.cell? ⟨g, 0, none⟩ = some (cutV p)) :
    Calls Try.prog 74 #[.slice (some ⟨g, 0, none⟩) 1 1, endV s] w fun e w' => e = .returned (.bool (cutT L n)) ∧ w = w' := by
  have HC := Lib.hid (index_one h n hs hg)
  clear h hs hg
  unfold endV at *
  cases hc : cutT L n with
  | true =>
    rw [hc] at HC
    clear hc
    go_enter Try.func74, Try.ntmps74
    go_wp2_with fail
    refine HC.out.mono ?_
    rintro e w1 ⟨rfl, rfl⟩
    go_wp2
    go_ret
    exact ⟨rfl, rfl⟩
  | false =>
    rw [hc] at HC
    clear hc
    go_enter Try.func74, Try.ntmps74
    go_wp2_with fail
    refine HC.out.mono ?_
    rintro e w1 ⟨rfl, rfl⟩
    go_wp2
    go_ret
    exact ⟨rfl, rfl⟩

/-- Where the way up is: at node n, those before it gathered in v. -/
def Up (w wr : World) (s : Nat) (way : Int → List Int) (n0 n : Int) (v : Value) : Prop := ∃ acc, acc ++ way n = way n0 ∧ Sep (fun _ => False) w wr [grow intE 3 v acc, blk s (.cells #[.int .i64 n] 3)]

set_option maxRecDepth 100000 in
set_option maxHeartbeats 1000000 in
/-- The way up, by any rule. -/
theorem up_c {w : World} {G : Nat → Prop} {p : Nat} {L : List Nd} {M : Int} (h : View w G p L M) (hw : Wf L) (ends : Value) (st : Int → Bool) (way : Int → List Int)
    (hc : ∀ (W : World) (s : Nat) (n : Int), Below w.heap.size w W → W.cell? ⟨s, 0, none⟩ = some (.int .i64 n) → Calls Try.prog 74 #[ends, endV s] W fun e w' => e = .returned (.bool (st n)) ∧ W = w')
    (hyes : ∀ n, there L n = true → way n = n :: (if st n = true then [] else way (overT L n))) (hno : ∀ n, there L n = false → way n = []) (n0 : Int) (hl : (way n0).length ≤ 1000) :
    Calls Try.prog 64 #[.pointer (some ⟨p, 0, none⟩), .int .i64 n0, ends] w fun e w' => ∃ u, e = .returned u ∧ New w w' u (way n0) := by
  have H := Lib.hid h
  have HW := Lib.hid hw
  have HC := Lib.hid hc
  have HY := Lib.hid hyes
  have HN := Lib.hid hno
  have HU0 : Hid (Up w (w.alloc (.cells #[.int .i64 n0] 3)) w.heap.size way n0 n0 (.slice none 0 0)) :=
    ⟨[], rfl, (((Sep.nil (fun _ => False) w).new (.cells #[.int .i64 n0] 3)).add (Below.refl _ _) (R := grow intE 3 (.slice none 0 0) []) (F := fun _ => False) ⟨OwnL.none_ _ _ _, by funext k; simp [Value.ownBlock]⟩ fun _ h => h.elim)⟩
  clear h hw hc hyes hno
  unfold endV at HC
  go_enter Try.func64, Try.ntmps64
  go_wp2
  go_loopg [7] (L.length + 1) (fun f v wr => ∃ n, Hid (Up w wr w.heap.size way n0 n v ∧ (there L n = true → n < f)))
  case atStart => exact ⟨n0, HU0.out, fun h => by have := there_iff.1 h; omega⟩
  case round =>
    obtain ⟨n, HU⟩ := hrel
    obtain ⟨⟨acc, hacc, hs⟩, hf⟩ := HU.out
    obtain ⟨A0, c0, rfl⟩ := (hs.own 0 rfl).form
    have HS := Lib.hid hs
    have HA := Lib.hid hacc
    have HF := Lib.hid hf
    have k0 : wr.cell? ⟨w.heap.size, 0, none⟩ = some (.int .i64 n) := (cell_block (hs.blk_at 1 rfl) 0).trans rfl
    have HV := Lib.hid (H.out.below hs.old)
    clear hs hacc hf HU HU0
    rcases ht : there L n with _ | _
    · have HT := Lib.hid ht
      have HE := Lib.hid (HN.out n ht)
      clear ht
      go_wp2_with fail
      refine (has_c HV.out n).mono ?_
      rintro e w1 ⟨rfl, rfl⟩
      rw [HT.out]
      go_wp2
      go_ret
      have hs := HS.out
      have ha := HA.out
      rw [HE.out, List.append_nil] at ha
      subst ha
      refine ⟨_, rfl, _, _, rfl, ?_, hs.old⟩
      obtain ⟨F, ⟨ho, rfl⟩, hF, _⟩ := hs.upd 0 rfl
      exact own_base ho fun k hk => (hF k hk).resolve_left fun h => h
    · have HT := Lib.hid ht
      have HE := Lib.hid (HY.out n ht)
      have hlen : acc.length + 1 ≤ 1000 := by
        have := HA.out
        rw [HE.out] at this
        rw [← this] at hl
        simp at hl
        omega
      have hnf := HF.out ht
      clear ht
      have hs := HS.out
      have HS1 := Lib.hid (hs.new (.cells #[.int .i64 n] 3))
      have HRL : Hid (RdL intE (wr.alloc (.cells #[.int .i64 n] 3)) (fun _ => True) (.slice (some ⟨wr.heap.size, 0, none⟩) 1 1) [n]) := RdL.lit1 (E := intE) wr _ _ rfl _ trivial
      have k1 : (wr.alloc (.cells #[.int .i64 n] 3)).cell? ⟨w.heap.size, 0, none⟩ = some (.int .i64 n) := (cell_block (HS1.out.blk_at 2 rfl) 0).trans rfl
      clear hs
      go_wp2_with fail
      refine (has_c HV.out n).mono ?_
      rintro e w1 ⟨rfl, rfl⟩
      rw [HT.out]
      go_wp2_with (at_builtin; refine wpList_appS rfl (.tmp 14) (.tmp 16) intElemL rfl rfl rfl HS1.out 1 rfl HRL.out (by simp; omega) ?_)
      intro A1 c1 w1 l hl1 h1
      have HS2 := Lib.hid h1.tail
      have k2 : w1.cell? ⟨w.heap.size, 0, none⟩ = some (.int .i64 n) := (cell_block (h1.blk_at 2 rfl) 0).trans rfl
      have f2 : w1.frozen? ⟨w.heap.size, 0, none⟩ = false := frozen_block (h1.blk_at 2 rfl) 0
      have HC2 := Lib.hid (HC.out w1 w.heap.size n h1.old k2)
      have HV2 := Lib.hid (H.out.below h1.old)
      clear h1 HS1 HRL k1 k0 HV HS
      cases hst : st n with
      | true =>
        rw [hst] at HC2
        have HE2 : Hid (way n = [n]) := by show _ = _; rw [HE.out, hst]; rfl
        clear hst HE
        go_wp2_with fail
        refine HC2.out.mono ?_
        rintro e w2 ⟨rfl, rfl⟩
        go_wp2
        go_ret
        have hs := HS2.out
        have ha := HA.out
        have hl2 := hl1.out
        rw [HE2.out] at ha
        rw [ha] at hl2
        subst hl2
        refine ⟨_, rfl, _, _, rfl, ?_, hs.old⟩
        obtain ⟨F, ⟨ho, rfl⟩, hF, _⟩ := hs.upd 0 rfl
        exact own_base ho fun k hk => (hF k hk).resolve_left fun h => h
      | false =>
        rw [hst] at HC2
        have HE2 : Hid (way n = n :: way (overT L n)) := by show _ = _; rw [HE.out, hst]; rfl
        have hov := (HW.out.over HT.out).2
        have HS3 := Lib.hid (HS2.out.set 1 rfl 0 (.int .i64 (overT L n)))
        have HR : Hid (l ++ way (overT L n) = way n0) := by show _ = _; rw [hl1.out, ← HA.out, HE2.out]; simp
        have HVC := Lib.hid (over_c HV2.out n)
        clear hst HE HS2 HE2
        generalize overT L n = o at *
        go_wp2_with fail
        refine HC2.out.mono ?_
        rintro e w2 ⟨rfl, rfl⟩
        go_wp2_with fail
        refine HVC.out.mono ?_
        rintro e w2 ⟨rfl, rfl⟩
        go_wp2
        go_roundg (gk - 1)
        case rel => exact ⟨o, ⟨l, HR.out, HS3.out⟩, fun h => by omega⟩
        case measure => have := there_iff.1 HT.out; omega

theorem path_c {w : World} {G : Nat → Prop} {p : Nat} {L : List Nd} {M : Int} (h : View w G p L M) (hw : Wf L) (hL : L.length ≤ 1000) (n : Int) : Calls Try.prog 46 #[.pointer (some ⟨p, 0, none⟩), .int .i64 n] w fun e w' => ∃ u, e = .returned u ∧ New w w' u (pathT L n) := by
  have hpl := path_len (L := L) n
  have HU := Lib.hid (up_c h hw (.slice none 0 0) (fun _ => false) (pathT L) (fun W s n _ _ => contains_no W s) (fun n hn => by rw [path_eq hw, if_pos hn]; rfl) (fun n hn => by rw [path_eq hw, if_neg (by rw [hn]; simp)]) n (by omega))
  clear h hw hpl
  go_enter Try.func46, Try.ntmps46
  go_wp2_with fail
  refine HU.out.mono ?_
  rintro e w1 ⟨u, rfl, hn⟩
  have HN := Lib.hid hn
  clear hn
  obtain ⟨A, c, hu, _⟩ := HN.out
  subst hu
  go_wp2
  go_ret
  exact ⟨_, rfl, HN.out⟩

set_option maxRecDepth 100000 in
theorem chain_c {w : World} {G : Nat → Prop} {p : Nat} {L : List Nd} {M : Int} (h : View w G p L M) (hw : Wf L) (hL : L.length ≤ 1000) (n : Int) : Calls Try.prog 44 #[.pointer (some ⟨p, 0, none⟩), .int .i64 n] w fun e w' => ∃ u, e = .returned u ∧ New w w' u (chainT L n) := by
  have hpl := chain_len hw n
  have hb := new_below0 w (.cells #[cutV p] 52)
  have hg : (w.alloc (.cells #[cutV p] 52)).heap[w.heap.size]? = some (.cells #[cutV p] 52 (0, 0)) := heap_alloc_new w _
  have hv := h.below hb
  have HU := Lib.hid (up_c hv hw (.slice (some ⟨w.heap.size, 0, none⟩) 1 1) (cutT L) (chainT L)
    (fun W s n hB hs => contains_one (hv.below hB) n hs ((hB.cell (p := ⟨w.heap.size, 0, none⟩) (lt_of_block hg)).trans ((cell_block hg 0).trans rfl)))
    (fun n hn => by rw [chain_eq hw, if_pos hn]) (fun n hn => by rw [chain_eq hw, if_neg (by rw [hn]; simp)]) n (by omega))
  have HB := Lib.hid hb
  clear h hw hpl hv hb hg
  unfold cutV at *
  go_enter Try.func44, Try.ntmps44
  go_wp2_with fail
  refine HU.out.mono ?_
  rintro e w1 ⟨u, rfl, hn⟩
  have HN : Hid (New w w1 u (chainT L n)) := by
    obtain ⟨A, c, hu, ho, hb⟩ := hn
    exact ⟨A, c, hu, own_base ho fun k hk => by have := (ho.lt k hk).1; have := HB.out.size; omega, HB.out.trans (hb.mono HB.out.size)⟩
  clear hn
  obtain ⟨A, c, hu, _⟩ := HN.out
  subst hu
  go_wp2
  go_ret
  exact ⟨_, rfl, HN.out⟩
end Go.Proofs.Ytidkppjhmgehoaa.TreeC
