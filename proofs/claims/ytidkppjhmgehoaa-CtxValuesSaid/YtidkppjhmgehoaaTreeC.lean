/-
  Contracts of the functions of package tree, as it landed, third part: Reach, by a function that calls itself. Condition: the tree is as 'View' says.
-/
import Derived.Test.YtidkppjhmgehoaaTreeA
namespace Go.Proofs.Ytidkppjhmgehoaa.TreeC
open Go.ChangeShapes Go.WideShapes Go.ChangeAt Go.RowKit Mem TreeP Hand

/-- What Reach has gathered: in its variable's block s1. -/
def Gath (w0 W : World) (s1 : Nat) (l : List Int) : Prop := ∃ v, Sep (fun b => b = s1) w0 W [blk s1 (.cells #[v] 33), grow intE 3 v l]

section
variable {w0 : World} {G : Nat → Prop} {p s0 s1 s2 : Nat} {L : List Nd} {M : Int}
/-- What stands while it gathers. -/
structure Base (w0 : World) (G : Nat → Prop) (p s0 s1 s2 : Nat) (L : List Nd) (M : Int) : Prop where
  view : View w0 G p L M
  apart : ∀ k, G k → k ≠ s1
  b0 : w0.heap[s0]? = some (.cells #[.pointer (some ⟨p, 0, none⟩)] 65 (0, 0))
  b2 : w0.heap[s2]? = some (.cells #[.func (.func 66) #[] #[.pointer (some ⟨s1, 0, none⟩), .pointer (some ⟨s0, 0, none⟩), .pointer (some ⟨s2, 0, none⟩)]] 111 (0, 0))
  n0 : s0 ≠ s1
  n2 : s2 ≠ s1
theorem Base.at_ (h : Base w0 G p s0 s1 s2 L M) {W : World} (ho : Only (fun b => b = s1) w0 W) :
    View W G p L M ∧ W.cell? ⟨s0, 0, none⟩ = some (.pointer (some ⟨p, 0, none⟩)) ∧ W.cell? ⟨s2, 0, none⟩ = some (.func (.func 66) #[] #[.pointer (some ⟨s1, 0, none⟩), .pointer (some ⟨s0, 0, none⟩), .pointer (some ⟨s2, 0, none⟩)]) :=
  ⟨h.view.keep ho.size fun k hk hG => ho.block k hk (h.apart k hG), (cell_block ((ho.block s0 (lt_of_block h.b0) h.n0).trans h.b0) 0).trans rfl, (cell_block ((ho.block s2 (lt_of_block h.b2) h.n2).trans h.b2) 0).trans rfl⟩

theorem Base.node (h : Base w0 G p s0 s1 s2 L M) {i : Nat} {a : Nd} (hi : L[i]? = some a) :
    ∃ b off c A cc, ∀ w, Only (fun b => b = s1) w0 w → w.cell? ⟨p, 1, none⟩ = some (.slice (some ⟨b, off, none⟩) L.length c) ∧ w.cell? ⟨b, off + i * 3 + 1, none⟩ = some (.bool a.cut) ∧ w.cell? ⟨b, off + i * 3 + 2, none⟩ = some (.slice A (kidsT L i).length cc) ∧ Rd w G (.slice A (kidsT L i).length cc) (kidsT L i) := by
  obtain ⟨A, c, X, hp, gp, hr, hx, hks⟩ := h.view
  have hi' := hi
  rw [← hx, List.getElem?_map] at hi'
  cases hX : X[i]? with
  | none => rw [hX] at hi'; cases hi'
  | some x =>
    rw [hX] at hi'
    obtain rfl : x.nd = a := by simpa using hi'
    obtain ⟨b, off, rfl, gb, hb, hc⟩ := hr.at_ hX
    have hkr := hks i x hX
    obtain ⟨A', c', e, h2⟩ := hkr
    obtain ⟨nd', ka, kn, kc⟩ := x
    injection e with e1 e2 e3
    subst e1 e2 e3
    refine ⟨b, off, c, ka, kc, fun w ho => ?_⟩
    have e1 : ∀ j, w.cell? ⟨b, j, none⟩ = w0.cell? ⟨b, j, none⟩ := fun j => World.cell?_of_block (w := w0) (ho.block b hb (h.apart b gb))
    have hk : ∀ k, k < w0.heap.size → G k → w.heap[k]? = w0.heap[k]? := fun k hk hG => ho.block k hk (h.apart k hG)
    exact ⟨(cell_block ((hk p (lt_of_block hp) gp).trans hp) 1).trans rfl, (e1 _).trans (hc 1 _ rfl), (e1 _).trans (hc 2 _ rfl), (hks i _ hX).keep ho.size hk⟩

set_option maxRecDepth 100000 in
set_option maxHeartbeats 1000000 in
theorem reach_in (hb : Base w0 G p s0 s1 s2 L M) (hw : Wf L) (hL : L.length ≤ 1000) : ∀ (f : Nat) (n : Int) (wk : World) (acc : List Int), there L n = true → (L.length : Int) - n ≤ f → acc.length + (reachT L n).length ≤ 100000 → Gath w0 wk s1 acc →
    Calls Try.prog 66 #[.int .i64 n, .pointer (some ⟨s1, 0, none⟩), .pointer (some ⟨s0, 0, none⟩), .pointer (some ⟨s2, 0, none⟩)] wk fun e wn => e = .returned (.tuple #[]) ∧ Gath w0 wn s1 (acc ++ reachT L n)
  | 0, n, _, _, ht, hf, _, _ => by have := there_iff.1 ht; omega
  | f + 1, n, wk, acc, ht, hf, hlen, hg => by
    have IH := Lib.hid (reach_in hb hw hL f)
    have HB := Lib.hid hb
    have HE : Hid (reachT L n = n :: reachBy L (kidsT L n)) := by show _ = _; rw [reach_eq hw, if_pos ht]; rfl
    have HLE := Lib.hid (fun i => reachBy_le L (kidsT L n) i)
    have hn1 := there_iff.1 ht
    have HKID : Hid (∀ k ∈ kidsT L n, there L k = true ∧ n < k) := fun k hk => ⟨(mem_kids hk).2.1, kid_gt hw hk⟩
    have hkl := kidsT_len (L := L) n
    rw [HE.out] at hlen ⊢
    rw [List.length_cons] at hlen
    obtain ⟨i, rfl, hi⟩ := there_nat ht
    obtain ⟨v, hs⟩ := hg
    obtain ⟨A0, c0, rfl⟩ := (hs.own 1 rfl).form
    have HS := Lib.hid hs
    have HS1 := Lib.hid (hs.new (.cells #[.int .i64 (i : Int)] 3))
    have HRL : Hid (RdL intE (wk.alloc (.cells #[.int .i64 (i : Int)] 3)) (fun _ => True) (.slice (some ⟨wk.heap.size, 0, none⟩) 1 1) [(i : Int)]) := RdL.lit1 (E := intE) wk _ _ rfl _ trivial
    have k1 := (cell_block (hs.blk_at 0 rfl) 0).trans rfl
    have hnd := nd_at hi
    clear hs hb ht HE
    have HND := Lib.hid hnd
    generalize hks : kidsT L i = ks at *
    have HKS := Lib.hid hks
    clear hnd hks
    go_enter Try.func66, Try.ntmps66
    go_wp2_with (at_builtin; refine wpList_appS rfl (.tmp 7) (.tmp 9) intElemL rfl rfl rfl HS1.out 2 rfl HRL.out (by simp; omega) ?_)
    intro A c w1 l hl h1
    have HS2 := Lib.hid ((h1.set 1 rfl 0 (.slice A l.length c)).tail)
    have HG2 : Hid (Gath w0 (w1.setCell ⟨s1, 0, none⟩ (.slice A l.length c)) s1 (acc ++ [(i : Int)])) := ⟨_, by rw [← hl.out]; exact HS2.out⟩
    have k2 := (cell_block (h1.blk_at 1 rfl) 0).trans rfl
    have f2 := frozen_block (h1.blk_at 1 rfl) 0
    obtain ⟨_, q0, _⟩ := HB.out.at_ HS2.out.only
    obtain ⟨b, off, c', A', cc, hN⟩ := HB.out.node HND.out
    rw [HKS.out] at hN
    obtain ⟨p1, _, p4, _⟩ := hN _ HS2.out.only
    have HR : Hid (∀ W, Only (fun b => b = s1) w0 W → Rd W G (.slice A' ks.length cc) ks) := fun W ho => (hN W ho).2.2.2
    have HO2 := Lib.hid HS2.out.only
    clear h1 hl HS HS1 HRL hN HS2
    have i0 : (0 : Int) ≤ (i : Int) := by omega
    have i1 : (i : Int) < (L.length : Int) := by omega
    go_wp2
    clear k1 k2 f2 q0 p1 p4 HND HKS
    go_loopw [20] (fun t wr => ∃ j : Nat, j ≤ ks.length ∧ t = .int .i64 j ∧ Hid (Gath w0 wr s1 (acc ++ (i : Int) :: reachBy L (ks.take j)))) (fun t _ => ks.length - (intOf t).toNat)
    case atStart => exact ⟨0, Nat.zero_le _, rfl, HG2.out⟩
    case round =>
      obtain ⟨j, hj, rfl, HG⟩ := hrel
      clear HG2 HO2
      have hlt1 := HLE.out j
      by_cases hlt : j < ks.length
      · have hx : ks[j]? = some ks[j] := List.getElem?_eq_getElem hlt
        have hgd : ks.getD j 0 = ks[j] := by rw [List.getD_eq_getElem?_getD, hx]; rfl
        have hkid := HKID.out ks[j] (List.getElem_mem hlt)
        have HTS := Lib.hid (take_snocI ks j _ hx)
        obtain ⟨v1, hs1⟩ := HG.out
        have HO := Lib.hid hs1.only
        obtain ⟨b4, o4, rfl, _, _, hc4⟩ := Rd.cells (HR.out _ HO.out) (by omega)
        have q4 := hc4 j hlt
        rw [hgd] at q4
        generalize ks[j] = k at *
        obtain ⟨m, rfl, hm⟩ := there_nat hkid.1
        have hnm := hkid.2
        have HKT := Lib.hid hkid.1
        obtain ⟨_, q0, q2⟩ := HB.out.at_ HO.out
        obtain ⟨b, off, c, A4, c4, hN⟩ := HB.out.node (nd_at hm)
        obtain ⟨p1, p3, _, _⟩ := hN _ HO.out
        have HCT : Hid (cutT L m = (nd L m).cut) := by show _ = _; unfold cutT; rw [HKT.out, Bool.true_and]
        have HSN : Hid (acc ++ (i : Int) :: reachBy L (ks.take (j + 1)) = (acc ++ (i : Int) :: reachBy L (ks.take j)) ++ (if cutT L m = true then [] else reachT L m)) := by show _ = _; rw [HTS.out, reachBy_snoc]; simp
        have hl2 := HLE.out (j + 1)
        rw [HTS.out, reachBy_snoc, List.length_append] at hl2
        have j0 : (0 : Int) ≤ (j : Int) := by omega
        have j1 : (j : Int) < (ks.length : Int) := by omega
        have m0 : (0 : Int) ≤ (m : Int) := by omega
        have m1 : (m : Int) < (L.length : Int) := by omega
        clear hx hgd hkid hc4 HTS hN hs1
        cases hcc : cutT L m with
        | true =>
          rw [hcc] at HSN
          rw [← HCT.out, hcc] at p3
          have HSN2 : Hid (acc ++ (i : Int) :: reachBy L (ks.take (j + 1)) = acc ++ (i : Int) :: reachBy L (ks.take j)) := by show _ = _; rw [HSN.out]; simp
          clear hcc hl2 HSN HCT
          go_wp2
          go_roundw
          case rel => exact ⟨j + 1, by omega, by go_num, by show Gath _ _ _ _; rw [HSN2.out]; exact HG.out⟩
          case measure => simp [intOf]; omega
        | false =>
          rw [hcc] at HSN hl2
          rw [← HCT.out, hcc] at p3
          have HSN2 : Hid (acc ++ (i : Int) :: reachBy L (ks.take (j + 1)) = (acc ++ (i : Int) :: reachBy L (ks.take j)) ++ reachT L m) := by show _ = _; rw [HSN.out]; rfl
          have hl3 : (reachBy L (ks.take j)).length + (reachT L m).length ≤ (reachBy L ks).length := by simpa using hl2
          clear hcc hl2 HSN HCT
          go_wp2_with fail
          refine (IH.out m wr _ HKT.out (by omega) (by simp; omega) HG.out).mono ?_
          rintro e w5 ⟨rfl, h5⟩
          have HG5 := Lib.hid h5
          clear h5
          go_wp2
          go_roundw
          case rel => exact ⟨j + 1, by omega, by go_num, by show Gath _ _ _ _; rw [HSN2.out]; exact HG5.out⟩
          case measure => simp [intOf]; omega
      · have HTK : Hid (ks.take j = ks) := List.take_of_length_le (by omega)
        go_wp2
        go_end0
        exact ⟨rfl, by have := HG.out; rwa [HTK.out] at this⟩
end

/-- Nothing is gathered yet. -/
theorem gath0 {w4 : World} {s1 : Nat} (h : w4.heap[s1]? = some (.cells #[.slice none 0 0] 33 (0, 0))) : Gath w4 w4 s1 [] :=
  ⟨.slice none 0 0, Only.refl _ _, fun b => b = s1, fun _ => False, ⟨h, rfl⟩, ⟨fun _ => False, fun _ => False, ⟨OwnL.none_ _ _ _, by funext k; simp [Value.ownBlock]⟩, trivial, fun _ h => h.elim, fun _ h => h.elim, fun _ h => h.elim⟩, fun _ h => .inl h, fun _ h => h.elim, fun _ _ h => h⟩
/-- What is gathered is new. -/
theorem Gath.new {w w4 wn : World} {s1 : Nat} {l : List Int} (h : Gath w4 wn s1 l) (hb : Below w.heap.size w w4) (h1 : w.heap.size ≤ s1) : ∃ u, wn.cell? ⟨s1, 0, none⟩ = some u ∧ New w wn u l := by
  obtain ⟨v, hs⟩ := h
  obtain ⟨A, c, rfl⟩ := (hs.own 1 rfl).form
  refine ⟨_, (cell_block (hs.blk_at 0 rfl) 0).trans rfl, A, c, rfl, ?_, ?_⟩
  · obtain ⟨F, ⟨ho, rfl⟩, hF, _⟩ := hs.upd 1 rfl
    refine own_base ho fun k hk => ?_
    have := hb.size
    rcases hF k hk with rfl | h
    · exact h1
    · omega
  · exact ((Only.of_below (F := fun _ => False) hb).trans hs.only fun b hb' he => by omega).to_below

set_option maxRecDepth 100000 in
theorem reach_c {w : World} {G : Nat → Prop} {p : Nat} {L : List Nd} {M : Int} (h : View w G p L M) (hG : ∀ k, G k → k < w.heap.size) (hw : Wf L) (hL : L.length ≤ 1000) (n : Int) : Calls Try.prog 50 #[.pointer (some ⟨p, 0, none⟩), .int .i64 n] w fun e w' => ∃ u, e = .returned u ∧ New w w' u (reachT L n) := by
  have S3 := (((Sep.nil (fun _ => False) w).new (.cells #[.pointer (some ⟨p, 0, none⟩)] 65)).new (.cells #[.slice none 0 0] 33)).new (.cells #[Value.func (.func 66) #[] #[.pointer (some ⟨w.heap.size + 1, 0, none⟩), .pointer (some ⟨w.heap.size, 0, none⟩), .pointer (some ⟨w.heap.size + 2, 0, none⟩)]] 111)
  have es : (w.alloc (.cells #[.pointer (some ⟨p, 0, none⟩)] 65)).heap.size = w.heap.size + 1 := by simp
  have es2 : ((w.alloc (.cells #[.pointer (some ⟨p, 0, none⟩)] 65)).alloc (.cells #[.slice none 0 0] 33)).heap.size = w.heap.size + 2 := by simp
  rw [es2, es] at S3
  have S4 := Lib.hid S3
  have H := Lib.hid h
  have HGG := Lib.hid hG
  have HW := Lib.hid hw
  clear S3 h hG hw
  have qs : ∀ (W : World) (a : Addr) (fn : Fn) (xs ys : Array Value), (store a (.func fn xs ys)).run Try.prog W = stored Try.prog W a (.func fn xs ys) .plain := fun W a fn xs ys => run_store _ W a _ _ rfl
  go_enter Try.func50, Try.ntmps50
  go_wp2_with fail
  clear es es2 qs
  generalize ((w.alloc (.cells #[.pointer (some ⟨p, 0, none⟩)] 65)).alloc (.cells #[.slice none 0 0] 33)).alloc (.cells #[Value.func (.func 66) #[] #[.pointer (some ⟨w.heap.size + 1, 0, none⟩), .pointer (some ⟨w.heap.size, 0, none⟩), .pointer (some ⟨w.heap.size + 2, 0, none⟩)]] 111) = W at *
  have HO : Hid (Below w.heap.size w W) := S4.out.old
  have b0 := S4.out.blk_at 2 rfl
  have b1 := S4.out.blk_at 1 rfl
  have b2 := S4.out.blk_at 0 rfl
  have HB : Hid (Base W G p w.heap.size (w.heap.size + 1) (w.heap.size + 2) L M) := ⟨H.out.below HO.out, fun k hk e => by have := HGG.out k hk; omega, b0, b2, by omega, by omega⟩
  have HG0 := Lib.hid (gath0 b1)
  have q0 := (cell_block b0 0).trans rfl
  have q1 := (cell_block b1 0).trans rfl
  have q2 := (cell_block b2 0).trans rfl
  clear b0 b1 b2
  refine (has_c HB.out.view n).mono ?_
  rintro e w1 ⟨rfl, rfl⟩
  have hrl := reach_len HW.out n
  rcases ht : there L n with _ | _
  · have HE : Hid (reachT L n = []) := by show _ = _; rw [reach_eq HW.out, if_neg (by rw [ht]; simp)]
    clear ht
    go_wp2
    go_ret
    exact ⟨_, rfl, by rw [HE.out]; exact ⟨_, _, rfl, OwnL.none_ _ _ _, HO.out⟩⟩
  · have hn1 := there_iff.1 ht
    have HRI := Lib.hid (reach_in HB.out HW.out hL L.length n W [] ht (by omega) (by simp; omega) HG0.out)
    clear ht
    go_wp2_with fail
    refine HRI.out.mono ?_
    rintro e wn ⟨rfl, hg⟩
    obtain ⟨u, hc, hnew⟩ := Gath.new hg HO.out (by omega)
    have HNW := Lib.hid hnew
    clear hg hnew HRI q0 q1 q2
    obtain ⟨A, c, hu, _⟩ := HNW.out
    subst hu
    go_wp2
    go_ret
    exact ⟨_, rfl, HNW.out⟩
end Go.Proofs.Ytidkppjhmgehoaa.TreeC
