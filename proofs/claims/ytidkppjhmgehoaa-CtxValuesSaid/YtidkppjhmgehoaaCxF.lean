/-
  Contracts of the functions of package ctx, as it landed, sixth part: all are ended that one reaches. Condition: the arena is at hand.
-/
import Derived.Test.YtidkppjhmgehoaaCxE
namespace Go.Proofs.Ytidkppjhmgehoaa.CxC
open Go.ChangeShapes Go.WideShapes Go.ChangeAt Go.RowKit Mem TreeP CtxP Hand TreeC CtxI

theorem own0 {α : Type} {E : Enc α} {w : World} {base : Nat} {e : TypeId} {v : Value} {xs : List α} (h : OwnL E w base e v xs) : OwnL E w 0 e v xs := by
  refine ⟨h.1, ?_⟩
  rcases h.2 with h0 | ⟨g, cap, cur, rfl, hb, rest⟩
  · exact .inl h0
  · exact .inr ⟨g, cap, cur, rfl, Nat.zero_le _, rest⟩
theorem nil_grow {B : Nat → Prop} {w wk : World} {Rs : List Res} (h : Sep B w wk Rs) : Sep B w wk (grow intE 3 (.slice none 0 0) [] :: Rs) :=
  h.add (Below.refl _ _) (R := grow intE 3 (.slice none 0 0) []) (F := fun _ => False) ⟨OwnL.none_ _ _ _, by funext k; simp [Value.ownBlock]⟩ fun _ h => h.elim
/-- What was told in new blocks is at hand. -/
theorem new_grow {B : Nat → Prop} {w wk wn : World} {Rs : List Res} {u : Value} {l : List Int} (h : Sep B w wk Rs) (hn : New wk wn u l) : Sep B w wn (grow intE 3 u l :: Rs) := by
  obtain ⟨A, c, rfl, ho, hb⟩ := hn
  exact h.add hb (R := grow intE 3 _ l) ⟨own0 ho, rfl⟩ fun k hk => (ho.lt k hk).1

set_option maxRecDepth 100000 in
set_option maxHeartbeats 2000000 in
theorem endAll_o {B : Nat → Prop} {w wk : World} {Rs : List Res} {p q cx : Nat} {Ax : Option Addr} {T : List Nd} {X : List Cn} {M : Int} (hs : Sep B w wk (blk p (.cells #[.pointer (some ⟨q, 0, none⟩), .slice Ax X.length cx] 79) :: tt q T M :: grow xE 76 (.slice Ax X.length cx) X :: Rs)) (hlen : T.length = X.length) (hok : TreeP.Ok T M) (n e z : Int) :
    Calls Try.prog 57 #[.pointer (some ⟨p, 0, none⟩), .int .i64 n, putF e z] wk fun r wn => ∃ A cc, r = .returned (.slice A (toldL X (reachT T n)).length cc) ∧ Sep B w wn (grow intE 3 (.slice A (toldL X (reachT T n)).length cc) (toldL X (reachT T n)) :: blk p (.cells #[.pointer (some ⟨q, 0, none⟩), .slice Ax X.length cx] 79) :: tt q T M :: grow xE 76 (.slice Ax X.length cx) (markL X (reachT T n) e z) :: Rs) := by
  have hm : X.length ≤ 200 := by have := hok.len; have := hok.m1; omega
  have HRE : Hid (Calls Try.prog 50 #[.pointer (some ⟨q, 0, none⟩), .int .i64 n] wk fun e w' => ∃ u, e = .returned u ∧ New wk w' u (reachT T n)) := by
    obtain ⟨F, hR⟩ := hs.get 1 rfl
    obtain ⟨q', e, hv⟩ := TA.view hR
    obtain rfl : q = q' := by injection e with e; injection e with e; injection e
    exact reach_c hv (TA.lt hR) hok.wf (by omega) n
  have HTH : Hid (∀ (i : Nat) (k : Int), (reachT T n)[i]? = some k → there T k = true) := fun i k hk => (reach_there hok.wf (List.mem_of_getElem? hk)).1
  have HND : Hid (reachT T n).Nodup := reach_once hok.wf n
  have hrl := reach_len hok.wf n
  have HOK := Lib.hid hok
  have HLEN := Lib.hid hlen
  have S0 := Lib.hid hs
  have k0 := (cell_block (hs.blk_at 0 rfl) 0).trans rfl
  clear hs hok
  generalize reachT T n = l at *
  unfold putF
  go_enter Try.func57, Try.ntmps57
  go_wp2_with fail
  refine HRE.out.mono ?_
  rintro r w1 ⟨u1, rfl, hn⟩
  have S1' := nil_grow (new_grow S0.out hn)
  obtain ⟨A1, c1, rfl, _, _⟩ := hn
  have S1 := Lib.hid (grow_nums (S1'.swap) (by omega))
  clear S1' HRE k0 S0
  go_wp2
  go_loopw [7, 17] (fun o t W => ∃ i : Nat, i ≤ l.length ∧ t = .int .i64 i ∧ Hid (∃ A cc, o = .slice A (toldL X (l.take i)).length cc ∧ Sep B w W (nums (.slice A1 l.length c1) l :: grow intE 3 (.slice A (toldL X (l.take i)).length cc) (toldL X (l.take i)) :: blk p (.cells #[.pointer (some ⟨q, 0, none⟩), .slice Ax X.length cx] 79) :: tt q T M :: grow xE 76 (.slice Ax X.length cx) (markL X (l.take i) e z) :: Rs))) (fun _ t _ => l.length - (intOf t).toNat)
  case atStart =>
    refine ⟨0, Nat.zero_le _, rfl, none, 0, rfl, ?_⟩
    rw [List.take_zero, markL_nil]
    exact S1.out
  case round =>
    obtain ⟨i, hi, rfl, HS⟩ := hrel
    obtain ⟨Ao, co, rfl, hS⟩ := HS.out
    have SL := Lib.hid hS
    have k1 := (cell_block (hS.blk_at 2 rfl) 1).trans rfl
    have hol : (toldL X (l.take i)).length ≤ i := Nat.le_trans (List.length_filter_le _ _) (List.length_take_le _ _)
    clear HS S1
    by_cases hlt : i < l.length
    · obtain ⟨b1, o1, e1, _, hbl, hc1⟩ := Rd.cells (hS.rd 0 rfl) (by omega)
      subst e1
      have q0 := hc1 i hlt
      have hg : l[i]? = some (l.getD i 0) := by rw [List.getD_eq_getElem?_getD, List.getElem?_eq_getElem hlt]; rfl
      have hth := HTH.out i _ hg
      have HTk : Hid (l.take (i + 1) = l.take i ++ [l.getD i 0]) := by show _ = _; rw [List.take_add_one, hg]; rfl
      have hnot : l.getD i 0 ∉ l.take i := by
        have hnd : (l.take (i + 1)).Nodup := (List.take_sublist _ _).nodup HND.out
        rw [HTk.out, List.nodup_append] at hnd
        intro hm
        exact hnd.2.2 _ hm _ (by simp) rfl
      obtain ⟨j, hj, hjl⟩ := there_nat hth
      rw [hj] at q0 HTk hnot
      have hjX : j < X.length := by have := HLEN.out; omega
      have hxm := mark_at (e := e) (c := z) hjX hnot
      obtain ⟨bb, cb, eA, _, _, _⟩ := hS.elem 4 rfl hxm
      obtain ⟨rfl, rfl⟩ : Ax = some ⟨bb, 0, none⟩ ∧ cx = cb := by injection eA with e1 e2 e3; exact ⟨e1, e3⟩
      have i0 : (0 : Int) ≤ (i : Int) := by omega
      have i1 : (i : Int) < (l.length : Int) := by omega
      have j0 : (0 : Int) ≤ (j : Int) := by omega
      have j1 : (j : Int) < (X.length : Int) := by omega
      have HPS := Lib.hid (put_s hS 4 rfl hxm e z)
      have HNT := Lib.hid hnot
      clear hc1 hg hth hj hxm eA hnot hS SL
      unfold endV at *
      go_wp2_with fail
      refine HPS.out.mono ?_
      rintro r w2 ⟨rfl, h2⟩
      have S2 := Lib.hid h2
      clear h2 HPS q0 k1
      by_cases h0 : (cn X (j : Nat)).e = 0
      · have HM := Lib.hid (mark_yes (e := e) (c := z) hjX HNT.out h0)
        have HTO : Hid (toldL X (l.take (i + 1)) = toldL X (l.take i) ++ [(j : Int)]) := by show _ = _; rw [HTk.out, told_yes h0]
        have S3 : Hid (Sep B w w2 (nums (.slice (some ⟨b1, o1, none⟩) l.length c1) l :: grow intE 3 (.slice Ao (toldL X (l.take i)).length co) (toldL X (l.take i)) :: blk p (.cells #[.pointer (some ⟨q, 0, none⟩), .slice (some ⟨bb, 0, none⟩) X.length cx] 79) :: tt q T M :: grow xE 76 (.slice (some ⟨bb, 0, none⟩) X.length cx) (markL X (l.take (i + 1)) e z) :: Rs)) := by
          have := S2.out
          unfold putX at this
          rw [if_pos h0, ← HM.out.1, ← HTk.out] at this
          exact this
        have HX1 : Hid (RdL intE (w2.alloc (.cells #[.int .i64 (j : Int)] 3)) (fun _ => True) (.slice (some ⟨w2.heap.size, 0, none⟩) 1 1) [(j : Int)]) :=
          RdL.lit1 (E := intE) w2 3 (j : Int) (cs := #[.int .i64 (j : Int)]) rfl (fun _ => True) trivial
        have hd : decide ((cn X (j : Nat)).e = 0) = true := by simpa using h0
        generalize decide ((cn X (j : Nat)).e = 0) = dd at *
        subst hd
        have q0 : w2.cell? ⟨b1, o1 + i, none⟩ = some (.int .i64 (j : Int)) := by
          obtain ⟨b', o', e1, _, _, hc⟩ := Rd.cells (S3.out.rd 0 rfl) (by omega)
          injection e1 with e1
          injection e1 with e2 e3
          subst e2 e3
          have hg : l[i]? = some (j : Int) := by
            have h1 := congrArg (fun L : List Int => L[i]?) HTk.out
            simp only [List.getElem?_take, Nat.lt_succ_self, if_true] at h1
            rw [h1, List.getElem?_append_right (List.length_take_le _ _), List.length_take, Nat.min_eq_left (by omega), Nat.sub_self]
            rfl
          rw [hc i hlt, List.getD_eq_getElem?_getD, hg]
          rfl
        clear S2 h0
        go_wp2_with (at_builtin; refine wpList_appS rfl _ _ intElemL rfl rfl rfl (S3.out.next (new_below0 _ _)) 1 rfl HX1.out (by simp; omega) ?_; intro A3 c3 w5 l3 HL3 h3)
        have S4 := Lib.hid h3
        clear h3 S3 HX1
        go_wp2
        go_roundw
        case rel => exact ⟨i + 1, by omega, by go_num, by rw [HTO.out, ← HL3.out]; exact ⟨_, _, rfl, S4.out⟩⟩
        case measure => simp [intOf]; omega
      · have HM : Hid (markL X (l.take (i + 1)) e z = markL X (l.take i) e z) := by show _ = _; rw [HTk.out, mark_no hjX h0]
        have HTO : Hid (toldL X (l.take (i + 1)) = toldL X (l.take i)) := by show _ = _; rw [HTk.out, told_no h0]
        have S3 : Hid (Sep B w w2 (nums (.slice (some ⟨b1, o1, none⟩) l.length c1) l :: grow intE 3 (.slice Ao (toldL X (l.take i)).length co) (toldL X (l.take i)) :: blk p (.cells #[.pointer (some ⟨q, 0, none⟩), .slice (some ⟨bb, 0, none⟩) X.length cx] 79) :: tt q T M :: grow xE 76 (.slice (some ⟨bb, 0, none⟩) X.length cx) (markL X (l.take i) e z) :: Rs)) := by
          have := S2.out
          unfold putX at this
          rw [if_neg h0] at this
          exact this
        have hd : decide ((cn X (j : Nat)).e = 0) = false := by simpa using h0
        generalize decide ((cn X (j : Nat)).e = 0) = dd at *
        subst hd
        clear S2 h0
        go_wp2
        go_roundw
        case rel => exact ⟨i + 1, by omega, by go_num, by rw [HM.out, HTO.out]; exact ⟨_, _, rfl, S3.out⟩⟩
        case measure => simp [intOf]; omega
    · have HE : Hid (l.take i = l) := List.take_of_length_le (by omega)
      have hS2 := SL.out
      rw [HE.out] at hS2
      have S9 := Lib.hid hS2
      clear hS hS2 SL
      go_wp2
      go_ret
      rw [HE.out]
      exact ⟨_, _, rfl, S9.out.tail⟩
theorem endAll_s {B : Nat → Prop} {w wk : World} {Rs : List Res} {p : Nat} {T : List Nd} {X : List Cn} {M : Int} (h : Sep B w wk (ca p T X M :: Rs)) (n e z : Int) :
    Calls Try.prog 57 #[.pointer (some ⟨p, 0, none⟩), .int .i64 n, putF e z] wk fun r wn => ∃ A cc, r = .returned (.slice A (toldL X (reachT T n)).length cc) ∧ Sep B w wn (grow intE 3 (.slice A (toldL X (reachT T n)).length cc) (toldL X (reachT T n)) :: ca p T (markL X (reachT T n) e z) M :: Rs) := by
  obtain ⟨q, u, hs, hlen, hok⟩ := ca_open h
  obtain ⟨Ax, cx, rfl⟩ := (hs.own 2 rfl).form
  refine (endAll_o hs hlen hok n e z).mono ?_
  rintro r wn ⟨A, cc, rfl, h1⟩
  refine ⟨A, cc, rfl, ?_⟩
  have h5 := h1.perm (show List.Perm (_ :: _ :: _ :: _ :: Rs) _ from ((List.Perm.swap _ _ _).trans ((List.Perm.swap _ _ _).cons _)).trans (((List.Perm.swap _ _ _).cons _).cons _))
  exact (ca_close h5 (by rw [markL_len]; exact hlen) hok).swap

theorem cancel_s {B : Nat → Prop} {w wk : World} {Rs : List Res} {p : Nat} {T : List Nd} {X : List Cn} {M : Int} (h : Sep B w wk (ca p T X M :: Rs)) (n c : Int) :
    Calls Try.prog 29 #[.pointer (some ⟨p, 0, none⟩), .int .i64 n, .int .i64 c] wk fun r wn => ∃ A cc, r = .returned (.slice A (cancelO T X n).length cc) ∧ Sep B w wn (grow intE 3 (.slice A (cancelO T X n).length cc) (cancelO T X n) :: ca p T (cancelX T X n c) M :: Rs) := by
  by_cases hn : n = 0
  · subst hn
    have HO : Hid (cancelO T X 0 = []) := by show _ = _; unfold cancelO; rw [if_pos rfl]
    have HX : Hid (cancelX T X 0 c = X) := by show _ = _; unfold cancelX; rw [if_pos rfl]
    have S0 := Lib.hid (nil_grow h)
    clear h
    rw [HO.out, HX.out]
    go_enter Try.func29, Try.ntmps29
    go_wp2
    go_ret
    exact ⟨_, _, rfl, S0.out⟩
  · have HO : Hid (cancelO T X n = toldL X (reachT T n)) := by show _ = _; unfold cancelO endO; rw [if_neg hn]
    have HX : Hid (cancelX T X n c = markL X (reachT T n) 10 (cz 10 c)) := by show _ = _; unfold cancelX endX; rw [if_neg hn]
    have e1 : (n == 0) = false := by simpa using hn
    have HB := Lib.hid (endBy_c 10 c wk)
    have S0 := Lib.hid h
    clear h hn
    rw [HO.out, HX.out]
    unfold endV at HB
    generalize cz 10 c = z at *
    go_enter Try.func29, Try.ntmps29
    go_wp2_with fail
    refine HB.out.mono ?_
    rintro r w1 ⟨rfl, hb⟩
    have HE := Lib.hid (endAll_s (S0.out.next hb) n 10 z)
    unfold putF endV at HE
    clear hb HB S0
    go_wp2_with fail
    refine HE.out.mono ?_
    rintro r w2 ⟨A, cc, rfl, h2⟩
    have S2 := Lib.hid h2
    clear h2 HE
    go_wp2
    go_ret
    exact ⟨_, _, rfl, S2.out⟩
end Go.Proofs.Ytidkppjhmgehoaa.CxC
