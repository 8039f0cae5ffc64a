/-
  Contracts of the functions of package ctx, as it landed, ninth part: who is late is ended, one by one. Condition: the arena is at hand, and 'Inv' holds.
-/
import Derived.Test.YtidkppjhmgehoaaCxP
import Derived.Test.YtidkppjhmgehoaaHeld
namespace Go.Proofs.Ytidkppjhmgehoaa.CxC
open Go.ChangeShapes Go.WideShapes Go.ChangeAt Go.RowKit Mem TreeP CtxP Hand TreeC CtxI

/-- Something in a block. -/
def anyR (b : Nat) : Res where
  holds w F := F = (fun k => k = b) ∧ b < w.heap.size
  keep := fun ⟨e, h⟩ hs _ => ⟨e, Nat.lt_of_lt_of_le h hs⟩
  lt := fun ⟨e, h⟩ k hk => by rw [e] at hk; rw [hk]; exact h

section
variable {B : Nat → Prop} {w wk : World} {Rs : List Res} {p : Nat} {T : List Nd} {X : List Cn} {M : Int}
/-- They are put in order. -/
theorem sort_s {A : Option Addr} {c : Nat} {L : List Int} {qn qa : Nat} {now' : Obj} (h : Sep B w wk (grow intE 3 (.slice A L.length c) L :: blk qn now' :: blk qa (.cells #[.pointer (some ⟨p, 0, none⟩)] 24) :: ca p T X M :: Rs)) (hL : ∀ k ∈ L, there T k = true) (hinc : L.Pairwise (· < ·)) (hl : L.length ≤ 100000) :
    Calls Try.prog 54 #[.slice A L.length c, SortC.cmpF qa] wk fun r wn => r = .returned (.tuple #[]) ∧ ∃ L', L'.length = L.length ∧ L'.Perm L ∧ L'.Pairwise (SortP.Lex fun k => (cn X k).at_) ∧ Sep B w wn (grow intE 3 (.slice A L.length c) L' :: blk qn now' :: blk qa (.cells #[.pointer (some ⟨p, 0, none⟩)] 24) :: ca p T X M :: Rs) := by
  rcases (h.own 0 rfl).2 with ⟨hn, hn0⟩ | ⟨b, c', cur, hn, _⟩
  · have hl0 : L = [] := List.eq_nil_of_length_eq_zero hn0
    subst hl0
    obtain ⟨rfl, rfl⟩ : A = none ∧ c = 0 := by injection hn with h1 h2 h3; exact ⟨h1, h3⟩
    refine (SortC.sort_none qa wk).mono ?_
    rintro r wn ⟨rfl, rfl⟩
    exact ⟨rfl, [], rfl, .refl _, .nil, h⟩
  · obtain ⟨rfl, rfl⟩ : A = some ⟨b, 0, none⟩ ∧ c = c' := by injection hn with h1 h2 h3; exact ⟨h1, h3⟩
    obtain ⟨F, ⟨ho, hF⟩, _, hup⟩ := h.upd 0 rfl
    have hFb : ∀ k, F k ↔ k = b := fun k => by rw [hF]; simp [Value.ownBlock]; exact eq_comm
    have e : SortP.tab L.length (fun t => L.getD t 0) = L := by
      refine List.ext_getElem? fun t => ?_
      rcases Nat.lt_or_ge t L.length with ht | ht
      · rw [SortP.tab_get ht, List.getD_eq_getElem?_getD, List.getElem?_eq_getElem ht]; rfl
      · rw [SortP.tab_out ht, List.getElem?_eq_none ht]
    have hrow : SortC.Row wk b c L.length (fun t => L.getD t 0) := by unfold SortC.Row; rw [e]; exact ho
    have hget : ∀ t, t < L.length → L.getD t 0 = L[t]! := fun t ht => by rw [List.getD_eq_getElem?_getD, List.getElem?_eq_getElem ht]; simp [ht]
    have hcm : SortC.Cmps wk b qa (fun k => (cn X k).at_) (fun k => there T k = true) := fun wr hor x y hx hy => by
      have hs := hup (wn := wr) (anyR b) (F' := fun k => k = b) ⟨rfl, Nat.lt_of_lt_of_le hrow.lt hor.size⟩ (hor.mono fun k _ hk => (hFb k).2 hk) fun k hk => .inl ((hFb k).2 hk)
      obtain ⟨G, hG⟩ := hs.get 3 rfl
      obtain ⟨q, A', c', hsee⟩ := ca_sees hG
      exact due2_c hsee (hs.blk_at 2 rfl) x y hx hy
    have hmem : ∀ t, t < L.length → L.getD t 0 ∈ L := fun t ht => by rw [List.getD_eq_getElem?_getD, List.getElem?_eq_getElem ht]; exact List.getElem_mem ht
    have hst : SortP.Stb (fun k => (cn X k).at_) L.length (fun t => L.getD t 0) := fun s t hst ht _ => by
      rw [List.pairwise_iff_getElem] at hinc
      have := hinc s t (by omega) ht hst
      simp only [List.getD_eq_getElem?_getD, List.getElem?_eq_getElem ht, List.getElem?_eq_getElem (show s < L.length by omega)]
      exact this
    refine (SortC.sort_c hcm ⟨hrow, Only.refl _ _⟩ (fun t ht => hL _ (hmem t ht)) hst hl).mono ?_
    rintro r wn ⟨rfl, g, hA, hs, hsb, hp⟩
    rw [e] at hp
    refine ⟨rfl, SortP.tab L.length g, SortP.tab_len _ _, hp, SortP.lex_of hs hsb, ?_⟩
    exact hup (grow intE 3 (.slice (some ⟨b, 0, none⟩) L.length c) (SortP.tab L.length g)) (F' := F) ⟨hA.row, hF⟩ (hA.only.mono fun k _ hk => (hFb k).2 hk) fun k hk => .inl hk

theorem und_sorted (X : List Cn) : ∀ m, (undTo X m).Pairwise (· < ·)
  | 0 => .nil
  | m + 1 => by
    rw [undTo, List.pairwise_append]
    refine ⟨und_sorted X m, by split <;> simp, fun a ha b hb => ?_⟩
    obtain ⟨j, hj, rfl, _⟩ := mem_und.1 ha
    split at hb
    · obtain rfl : b = (m : Int) := by simpa using hb
      omega
    · simp at hb
/-- Who is late. -/
def lateP (X : List Cn) (now : Int) (k : Int) : Bool := (cn X k).has && decide ((cn X k).at_ ≤ now)

theorem run_len (T : List Nd) : ∀ (l : List Int) (X : List Cn), (dueRun T l X).2.length = X.length
  | [], _ => rfl
  | n :: l, X => by
    show (dueRun T l _).2.length = _
    rw [run_len T l, markL_len]

set_option maxRecDepth 100000 in
set_option maxHeartbeats 4000000 in
theorem due_s (h : Sep B w wk (ca p T X M :: Rs)) (hI : Inv T X) (now : Int) :
    Calls Try.prog 25 #[.pointer (some ⟨p, 0, none⟩), .int .i64 now] wk fun r wn => ∃ A cc, r = .returned (.slice A (dueO T X now).length cc) ∧ Sep B w wn (grow intE 3 (.slice A (dueO T X now).length cc) (dueO T X now) :: ca p T (dueX T X now) M :: Rs) := by
  have hok : TreeP.Ok T M := by obtain ⟨_, _, _, _, hok⟩ := ca_open h; exact hok
  have hm : X.length ≤ 200 := by have := hok.len; have := hok.m1; have := hI.len; omega
  have hs0 := (h.new (.cells #[.pointer (some ⟨p, 0, none⟩)] 24)).new (.cells #[.int .i64 now] 2)
  have HU : Hid (Calls Try.prog 41 #[.pointer (some ⟨p, 0, none⟩)] ((wk.alloc (.cells #[.pointer (some ⟨p, 0, none⟩)] 24)).alloc (.cells #[.int .i64 now] 2)) fun e w' => ∃ u, e = .returned u ∧ New ((wk.alloc (.cells #[.pointer (some ⟨p, 0, none⟩)] 24)).alloc (.cells #[.int .i64 now] 2)) w' u (undTo X X.length)) := by
    obtain ⟨F, hF⟩ := hs0.get 2 rfl
    obtain ⟨q, A, c, hsee⟩ := ca_sees hF
    exact undone_c hsee
  have es : (wk.alloc (.cells #[.pointer (some ⟨p, 0, none⟩)] 24)).heap.size = wk.heap.size + 1 := by simp
  rw [es] at hs0
  have S0 := Lib.hid hs0
  have HIN : Hid (∀ k ∈ (undTo X X.length).filter (lateP X now), there T k = true ∧ (cn X k).has = true ∧ (cn X k).at_ ≤ now) := fun k hk => by
    rw [List.mem_filter] at hk
    obtain ⟨j, hj, rfl, _⟩ := mem_und.1 hk.1
    have h2 := hk.2
    unfold lateP at h2
    rw [Bool.and_eq_true, decide_eq_true_eq] at h2
    exact ⟨there_iff.2 ⟨by omega, by rw [hI.len]; omega⟩, h2.1, h2.2⟩
  have HALL : Hid (∀ k, there T k = true → (cn X k).has = true → (cn X k).e = 0 → (cn X k).at_ ≤ now → k ∈ (undTo X X.length).filter (lateP X now)) := fun k h1 h2 h3 h4 => by
    obtain ⟨j, rfl, hj⟩ := there_nat h1
    rw [List.mem_filter]
    exact ⟨mem_und.2 ⟨j, by rw [← hI.len]; exact hj, rfl, h3⟩, by unfold lateP; rw [h2]; simpa using h4⟩
  have HINC : Hid (((undTo X X.length).filter (lateP X now)).Pairwise (· < ·)) := (und_sorted X X.length).sublist (List.filter_sublist)
  have HUL : Hid ((undTo X X.length).length ≤ 200 ∧ ((undTo X X.length).filter (lateP X now)).length ≤ 200) := by
    have := undTo_len X X.length
    have h2 := List.length_filter_le (lateP X now) (undTo X X.length)
    show _ ∧ _
    omega
  have HT : Hid (∀ k ∈ undTo X X.length, there T k = true) := fun k hk => by
    obtain ⟨j, hj, rfl, _⟩ := mem_und.1 hk
    exact there_iff.2 ⟨by omega, by rw [hI.len]; omega⟩
  have HFIN : Hid (∀ L', L'.Perm ((undTo X X.length).filter (lateP X now)) → L'.Pairwise (SortP.Lex fun k => (cn X k).at_) → dueRun T L' X = (dueO T X now, dueX T X now)) := fun L' hp hpw => by
    rw [due_is L' X (liveN X) hI (Nat.le_refl _) hpw (fun k h1 h2 h3 h4 => hp.mem_iff.2 (HALL.out k h1 h2 h3 h4)) fun k hk => HIN.out k (hp.mem_iff.1 hk)]
    rfl
  have HLEN := Lib.hid hI.len
  have HWF := Lib.hid hI.wf
  have HOK := Lib.hid hok
  clear h hs0 es HALL hI hok
  generalize dueO T X now = DO at *
  generalize dueX T X now = DX at *
  go_enter Try.func25, Try.ntmps25
  go_wp2_with fail
  refine HU.out.mono ?_
  rintro r w1 ⟨u, rfl, hn⟩
  have hs1 := new_grow S0.out hn
  obtain ⟨A1, c1, rfl, _, _⟩ := hn
  have S1 := Lib.hid hs1
  clear hs1 HU S0
  generalize hqa : wk.heap.size = qa at *
  generalize hqn : qa + 1 = qn at *
  have HD : Hid (Calls Try.prog 51 #[.slice A1 (undTo X X.length).length c1, delF qa qn] w1 fun r wn => r = .returned (.slice A1 ((undTo X X.length).filter (lateP X now)).length c1) ∧ Sep B w wn ((grow intE 3 (.slice A1 (undTo X X.length).length c1) (undTo X X.length) :: blk qn (.cells #[.int .i64 now] 2) :: blk qa (.cells #[.pointer (some ⟨p, 0, none⟩)] 24) :: ca p T X M :: Rs).set 0 (grow intE 3 (.slice A1 ((undTo X X.length).filter (lateP X now)).length c1) ((undTo X X.length).filter (lateP X now))))) :=
    delete_s S1.out rfl (by have := HUL.out.1; omega) fun W v' l' hs k hk => by
      obtain ⟨F, hF⟩ := hs.get 3 rfl
      obtain ⟨q, A, c, hsee⟩ := ca_sees hF
      exact due1_c hsee (hs.blk_at 2 rfl) (hs.blk_at 1 rfl) k (HT.out k hk)
  clear S1 HT
  unfold delF at HD
  generalize undTo X X.length = U at *
  generalize hLL : U.filter (lateP X now) = L at *
  go_wp2_with fail
  refine HD.out.mono ?_
  rintro r w2 ⟨rfl, hs2⟩
  have hs2' : Sep B w w2 (grow intE 3 (.slice A1 L.length c1) L :: blk qn (.cells #[.int .i64 now] 2) :: blk qa (.cells #[.pointer (some ⟨p, 0, none⟩)] 24) :: ca p T X M :: Rs) := hs2
  have HSO := Lib.hid (sort_s hs2' (fun k hk => (HIN.out k hk).1) HINC.out (by have := HUL.out.2; omega))
  unfold SortC.cmpF at HSO
  clear hs2 hs2' HD HINC hLL
  go_wp2_with fail
  refine HSO.out.mono ?_
  rintro r w3 ⟨rfl, L', hlen', hp, hpw, hs3⟩
  have HRUN := Lib.hid (HFIN.out L' hp hpw)
  have HTH : Hid (∀ k ∈ L', there T k = true) := fun k hk => (HIN.out k (hp.mem_iff.1 hk)).1
  have hs4 := nil_grow (grow_nums (B := B) (w := w) (wk := w3) (l := L') (v := .slice A1 L.length c1) (by exact hs3) (by have := HUL.out.2; omega))
  have hs5 := hs4.perm (List.perm_middle (l₁ := [_, _, _, _]) (a := ca p T X M) (l₂ := Rs))
  obtain ⟨q, u, hs6, _, _⟩ := ca_open hs5
  obtain ⟨Ax, cx, rfl⟩ := (hs6.own 2 rfl).form
  have hLL : L.length = L'.length := hlen'.symm
  rw [hLL] at hs6
  rw [hLL]
  have hL2 : L'.length ≤ 200 := by have := HUL.out.2; omega
  have S6 := Lib.hid hs6
  clear hlen' hp hpw hs3 hs4 hs5 hs6 HSO HFIN HIN HUL hLL
  obtain ⟨n0, hn0⟩ : ∃ n0, X.length = n0 := ⟨_, rfl⟩
  have HX0 : Hid (X.length = n0) := hn0
  rw [hn0] at S6 hm HLEN
  clear hn0
  go_wp2
  go_loopw [6, 18] (fun o t W => ∃ i : Nat, i ≤ L'.length ∧ t = .int .i64 i ∧ Hid (∃ P X' A cc, o = .slice A P.length cc ∧ X'.length = n0 ∧ P.length ≤ 200 * i ∧ P ++ (dueRun T (L'.drop i) X').1 = DO ∧ (dueRun T (L'.drop i) X').2 = DX ∧ Sep B w W (blk p (.cells #[.pointer (some ⟨q, 0, none⟩), .slice Ax n0 cx] 79) :: tt q T M :: grow xE 76 (.slice Ax n0 cx) X' :: grow intE 3 (.slice A P.length cc) P :: nums (.slice A1 L'.length c1) L' :: blk qn (.cells #[.int .i64 now] 2) :: blk qa (.cells #[.pointer (some ⟨p, 0, none⟩)] 24) :: Rs))) (fun _ t _ => L'.length - (intOf t).toNat)
  case atStart =>
    refine ⟨0, Nat.zero_le _, rfl, [], X, none, 0, rfl, HX0.out, Nat.zero_le _, ?_, ?_, S6.out⟩
    · rw [List.drop_zero, HRUN.out]; rfl
    · rw [List.drop_zero, HRUN.out]
  case round =>
    obtain ⟨i, hi, rfl, HG⟩ := hrel
    obtain ⟨P, X', Ao, co, rfl, hX', hPl, hP1, hP2, hS⟩ := HG.out
    have HXL : Hid (X'.length = n0) := hX'
    subst hX'
    have HTX : Hid (T.length = X'.length) := HLEN.out
    clear HG S6 HRUN HX0
    by_cases hlt : i < L'.length
    · have hg : L'[i]? = some (L'.getD i 0) := by rw [List.getD_eq_getElem?_getD, List.getElem?_eq_getElem hlt]; rfl
      have hdr : L'.drop i = L'.getD i 0 :: L'.drop (i + 1) := by
        have : L'.getD i 0 = L'[i] := by rw [List.getD_eq_getElem?_getD, List.getElem?_eq_getElem hlt]; rfl
        rw [this, ← List.drop_eq_getElem_cons hlt]
      obtain ⟨j, hj, hjl⟩ := there_nat (HTH.out _ (List.mem_of_getElem? hg))
      obtain ⟨b1, o1, rfl, _, _, hc1⟩ := Rd.cells (hS.rd 4 rfl) (by omega)
      have q0 := hc1 i hlt
      rw [hj] at q0 hdr
      have hjX : j < X'.length := by have := HTX.out; omega
      obtain ⟨bb, cb, eA, _, hcell, _⟩ := hS.elem 2 rfl (cn_at hjX)
      obtain ⟨rfl, rfl⟩ : Ax = some ⟨bb, 0, none⟩ ∧ cx = cb := by injection eA with e1 e2 e3; exact ⟨e1, e3⟩
      have HP1 : Hid (P ++ (toldL X' (reachT T j) ++ (dueRun T (L'.drop (i + 1)) (markL X' (reachT T j) (lateE (cn X' (j : Nat))) (lateZ (cn X' (j : Nat))))).1) = DO) := by show _ = _; rw [← hP1, hdr]; rfl
      have HP2 : Hid ((dueRun T (L'.drop (i + 1)) (markL X' (reachT T j) (lateE (cn X' (j : Nat))) (lateZ (cn X' (j : Nat))))).2 = DX) := by show _ = _; rw [← hP2, hdr]; rfl
      have HML : Hid (∀ e z, ∃ y, (markL X' (reachT T j) e z)[j]? = some y ∧ lateE y = lateE (cn X' (j : Nat)) ∧ lateZ y = lateZ (cn X' (j : Nat))) := fun e z => by
        rw [markL_get, cn_at hjX]
        refine ⟨if (j : Int) ∈ reachT T j ∧ (cn X' (j : Nat)).e = 0 then CtxP.mark e z (cn X' (j : Nat)) else cn X' (j : Nat), rfl, ?_⟩
        split <;> exact ⟨rfl, rfl⟩
      have HTL : Hid ((toldL X' (reachT T j)).length ≤ 200) := by
        have h1 := told_len X' (reachT T j)
        have h2 := reach_len HWF.out (j : Int)
        have := HTX.out
        show _ ≤ _
        omega
      have HEND := Lib.hid (endAll_o hS.drew HTX.out HOK.out (j : Int) (lateE (cn X' (j : Nat))) (lateZ (cn X' (j : Nat))))
      have HCF : Hid (∀ (W : World) (X2 : List Cn) (R3 R4 : Res), Sep B w W (blk p (.cells #[.pointer (some ⟨q, 0, none⟩), .slice (some ⟨bb, 0, none⟩) X'.length cx] 79) :: tt q T M :: grow xE 76 (.slice (some ⟨bb, 0, none⟩) X'.length cx) X2 :: R3 :: R4 :: blk qn (.cells #[.int .i64 now] 2) :: blk qa (.cells #[.pointer (some ⟨p, 0, none⟩)] 24) :: Rs) → (∃ y, X2[j]? = some y ∧ lateE y = lateE (cn X' (j : Nat)) ∧ lateZ y = lateZ (cn X' (j : Nat))) →
          W.cell? ⟨qa, 0, none⟩ = some (.pointer (some ⟨p, 0, none⟩)) ∧ W.cell? ⟨p, 1, none⟩ = some (.slice (some ⟨bb, 0, none⟩) X'.length cx) ∧ W.cell? ⟨bb, j * 9 + 2, none⟩ = some (.int .i64 (lateE (cn X' (j : Nat)))) ∧ W.cell? ⟨bb, j * 9 + 2 + 1, none⟩ = some (.int .i64 (lateZ (cn X' (j : Nat))))) := fun W X2 R3 R4 hs ⟨y, hy, e1, e2⟩ => by
        obtain ⟨b', c', eA, _, hcell, _⟩ := hs.elem 2 rfl hy
        obtain rfl : bb = b' := by injection eA with e1; injection e1 with e1; injection e1
        have h2 := hcell 2 _ rfl
        have h3 := hcell 3 _ rfl
        rw [e1] at h2
        rw [e2] at h3
        exact ⟨(cell_block (hs.blk_at 6 rfl) 0).trans rfl, (cell_block (hs.blk_at 0 rfl) 1).trans rfl, h2, h3⟩
      have hC0 := HCF.out _ _ _ _ hS.drew ⟨_, cn_at hjX, rfl, rfl⟩
      have hPl' := hPl
      have i0 : (0 : Int) ≤ (i : Int) := by omega
      have i1 : (i : Int) < (L'.length : Int) := by omega
      have j0 : (0 : Int) ≤ (j : Int) := by omega
      have j1 : (j : Int) < (X'.length : Int) := by omega
      have HRS : Hid (∀ l e z, (markL X' l e z).length = X'.length) := fun l e z => markL_len _ _ _ _
      unfold putF endV at HEND
      clear hg hdr hj hc1 hcell eA hP1 hP2 hS
      generalize lateE (cn X' (j : Nat)) = le at *
      generalize lateZ (cn X' (j : Nat)) = lz at *
      generalize toldL X' (reachT T j) = O at *
      have HML2 := Lib.hid (HML.out le lz)
      have HRS2 := Lib.hid (HRS.out (reachT T j) le lz)
      clear HML HRS
      generalize markL X' (reachT T j) le lz = X2 at *
      go_upto_region 7 with (fail)
      refine Held.begin_ (fun W : World => W.cell? ⟨qa, 0, none⟩ = some (.pointer (some ⟨p, 0, none⟩)) ∧ W.cell? ⟨p, 1, none⟩ = some (.slice (some ⟨bb, 0, none⟩) X'.length cx) ∧ W.cell? ⟨bb, j * 9 + 2, none⟩ = some (.int .i64 le) ∧ W.cell? ⟨bb, j * 9 + 2 + 1, none⟩ = some (.int .i64 lz)) 15 (by kernel_rfl) ?_
      have hC : (fun W : World => W.cell? ⟨qa, 0, none⟩ = some (.pointer (some ⟨p, 0, none⟩)) ∧ W.cell? ⟨p, 1, none⟩ = some (.slice (some ⟨bb, 0, none⟩) X'.length cx) ∧ W.cell? ⟨bb, j * 9 + 2, none⟩ = some (.int .i64 le) ∧ W.cell? ⟨bb, j * 9 + 2 + 1, none⟩ = some (.int .i64 lz)) wr.drew := hC0
      refine Held.take 0 (v := ?_) hC rfl (by kernel_rfl) (by kernel_rfl) (by kernel_rfl) (by kernel_rfl) (fun _ _ _ h => h) ?_ ?_; rotate_left; · (intro W hW; obtain ⟨k0, k1, k2, k3⟩ := hW; go_simp <;> with_reducible rfl)
      try simp only [Act.put, List.setIfInBounds_toArray, List.set_cons_zero, List.set_cons_succ]
      refine Held.take 1 (v := ?_) hC rfl (by kernel_rfl) (by kernel_rfl) (by kernel_rfl) (by kernel_rfl) (fun _ _ _ h => h) ?_ ?_; rotate_left; · (intro W hW; obtain ⟨k0, k1, k2, k3⟩ := hW; go_simp <;> with_reducible rfl)
      try simp only [Act.put, List.setIfInBounds_toArray, List.set_cons_zero, List.set_cons_succ]
      refine Held.take 2 (v := ?_) hC rfl (by kernel_rfl) (by kernel_rfl) (by kernel_rfl) (by kernel_rfl) (fun _ _ _ h => h) ?_ ?_; rotate_left; · (intro W hW; obtain ⟨k0, k1, k2, k3⟩ := hW; go_simp <;> with_reducible rfl)
      try simp only [Act.put, List.setIfInBounds_toArray, List.set_cons_zero, List.set_cons_succ]
      refine Held.take 3 (v := ?_) hC rfl (by kernel_rfl) (by kernel_rfl) (by kernel_rfl) (by kernel_rfl) (fun _ _ _ h => h) ?_ ?_; rotate_left; · (intro W hW; obtain ⟨k0, k1, k2, k3⟩ := hW; go_simp <;> with_reducible rfl)
      try simp only [Act.put, List.setIfInBounds_toArray, List.set_cons_zero, List.set_cons_succ]
      refine Held.take 4 (v := ?_) hC rfl (by kernel_rfl) (by kernel_rfl) (by kernel_rfl) (by kernel_rfl) (fun _ _ _ h => h) ?_ ?_; rotate_left; · (intro W hW; obtain ⟨k0, k1, k2, k3⟩ := hW; go_simp <;> with_reducible rfl)
      try simp only [Act.put, List.setIfInBounds_toArray, List.set_cons_zero, List.set_cons_succ]
      refine Held.take 5 (v := ?_) hC rfl (by kernel_rfl) (by kernel_rfl) (by kernel_rfl) (by kernel_rfl) (fun _ _ _ h => h) ?_ ?_; rotate_left; · (intro W hW; obtain ⟨k0, k1, k2, k3⟩ := hW; go_simp <;> with_reducible rfl)
      try simp only [Act.put, List.setIfInBounds_toArray, List.set_cons_zero, List.set_cons_succ]
      refine Held.take 6 (v := ?_) hC rfl (by kernel_rfl) (by kernel_rfl) (by kernel_rfl) (by kernel_rfl) (fun _ _ _ h => h) ?_ ?_; rotate_left; · (intro W hW; obtain ⟨k0, k1, k2, k3⟩ := hW; go_simp <;> with_reducible rfl)
      try simp only [Act.put, List.setIfInBounds_toArray, List.set_cons_zero, List.set_cons_succ]
      refine Held.take 7 (v := ?_) hC rfl (by kernel_rfl) (by kernel_rfl) (by kernel_rfl) (by kernel_rfl) (fun _ _ _ h => h) ?_ ?_; rotate_left; · (intro W hW; obtain ⟨k0, k1, k2, k3⟩ := hW; go_simp <;> with_reducible rfl)
      try simp only [Act.put, List.setIfInBounds_toArray, List.set_cons_zero, List.set_cons_succ]
      refine Held.take 8 (v := ?_) hC rfl (by kernel_rfl) (by kernel_rfl) (by kernel_rfl) (by kernel_rfl) (fun _ _ _ h => h) ?_ ?_; rotate_left; · (intro W hW; obtain ⟨k0, k1, k2, k3⟩ := hW; go_simp <;> with_reducible rfl)
      try simp only [Act.put, List.setIfInBounds_toArray, List.set_cons_zero, List.set_cons_succ]
      refine Held.take 9 (v := ?_) hC rfl (by kernel_rfl) (by kernel_rfl) (by kernel_rfl) (by kernel_rfl) (fun _ _ _ h => h) ?_ ?_; rotate_left; · (intro W hW; obtain ⟨k0, k1, k2, k3⟩ := hW; go_simp <;> with_reducible rfl)
      try simp only [Act.put, List.setIfInBounds_toArray, List.set_cons_zero, List.set_cons_succ]
      refine Held.take 10 (v := ?_) hC rfl (by kernel_rfl) (by kernel_rfl) (by kernel_rfl) (by kernel_rfl) (fun _ _ _ h => h) ?_ ?_; rotate_left; · (intro W hW; obtain ⟨k0, k1, k2, k3⟩ := hW; go_simp <;> with_reducible rfl)
      try simp only [Act.put, List.setIfInBounds_toArray, List.set_cons_zero, List.set_cons_succ]
      refine Held.take 11 (v := ?_) hC rfl (by kernel_rfl) (by kernel_rfl) (by kernel_rfl) (by kernel_rfl) (fun _ _ _ h => h) ?_ ?_; rotate_left; · (intro W hW; obtain ⟨k0, k1, k2, k3⟩ := hW; go_simp <;> with_reducible rfl)
      try simp only [Act.put, List.setIfInBounds_toArray, List.set_cons_zero, List.set_cons_succ]
      refine Held.take 12 (v := ?_) hC rfl (by kernel_rfl) (by kernel_rfl) (by kernel_rfl) (by kernel_rfl) (fun _ _ _ h => h) ?_ ?_; rotate_left; · (intro W hW; obtain ⟨k0, k1, k2, k3⟩ := hW; go_simp <;> with_reducible rfl)
      try simp only [Act.put, List.setIfInBounds_toArray, List.set_cons_zero, List.set_cons_succ]
      refine Held.only 13 (by kernel_rfl) rfl ?_
      intro K hK
      go_simp
      refine HEND.out.mono ?_
      rintro r w5 ⟨A5, c5, rfl, h5⟩
      have hC5 := HCF.out _ _ _ _ h5.tail HML2.out
      have S5 := Lib.hid h5
      clear h5 HEND hC hC0
      refine hK.out _ _ (fun _ => hC5) ?_
      clear hK K
      try simp only [Act.put, List.setIfInBounds_toArray, List.set_cons_zero, List.set_cons_succ]
      refine Held.only 14 (by kernel_rfl) rfl ?_
      intro K hK
      refine wp_appL (.tmp 22) (.tmp 35) intElemL (by rfl) (by rfl) (by rfl) (S5.out.own 4 rfl) ((S5.out.own 0 rfl).rd (G := fun _ => True) (by have := HTL.out; omega) fun _ _ => trivial) (by have := HTL.out; omega) (Nat.zero_le _) ?_
      intro v6 w6 h2 h3 h4
      obtain ⟨l3, hl3⟩ : ∃ l3, l3 = P ++ O := ⟨_, rfl⟩
      rw [← hl3] at h2
      have HL3 := Lib.hid hl3
      clear hl3
      obtain ⟨A6, c6, rfl⟩ := h2.form
      have h6 := (S5.out.grown 4 rfl h2 h3 h4).tail
      have hC6 := HCF.out _ _ _ _ h6 HML2.out
      have S6 := Lib.hid h6
      clear h2 h3 h4 h6 S5 hC5
      refine hK.out _ _ (fun _ => hC6) ?_
      clear hK K
      try simp only [Act.put, List.setIfInBounds_toArray, List.set_cons_zero, List.set_cons_succ]
      refine Held.only 15 (by kernel_rfl) rfl ?_
      intro K hK
      go_simp
      refine hK.out _ _ (fun h => absurd rfl h) ?_
      clear hK K
      try simp only [Act.put, List.setIfInBounds_toArray, List.set_cons_zero, List.set_cons_succ]
      refine Held.done (by kernel_rfl) ?_ _
      clear hC6
      go_wp2
      go_roundw
      case rel =>
        refine ⟨i + 1, by omega, by go_num, l3, X2, A6, c6, rfl, HRS2.out, ?_, ?_, HP2.out, S6.out⟩
        · have := HTL.out; rw [HL3.out, List.length_append]; omega
        · rw [HL3.out, List.append_assoc]; exact HP1.out
      case measure => simp [intOf]; omega
    · have hE : L'.drop i = [] := List.drop_eq_nil_of_le (by omega)
      rw [hE] at hP1 hP2
      have e1 : P = DO := by have := hP1; simp only [dueRun, List.append_nil] at this; exact this
      have e2 : X' = DX := hP2
      subst e1 e2
      have S9 := Lib.hid hS
      clear hP1 hP2 hE hS
      go_wp2
      go_ret
      refine ⟨_, _, rfl, ?_⟩
      have h1 := S9.out.sub (.cons_cons _ (.cons_cons _ (.cons_cons _ (.cons_cons _ (.cons _ (.cons _ (.cons _ (List.Sublist.refl Rs))))))))
      have h2 := h1.perm ((List.perm_middle (l₁ := [_, _, _]) (a := _) (l₂ := Rs)).trans (List.Perm.refl _))
      have h3 := ca_close (h2.perm (show List.Perm (_ :: _ :: _ :: _ :: Rs) _ from ((List.Perm.swap _ _ _).trans ((List.Perm.swap _ _ _).cons _)).trans (((List.Perm.swap _ _ _).cons _).cons _))) HTX.out HOK.out
      exact h3.swap
end
end Go.Proofs.Ytidkppjhmgehoaa.CxC
