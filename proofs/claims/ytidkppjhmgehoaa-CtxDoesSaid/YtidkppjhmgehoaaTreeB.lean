/-
  Contracts of the functions of package tree, as it landed, second part: those that let a node stand. Condition: the tree is at hand.
-/
import Derived.Test.YtidkppjhmgehoaaTreeA
import Derived.Test.YtidkppjhmgehoaaHeld
namespace Go.Proofs.Ytidkppjhmgehoaa.TreeC
open Go.ChangeShapes Go.WideShapes Go.ChangeAt Go.RowKit Mem TreeP Hand

theorem grow_at {B : Nat → Prop} {w W : World} {Rs : List Res} {α : Type} {E : Enc α} {e : TypeId} {v : Value} {X : List α} (h : Sep B w W Rs) (i : Nat) (hi : Rs[i]? = some (grow E e v X)) : OwnL E W 0 e v X := h.own i hi
/-- One node more, whose kids are none. -/
theorem leaf {B : Nat → Prop} {w W : World} {p : Nat} {M : Int} {v : Value} {X : List NdK} {K : List (List Int)} (h : Sep B w W (TR p M v X K)) (hl : X.length = K.length) (x : NdK) (hx : x.kv = .slice none 0 0) : Sep B w W (blk p (.cells #[.int .i64 M, v] 101) :: grow kE 104 v X :: kidsR (X ++ [x]) (K ++ [[]])) := by
  have h1 := h.add (Below.refl _ _) (R := grow intE 3 x.kv []) (F := fun _ => False) ⟨by rw [hx]; exact OwnL.none_ _ _ _, by rw [hx]; funext k; simp [Value.ownBlock]⟩ fun _ h => h.elim
  refine h1.perm ?_
  rw [kidsR_snoc hl]
  unfold TR
  refine List.Perm.trans (List.Perm.swap ..) (.cons _ ?_)
  refine List.Perm.trans (List.Perm.swap ..) (.cons _ ?_)
  exact (List.perm_append_singleton _ _).symm
/-- The row of nodes has grown. -/
def Stood (B : Nat → Prop) (w wn : World) (p : Nat) (M : Int) (X : List NdK) (K : List (List Int)) : Prop := ∃ A c, Sep B w wn (TR p M (.slice A X.length c) X K)

theorem len_k {w : World} {p : Nat} {A : Option Addr} {n c : Nat} (h1 : w.cell? ⟨p, 1, none⟩ = some (.slice A n c)) : Calls Try.prog 38 #[.pointer (some ⟨p, 0, none⟩)] w fun e w' => e = .returned (.int .i64 n) ∧ w = w' := by
  go_enter Try.func38, Try.ntmps38
  go_wp2
  go_ret
  exact ⟨rfl, rfl⟩
theorem st_cells {B : Nat → Prop} {w W : World} {Rs : List Res} {b p : Nat} {x y z m v : Value} {t t' : TypeId} (h : Sep B w W (blk b (.cells #[x, y, z] t) :: blk p (.cells #[m, v] t') :: Rs)) :
    W.cell? ⟨p, 1, none⟩ = some v ∧ W.cell? ⟨b, 0, none⟩ = some x ∧ W.cell? ⟨b, 1, none⟩ = some y ∧ W.cell? ⟨b, 2, none⟩ = some z :=
  ⟨(cell_block (h.blk_at 1 rfl) 1).trans rfl, (cell_block (h.blk_at 0 rfl) 0).trans rfl, (cell_block (h.blk_at 0 rfl) 1).trans rfl, (cell_block (h.blk_at 0 rfl) 2).trans rfl⟩

set_option maxRecDepth 100000 in
set_option maxHeartbeats 2000000 in
theorem stand_yes {B : Nat → Prop} {w wk : World} {p : Nat} {M : Int} {A : Option Addr} {c : Nat} {X : List NdK} {K : List (List Int)} (h : Sep B w wk (TR p M (.slice A X.length c) X K)) (hK : X.length = K.length) (hlt : (X.length : Int) < M) (hlen : X.length ≤ 1000) (a : Nd) :
    Calls Try.prog 61 #[.pointer (some ⟨p, 0, none⟩), .agg #[.int .i64 a.over, .bool a.cut, .slice none 0 0]] wk fun e wn => e = .returned (.tuple #[.int .i64 X.length, .int .i64 0]) ∧ Stood B w wn p M (X ++ [⟨a, none, 0, 0⟩]) (K ++ [[]]) := by

  have h1 := leaf h hK ⟨a, none, 0, 0⟩ rfl
  have HS := Lib.hid (h1.new (.cells #[.int .i64 a.over, .bool a.cut, .slice none 0 0] 104))
  clear h h1 hK
  have hd : ((X.length : Int) == M) = false := by simp; omega
  have hb0 := HS.out.blk_at 0 rfl
  have hb1 := HS.out.blk_at 1 rfl
  have q0 := (cell_block hb1 0).trans rfl
  have q1 := (cell_block hb1 1).trans rfl
  have hne : wk.heap.size ≠ p := by
    obtain ⟨_, F1, F2, ⟨_, rfl⟩, ⟨F3, F4, ⟨_, rfl⟩, _, s3, _, _⟩, _, _, d⟩ := HS.out
    exact fun e => d wk.heap.size rfl (s3 _ e)
  clear hb0 hb1
  go_enter Try.func61, Try.ntmps61
  go_wp2
  go_quiet (fail)
  go_wp2
  have HS1 : Hid (Sep B w ((wk.alloc (.cells #[.int .i64 a.over, .bool a.cut, .slice none 0 0] 104)).drewN nq) (blk wk.heap.size (.cells #[.int .i64 a.over, .bool a.cut, .slice none 0 0] 104) :: blk p (.cells #[.int .i64 M, .slice A X.length c] 101) :: grow kE 104 (.slice A X.length c) X :: kidsR (X ++ [⟨a, none, 0, 0⟩]) (K ++ [[]]))) := HS.out.drewN _
  generalize (wk.alloc (.cells #[.int .i64 a.over, .bool a.cut, .slice none 0 0] 104)).drewN nq = W at *
  clear HS q0 q1
  have HC0 := Lib.hid (st_cells HS1.out)
  refine Held.begin_ (fun W : World => W.cell? ⟨p, 1, none⟩ = some (.slice A X.length c) ∧ W.cell? ⟨wk.heap.size, 0, none⟩ = some (.int .i64 a.over) ∧ W.cell? ⟨wk.heap.size, 1, none⟩ = some (.bool a.cut) ∧ W.cell? ⟨wk.heap.size, 2, none⟩ = some (.slice none 0 0)) 10 (by kernel_rfl) ?_
  have hC : (fun W : World => W.cell? ⟨p, 1, none⟩ = some (.slice A X.length c) ∧ W.cell? ⟨wk.heap.size, 0, none⟩ = some (.int .i64 a.over) ∧ W.cell? ⟨wk.heap.size, 1, none⟩ = some (.bool a.cut) ∧ W.cell? ⟨wk.heap.size, 2, none⟩ = some (.slice none 0 0)) W.drew := HC0.out
  refine Held.take 0 (v := ?_) hC rfl (by kernel_rfl) (by kernel_rfl) (by kernel_rfl) (by kernel_rfl) (fun _ _ _ h => h) ?_ ?_; rotate_left; · (intro W hW; obtain ⟨k0, k1, k2, k3⟩ := hW; go_simp <;> with_reducible rfl)
  try simp only [Act.put, List.setIfInBounds_toArray, List.set_cons_zero, List.set_cons_succ]
  refine Held.take 1 (v := ?_) hC rfl (by kernel_rfl) (by kernel_rfl) (by kernel_rfl) (by kernel_rfl) (fun _ _ _ h => h) ?_ ?_; rotate_left; · (intro W hW; obtain ⟨k0, k1, k2, k3⟩ := hW; go_simp <;> with_reducible rfl)
  try simp only [Act.put, List.setIfInBounds_toArray, List.set_cons_zero, List.set_cons_succ]
  refine Held.take 2 (v := ?_) hC rfl (by kernel_rfl) (by kernel_rfl) (by kernel_rfl) (by kernel_rfl) (fun _ _ _ h => h) ?_ ?_; rotate_left; · (intro W hW; obtain ⟨k0, k1, k2, k3⟩ := hW; go_simp <;> with_reducible rfl)
  try simp only [Act.put, List.setIfInBounds_toArray, List.set_cons_zero, List.set_cons_succ]
  refine Held.take 3 (v := ?_) hC rfl (by kernel_rfl) (by kernel_rfl) (by kernel_rfl) (by kernel_rfl) (fun _ _ _ h => h) ?_ ?_; rotate_left; · (intro W hW; obtain ⟨k0, k1, k2, k3⟩ := hW; go_simp <;> with_reducible rfl)
  try simp only [Act.put, List.setIfInBounds_toArray, List.set_cons_zero, List.set_cons_succ]
  refine Held.take 4 (v := ?_) hC rfl (by kernel_rfl) (by kernel_rfl) (by kernel_rfl) (by kernel_rfl) (fun _ _ _ h => h) ?_ ?_; rotate_left; · (intro W hW; obtain ⟨k0, k1, k2, k3⟩ := hW; go_simp <;> with_reducible rfl)
  try simp only [Act.put, List.setIfInBounds_toArray, List.set_cons_zero, List.set_cons_succ]
  refine Held.take 5 (v := ?_) hC rfl (by kernel_rfl) (by kernel_rfl) (by kernel_rfl) (by kernel_rfl) (fun _ _ _ h => h) ?_ ?_; rotate_left; · (intro W hW; obtain ⟨k0, k1, k2, k3⟩ := hW; go_simp <;> with_reducible rfl)
  try simp only [Act.put, List.setIfInBounds_toArray, List.set_cons_zero, List.set_cons_succ]
  refine Held.only 6 (by kernel_rfl) rfl ?_
  intro K hK
  go_simp
  have HS2 := Lib.hid (HS1.out.drew.new (.cells #[.int .i64 a.over, .bool a.cut, .slice none 0 0] 104))
  have HC2 := Lib.hid (st_cells HS2.out.tail)
  refine hK.out _ _ (fun _ => HC2.out) ?_
  clear hK K
  try simp only [Act.put, List.setIfInBounds_toArray, List.set_cons_zero, List.set_cons_succ]
  have HRL : Hid (RdL kE (W.drew.alloc (.cells #[.int .i64 a.over, .bool a.cut, .slice none 0 0] 104)) (fun _ => True) (.slice (some ⟨W.drew.heap.size, 0, none⟩) 1 1) [⟨a, none, 0, 0⟩]) := RdL.lit1 (E := kE) W.drew _ ⟨a, none, 0, 0⟩ rfl _ trivial
  refine Held.only 7 (by kernel_rfl) rfl ?_
  intro K hK
  refine wp_appL (.tmp 20) (.tmp 22) kElem (by rfl) (by rfl) (by rfl) (HS2.out.own 3 rfl) HRL.out (by simp; omega) (Nat.zero_le _) ?_
  intro v1 w1 hown1 hgrow hat
  obtain ⟨A1, c1, rfl⟩ := hown1.form
  have HS3 := Lib.hid ((HS2.out.grown 3 rfl hown1 hgrow hat).tail)
  have HC3 := Lib.hid (st_cells HS3.out)
  clear hown1 hgrow hat HS2 HC2 HRL HS1 HC0 hC
  have fz1 := frozen_block (HS3.out.blk_at 1 rfl) 1
  have k31 := HC3.out.1
  refine hK.out _ _ (fun _ => HC3.out) ?_
  clear hK K
  try simp only [Act.put, List.setIfInBounds_toArray, List.set_cons_zero, List.set_cons_succ]
  refine Held.only 8 (by kernel_rfl) rfl ?_
  intro K hK
  go_simp
  refine hK.out _ _ (fun _ => HC3.out) ?_
  clear hK K
  try simp only [Act.put, List.setIfInBounds_toArray, List.set_cons_zero, List.set_cons_succ]
  refine Held.only 9 (by kernel_rfl) rfl ?_
  intro K hK
  go_simp
  refine hK.out _ _ (fun _ => HC3.out) ?_
  clear hK K
  try simp only [Act.put, List.setIfInBounds_toArray, List.set_cons_zero, List.set_cons_succ]
  refine Held.only 10 (by kernel_rfl) rfl ?_
  intro K hK
  go_simp
  refine hK.out _ _ (fun h => absurd rfl h) ?_
  clear hK K
  try simp only [Act.put, List.setIfInBounds_toArray, List.set_cons_zero, List.set_cons_succ]
  refine Held.done (by kernel_rfl) ?_ _
  have HS4 := Lib.hid ((HS3.out.set 1 rfl 1 (.slice A1 (X ++ [(⟨a, none, 0, 0⟩ : NdK)]).length c1)).tail)
  have hla : (X ++ [(⟨a, none, 0, 0⟩ : NdK)]).length = X.length + 1 := by simp
  clear HS3 HC3 fz1 k31
  rw [hla] at HS4
  have hv := HS4.out.blk_at 0 rfl
  generalize w1.setCell ⟨p, 1, none⟩ (.slice A1 (X.length + 1) c1) = W2 at *
  have HS5 : Hid (Stood B w W2 p M (X ++ [⟨a, none, 0, 0⟩]) (K ++ [[]])) := ⟨A1, c1, by rw [hla]; exact HS4.out⟩
  have k5 : W2.cell? ⟨p, 1, none⟩ = some (.slice A1 (X.length + 1) c1) := (cell_block hv 1).trans rfl
  clear HS4 hv hla
  go_wp2_with fail
  refine (len_k k5).mono ?_
  rintro e w1 ⟨rfl, rfl⟩
  go_wp2
  go_ret2
  exact ⟨by congr 3, HS5.out⟩
set_option maxRecDepth 100000 in
theorem stand_no {w : World} {G : Nat → Prop} {p : Nat} {L : List Nd} {M : Int} (h : View w G p L M) (hlt : (L.length : Int) = M) (a : Nd) :
    Calls Try.prog 61 #[.pointer (some ⟨p, 0, none⟩), .agg #[.int .i64 a.over, .bool a.cut, .slice none 0 0]] w fun e w' => e = .returned (.tuple #[.int .i64 (-1), .int .i64 2]) ∧ Below w.heap.size w w' := by
  have hb := new_below0 w (.cells #[.int .i64 a.over, .bool a.cut, .slice none 0 0] 104)
  obtain ⟨A, c, q0, q1, _⟩ := (h.below hb).head
  have hpp := h.lt
  have hd : ((L.length : Int) == M) = true := by simpa using hlt
  clear h hlt
  go_enter Try.func61, Try.ntmps61
  go_wp2
  go_quiet (fail)
  go_wp2
  go_ret2
  exact ⟨rfl, below_drewN hb _⟩

theorem TA.stays {w wn : World} {F : Nat → Prop} {p : Nat} {M : Int} {X : List NdK} {L : List Nd} (hok : Ok L M) (hx : X.map (·.nd) = L) (h : Stood F w wn p M X (KL L)) : ∃ F', TA wn (.pointer (some ⟨p, 0, none⟩)) F' L M ∧ Only F w wn ∧ ∀ k, F' k → F k ∨ w.heap.size ≤ k := by
  obtain ⟨A, c, hs⟩ := h
  have hlen : X.length = L.length := by rw [← hx, List.length_map]
  rw [hlen] at hs
  exact ⟨fun k => (F k ∨ w.heap.size ≤ k) ∧ k < wn.heap.size, ⟨p, A, c, X, rfl, hok, hx, hs.2.mono fun k a b => ⟨b, a⟩, fun k hk => hk.2⟩, hs.1, fun k hk => hk.1⟩

set_option maxRecDepth 100000 in
theorem root_c {w : World} {v : Value} {F : Nat → Prop} {L : List Nd} {M : Int} (h : TA w v F L M) : Calls Try.prog 32 #[v] w fun e w' => e = .returned (.tuple #[.int .i64 (putV L M), .int .i64 (putE L M)]) ∧ ∃ F', TA w' v F' (putL L M ⟨-1, false⟩) M ∧ Only F w w' ∧ ∀ k, F' k → F k ∨ w.heap.size ≤ k := by
  have HA := Lib.hid h
  obtain ⟨p, A, c, X, rfl, hok, hx, ha, hl⟩ := h
  have hlen : X.length = L.length := by rw [← hx, List.length_map]
  have hm := hok.m1
  have hll := hok.len
  by_cases hlt : (L.length : Int) < M
  · have HE : Hid (putE L M = 0 ∧ putV L M = L.length ∧ putL L M ⟨-1, false⟩ = L ++ [⟨-1, false⟩]) := by unfold putE putV putL; rw [if_pos hlt, if_pos hlt, if_pos hlt]; exact ⟨rfl, rfl, rfl⟩
    have HO := Lib.hid hok.root
    have hs : Sep F w w (TR p M (.slice A X.length c) X (KL L)) := by rw [hlen]; exact ⟨Only.refl _ _, ha.mono fun k _ hk => .inl hk⟩
    have HST := Lib.hid (stand_yes hs (by rw [KL_len, hlen]) (by omega) (by omega) ⟨-1, false⟩)
    have HK : Hid (KL (L ++ [⟨-1, false⟩]) = KL L ++ [[]]) := KL_none hok.wf (x := ⟨-1, false⟩) (by show (-1 : Int) < 0; omega)
    have HX : Hid ((X ++ [(⟨⟨-1, false⟩, none, 0, 0⟩ : NdK)]).map (·.nd) = L ++ [⟨-1, false⟩]) := by show _ = _; rw [List.map_append, hx]; rfl
    rw [hlen] at HST
    clear hs HA hok hx ha hl hlen hm hll hlt
    rw [HE.out.1, HE.out.2.1, HE.out.2.2] at *
    clear HE
    go_enter Try.func32, Try.ntmps32
    go_wp2_with fail
    refine HST.out.mono ?_
    rintro e w1 ⟨rfl, h1⟩
    have H1 := Lib.hid h1
    clear h1 HST
    go_wp2
    go_ret2
    exact ⟨rfl, TA.stays HO.out HX.out (by rw [HK.out]; exact H1.out)⟩
  · have HE : Hid (putE L M = 2 ∧ putV L M = -1 ∧ putL L M ⟨-1, false⟩ = L) := by unfold putE putV putL; rw [if_neg hlt, if_neg hlt, if_neg hlt]; exact ⟨rfl, rfl, rfl⟩
    have hv : View w F p L M := view_of ha hx (by omega)
    have HST := Lib.hid (stand_no hv (by omega) ⟨-1, false⟩)
    clear hv hok hx ha hl hlen hm hll hlt
    rw [HE.out.1, HE.out.2.1, HE.out.2.2]
    clear HE
    go_enter Try.func32, Try.ntmps32
    go_wp2_with fail
    refine HST.out.mono ?_
    rintro e w1 ⟨rfl, h1⟩
    have H1 := Lib.hid h1
    clear h1 HST
    go_wp2
    go_ret2
    exact ⟨rfl, F, HA.out.keep H1.out.size fun k hk _ => H1.out.block k hk, Only.of_below H1.out, fun k hk => .inl hk⟩

/-- What the region of Add reads. -/
theorem add_cells {B : Nat → Prop} {w W : World} {Rs : List Res} {p b N c1 : Nat} {m : Value} {X : List NdK} {o : Nat} {x : NdK} (h : Sep B w W Rs) (h0 : Rs[0]? = some (blk p (.cells #[m, .slice (some ⟨b, 0, none⟩) N c1] 101))) (h1 : Rs[1]? = some (grow kE 104 (.slice (some ⟨b, 0, none⟩) N c1) X)) (ho : X[o]? = some x) :
    W.cell? ⟨p, 1, none⟩ = some (.slice (some ⟨b, 0, none⟩) N c1) ∧ W.cell? ⟨b, o * 3 + 2, none⟩ = some (.slice x.ka x.kn x.kc) ∧ ∀ j, W.frozen? ⟨b, j, none⟩ = false := by
  obtain ⟨b', c', e, _, hc, hf⟩ := h.elem 1 h1 ho
  injection e with e1 e2 e3
  injection e1 with e1
  injection e1 with e1
  subst e1
  exact ⟨(cell_block (h.blk_at 0 h0) 1).trans rfl, hc 2 _ rfl, hf⟩
theorem TR_kid {p : Nat} {M : Int} {v : Value} {X : List NdK} {K : List (List Int)} {o : Nat} {x : NdK} {l : List Int} (hx : X[o]? = some x) (hl : K[o]? = some l) : (TR p M v X K)[2 + o]? = some (grow intE 3 x.kv l) := by
  unfold TR
  rw [show 2 + o = (o + 1) + 1 from by omega, List.getElem?_cons_succ, List.getElem?_cons_succ]
  exact kidsR_get hx hl
theorem TR_set (p : Nat) (M : Int) (v : Value) (X : List NdK) (K : List (List Int)) (o : Nat) (x : NdK) (l : List Int) : ((TR p M v X K).set (2 + o) (grow intE 3 x.kv l)).set 1 (grow kE 104 v (X.set o x)) = TR p M v (X.set o x) (K.set o l) := by
  unfold TR
  rw [show 2 + o = (o + 1) + 1 from by omega, kidsR_set]
  rfl

set_option maxRecDepth 100000 in
set_option maxHeartbeats 2000000 in
theorem add_yes {F : Nat → Prop} {w : World} {p : Nat} {M : Int} {A : Option Addr} {c : Nat} {X : List NdK} {L : List Nd} (hA : All w F (TR p M (.slice A X.length c) X (KL L))) (hok : Ok L M) (hx : X.map (·.nd) = L) (o : Nat) (ho : o < L.length) (hlt : (L.length : Int) < M) (cu : Bool) :
    Calls Try.prog 71 #[.pointer (some ⟨p, 0, none⟩), .int .i64 o, .bool cu] w fun e w' => e = .returned (.tuple #[.int .i64 L.length, .int .i64 0]) ∧ ∃ X', X'.map (·.nd) = L ++ [⟨(o : Int), cu⟩] ∧ Stood F w w' p M X' (KL (L ++ [⟨(o : Int), cu⟩])) := by
  have hlen : X.length = L.length := by rw [← hx, List.length_map]
  have hm := hok.m1
  have HV : Hid (View w F p L M) := view_of (by rw [← hlen]; exact hA) hx (by omega)
  have HT : Hid (there L (o : Int) = true) := there_iff.2 (by omega)
  have hs : Sep F w w (TR p M (.slice A X.length c) X (KL L)) := ⟨Only.refl _ _, hA.mono fun k _ hk => .inl hk⟩
  have HST := Lib.hid (stand_yes hs (by rw [KL_len, hlen]) (by omega) (by omega) ⟨(o : Int), cu⟩)
  obtain ⟨x, hxo⟩ : ∃ x, X[o]? = some x := ⟨X[o], List.getElem?_eq_getElem (by omega)⟩
  have HXO : Hid ((X ++ [(⟨⟨(o : Int), cu⟩, none, 0, 0⟩ : NdK)])[o]? = some x) := by show _ = _; rw [List.getElem?_append_left (by omega)]; exact hxo
  have HKO : Hid ((KL L ++ [[]])[o]? = some (kidsT L o)) := by show _ = _; rw [List.getElem?_append_left (by rw [KL_len]; exact ho)]; exact KL_get ho
  have HK : Hid (KL (L ++ [⟨(o : Int), cu⟩]) = (KL L ++ [[]]).set o (kidsT L o ++ [(L.length : Int)])) := KL_some hok.wf ho
  have HX : Hid (∀ x' : NdK, x'.nd = x.nd → ((X ++ [(⟨⟨(o : Int), cu⟩, none, 0, 0⟩ : NdK)]).set o x').map (·.nd) = L ++ [⟨(o : Int), cu⟩]) := by
    intro x' hx'
    rw [List.map_set, List.map_append, hx, hx']
    have h2 : (L ++ List.map (fun y : NdK => y.nd) [(⟨⟨(o : Int), cu⟩, none, 0, 0⟩ : NdK)])[o]? = some x.nd := by
      rw [List.getElem?_append_left ho, ← hx, List.getElem?_map, hxo]
      rfl
    obtain ⟨h3, h4⟩ := List.getElem?_eq_some_iff.1 h2
    rw [← h4, List.set_getElem_self]
    rfl
  have hkl := kidsT_len (L := L) o
  have hnl : (X ++ [(⟨⟨(o : Int), cu⟩, none, 0, 0⟩ : NdK)]).length = L.length + 1 := by simp [hlen]
  have hwe : (L.length : Int) < (L.length + 1 : Nat) := by omega
  rw [hlen] at HST
  clear hs hA hok hx hxo hlen
  generalize X ++ [(⟨⟨(o : Int), cu⟩, none, 0, 0⟩ : NdK)] = X1 at *
  generalize KL L ++ [[]] = K1 at *
  rw [HK.out]
  clear HK
  generalize kidsT L o = ks at *
  have o0 : (0 : Int) ≤ (o : Int) := by omega
  have o1 : (o : Int) < (L.length : Int) + 1 := by omega
  go_enter Try.func71, Try.ntmps71
  go_wp2_with fail
  refine (has_c HV.out o).mono ?_
  rintro e w1 ⟨rfl, rfl⟩
  rw [HT.out]
  go_wp2_with fail
  refine HST.out.mono ?_
  rintro e W ⟨rfl, A1, c1, hs1⟩
  have hs1' := hs1
  obtain ⟨b, c', e, _, _, _⟩ := hs1.elem 1 rfl HXO.out
  injection e with e1 e2 e3
  subst e1 e3
  rw [hnl] at hs1
  have HS1 := Lib.hid hs1
  have HC1 := Lib.hid (add_cells hs1 rfl rfl HXO.out)
  obtain ⟨A4, c4, e4⟩ := (hs1.own (2 + o) (TR_kid HXO.out HKO.out)).form
  have hkn : x.kn = ks.length := by unfold NdK.kv at e4; injection e4
  clear hs1 hs1' HST e2
  obtain ⟨nd', ka, kn, kc⟩ := x
  change kn = ks.length at hkn
  subst hkn
  clear e4
  go_wp2
  refine Held.begin_ (fun W : World => W.cell? ⟨p, 1, none⟩ = some (.slice (some ⟨b, 0, none⟩) (L.length + 1) c1) ∧ W.cell? ⟨b, o * 3 + 2, none⟩ = some (.slice ka ks.length kc)) 18 (by kernel_rfl) ?_
  have hC : (fun W : World => W.cell? ⟨p, 1, none⟩ = some (.slice (some ⟨b, 0, none⟩) (L.length + 1) c1) ∧ W.cell? ⟨b, o * 3 + 2, none⟩ = some (.slice ka ks.length kc)) W.drew := ⟨HC1.out.1, HC1.out.2.1⟩
  refine Held.take 0 (v := ?_) hC rfl (by kernel_rfl) (by kernel_rfl) (by kernel_rfl) (by kernel_rfl) (fun _ _ _ h => h) ?_ ?_; rotate_left; · (intro W hW; obtain ⟨k0, k1⟩ := hW; go_simp <;> with_reducible rfl)
  try simp only [Act.put, List.setIfInBounds_toArray, List.set_cons_zero, List.set_cons_succ]
  refine Held.take 1 (v := ?_) hC rfl (by kernel_rfl) (by kernel_rfl) (by kernel_rfl) (by kernel_rfl) (fun _ _ _ h => h) ?_ ?_; rotate_left; · (intro W hW; obtain ⟨k0, k1⟩ := hW; go_simp <;> with_reducible rfl)
  try simp only [Act.put, List.setIfInBounds_toArray, List.set_cons_zero, List.set_cons_succ]
  refine Held.take 2 (v := ?_) hC rfl (by kernel_rfl) (by kernel_rfl) (by kernel_rfl) (by kernel_rfl) (fun _ _ _ h => h) ?_ ?_; rotate_left; · (intro W hW; obtain ⟨k0, k1⟩ := hW; go_simp <;> with_reducible rfl)
  try simp only [Act.put, List.setIfInBounds_toArray, List.set_cons_zero, List.set_cons_succ]
  refine Held.take 3 (v := ?_) hC rfl (by kernel_rfl) (by kernel_rfl) (by kernel_rfl) (by kernel_rfl) (fun _ _ _ h => h) ?_ ?_; rotate_left; · (intro W hW; obtain ⟨k0, k1⟩ := hW; go_simp <;> with_reducible rfl)
  try simp only [Act.put, List.setIfInBounds_toArray, List.set_cons_zero, List.set_cons_succ]
  refine Held.take 4 (v := ?_) hC rfl (by kernel_rfl) (by kernel_rfl) (by kernel_rfl) (by kernel_rfl) (fun _ _ _ h => h) ?_ ?_; rotate_left; · (intro W hW; obtain ⟨k0, k1⟩ := hW; go_simp <;> with_reducible rfl)
  try simp only [Act.put, List.setIfInBounds_toArray, List.set_cons_zero, List.set_cons_succ]
  refine Held.take 5 (v := ?_) hC rfl (by kernel_rfl) (by kernel_rfl) (by kernel_rfl) (by kernel_rfl) (fun _ _ _ h => h) ?_ ?_; rotate_left; · (intro W hW; obtain ⟨k0, k1⟩ := hW; go_simp <;> with_reducible rfl)
  try simp only [Act.put, List.setIfInBounds_toArray, List.set_cons_zero, List.set_cons_succ]
  refine Held.take 6 (v := ?_) hC rfl (by kernel_rfl) (by kernel_rfl) (by kernel_rfl) (by kernel_rfl) (fun _ _ _ h => h) ?_ ?_; rotate_left; · (intro W hW; obtain ⟨k0, k1⟩ := hW; go_simp <;> with_reducible rfl)
  try simp only [Act.put, List.setIfInBounds_toArray, List.set_cons_zero, List.set_cons_succ]
  refine Held.take 7 (v := ?_) hC rfl (by kernel_rfl) (by kernel_rfl) (by kernel_rfl) (by kernel_rfl) (fun _ _ _ h => h) ?_ ?_; rotate_left; · (intro W hW; obtain ⟨k0, k1⟩ := hW; go_simp <;> with_reducible rfl)
  try simp only [Act.put, List.setIfInBounds_toArray, List.set_cons_zero, List.set_cons_succ]
  refine Held.take 8 (v := ?_) hC rfl (by kernel_rfl) (by kernel_rfl) (by kernel_rfl) (by kernel_rfl) (fun _ _ _ h => h) ?_ ?_; rotate_left; · (intro W hW; obtain ⟨k0, k1⟩ := hW; go_simp <;> with_reducible rfl)
  try simp only [Act.put, List.setIfInBounds_toArray, List.set_cons_zero, List.set_cons_succ]
  refine Held.take 9 (v := ?_) hC rfl (by kernel_rfl) (by kernel_rfl) (by kernel_rfl) (by kernel_rfl) (fun _ _ _ h => h) ?_ ?_; rotate_left; · (intro W hW; obtain ⟨k0, k1⟩ := hW; go_simp <;> with_reducible rfl)
  try simp only [Act.put, List.setIfInBounds_toArray, List.set_cons_zero, List.set_cons_succ]
  refine Held.take 10 (v := ?_) hC rfl (by kernel_rfl) (by kernel_rfl) (by kernel_rfl) (by kernel_rfl) (fun _ _ _ h => h) ?_ ?_; rotate_left; · (intro W hW; obtain ⟨k0, k1⟩ := hW; go_simp <;> with_reducible rfl)
  try simp only [Act.put, List.setIfInBounds_toArray, List.set_cons_zero, List.set_cons_succ]
  refine Held.take 11 (v := ?_) hC rfl (by kernel_rfl) (by kernel_rfl) (by kernel_rfl) (by kernel_rfl) (fun _ _ _ h => h) ?_ ?_; rotate_left; · (intro W hW; obtain ⟨k0, k1⟩ := hW; go_simp <;> with_reducible rfl)
  try simp only [Act.put, List.setIfInBounds_toArray, List.set_cons_zero, List.set_cons_succ]
  refine Held.take 12 (v := ?_) hC rfl (by kernel_rfl) (by kernel_rfl) (by kernel_rfl) (by kernel_rfl) (fun _ _ _ h => h) ?_ ?_; rotate_left; · (intro W hW; obtain ⟨k0, k1⟩ := hW; go_simp <;> with_reducible rfl)
  try simp only [Act.put, List.setIfInBounds_toArray, List.set_cons_zero, List.set_cons_succ]
  refine Held.take 13 (v := ?_) hC rfl (by kernel_rfl) (by kernel_rfl) (by kernel_rfl) (by kernel_rfl) (fun _ _ _ h => h) ?_ ?_; rotate_left; · (intro W hW; obtain ⟨k0, k1⟩ := hW; go_simp <;> with_reducible rfl)
  try simp only [Act.put, List.setIfInBounds_toArray, List.set_cons_zero, List.set_cons_succ]
  refine Held.only 14 (by kernel_rfl) rfl ?_
  intro K hK
  go_simp
  have HS2 := Lib.hid (HS1.out.drew.new (.cells #[.int .i64 L.length] 3))
  have HC2 := Lib.hid (add_cells HS2.out.tail rfl rfl HXO.out)
  refine hK.out _ _ (fun _ => ⟨HC2.out.1, HC2.out.2.1⟩) ?_
  clear hK K
  try simp only [Act.put, List.setIfInBounds_toArray, List.set_cons_zero, List.set_cons_succ]
  have HRL : Hid (RdL intE (W.drew.alloc (.cells #[.int .i64 L.length] 3)) (fun _ => True) (.slice (some ⟨W.drew.heap.size, 0, none⟩) 1 1) [(L.length : Int)]) := RdL.lit1 (E := intE) W.drew _ _ rfl _ trivial
  refine Held.only 15 (by kernel_rfl) rfl ?_
  intro K hK
  refine wp_appL (.tmp 36) (.tmp 38) intElemL (by rfl) (by rfl) (by rfl) (HS2.out.tail.own (2 + o) (TR_kid HXO.out HKO.out)) HRL.out (by simp; omega) (Nat.zero_le _) ?_
  intro v1 w1 hown1 hgrow hat
  obtain ⟨A5, c5, rfl⟩ := hown1.form
  have HS3 := Lib.hid (HS2.out.tail.grown (2 + o) (TR_kid HXO.out HKO.out) hown1 hgrow hat)
  have HC3 := Lib.hid (add_cells HS3.out (by rw [List.getElem?_set, if_neg (by omega)]; rfl) (by rw [List.getElem?_set, if_neg (by omega)]; rfl) HXO.out)
  clear hown1 hgrow hat HS2 HC2 HRL HS1 HC1 hC
  have fz1 := HC3.out.2.2 (o * 3 + 2)
  have k31 := HC3.out.2.1
  refine hK.out _ _ (fun _ => ⟨HC3.out.1, HC3.out.2.1⟩) ?_
  clear hK K
  try simp only [Act.put, List.setIfInBounds_toArray, List.set_cons_zero, List.set_cons_succ]
  refine Held.only 16 (by kernel_rfl) rfl ?_
  intro K hK
  go_simp
  refine hK.out _ _ (fun _ => ⟨HC3.out.1, HC3.out.2.1⟩) ?_
  clear hK K
  try simp only [Act.put, List.setIfInBounds_toArray, List.set_cons_zero, List.set_cons_succ]
  refine Held.only 17 (by kernel_rfl) rfl ?_
  intro K hK
  go_simp
  refine hK.out _ _ (fun _ => ⟨HC3.out.1, HC3.out.2.1⟩) ?_
  clear hK K
  try simp only [Act.put, List.setIfInBounds_toArray, List.set_cons_zero, List.set_cons_succ]
  refine Held.only 18 (by kernel_rfl) rfl ?_
  intro K hK
  go_simp
  refine hK.out _ _ (fun h => absurd rfl h) ?_
  clear hK K
  try simp only [Act.put, List.setIfInBounds_toArray, List.set_cons_zero, List.set_cons_succ]
  refine Held.done (by kernel_rfl) ?_ _
  have hset : X1.set o (⟨nd', A5, (ks ++ [(L.length : Int)]).length, c5⟩ : NdK) = X1.set o ⟨nd', A5, (ks ++ [(L.length : Int)]).length, c5⟩ := rfl
  have HS4 := Lib.hid (HS3.out.setc 1 (by rw [List.getElem?_set, if_neg (by omega)]; rfl) (x' := ⟨nd', A5, (ks ++ [(L.length : Int)]).length, c5⟩) (j := 2) (u := .slice A5 (ks ++ [(L.length : Int)]).length c5) HXO.out (by show 2 < 3; omega) rfl)
  have HS5 : Hid (Stood F w (w1.setCell ⟨b, o * 3 + 2, none⟩ (.slice A5 (ks ++ [(L.length : Int)]).length c5)) p M (X1.set o ⟨nd', A5, (ks ++ [(L.length : Int)]).length, c5⟩) (K1.set o (ks ++ [(L.length : Int)]))) := by
    refine ⟨some ⟨b, 0, none⟩, c1, ?_⟩
    have h4 := HS4.out
    rw [List.length_set, hnl]
    exact (TR_set p M (.slice (some ⟨b, 0, none⟩) (L.length + 1) c1) X1 K1 o ⟨nd', A5, (ks ++ [(L.length : Int)]).length, c5⟩ (ks ++ [(L.length : Int)])) ▸ h4
  have HXX := Lib.hid (HX.out ⟨nd', A5, (ks ++ [(L.length : Int)]).length, c5⟩ rfl)
  have hla : (ks ++ [(L.length : Int)]).length = ks.length + 1 := by simp
  clear HS4 HS3 HC3 fz1 k31 hset HX
  rw [hla] at HS5 HXX
  generalize w1.setCell ⟨b, o * 3 + 2, none⟩ (.slice A5 (ks.length + 1) c5) = W2 at *
  go_wp2
  go_ret2
  exact ⟨rfl, _, HXX.out, HS5.out⟩

set_option maxRecDepth 100000 in
theorem add_c {w : World} {v : Value} {F : Nat → Prop} {L : List Nd} {M : Int} (h : TA w v F L M) (n : Int) (cu : Bool) : Calls Try.prog 71 #[v, .int .i64 n, .bool cu] w fun e w' => e = .returned (.tuple #[.int .i64 (addV L M n), .int .i64 (addE L M n)]) ∧ ∃ F', TA w' v F' (addL L M n cu) M ∧ Only F w w' ∧ ∀ k, F' k → F k ∨ w.heap.size ≤ k := by
  have HA := Lib.hid h
  obtain ⟨p, A, c, X, rfl, hok, hx, ha, hl⟩ := h
  have hlen : X.length = L.length := by rw [← hx, List.length_map]
  have hm := hok.m1
  have hll := hok.len
  have hv : View w F p L M := view_of ha hx (by omega)
  have HV := Lib.hid hv
  rcases ht : there L n with _ | _
  · have HE : Hid (addE L M n = 3 ∧ addV L M n = -1 ∧ addL L M n cu = L) := by unfold addE addV addL; rw [ht]; exact ⟨rfl, rfl, rfl⟩
    have HT := Lib.hid ht
    clear hv hok hx ha hl hlen hm hll ht
    rw [HE.out.1, HE.out.2.1, HE.out.2.2]
    clear HE
    go_enter Try.func71, Try.ntmps71
    go_wp2_with fail
    refine (has_c HV.out n).mono ?_
    rintro e w1 ⟨rfl, rfl⟩
    rw [HT.out]
    go_wp2
    go_ret2
    exact ⟨rfl, F, HA.out, Only.refl _ _, fun k hk => .inl hk⟩
  · have hn := there_iff.1 ht
    by_cases hlt : (L.length : Int) < M
    · obtain ⟨o, rfl, ho⟩ := there_nat ht
      have HE : Hid (addE L M o = 0 ∧ addV L M o = L.length ∧ addL L M o cu = L ++ [⟨(o : Int), cu⟩]) := by unfold addE addV addL; rw [ht]; unfold putE putV putL; rw [if_pos hlt, if_pos hlt, if_pos hlt]; exact ⟨rfl, rfl, rfl⟩
      have HO := Lib.hid (hok.add (o : Int) cu)
      rw [HE.out.1, HE.out.2.1, HE.out.2.2] at *
      rw [← hlen] at ha
      refine (add_yes ha hok hx o ho hlt cu).mono ?_
      rintro e w1 ⟨rfl, X', hx', hst⟩
      exact ⟨rfl, TA.stays HO.out hx' hst⟩
    · have HE : Hid (addE L M n = 2 ∧ addV L M n = -1 ∧ addL L M n cu = L) := by unfold addE addV addL; rw [ht]; unfold putE putV putL; rw [if_neg hlt, if_neg hlt, if_neg hlt]; exact ⟨rfl, rfl, rfl⟩
      have HT := Lib.hid ht
      have HST := Lib.hid (stand_no hv (by omega) ⟨n, cu⟩)
      clear hv hok hx ha hl hlen hm hll ht hn hlt
      rw [HE.out.1, HE.out.2.1, HE.out.2.2]
      clear HE
      go_enter Try.func71, Try.ntmps71
      go_wp2_with fail
      refine (has_c HV.out n).mono ?_
      rintro e w1 ⟨rfl, rfl⟩
      rw [HT.out]
      go_wp2_with fail
      refine HST.out.mono ?_
      rintro e w1 ⟨rfl, h1⟩
      have H1 := Lib.hid h1
      clear h1 HST
      go_wp2
      go_ret2
      exact ⟨rfl, F, HA.out.keep H1.out.size fun k hk _ => H1.out.block k hk, Only.of_below H1.out, fun k hk => .inl hk⟩
end Go.Proofs.Ytidkppjhmgehoaa.TreeC
