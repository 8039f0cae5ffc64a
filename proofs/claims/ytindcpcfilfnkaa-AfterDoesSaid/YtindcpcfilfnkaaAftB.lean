/-
  Contracts of the library's functions that package after calls: Index, Delete, Clone. Condition: the slice is at hand, or reads as a list.
-/
import Derived.Test.YtindcpcfilfnkaaAftA
import Derived.Lib.SliceRun
import Derived.ArgAppend
import Derived.StillTailTactics
import Derived.BigQuiet
namespace Go.Proofs.Ytindcpcfilfnkaa.AftC
open Go.ChangeShapes Go.WideShapes Go.ChangeAt Go.RowKit Mem AfterP Hand RefAfter

set_option maxRecDepth 100000 in
/-- Where a number stands first. -/
theorem index_c {w : World} {G : Nat → Prop} {A : Option Addr} {c : Nat} {l : List Int} (hr : Rd w G (.slice A l.length c) l) (x : Int) {k : Nat} (hk : l[k]? = some x) (hn : x ∉ l.take k) :
    Calls Try.prog 27 #[.slice A l.length c, .int .i64 x] w fun e w' => e = .returned (.int .i64 k) ∧ w = w' := by
  have hm : l.length ≤ 1000000 := by obtain ⟨_, _, _, hm, _⟩ := hr; exact hm
  have hkl : k < l.length := (List.getElem?_eq_some_iff.1 hk).1
  obtain ⟨b, off, rfl, _, _, hc⟩ := Rd.cells7 hr (by omega)
  have HC := Lib.hid hc
  have HK := Lib.hid hk
  have HN : Hid (x ∉ l.take k) := hn
  clear hr hc hk hn
  go_enter Try.func27, Try.ntmps27
  go_wp2
  go_loopw [8] (fun t W => ∃ j : Nat, j ≤ k ∧ t = .int .i64 j ∧ W = w) (fun t _ => l.length - (intOf t).toNat)
  case atStart => exact ⟨0, Nat.zero_le _, rfl, rfl⟩
  case round =>
    obtain ⟨j, hj, rfl, rfl⟩ := hrel
    have q0 := HC.out j (by omega)
    have hg : l[j]? = some (l.getD j 0) := by rw [List.getD_eq_getElem?_getD, List.getElem?_eq_getElem (by omega)]; rfl
    have HG := Lib.hid hg
    have i0 : (0 : Int) ≤ (j : Int) := by omega
    have i1 : (j : Int) < (l.length : Int) := by omega
    clear hg
    generalize l.getD j 0 = y at *
    by_cases hjk : j = k
    · subst hjk
      obtain rfl : y = x := by have := HG.out; rw [HK.out] at this; injection this with this; exact this.symm
      go_wp2
      go_ret
      exact ⟨rfl, rfl⟩
    · have e1 : (x == y) = false := by
        rw [beq_eq_false_iff_ne]
        rintro rfl
        refine HN.out ?_
        have hjl : j < (l.take k).length := by rw [List.length_take]; omega
        have h1 : (l.take k)[j]? = some x := by rw [List.getElem?_take, if_pos (by omega)]; exact HG.out
        exact List.mem_of_getElem? h1
      go_wp2
      go_roundw
      case rel => exact ⟨j + 1, by omega, by go_num, trivial⟩
      case measure => simp [intOf]; omega

section
variable {w : World} {b n c : Nat} {l : List Int}
theorem own_set1 (h : OwnL intE w 0 3 (.slice (some ⟨b, 0, none⟩) n c) l) {i : Nat} (hi : i < l.length) (x : Int) : OwnL intE (w.setCell ⟨b, i, none⟩ (.int .i64 x)) 0 3 (.slice (some ⟨b, 0, none⟩) n c) (l.set i x) := by
  have h1 := own_setc h (k := i) (x := l[i]) (x' := x) (j := 0) (u := .int .i64 x) (List.getElem?_eq_getElem hi) (by show 0 < 1; omega) rfl
  rw [show i * intE.sz + 0 = i from by show i * 1 + 0 = i; omega] at h1
  exact h1
theorem own_puts : ∀ (ys : List Int) (o : Nat) (w : World) (l : List Int), o + ys.length ≤ l.length → OwnL intE w 0 3 (.slice (some ⟨b, 0, none⟩) n c) l → ∃ l', OwnL intE (w.setCells b o (ys.map (Value.int .i64))) 0 3 (.slice (some ⟨b, 0, none⟩) n c) l' ∧ l'.length = l.length ∧ l'.take (o + ys.length) = l.take o ++ ys
  | [], o, _, l, _, h => ⟨l, h, rfl, by simp⟩
  | y :: ys, o, w, l, hl, h => by
    rw [List.length_cons] at hl
    have h1 := own_set1 h (i := o) (by omega) y
    obtain ⟨l', h2, h3, h4⟩ := own_puts ys (o + 1) _ (l.set o y) (by rw [List.length_set]; omega) h1
    refine ⟨l', h2, by rw [h3, List.length_set], ?_⟩
    rw [List.length_cons, show o + (ys.length + 1) = o + 1 + ys.length by omega, h4, List.take_add_one, List.take_set_of_le (Nat.le_refl _), List.getElem?_set, if_pos rfl, if_pos (by omega)]
    simp
theorem only_puts {F : Nat → Prop} {w0 : World} (hF : F b) : ∀ (vs : List Value) (o : Nat) (w : World), Only F w0 w → Only F w0 (w.setCells b o vs)
  | [], _, _, h => h
  | v :: vs, o, _, h => only_puts hF vs (o + 1) _ (h.setCell (.inl hF) v)
theorem own_cap (h : OwnL intE w 0 3 (.slice (some ⟨b, 0, none⟩) n c) l) : n = l.length ∧ n ≤ c ∧ (∀ j, j < l.length → w.cell? ⟨b, j, none⟩ = some (.int .i64 (l.getD j 0))) ∧ ∀ j, w.frozen? ⟨b, j, none⟩ = false := by
  have h0 := h
  rcases h.2 with ⟨h', _⟩ | ⟨g, cap, cur, h', hb, hg, hnc, hcm, hcs, hcur⟩
  · injection h' with h'; cases h'
  · injection h' with e1 e2 e3
    injection e1 with e1
    injection e1 with e1
    subst e1 e3
    refine ⟨e2, by omega, fun j hj => ?_, fun j => frozen_block hg j⟩
    have := World.ownsRow.cells h0 (g := b) rfl (j * intE.sz + 0) (.int .i64 (l.getD j 0)) (flat_get l j _ (by rw [List.getD_eq_getElem?_getD, List.getElem?_eq_getElem hj]; rfl) 0 _ rfl)
    rw [add_plain, Nat.zero_add, show j * intE.sz + 0 = j from by show j * 1 + 0 = j; omega] at this
    exact this
theorem flat_intsA : ∀ L : List Int, L.flatMap intE.cells = L.map (Value.int .i64) := fun L => by
  induction L with
  | nil => rfl
  | cons a L ih => rw [List.flatMap_cons, ih]; rfl
theorem own_takeA (h : OwnL intE w 0 3 (.slice (some ⟨b, 0, none⟩) n c) l) {i : Nat} (hi : i ≤ l.length) : OwnL intE w 0 3 (.slice (some ⟨b, 0, none⟩) i c) (l.take i) := by
  obtain ⟨h1, h2⟩ := h
  have e2 : ((l.take i).flatMap intE.cells) = (l.flatMap intE.cells).take (i * 1) := by rw [flat_intsA, flat_intsA, List.map_take, Nat.mul_one]
  refine ⟨?_, ?_⟩
  · rw [flat_intsA]; show _ = (l.take i).length * 1; rw [List.length_map, Nat.mul_one]
  rcases h2 with ⟨h', _⟩ | ⟨g, cap, cur, h', hb, hg, hnc, hcm, hcs, hcur⟩
  · injection h' with h'; cases h'
  · have hl : (l.take i).length = i := by rw [List.length_take]; omega
    injection h' with e3 e4 e5
    subst e5
    have hn : n = l.length := e4
    refine .inr ⟨g, c, cur, by rw [hl]; injection e3 with e3; rw [e3], hb, hg, by rw [hl]; omega, hcm, hcs, ?_⟩
    rw [hl, e2, ← hcur, List.take_take]
    congr 1
    show i * 1 = min (i * 1) (l.length * 1)
    omega
/-- What lies in the row once one is cut out: those behind it are moved, and the last place is cleared. -/
theorem own_cut (h : OwnL intE w 0 3 (.slice (some ⟨b, 0, none⟩) l.length c) l) {k m : Nat} (hk : k < l.length) (hm : m + 1 = l.length) :
    OwnL intE ((w.setCells b k ((l.drop (k + 1)).map (Value.int .i64))).setCells b m (List.replicate 1 (.int .i64 0))) 0 3 (.slice (some ⟨b, 0, none⟩) m c) (l.eraseIdx k) := by
  obtain ⟨l1, h1, h2, h3⟩ := own_puts (l.drop (k + 1)) k w l (by rw [List.length_drop]; omega) h
  obtain ⟨l2, h4, h5, h6⟩ := own_puts [0] m _ l1 (by simp; omega) h1
  have h7 := own_takeA h4 (i := m) (by omega)
  have h8 : l2.take m = l.eraseIdx k := by
    have e1 := congrArg (List.take m) h6
    rw [List.take_take, Nat.min_eq_left (by simp)] at e1
    rw [e1, List.take_append_of_le_length (by rw [List.length_take]; omega), List.take_take, Nat.min_self]
    rw [List.length_drop, show k + (l.length - (k + 1)) = m by omega] at h3
    rw [h3, List.eraseIdx_eq_take_drop_succ]
  rw [h8] at h7
  exact h7
end

/-- 'append', by what it comes to. -/
theorem wpList_appR {P : Program} {w w' : World} {ops : Array Oper} {rest : List Oper} {o : Oper} {a : Act} {Q : Exit → Act → World → Prop} (hgd : o.guard = none) (s x : Operand) {t : TypeId}
    (ho : o.op = .call { callee := .builtin .append, args := #[s, x], argTypes := #[t, t] }) {v sv v' : Value} (hs : a.eval s = v) (hx : a.eval x = sv)
    (hrun : ∀ ty, (Builtin.append_ #[t, t] ty #[v, sv]).run P w = .ok v' w') (h : wpList P ops Q rest (a.put o.dst v') w') : wpList P ops Q (o :: rest) a w := by
  refine wpList_plain hgd fun K hK => ?_
  unfold Oper.wp execOp
  simp only [ho, resolve, invoke, builtin, Sem.run_bind, Sem.run_pure, Result.andThen_ok, List.map_toArray, List.map_cons, List.map_nil, hs, hx, hrun]
  exact hK _ _ h
section
variable {B : Nat → Prop} {w wk : World} {Rs : List Res} {i : Nat} {l : List Int}
set_option maxRecDepth 100000 in
set_option maxHeartbeats 1000000 in
/-- One is cut out of a slice at hand. -/
theorem delete_s {A : Option Addr} {c : Nat} (h : Sep B w wk Rs) (hi : Rs[i]? = some (grow intE 3 (.slice A l.length c) l)) (hl : l.length ≤ 100000) (k j m : Nat) (hk : k < l.length) (hj : j = k + 1) (hm : m + 1 = l.length) :
    Calls Try.prog 28 #[.slice A l.length c, .int .i64 k, .int .i64 j] wk fun r wn => r = .returned (.slice A m c) ∧ Sep B w wn (Rs.set i (grow intE 3 (.slice A m c) (l.eraseIdx k))) := by
  obtain ⟨b, c', eA, g1, g2, g3⟩ := h.elem i hi (List.getElem?_eq_getElem hk)
  clear g1 g2 g3
  obtain ⟨rfl, rfl⟩ : A = some ⟨b, 0, none⟩ ∧ c = c' := by injection eA with e1 e2 e3; exact ⟨e1, e3⟩
  have hown := h.own i hi
  obtain ⟨g1, hcap, hcell, hfr⟩ := own_cap hown
  clear g1
  have HCL : Hid (∀ j, j < l.length → wk.drew.cell? ⟨b, j, none⟩ = some (.int .i64 (l.getD j 0))) := hcell
  have HFR : Hid (∀ j, wk.drew.frozen? ⟨b, j, none⟩ = false) := hfr
  have HFIN : Hid (Sep B w ((wk.drew.setCells b k ((l.drop (k + 1)).map (Value.int .i64))).setCells b m (List.replicate 1 (.int .i64 0))) (Rs.set i (grow intE 3 (.slice (some ⟨b, 0, none⟩) m c) (l.eraseIdx k)))) := by
    obtain ⟨F, ⟨ho, hF⟩, _, hn⟩ := h.drew.upd i hi
    have hFb : F b := by rw [hF]; rfl
    exact hn (grow intE 3 (.slice (some ⟨b, 0, none⟩) m c) (l.eraseIdx k)) (F' := fun k => (Value.slice (some ⟨b, 0, none⟩) m c).ownBlock = some k) ⟨own_cut ho hk hm, rfl⟩ (only_puts hFb _ _ _ (only_puts hFb _ _ _ (Only.refl _ _))) fun k hk => .inl (by simp [Value.ownBlock] at hk; rw [← hk]; exact hFb)
  have hownd : OwnL intE wk.drew 0 3 (.slice (some ⟨b, 0, none⟩) l.length c) l := hown
  clear h hi hown hcell hfr eA
  have hz0 : (0 : Int) ≤ (k : Int) := by omega
  have hz1 : (0 : Int) ≤ (j : Int) := by omega
  have hz2 : (k : Int) ≤ (j : Int) := by omega
  have hz3 : (j : Int) ≤ (l.length : Int) := by omega
  have hz4 : (k : Int) ≤ (l.length : Int) := by omega
  have hz5 : (l.length : Int) ≤ (c : Int) := by omega
  have hz6 : ((k : Int) == (j : Int)) = false := by rw [beq_eq_false_iff_ne]; omega
  have hz7 : (k : Int) ≤ (c : Int) := by omega
  have hz8 : (j : Int) ≤ (c : Int) := by omega
  have hnk : l.length ≠ k := by omega
  have HAP : Hid (∀ o' : Nat, (o' = j ∨ l.length = j) → ∀ ty, (Builtin.append_ #[32, 32] ty #[.slice (some ⟨b, 0, none⟩) k c, .slice (some ⟨b, o', none⟩) (l.length - j) (c - j)]).run Try.prog wk.drew = .ok (.slice (some ⟨b, 0, none⟩) m c) (wk.drew.setCells b k ((l.drop (k + 1)).map (Value.int .i64)))) := fun o' ho ty => by
    obtain ⟨ht, ii, z, bytes, hi1, hz, hs1, hby, hzs, hb⟩ := intElemL
    have hs1 : ii.size = 1 := hs1
    have h1 := run_append_room_cells (P := Try.prog) wk.drew 32 ty 3 ii ht hi1 b 0 k c ⟨b, o', none⟩ (l.length - j) (c - j) ((l.drop (k + 1)).map (Value.int .i64)) (by rw [List.length_map, List.length_drop, hs1]; omega) (fun t u hu => by
        have hlt : t < (l.drop (k + 1)).length := by have := (List.getElem?_eq_some_iff.1 hu).1; simpa using this
        rw [List.length_drop] at hlt
        have ho' : o' = k + 1 := by omega
        rw [add_plain, ho', HCL.out _ (by omega), ← hu, List.getElem?_map, List.getElem?_drop, List.getD_eq_getElem?_getD, List.getElem?_eq_getElem (by omega)]
        rfl)
      (fun u hu => by obtain ⟨x, _, rfl⟩ := List.mem_map.1 hu; rfl) (by omega) (fun t ht => by
        rw [List.length_map, List.length_drop] at ht
        rw [hs1, HCL.out _ (by omega)]
        rfl) (fun t ht => HFR.out _)
    rw [hs1] at h1
    rw [h1, show k + (l.length - j) = m by omega, show 0 + k * 1 = k by omega]
  have HCX : Hid (∀ ty, (Builtin.clear_ #[32] ty #[.slice (some ⟨b, m, none⟩) 1 (c - m)]).run Try.prog (wk.drew.setCells b k ((l.drop (k + 1)).map (Value.int .i64))) = .ok (.tuple #[]) ((wk.drew.setCells b k ((l.drop (k + 1)).map (Value.int .i64))).setCells b m (List.replicate 1 (.int .i64 0)))) := fun ty => by
    obtain ⟨l1, h1, h2, h3⟩ := own_puts (l.drop (k + 1)) k wk.drew l (by rw [List.length_drop]; omega) hownd
    obtain ⟨_, _, q1, q2⟩ := own_cap h1
    exact Lib.run_clear_slice _ _ 3 ty (.int .i64 0) Try.underlying32 (fun w => by kernel_rfl) rfl rfl b m _ _ (by omega) (fun t ht => by rw [q1 _ (by omega)]; rfl) (fun t ht => q2 _)
  have HLJ : Hid (c = j → l.length = j) := fun h => by omega
  have HMN : Hid (l.length - m = 1) := by show _ = _; omega
  have hm0 : (0 : Int) ≤ (m : Int) := by omega
  have hm1 : (m : Int) ≤ (l.length : Int) := by omega
  have hm2 : (m : Int) ≤ (c : Int) := by omega
  have hm3 : c ≠ m := by omega
  clear hj hm hk hownd
  generalize (l.drop (k + 1)).map (Value.int .i64) = ys at *
  go_enter Try.func28, Try.ntmps28
  go_wp2
  refine wp_region_still_tail 6 (by kernel_rfl) (by kernel_rfl) ?_
  simp only [List.take_succ_cons, List.take_zero, List.drop_succ_cons, List.drop_zero]
  change wpStill _ _ wk.drew (fun a' => wpList _ _ _ _ a' wk.drew) _ _
  generalize wk.drew = w2 at *
  by_cases hcj : c = j
  · have hap := HAP.out 0 (.inr (HLJ.out hcj))
    have hcl := HCX.out
    rw [← HMN.out] at hcl HFIN
    clear HAP HCX HLJ HCL HFR
    have e0 : c - j = 0 := by omega
    rw [e0, hcj] at hap
    rw [hcj] at hcl
    repeat still_step
    refine wpStill_nil ?_
    go_wp2_with (at_builtin; refine wpList_appR rfl _ _ rfl rfl rfl hap ?_)
    go_wp2
    go_ret
    exact ⟨by rw [hcj]; rfl, HFIN.out⟩
  · have hap := HAP.out j (.inl rfl)
    have hcl := HCX.out
    rw [← HMN.out] at hcl HFIN
    clear HAP HCX HLJ HCL HFR
    repeat still_step
    refine wpStill_nil ?_
    go_wp2_with (at_builtin; refine wpList_appR rfl _ _ rfl rfl rfl hap ?_)
    go_wp2
    go_ret
    exact ⟨rfl, HFIN.out⟩
/-- A copy of a list that is read. -/
theorem clone_n {w : World} {G : Nat → Prop} {A : Option Addr} {c : Nat} {l : List Int} (h : Rd w G (.slice A l.length c) l) (hl : l.length ≤ 100000) :
    Calls Try.prog 24 #[.slice A l.length c] w fun e w' => ∃ v, e = .returned v ∧ OwnL intE w' w.heap.size 3 v l ∧ Below w.heap.size w w' := by
  have HR := Lib.hid (rdL_of h)
  have hn : A = none → l.length = 0 := by
    intro hA
    subst hA
    obtain ⟨A', c', e, _, hx⟩ := h
    injection e with e
    subst e
    rcases Nat.eq_zero_or_pos l.length with h0 | h0
    · exact h0
    · obtain ⟨b, off, e, _⟩ := hx h0
      cases e
  have HN := Lib.hid hn
  clear h hn
  cases A with
  | none =>
    have h1 := HN.out rfl
    have HR0 : l = [] := List.eq_nil_of_length_eq_zero h1
    subst HR0
    have q22 : ∀ W, (binOp .eql 32 (.slice none 0 c) (.slice none 0 0)).run Try.prog W = .ok (.bool true) W := fun W => Lib.run_eql_slice_nil W _ _ none 0 c 0 0 Try.underlying32
    clear HR HN h1 hl
    show Calls _ _ #[.slice none 0 c] _ _
    go_enter Try.func24, Try.ntmps24
    go_wp2
    go_ret
    exact ⟨_, rfl, OwnL.none_ _ _ _, Below.refl _ _⟩
  | some a =>
    have HR2 : Hid (RdL intE (w.alloc (.cells #[] 3)) (fun _ => True) (.slice (some a) l.length c) l) := (HR.out.mono (G' := fun _ => True) fun _ _ _ => trivial).alloc _
    have q22 : ∀ W, (binOp .eql 32 (.slice (some a) l.length c) (.slice none 0 0)).run Try.prog W = .ok (.bool false) W := fun W => Lib.run_eql_slice_nil W _ _ (some a) _ c 0 0 Try.underlying32
    clear HN HR
    go_enter Try.func24, Try.ntmps24
    go_wp2_with (at_builtin; refine wpList_appL rfl _ _ intElemL rfl rfl rfl (OwnL.lit0 (E := intE) w w.heap.size 3 (Nat.le_refl _)) HR2.out (by simp; omega) (by simp) ?_)
    intro v' w1 hown hgrow hat
    have hown' : OwnL intE w1 w.heap.size 3 v' l := hown
    have HO := Lib.hid hown'
    have HB : Hid (Below w.heap.size w w1) := Below.grown (new_below0 w _) hgrow (by simp) (fun k hk => by simp [Value.ownBlock] at hk; omega)
    obtain ⟨A1, c1, rfl⟩ := hown'.form
    clear hown hown' hgrow hat
    go_wp2
    go_ret
    exact ⟨_, rfl, HO.out, HB.out⟩
/-- .. of registrations. -/
theorem clone_r {w : World} {G : Nat → Prop} {A : Option Addr} {c : Nat} {l : List Rg} (h : RdL rgE w G (.slice A l.length c) l) (hl : l.length ≤ 100000) :
    Calls Try.prog 23 #[.slice A l.length c] w fun e w' => ∃ v, e = .returned v ∧ OwnL rgE w' w.heap.size 54 v l ∧ Below w.heap.size w w' := by
  have HR := Lib.hid h
  have hn : A = none → l.length = 0 := by
    intro hA
    subst hA
    obtain ⟨A', c', e, _, hx⟩ := h
    injection e with e
    subst e
    rcases Nat.eq_zero_or_pos l.length with h0 | h0
    · exact h0
    · obtain ⟨b, off, e, _⟩ := hx h0
      cases e
  have HN := Lib.hid hn
  clear h hn
  cases A with
  | none =>
    have h1 := HN.out rfl
    have HR0 : l = [] := List.eq_nil_of_length_eq_zero h1
    subst HR0
    have q22 : ∀ W, (binOp .eql 45 (.slice none 0 c) (.slice none 0 0)).run Try.prog W = .ok (.bool true) W := fun W => Lib.run_eql_slice_nil W _ _ none 0 c 0 0 Try.underlying45
    clear HR HN h1 hl
    show Calls _ _ #[.slice none 0 c] _ _
    go_enter Try.func23, Try.ntmps23
    go_wp2
    go_ret
    exact ⟨_, rfl, OwnL.none_ _ _ _, Below.refl _ _⟩
  | some a =>
    have HR2 : Hid (RdL rgE (w.alloc (.cells #[] 54)) (fun _ => True) (.slice (some a) l.length c) l) := (HR.out.mono (G' := fun _ => True) fun _ _ _ => trivial).alloc _
    have q22 : ∀ W, (binOp .eql 45 (.slice (some a) l.length c) (.slice none 0 0)).run Try.prog W = .ok (.bool false) W := fun W => Lib.run_eql_slice_nil W _ _ (some a) _ c 0 0 Try.underlying45
    clear HN HR
    go_enter Try.func23, Try.ntmps23
    go_wp2_with (at_builtin; refine wpList_appL rfl _ _ aRowElem rfl rfl rfl (OwnL.lit0 (E := rgE) w w.heap.size 54 (Nat.le_refl _)) HR2.out (by simp; omega) (by simp) ?_)
    intro v' w1 hown hgrow hat
    have hown' : OwnL rgE w1 w.heap.size 54 v' l := hown
    have HO := Lib.hid hown'
    have HB : Hid (Below w.heap.size w w1) := Below.grown (new_below0 w _) hgrow (by simp) (fun k hk => by simp [Value.ownBlock] at hk; omega)
    obtain ⟨A1, c1, rfl⟩ := hown'.form
    clear hown hown' hgrow hat
    go_wp2
    go_ret
    exact ⟨_, rfl, HO.out, HB.out⟩
end
end Go.Proofs.Ytindcpcfilfnkaa.AftC
