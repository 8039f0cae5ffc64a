/-
  The walk of the law RingOnce over any package that meets 'Ring': it returns true and leaves old memory as it was. Conditions: none but 'Ring', and that the slice of acts reads as acts.
-/
import Derived.Test.YtaoagoklgjcdcaaRingDoes
import Derived.Maps.OwnOps
import Derived.Maps.Views
namespace Go.Proofs.Ytaoagoklgjcdcaa.RingI
open Go.ChangeShapes Go.WideShapes Go.ChangeAt Go.RowKit Mem RefRing Go.Maps

theorem mapLaw : Keyed Try.prog 3 := int_keyed Try.underlying3
theorem mapZero (w : World) : (zeroValue 3).run Try.prog w = .ok (.int .i64 0) w := by kernel_rfl

theorem wf64 {x : Int} (h : In64 x) : (Lit.int .i64 x).wf = true := by
  have h1 : IntKind.i64.min = -9223372036854775808 := rfl
  have h2 : IntKind.i64.max = 9223372036854775807 := rfl
  simp only [Lit.wf, Bool.and_eq_true, decide_eq_true_eq]
  exact ⟨by rw [h1]; exact h.1, by rw [h2]; exact h.2⟩

/-- Block M is a map of at most n entries that tells S. -/
def Seen (w : World) (M n : Nat) (S : Int → Int) : Prop :=
  ∃ D : DataW Unit, w.ownsMap Try.prog 3 (plainElem Try.prog 3) M n D ∧ IsMap D ∧ ∀ x, In64 x → D.atKey (.int .i64 x) (.lit (.int .i64 0)) = .lit (.int .i64 (S x))

theorem Seen.made (w : World) : Seen (w.alloc (.map #[] 0)) w.heap.size 0 (fun _ => 0) := ⟨.map [], World.ownsMap_made _ _ _ _, isMap_empty, fun _ _ => rfl⟩
theorem Seen.lt {w : World} {M n : Nat} {S : Int → Int} (h : Seen w M n S) : M < w.heap.size := by obtain ⟨D, h, _⟩ := h; exact h.lt
theorem Seen.keep {w w' : World} {M n : Nat} {S : Int → Int} (h : Seen w M n S) (hk : w'.heap[M]? = w.heap[M]?) : Seen w' M n S := by
  obtain ⟨D, ⟨es, clock, hm, rest⟩, h2⟩ := h
  exact ⟨D, ⟨es, clock, hk.trans hm, rest⟩, h2⟩
theorem Seen.look {w : World} {M n : Nat} {S : Int → Int} (h : Seen w M n S) {x : Int} (hx : In64 x) : (Instr.lookup 46 (.map (some M)) (.int .i64 x) false).run Try.prog w = .ok (.int .i64 (S x)) w := by
  obtain ⟨D, hown, _, hS⟩ := h
  obtain ⟨c, hrun, hat, _⟩ := hown.lookup_int mapLaw Try.underlying46 Try.underlying3 (mapZero _) (keyOf_int_mk Try.underlying3 (wf64 hx))
  have hc : c = S x := by
    have := hat.symm.trans (hS x hx)
    injection this with this
    injection this
  rw [hrun, hc]
theorem Seen.step {w : World} {M n : Nat} {S : Int → Int} (h : Seen w M n S) (hn : n < 1000000) {x y : Int} (hx : In64 x) (hy : In64 y) {ops : Array Oper} {rest : List Oper} {o : Oper} {a : Act} {Q : Exit → Act → World → Prop}
    (hg : o.guard = none) (m k v : Operand) (hop : o.op = Op.mapUpdate 46 m k v) (hm : a.eval m = .map (some M)) (hk : a.eval k = .int .i64 x) (hv : a.eval v = .int .i64 y)
    (hK : ∀ w', Seen w' M (n + 1) (fun z => if z = x then y else S z) → w.grownBy w' (some M) → wpList Try.prog ops Q rest (a.put o.dst undef) w') : wpList Try.prog ops Q (o :: rest) a w := by
  obtain ⟨D, hown, hD, hS⟩ := h
  refine wpList_mapUpdate_own w hg m k v 46 hop 3 3 mapLaw Try.underlying46 (plainElem Try.prog 3) M n D hm hown (by unfold maxLen; omega) (.int .i64 x) (.int .i64 y) (.int .i64 x) hk hv (keyOf_int_mk Try.underlying3 (wf64 hx)) (.lit (.int .i64 y)) [] (plainElem_int Try.underlying3 (wf64 hy)) ?_
  intro w' hown' hgrow
  refine hK w' ⟨_, hown', hD.put _ _, fun z hz => ?_⟩ hgrow
  show _ = DataW.lit (.int .i64 (if z = x then y else S z))
  by_cases hzx : z = x
  · subst hzx
    rw [if_pos rfl]
    exact atKey_put_same hD (by simp [WideAt.IsKeyLit]) _ _
  · rw [if_neg hzx, atKey_put_other (by intro e; injection e with _ e; exact hzx e)]
    exact hS z hz

/-! The lengths stay. -/
theorem putL_length (L : List (List Int)) (N r x : Int) (b : Bool) : (putL L N r x b).length = L.length := by unfold putL; split <;> simp
theorem dropL_length (L : List (List Int)) (x : Int) : (dropL L x).length = L.length := by unfold dropL; split <;> simp
theorem moveL_length (L : List (List Int)) (a b : Int) : (moveL L a b).length = L.length := by unfold moveL; split <;> simp
theorem actL_length (L : List (List Int)) (N d a b : Int) : (actL L N d a b).length = L.length := by
  unfold actL
  repeat (first | (split; exact putL_length ..) | (split; exact dropL_length ..) | (split; exact moveL_length ..) | rfl)

/-! Who stands where. -/
theorem getD_mem {L : List (List Int)} {i : Nat} (h : i < L.length) : L.getD i [] ∈ L := by rw [List.getD_eq_getElem?_getD, List.getElem?_eq_getElem h]; exact List.getElem_mem h
theorem flatten_split {L : List (List Int)} {i : Nat} (h : i < L.length) : L.flatten = (L.take i).flatten ++ (L.getD i [] ++ (L.drop (i + 1)).flatten) := by
  have e : L = L.take i ++ L.getD i [] :: L.drop (i + 1) := by
    rw [List.getD_eq_getElem?_getD, List.getElem?_eq_getElem h, Option.getD_some, ← List.drop_eq_getElem_cons h, List.take_append_drop]
  conv => lhs; rw [e]
  simp
theorem getD_get (l : List Int) (k : Nat) (h : k < l.length) : l.getD k 0 = l[k] := by rw [List.getD_eq_getElem?_getD, List.getElem?_eq_getElem h]; rfl
theorem inL_of {L : List (List Int)} (hn : L.flatten.Nodup) {i : Nat} (hi : i < L.length) {x : Int} (hx : x ∈ L.getD i []) : inL L x = i := by
  obtain ⟨k, hk, rfl⟩ := List.getElem_of_mem hx
  refine inL_at hi (fun i' hi' hx' => ?_) hk (getD_get _ _ hk)
  rw [flatten_split hi] at hn
  have h1 := List.nodup_append.1 hn
  exact h1.2.2 _ (List.mem_flatten.2 ⟨L.getD i' [], by
    have : L.getD i' [] = (L.take i).getD i' [] := by simp [List.getD_eq_getElem?_getD, hi']
    rw [this]
    exact getD_mem (by simp; omega), hx'⟩) _ (List.mem_append_left _ hx) rfl
theorem inL_not {L : List (List Int)} {x : Int} (h : ¬ x ∈ L.flatten) : inL L x = -1 := inL_none fun _ hi hx => h (List.mem_flatten.2 ⟨_, getD_mem hi, hx⟩)

theorem rd_off_map {w : World} {G : Nat → Prop} {u : Value} {l : List Int} {M n : Nat} {S : Int → Int} (h : Rd w G u l) (hs : Seen w M n S) : Rd w (fun k => G k ∧ k ≠ M) u l := by
  obtain ⟨D, ⟨es, clock, hm, _⟩, _⟩ := hs
  obtain ⟨A, c, e, hl, hx⟩ := h
  refine ⟨A, c, e, hl, fun hp => ?_⟩
  obtain ⟨b, off, ha, hg, hb, hc⟩ := hx hp
  refine ⟨b, off, ha, ⟨hg, fun e => ?_⟩, hb, hc⟩
  subst e
  have := hc 0 hp
  simp [World.cell?, hm] at this

/-- How often: once, or never. -/
def S1 (l : List Int) (x : Int) : Int := if x ∈ l then 1 else 0
theorem S1_snoc (l : List Int) (x : Int) : (fun z => if z = x then 1 else S1 l z) = S1 (l ++ [x]) := by
  funext z
  unfold S1
  by_cases hz : z = x
  · subst hz; rw [if_pos rfl, if_pos (by simp)]
  · rw [if_neg hz]
    by_cases hl : z ∈ l
    · rw [if_pos hl, if_pos (by simp [hl])]
    · rw [if_neg hl, if_neg (by simp [hl, hz])]
theorem take_flat {L : List (List Int)} {i : Nat} (h : i < L.length) : (L.take (i + 1)).flatten = (L.take i).flatten ++ L.getD i [] := by
  rw [List.take_succ_eq_append_getElem h, List.flatten_append, List.getD_eq_getElem?_getD, List.getElem?_eq_getElem h]
  simp only [List.flatten_cons, List.flatten_nil, List.append_nil, Option.getD_some]
/-- Of a row's node: it is a node, it hasn't been met, and it stands there. -/
theorem met {L : List (List Int)} {N : Int} (hok : Ok L N) {i j : Nat} (hi : i < L.length) (hj : j < (L.getD i []).length) {x : Int} (hx : (L.getD i []).getD j 0 = x) :
    (0 ≤ x ∧ x < N) ∧ ¬ x ∈ (L.take i).flatten ++ (L.getD i []).take j ∧ inL L x = i := by
  have hxm : x ∈ L.getD i [] := by rw [← hx, getD_get _ _ hj]; exact List.getElem_mem hj
  refine ⟨hok.nodes _ (getD_mem hi) x hxm, fun hm => ?_, inL_of hok.once hi hxm⟩
  have hn := hok.once
  rw [flatten_split hi] at hn
  have h1 := List.nodup_append.1 hn
  have h2 := (List.nodup_append.1 h1.2.1).1
  rcases List.mem_append.1 hm with h | h
  · exact h1.2.2 x h x (List.mem_append_left _ hxm) rfl
  · generalize L.getD i [] = l at *
    have e : l = l.take j ++ x :: l.drop (j + 1) := by
      rw [← hx, getD_get _ _ hj, ← List.drop_eq_getElem_cons hj, List.take_append_drop]
    rw [e] at h2
    exact (List.nodup_append.1 h2).2.2 x h x (by simp) rfl
theorem told {L : List (List Int)} {N : Int} (hok : Ok L N) (x : Int) : (inL L x = -1 ∧ S1 L.flatten x = 0) ∨ (0 ≤ inL L x ∧ S1 L.flatten x = 1) := by
  by_cases hx : x ∈ L.flatten
  · right
    obtain ⟨l, hl, hxl⟩ := List.mem_flatten.1 hx
    obtain ⟨i, hi, rfl⟩ := List.getElem_of_mem hl
    have hxi : x ∈ L.getD i [] := by rw [List.getD_eq_getElem?_getD, List.getElem?_eq_getElem hi]; exact hxl
    rw [inL_of hok.once hi hxi]
    exact ⟨by omega, by unfold S1; rw [if_pos hx]⟩
  · exact .inl ⟨inL_not hx, by unfold S1; rw [if_neg hx]⟩

/-- The arena, and the map of those seen. -/
def Duo (I : Ring) (w wk : World) (v : Value) (F : Nat → Prop) (L : List (List Int)) (N : Int) (M n : Nat) (S : Int → Int) : Prop :=
  I.A wk v F L N ∧ Below w.heap.size w wk ∧ (∀ k, F k → w.heap.size ≤ k) ∧ Seen wk M n S ∧ ¬ F M ∧ w.heap.size ≤ M
theorem Duo.next {I : Ring} {w wk wn : World} {v : Value} {F : Nat → Prop} {L : List (List Int)} {N : Int} {M n : Nat} {S : Int → Int} (h : Duo I w wk v F L N M n S) (hb : Below wk.heap.size wk wn) : Duo I w wn v F L N M n S := by
  obtain ⟨ha, ho, hf, hs, hM, hw⟩ := h
  exact ⟨I.keep ha hb.size fun k hk _ => hb.block k hk, ho.trans (hb.mono ho.size), hf, hs.keep (hb.block M hs.lt), hM, hw⟩
theorem Duo.put {I : Ring} {w wk wn : World} {v : Value} {F : Nat → Prop} {L : List (List Int)} {N : Int} {M n n' : Nat} {S S' : Int → Int} (h : Duo I w wk v F L N M n S) (hs' : Seen wn M n' S') (hg : wk.grownBy wn (some M)) : Duo I w wn v F L N M n' S' := by
  obtain ⟨ha, ho, hf, hs, hM, hw⟩ := h
  exact ⟨I.keep ha hg.size fun k hk hF => hg.block k hk (fun e => by injection e with e; exact hM (e ▸ hF)), Below.grown ho hg ho.size (fun k hk => by injection hk with hk; omega), hf, hs', hM, hw⟩

theorem quiet_in {f : FuncId} {args : Array Value} {w : World} {q : Nat} {a b : Int} (hab : a = b) (h : Calls Try.prog f args (w.drewN q) fun e w' => e = .returned (.int .i64 a) ∧ ∃ m, w' = (w.drewN q).drewN m) : Calls Try.prog f args (w.drewN q) fun e w'' => e = .returned (.int .i64 b) ∧ ∃ m, w'' = w.drewN m := by
  subst hab
  refine h.mono ?_
  rintro e w' ⟨rfl, m, rfl⟩
  exact ⟨rfl, _, World.drewN_drewN _ _ _⟩

theorem mine_do {I : Ring} {w wk : World} {v : Value} {L : List (List Int)} {N : Int} (h : Mine I w wk v L N []) (d a b : Int) (ha : In64 a) (hb : In64 b) :
    Calls Try.prog 9 #[v, .agg #[.int .i64 d, .int .i64 a, .int .i64 b]] wk fun e wn => (∃ E M B, e = .returned (.tuple #[.int .i64 E, .int .i64 M, .bool B])) ∧ Mine I w wn v (actL L N d a b) N [] := by
  obtain ⟨F, hA, ho, hf, hh⟩ := h
  exact (do_any I hA d a b ha hb).mono fun _ _ k => ⟨⟨_, _, _, k.1⟩, mine_after ho hf hh k.2⟩

set_option maxHeartbeats 4000000 in
set_option maxRecDepth 100000 in
theorem once_walk (I : Ring) (r n : Int) (A : Option Addr) (len cap : Nat) (zs : List (Int × Int × Int)) (w : World) (hr0 : 0 ≤ r) (hr1 : r ≤ 255) (hn0 : 0 ≤ n) (hn1 : n ≤ 255) (hm : len ≤ 9223372036854775807) (hz : Acts w A len zs) :
    Calls Try.prog 5 #[.int .u8 r, .int .u8 n, .slice A len cap] w fun e w' => e = .returned (.bool true) ∧ Below w.heap.size w w' := by
  have HZ := Lib.hid hz
  clear hz
  have hmm := @run_makeMap Try.prog
  rcases (by omega : r = 0 ∨ (1 ≤ r ∧ n = 0) ∨ (1 ≤ r ∧ 1 ≤ n ∧ 20 < r) ∨ (1 ≤ r ∧ 1 ≤ n ∧ r ≤ 20 ∧ 20 < n) ∨ (1 ≤ r ∧ 1 ≤ n ∧ r ≤ 20 ∧ n ≤ 20 ∧ 120 < len) ∨ (1 ≤ r ∧ 1 ≤ n ∧ r ≤ 20 ∧ n ≤ 20 ∧ len ≤ 120)) with
      rfl | ⟨g1, rfl⟩ | ⟨g1, g2, g3⟩ | ⟨g1, g2, g3, g4⟩ | ⟨g1, g2, g3, g4, g5⟩ | ⟨g1, g2, g3, g4, g5⟩
  · go_enter Try.func5, Try.ntmps5
    go_wp2_with (go_at_call 6; refine (awake_any I _).mono ?_; rintro e w' ⟨rfl, hb⟩)
    go_ret
    exact ⟨rfl, hb⟩
  · have e1 : (r == 0) = false := by simp; omega
    go_enter Try.func5, Try.ntmps5
    go_wp2_with (go_at_call 6; refine (awake_any I _).mono ?_; rintro e w' ⟨rfl, hb⟩)
    go_ret
    exact ⟨rfl, hb⟩
  · have e1 : (r == 0) = false := by simp; omega
    have e2 : (n == 0) = false := by simp; omega
    go_enter Try.func5, Try.ntmps5
    go_wp2_with (go_at_call 6; refine (awake_any I _).mono ?_; rintro e w' ⟨rfl, hb⟩)
    go_ret
    exact ⟨rfl, hb⟩
  · have e1 : (r == 0) = false := by simp; omega
    have e2 : (n == 0) = false := by simp; omega
    go_enter Try.func5, Try.ntmps5
    go_wp2_with (go_at_call 6; refine (awake_any I _).mono ?_; rintro e w' ⟨rfl, hb⟩)
    go_ret
    exact ⟨rfl, hb⟩
  · have e1 : (r == 0) = false := by simp; omega
    have e2 : (n == 0) = false := by simp; omega
    go_enter Try.func5, Try.ntmps5
    go_wp2_with (go_at_call 6; refine (awake_any I _).mono ?_; rintro e w' ⟨rfl, hb⟩)
    go_ret
    exact ⟨rfl, hb⟩
  · have e1 : (r == 0) = false := by simp; omega
    have e2 : (n == 0) = false := by simp; omega
    go_enter Try.func5, Try.ntmps5
    go_wp2_with fail
    refine (awake_any I _).mono ?_
    rintro e w1 ⟨rfl, hb1⟩
    have HB1 := Lib.hid hb1
    clear hb1
    go_wp2_with fail
    refine (m_new (I := I) r n w w1 HB1.out (by omega) (by omega) (by omega) (by omega) rfl).mono ?_
    rintro e w2 ⟨v, rfl, hM⟩
    obtain ⟨pa, rfl⟩ := hM.ptr
    have HM := Lib.hid hM
    clear hM HB1
    have HL : Hid ((List.replicate r.toNat ([] : List Int)).length = r.toNat) := by show _ = _; simp
    go_wp2
    go_loopw [50] (fun t wr => ∃ (k : Nat) (L : List (List Int)), k ≤ len ∧ t = .int .i64 k ∧ Hid (L.length = r.toNat) ∧ Hid (Mine I w wr (.pointer (some pa)) L n [])) (fun t _ => len - (intOf t).toNat)
    case atStart => exact ⟨0, _, Nat.zero_le _, rfl, HL, HM⟩
    case round =>
      clear HM HL
      obtain ⟨k, L, hk, rfl, HL, HM⟩ := hrel
      by_cases hlt : k < len
      · obtain ⟨hzl, hz64, hzc⟩ := HZ.out
        obtain ⟨b, off, rfl, hbw, hc⟩ := hzc (by omega)
        obtain ⟨c0, c1, c2⟩ := hc k hlt
        have ho := HM.out.old
        have k0 := (ho.cell (p := ⟨b, off + k * 3, none⟩) hbw).trans c0
        have k1 := (ho.cell (p := ⟨b, off + k * 3 + 1, none⟩) hbw).trans c1
        have k2 := (ho.cell (p := ⟨b, off + k * 3 + 2, none⟩) hbw).trans c2
        have h64 : In64 (zs.getD k (0, 0, 0)).2.1 ∧ In64 (zs.getD k (0, 0, 0)).2.2 := hz64 _ (by rw [List.getD_eq_getElem?_getD, List.getElem?_eq_getElem (by omega)]; exact List.getElem_mem _)
        generalize zs.getD k (0, 0, 0) = z at k0 k1 k2 h64
        obtain ⟨d, x, y⟩ := z
        have H64 := Lib.hid h64
        simp only at k0 k1 k2
        clear c0 c1 c2 hc ho h64 hz64 hzc hzl
        have HX := Lib.hid (HM.out.next (new_below0 wr (.cells #[.int .i64 d, .int .i64 x, .int .i64 y] 32)))
        go_wp2_with fail
        refine (mine_do HX.out d x y H64.out.1 H64.out.2).mono ?_
        rintro e w4 ⟨⟨E, M', B, rfl⟩, hM4⟩
        have HL4 : Hid ((actL L n d x y).length = r.toNat) := (actL_length L n d x y).trans HL.out
        generalize actL L n d x y = L4 at hM4 HL4
        have HO4 := Lib.hid hM4.ok
        obtain ⟨F, hA4, ho4, hf4, _⟩ := hM4
        have HD : Hid (Duo I w (w4.alloc (.map #[] 0)) (.pointer (some pa)) F L4 n w4.heap.size 0 (S1 [])) := by
          refine ⟨I.keep hA4 (by simp) fun k hk _ => Below.heap_alloc w4 _ k hk, ho4.alloc ho4.size _, hf4, ?_, fun hF => by have := I.lt hA4 _ hF; omega, ho4.size⟩
          have := Seen.made w4
          exact this
        clear hA4 ho4 hf4 HX HM HL k0 k1 k2 H64
        go_wp2
        generalize w4.heap.size = M at *
        generalize w4.alloc (.map #[] 0) = w5 at *
        go_loopw [60] (fun t wn => ∃ (i c : Nat), i ≤ r.toNat ∧ t = .int .i64 i ∧ c ≤ i * 1000 ∧ Hid (Duo I w wn (.pointer (some pa)) F L4 n M c (S1 (L4.take i).flatten))) (fun t _ => r.toNat - (intOf t).toNat)
        case atStart => exact ⟨0, 0, Nat.zero_le _, rfl, Nat.zero_le _, HD⟩
        case round =>
          clear HD
          obtain ⟨i, c, hi, rfl, hcc, HD⟩ := hrel
          by_cases hil : i < r.toNat
          · have hi64 : Hid (In64 (i : Int)) := ⟨by omega, by omega⟩
            have HLL : Hid (listL L4 i = L4.getD i []) := by show _ = _; unfold listL; rw [if_pos ⟨by omega, by rw [HL4.out]; omega⟩]; rfl
            have hir : (i : Int) < r := by omega
            go_wp2_with fail
            refine (I.list HD.out.1 i hi64.out).mono ?_
            rintro e w6 ⟨u, rfl, hu, hb6⟩
            have HD6 := Lib.hid (HD.out.next hb6)
            have HU : Hid (Rd w6 (fun k => ¬ F k ∧ k ≠ M) u (L4.getD i [])) := by
              have h6 := rd_off_map hu HD6.out.2.2.2.1
              rw [HLL.out] at h6
              exact h6
            clear hu hb6 HD
            have HLen : Hid (((listL L4 i).length : Int) = (L4.getD i []).length) := by show _ = _; rw [HLL.out]
            have hl1 : (L4.getD i []).length ≤ 1000 := HO4.out.lens _ (getD_mem (by rw [HL4.out]; exact hil))
            have HMet : Hid (∀ (j : Nat) (x : Int), j < (L4.getD i []).length → (L4.getD i []).getD j 0 = x → (0 ≤ x ∧ x < n) ∧ ¬ x ∈ (L4.take i).flatten ++ (L4.getD i []).take j ∧ inL L4 x = i) := fun j x hj hx => met HO4.out (by rw [HL4.out]; exact hil) hj hx
            have HTF : Hid ((L4.take (i + 1)).flatten = (L4.take i).flatten ++ L4.getD i []) := take_flat (by rw [HL4.out]; exact hil)
            have HSt : Hid (S1 ((L4.take i).flatten ++ (L4.getD i []).take 0) = S1 (L4.take i).flatten) := by show _ = _; simp
            generalize hl : L4.getD i [] = l at *
            have HLi := Lib.hid hl
            clear hl
            have HU2 := HU
            obtain ⟨Au, cu, rfl, _, hux⟩ := HU2.out
            clear HU2
            have HUX := Lib.hid hux
            clear hux
            go_wp2_with fail
            refine (I.len HD6.out.1 i hi64.out).mono ?_
            rintro e w7 ⟨rfl, hb7⟩
            have HD7 := Lib.hid (HD6.out.next hb7)
            have HU7 := Lib.hid (HU.out.below hb7)
            rw [HLen.out]
            clear hb7 HD6 HU HUX
            have hne : ((l.length : Int) != (l.length : Int)) = false := by simp
            go_wp2
            generalize (L4.take i).flatten = P at *
            go_loopw [74] (fun t wn => ∃ (j c2 : Nat), j ≤ l.length ∧ t = .int .i64 j ∧ c2 ≤ i * 1000 + j ∧ Hid (Duo I w wn (.pointer (some pa)) F L4 n M c2 (S1 (P ++ l.take j))) ∧ Hid (Rd wn (fun k => ¬ F k ∧ k ≠ M) (.slice Au l.length cu) l)) (fun t _ => l.length - (intOf t).toNat)
            case atStart => exact ⟨0, c, Nat.zero_le _, rfl, by omega, by show Hid _; rw [HSt.out]; exact HD7, HU7⟩
            case round =>
              clear HD7 HU7
              obtain ⟨j, c2, hj, rfl, hc2, HD, HU⟩ := hrel
              by_cases hjl : j < l.length
              · obtain ⟨b9, off9, rfl, hcell⟩ : ∃ b off, Au = some ⟨b, off, none⟩ ∧ ∀ j', j' < l.length → _ := by
                  obtain ⟨A', c', he, _, hx⟩ := HU.out
                  injection he with he1 he2 he3
                  subst he1
                  obtain ⟨b, off, h1, _, _, h2⟩ := hx (by omega)
                  exact ⟨b, off, h1, h2⟩
                have q0 := hcell j hjl
                have hxx : ∃ x, l.getD j 0 = x := ⟨_, rfl⟩
                obtain ⟨x, hx⟩ := hxx
                rw [hx] at q0
                obtain ⟨⟨x0, x1⟩, hno, hin⟩ := HMet.out j x hjl hx
                have HTk : Hid (P ++ l.take (j + 1) = (P ++ l.take j) ++ [x]) := by show _ = _; rw [take_getD l j hjl, hx, List.append_assoc]
                have hx64 : Hid (In64 x) := ⟨by omega, by omega⟩
                have HIn := Lib.hid hin
                have hlook : (Instr.lookup 46 (.map (some M)) (.int .i64 x) false).run Try.prog wr = .ok (.int .i64 0) wr := by
                  have := HD.out.2.2.2.1.look hx64.out
                  rw [show S1 (P ++ l.take j) x = 0 from by unfold S1; rw [if_neg hno]] at this
                  exact this
                clear hcell hx hno hin
                go_wp2_with (at_mapUpdate; refine Seen.step HD.out.2.2.2.1 (by omega) hx64.out (y := 1) ⟨by omega, by omega⟩ rfl _ _ _ rfl rfl rfl rfl ?_; intro w9 hs9 hg9; rw [S1_snoc] at hs9; have hlook2 := hs9.look hx64.out; rw [show S1 ((P ++ l.take j) ++ [x]) x = 1 from by unfold S1; rw [if_pos (by simp)]] at hlook2; have HD9 := Lib.hid (HD.out.put hs9 hg9); have HU9 := Lib.hid (HU.out.grown hg9 (fun k hk h => by injection hk with hk; exact h.2 hk.symm)); clear hs9 hg9 hlook)
                refine (I.isIn HD9.out.1 x hx64.out).mono ?_
                rintro e w10 ⟨rfl, m10, rfl⟩
                rw [HIn.out]
                have hne2 : ((i : Int) != (i : Int)) = false := by simp
                have HD10 := Lib.hid (HD9.out.next (below_drewN (Below.refl _ _) m10))
                have HU10 := Lib.hid (HU9.out.below (below_drewN (Below.refl _ _) m10))
                clear HD9 HU9 hlook2 HD HU
                go_wp2
                go_roundw
                case rel => exact ⟨j + 1, c2 + 1, by omega, by go_num, by omega, by show Hid _; rw [HTk.out]; exact HD10, HU10⟩
                case measure => simp [intOf]; omega
              · have HTk : Hid (P ++ l.take j = P ++ l) := by show _ = _; rw [List.take_of_length_le (by omega)]
                go_wp2
                go_roundw
                case rel => exact ⟨i + 1, c2, by omega, by go_num, by omega, by show Hid _; rw [HTF.out, ← HTk.out]; exact HD⟩
                case measure => simp [intOf]; omega
          · have HTF : Hid ((L4.take i).flatten = L4.flatten) := by show _ = _; rw [List.take_of_length_le (by rw [HL4.out]; omega)]
            have HD0 : Hid (Duo I w wr (.pointer (some pa)) F L4 n M c (S1 L4.flatten)) := by show Hid _; rw [← HTF.out]; exact HD
            have hir : ¬ (i : Int) < r := by omega
            clear HD HTF
            go_wp2
            go_loopw [107] (fun t wn => ∃ m : Nat, m ≤ n.toNat ∧ t = .int .i64 m ∧ Hid (Duo I w wn (.pointer (some pa)) F L4 n M c (S1 L4.flatten))) (fun t _ => n.toNat - (intOf t).toNat)
            case atStart => exact ⟨0, Nat.zero_le _, rfl, HD0⟩
            case round =>
              clear HD0
              obtain ⟨m, hm0, rfl, HD⟩ := hrel
              by_cases hml : m < n.toNat
              · have hm64 : Hid (In64 (m : Int)) := ⟨by omega, by omega⟩
                have hmn : (m : Int) < n := by omega
                have hlk : ∀ q, (Instr.lookup 46 (.map (some M)) (.int .i64 m) false).run Try.prog (wr.drewN q) = .ok (.int .i64 (S1 L4.flatten m)) (wr.drewN q) := fun q => (HD.out.next (below_drewN (Below.refl _ _) q)).2.2.2.1.look hm64.out
                rcases told HO4.out (m : Int) with ⟨h1, h2⟩ | ⟨h1, h2⟩
                · rw [h2] at hlk
                  have HI := Lib.hid h1
                  clear h1 h2
                  go_wp2
                  go_quiet ((go_at_call 17; exact quiet_in HI.out (I.isIn (keepDrewN I HD.out.1 _) m hm64.out)))
                  go_wp2
                  go_roundw
                  case rel => exact ⟨m + 1, by omega, by go_num, Lib.hid (HD.out.next (below_drewN (Below.refl _ _) _))⟩
                  case measure => simp [intOf]; omega
                · rw [h2] at hlk
                  obtain ⟨vv, hvv⟩ : ∃ vv, inL L4 m = vv := ⟨_, rfl⟩
                  rw [hvv] at h1
                  have HI := Lib.hid hvv
                  clear hvv h2
                  go_wp2
                  go_quiet ((go_at_call 17; exact quiet_in HI.out (I.isIn (keepDrewN I HD.out.1 _) m hm64.out)))
                  go_wp2
                  go_roundw
                  case rel => exact ⟨m + 1, by omega, by go_num, Lib.hid (HD.out.next (below_drewN (Below.refl _ _) _))⟩
                  case measure => simp [intOf]; omega
              · go_wp2
                go_roundw
                case rel => exact ⟨k + 1, L4, by omega, by go_num, HL4, F, HD.out.1, HD.out.2.1, HD.out.2.2.1, fun x hx => by cases hx⟩
                case measure => simp [intOf]; omega
      · go_wp2
        go_ret
        exact ⟨rfl, HM.out.old⟩
end Go.Proofs.Ytaoagoklgjcdcaa.RingI
