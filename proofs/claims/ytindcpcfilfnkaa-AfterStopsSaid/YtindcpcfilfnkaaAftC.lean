/-
  Contracts of the functions of package after, as it landed, first part: New, Add; who waits for what behind each act. Condition: the list is at hand.
-/
import Derived.Test.YtindcpcfilfnkaaAftB
import Derived.Test.YtindcpcfilfnkaaHeld
import Derived.Deep.DeepCutAuto
namespace Go.Proofs.Ytindcpcfilfnkaa.AftC
open Go.ChangeShapes Go.WideShapes Go.ChangeAt Go.RowKit Mem AfterP Hand RefAfter

/-! ### plain -/
theorem waitsTo_congr {L L' : List Rg} {d : Int} : ∀ m : Nat, (∀ i : Nat, i < m → wb d (rg L' i) = wb d (rg L i)) → waitsTo L' d m = waitsTo L d m
  | 0, _ => rfl
  | m + 1, h => by rw [waitsTo_snoc, waitsTo_snoc, waitsTo_congr m (fun i hi => h i (by omega)), h m (by omega)]
theorem waits_add (L : List Rg) (on th d : Int) : waitsL (L ++ [⟨on, th, 1⟩]) d = if d = on then waitsL L d ++ [(L.length : Int)] else waitsL L d := by
  unfold waitsL
  rw [List.length_append, List.length_singleton, waitsTo_snoc, waitsTo_congr (L := L) L.length fun i hi => by rw [rg_snoc, if_neg (by omega)], rg_snoc, if_pos rfl]
  unfold wb
  by_cases h : d = on
  · rw [if_pos h, if_pos (by simp [h])]
  · rw [if_neg h, if_neg (by simp; intro e; exact absurd e.symm h), List.append_nil]
theorem waits_nil (d : Int) : waitsL ([] : List Rg) d = [] := rfl
theorem waits_len (L : List Rg) (d : Int) : (waitsL L d).length ≤ L.length := waitsTo_len L d _
theorem erase_filter : ∀ (l : List Int) (i : Nat) (k : Int), l.Pairwise (· < ·) → l[i]? = some k → l.eraseIdx i = l.filter fun x => decide (x ≠ k)
  | [], _, _, _, h => by simp at h
  | x :: l, 0, k, hp, h => by
    obtain rfl : x = k := by simpa using h
    have h1 := (List.pairwise_cons.1 hp).1
    rw [List.eraseIdx_cons_zero, List.filter_cons, if_neg (by simp)]
    exact (List.filter_eq_self.2 fun y hy => by have := h1 y hy; simp; omega).symm
  | x :: l, i + 1, k, hp, h => by
    obtain ⟨h1, h2⟩ := List.pairwise_cons.1 hp
    have h3 : l[i]? = some k := by simpa using h
    have h4 := h1 k (List.mem_of_getElem? h3)
    rw [List.eraseIdx_cons_succ, List.filter_cons, if_pos (by simp; omega), erase_filter l i k h2 h3]
theorem waits_stop (L : List Rg) {k i : Nat} (hi : (waitsL L (rg L k).on)[i]? = some (k : Int)) (d : Int) : waitsL (stopL L k) d = if d = (rg L k).on then (waitsL L (rg L k).on).eraseIdx i else waitsL L d := by
  rw [(stop_off L k).waits d]
  by_cases hd : d = (rg L k).on
  · subst hd
    rw [if_pos rfl, erase_filter _ i k (waits_sorted L _) hi]
  · rw [if_neg hd]
    refine List.filter_eq_self.2 fun x hx => ?_
    have := (mem_waits.1 hx).2.1
    simp
    intro e
    subst e
    exact hd this.symm
theorem waits_fire (L : List Rg) (d x : Int) : waitsL (fire1 L d) x = if x = d then [] else waitsL L x := by
  by_cases hx : x = d
  · subst hx
    rw [if_pos rfl]
    refine List.eq_nil_iff_forall_not_mem.2 fun k hk => ?_
    obtain ⟨h1, h2, h3⟩ := mem_waits.1 hk
    obtain ⟨i, rfl, hi⟩ := thereR_nat h1
    rw [fire1_len] at hi
    rw [rg_fire1 hi] at h2 h3
    by_cases hw : wb x (rg L i) = true
    · rw [if_pos hw] at h3; simp at h3
    · rw [if_neg hw] at h2 h3; exact hw (by unfold wb; simp [h2, h3])
  · rw [if_neg hx]
    unfold waitsL
    rw [fire1_len]
    refine waitsTo_congr _ fun i hi => ?_
    rw [rg_fire1 hi]
    by_cases hw : wb d (rg L i) = true
    · have h1 : (rg L i).on = d := by unfold wb at hw; simp at hw; exact hw.1
      rw [if_pos hw]
      unfold wb
      have h2 : ¬ (rg L i).on = x := fun e => hx (e.symm.trans h1)
      simp [h2]
    · rw [if_neg hw]
/-- The first place of one that is there. -/
theorem first_place {l : List Int} {k : Int} (hp : l.Pairwise (· < ·)) (h : k ∈ l) : ∃ i : Nat, l[i]? = some k ∧ k ∉ l.take i := by
  obtain ⟨i, hi, he⟩ := List.getElem_of_mem h
  refine ⟨i, by rw [List.getElem?_eq_getElem hi, he], fun hm => ?_⟩
  obtain ⟨j, hj, he'⟩ := List.getElem_of_mem hm
  rw [List.length_take] at hj
  rw [List.getElem_take] at he'
  have := List.pairwise_iff_getElem.1 hp j i (by omega) hi (by omega)
  omega

section
variable {B : Nat → Prop} {w wk : World} {Rs : List Res} {p b n : Nat} {M : Int} {u : Value} {f : Int → Value} {X : List Rg} {W : Int → List Int}
/-- One of the slices at hand, beside the list. -/
theorem lst_take (h : Sep B w wk (lst p M u b n f X W ++ Rs)) (d : Int) : Sep B w wk (blk p (.cells #[.int .i64 M, u, .map (some b)] 60) :: grow rgE 54 u X :: sm b n f :: grow intE 3 (f d) (W d) :: fam (fun x => x ≠ d) f W :: Rs) := by
  have h1 : Sep B w wk (fam (fun _ => True) f W :: ([blk p (.cells #[.int .i64 M, u, .map (some b)] 60), grow rgE 54 u X, sm b n f] ++ Rs)) := h.perm (List.perm_middle (l₁ := [blk p (.cells #[.int .i64 M, u, .map (some b)] 60), grow rgE 54 u X, sm b n f]) (l₂ := Rs))
  have h2 := fam_take h1 d
  refine h2.perm (List.Perm.symm ?_)
  exact (List.perm_middle (l₁ := [blk p (.cells #[.int .i64 M, u, .map (some b)] 60), grow rgE 54 u X, sm b n f]) (l₂ := fam (fun x => x ≠ d) f W :: Rs)).trans (.cons _ (List.perm_middle (l₁ := [blk p (.cells #[.int .i64 M, u, .map (some b)] 60), grow rgE 54 u X, sm b n f]) (l₂ := Rs)))
theorem lst_put {d : Int} {v : Value} {l : List Int} {g : Int → Value} {W' : Int → List Int} (h : Sep B w wk (blk p (.cells #[.int .i64 M, u, .map (some b)] 60) :: grow rgE 54 u X :: sm b n g :: grow intE 3 v l :: fam (fun x => x ≠ d) f W :: Rs)) (hg : g = upd f d v) (hd : W' d = l) (hW : ∀ x, x ≠ d → W' x = W x) : Sep B w wk (lst p M u b n g X W' ++ Rs) := by
  subst hg
  have h1 : Sep B w wk (grow intE 3 v l :: ([blk p (.cells #[.int .i64 M, u, .map (some b)] 60), grow rgE 54 u X, sm b n (upd f d v)] ++ fam (fun x => x ≠ d) f W :: Rs)) := h.perm (List.perm_middle (l₁ := [blk p (.cells #[.int .i64 M, u, .map (some b)] 60), grow rgE 54 u X, sm b n (upd f d v)]) (l₂ := fam (fun x => x ≠ d) f W :: Rs))
  have h2 : Sep B w wk (grow intE 3 v l :: fam (fun x => x ≠ d) f W :: ([blk p (.cells #[.int .i64 M, u, .map (some b)] 60), grow rgE 54 u X, sm b n (upd f d v)] ++ Rs)) := h1.perm (.cons _ (List.perm_middle (l₁ := [blk p (.cells #[.int .i64 M, u, .map (some b)] 60), grow rgE 54 u X, sm b n (upd f d v)]) (l₂ := Rs)))
  exact (fam_put h2 hd hW).perm (List.perm_middle (l₁ := [blk p (.cells #[.int .i64 M, u, .map (some b)] 60), grow rgE 54 u X, sm b n (upd f d v)]) (l₂ := Rs)).symm
/-- .. where it is handed on, and there is none any more. -/
theorem lst_out {d : Int} {v : Value} {l : List Int} {g : Int → Value} {W' : Int → List Int} (h : Sep B w wk (blk p (.cells #[.int .i64 M, u, .map (some b)] 60) :: grow rgE 54 u X :: sm b n g :: grow intE 3 v l :: fam (fun x => x ≠ d) f W :: Rs)) (hg : g = upd f d vN) (hd : W' d = []) (hW : ∀ x, x ≠ d → W' x = W x) : Sep B w wk (grow intE 3 v l :: (lst p M u b n g X W' ++ Rs)) := by
  subst hg
  have h1 : Sep B w wk (fam (fun x => x ≠ d) f W :: ([blk p (.cells #[.int .i64 M, u, .map (some b)] 60), grow rgE 54 u X, sm b n (upd f d vN), grow intE 3 v l] ++ Rs)) := h.perm (List.perm_middle (l₁ := [blk p (.cells #[.int .i64 M, u, .map (some b)] 60), grow rgE 54 u X, sm b n (upd f d vN), grow intE 3 v l]) (l₂ := Rs))
  have h2 : Sep B w wk (blk p (.cells #[.int .i64 M, u, .map (some b)] 60) :: grow rgE 54 u X :: sm b n (upd f d vN) :: grow intE 3 v l :: fam (fun _ => True) (upd f d vN) W' :: Rs) := (fam_none h1 hd hW).perm (List.perm_middle (l₁ := [blk p (.cells #[.int .i64 M, u, .map (some b)] 60), grow rgE 54 u X, sm b n (upd f d vN), grow intE 3 v l]) (l₂ := Rs)).symm
  exact h2.perm (List.perm_middle (l₁ := [blk p (.cells #[.int .i64 M, u, .map (some b)] 60), grow rgE 54 u X, sm b n (upd f d vN)]) (l₂ := fam (fun _ => True) (upd f d vN) W' :: Rs))
end

/-! ### New, Add -/
theorem newL_no (n : Int) (w : World) (h : n < 1 ∨ 200 < n) : Calls Try.prog 8 #[.int .i64 n] w fun e w' => e = .returned (.tuple #[.pointer none, .int .i64 1]) ∧ Below w.heap.size w w' := by
  rcases (by omega : n < 1 ∨ (1 ≤ n ∧ 200 < n)) with h1 | ⟨h1, h2⟩
  all_goals
    clear h
    go_enter Try.func8, Try.ntmps8
    go_wp2
    go_ret2
    exact ⟨rfl, Below.refl _ _⟩
theorem newL_yes {B : Nat → Prop} {w wk : World} {Rs : List Res} (h : Sep B w wk Rs) (n : Int) (h1 : 1 ≤ n) (h2 : n ≤ 200) :
    Calls Try.prog 8 #[.int .i64 n] wk fun e wn => ∃ p, e = .returned (.tuple #[.pointer (some ⟨p, 0, none⟩), .int .i64 0]) ∧ Sep B w wn (la p [] n :: Rs) := by
  have s1 := (grow_none (sm_new (fam_new h)) rgE 54).new (.cells #[.int .i64 n, .slice none 0 0, .map (some wk.heap.size)] 60)
  have HS := Lib.hid (la_close (u := .slice none 0 0) (b := wk.heap.size) (n := 0) (f := fun _ => vN) s1 (Nat.le_refl _) (Ok.new h1 h2))
  have hmm := @run_makeMap Try.prog
  have es : (wk.alloc (.map #[] 0)).heap.size = wk.heap.size + 1 := by simp
  rw [es] at HS
  clear h s1 es
  go_enter Try.func8, Try.ntmps8
  go_wp2
  go_ret2
  exact ⟨_, rfl, HS.out⟩

set_option maxRecDepth 100000 in
set_option maxHeartbeats 4000000 in
theorem addL_s {B : Nat → Prop} {w wk : World} {Rs : List Res} {p : Nat} {L : List Rg} {M : Int} (h : Sep B w wk (la p L M :: Rs)) (on th : Int) (h1 : In64 on) (h2 : In64 th) :
    Calls Try.prog 22 #[.pointer (some ⟨p, 0, none⟩), .int .i64 on, .int .i64 th] wk fun e wn => e = .returned (.tuple #[.int .i64 (addV L M), .int .i64 (addE L M)]) ∧ Sep B w wn (la p (addL L M on th) M :: Rs) := by
  obtain ⟨A, c, b, f, hs, hok⟩ := la_open h
  have HOK := Lib.hid (hok.add (on := on) (th := th) h1 h2)
  have hl := hok.len
  have hm := hok.m1
  have k0 := (cell_block (hs.blk_at 0 rfl) 0).trans rfl
  have k1 := (cell_block (hs.blk_at 0 rfl) 1).trans rfl
  have HH := Lib.hid h
  have HS := Lib.hid hs
  have HON := Lib.hid h1
  clear h hs hok h1 h2
  by_cases hlt : (L.length : Int) < M
  · have HE : Hid (addE L M = 0 ∧ addV L M = L.length ∧ addL L M on th = L ++ [⟨on, th, 1⟩]) := by unfold addE addV addL; rw [if_pos hlt, if_pos hlt, if_pos hlt]; exact ⟨rfl, rfl, rfl⟩
    have hd : ((L.length : Int) == M) = false := by rw [beq_eq_false_iff_ne]; omega
    have hb200 : L.length ≤ 200 := by omega
    clear HH hlt hl hm
    rw [HE.out.1, HE.out.2.1]
    rw [HE.out.2.2] at HOK ⊢
    clear HE
    have S3 := Lib.hid (HS.out.new (.cells #[.int .i64 on, .int .i64 th, .int .i64 1] 54))
    have HR3 : Hid (RdL rgE (wk.alloc (.cells #[.int .i64 on, .int .i64 th, .int .i64 1] 54)) (fun _ => True) (.slice (some ⟨wk.heap.size, 0, none⟩) 1 1) [(⟨on, th, 1⟩ : Rg)]) := RdL.lit1 (E := rgE) wk _ _ rfl _ trivial
    clear HS
    go_enter Try.func22, Try.ntmps22
    go_wp2_with (at_builtin; refine wpList_appS rfl _ _ aRowElem rfl rfl rfl S3.out 2 rfl HR3.out (by simp; omega) ?_)
    intro A4 c4 w4 l4 hl4 h4
    have k4 := (cell_block (h4.tail.blk_at 0 rfl) 1).trans rfl
    have f4 := frozen_block (h4.tail.blk_at 0 rfl) 1
    have S5 : Hid (Sep B w (w4.setCell ⟨p, 1, none⟩ (.slice A4 l4.length c4)) (lst p M (.slice A4 l4.length c4) b L.length f l4 (waitsL L) ++ Rs)) := h4.tail.set 0 rfl 1 (.slice A4 l4.length c4)
    have HL4 := Lib.hid hl4.out
    clear h4 hl4 S3 HR3
    obtain ⟨n4, hn4⟩ : ∃ n4, l4.length = n4 := ⟨_, rfl⟩
    rw [hn4] at S5 ⊢
    clear hn4
    go_wp2_with fail
    have S6 := Lib.hid (lst_take S5.out on)
    generalize w4.setCell ⟨p, 1, none⟩ (.slice A4 n4 c4) = w5 at *
    clear S5 k4 f4
    obtain ⟨Ao, co, hfo⟩ := (S6.out.own 3 rfl).form
    have hno := waits_len L on
    have HFO := Lib.hid hfo
    obtain ⟨no, hno2⟩ : ∃ no, (waitsL L on).length = no := ⟨_, rfl⟩
    rw [hno2] at hfo hno
    have HNO := Lib.hid hno2
    have HCF : Hid (∀ (W : World) (R1 : Res) (Rs' : List Res), Sep B w W (blk p (.cells #[.int .i64 M, .slice A4 n4 c4, .map (some b)] 60) :: R1 :: sm b L.length f :: Rs') → W.cell? ⟨p, 2, none⟩ = some (.map (some b)) ∧ (Instr.lookup 58 (.map (some b)) (.int .i64 on) false).run Try.prog W = .ok (.slice Ao no co) W) := fun W R1 Rs' hs => ⟨(cell_block (hs.blk_at 0 rfl) 2).trans rfl, by rw [sm_look hs 2 rfl HON.out, hfo]⟩
    clear hfo hno2
    have hC0 := HCF.out _ _ _ S6.out.drew
    go_upto_region 5 with (fail)
    refine Held.begin_ (fun W : World => W.cell? ⟨p, 2, none⟩ = some (.map (some b)) ∧ (Instr.lookup 58 (.map (some b)) (.int .i64 on) false).run Try.prog W = .ok (.slice Ao no co) W) 14 (by kernel_rfl) ?_
    have hC : (fun W : World => W.cell? ⟨p, 2, none⟩ = some (.map (some b)) ∧ (Instr.lookup 58 (.map (some b)) (.int .i64 on) false).run Try.prog W = .ok (.slice Ao no co) W) w5.drew := hC0
    refine Held.take 0 (v := ?_) hC rfl (by kernel_rfl) (by kernel_rfl) (by kernel_rfl) (by kernel_rfl) (fun _ _ _ h => h) ?_ ?_; rotate_left; · (intro W hW; obtain ⟨k0, k1⟩ := hW; go_simp <;> with_reducible rfl)
    try simp only [Act.put, List.setIfInBounds_toArray, List.set_cons_zero, List.set_cons_succ]
    refine Held.take 1 (v := ?_) hC rfl (by kernel_rfl) (by kernel_rfl) (by kernel_rfl) (by kernel_rfl) (fun _ _ _ h => h) ?_ ?_; rotate_left; · (intro W hW; obtain ⟨k0, k1⟩ := hW; go_simp <;> with_reducible rfl)
    try simp only [Act.put, List.setIfInBounds_toArray, List.set_cons_zero, List.set_cons_succ]
    refine Held.take 2 (v := ?_) hC rfl (by kernel_rfl) (by kernel_rfl) (by kernel_rfl) (by kernel_rfl) (fun _ _ _ h => h) ?_ ?_; rotate_left; · (intro W hW; obtain ⟨k0, k1⟩ := hW; go_simp <;> with_reducible rfl)
    try simp only [Act.put, List.setIfInBounds_toArray, List.set_cons_zero, List.set_cons_succ]
    refine Held.take 3 (v := ?_) hC rfl (by kernel_rfl) (by kernel_rfl) (by kernel_rfl) (by kernel_rfl) (fun _ _ _ h => h) ?_ ?_; rotate_left; · (intro W hW; obtain ⟨k0, k1⟩ := hW; go_simp <;> with_reducible rfl)
    try simp only [Act.put, List.setIfInBounds_toArray, List.set_cons_zero, List.set_cons_succ]
    refine Held.take 4 (v := ?_) hC rfl (by kernel_rfl) (by kernel_rfl) (by kernel_rfl) (by kernel_rfl) (fun _ _ _ h => h) ?_ ?_; rotate_left; · (intro W hW; obtain ⟨k0, k1⟩ := hW; go_simp <;> with_reducible rfl)
    try simp only [Act.put, List.setIfInBounds_toArray, List.set_cons_zero, List.set_cons_succ]
    refine Held.take 5 (v := ?_) hC rfl (by kernel_rfl) (by kernel_rfl) (by kernel_rfl) (by kernel_rfl) (fun _ _ _ h => h) ?_ ?_; rotate_left; · (intro W hW; obtain ⟨k0, k1⟩ := hW; go_simp <;> with_reducible rfl)
    try simp only [Act.put, List.setIfInBounds_toArray, List.set_cons_zero, List.set_cons_succ]
    refine Held.take 6 (v := ?_) hC rfl (by kernel_rfl) (by kernel_rfl) (by kernel_rfl) (by kernel_rfl) (fun _ _ _ h => h) ?_ ?_; rotate_left; · (intro W hW; obtain ⟨k0, k1⟩ := hW; go_simp <;> with_reducible rfl)
    try simp only [Act.put, List.setIfInBounds_toArray, List.set_cons_zero, List.set_cons_succ]
    refine Held.take 7 (v := ?_) hC rfl (by kernel_rfl) (by kernel_rfl) (by kernel_rfl) (by kernel_rfl) (fun _ _ _ h => h) ?_ ?_; rotate_left; · (intro W hW; obtain ⟨k0, k1⟩ := hW; go_simp <;> with_reducible rfl)
    try simp only [Act.put, List.setIfInBounds_toArray, List.set_cons_zero, List.set_cons_succ]
    refine Held.take 8 (v := ?_) hC rfl (by kernel_rfl) (by kernel_rfl) (by kernel_rfl) (by kernel_rfl) (fun _ _ _ h => h) ?_ ?_; rotate_left; · (intro W hW; obtain ⟨k0, k1⟩ := hW; go_simp <;> with_reducible rfl)
    try simp only [Act.put, List.setIfInBounds_toArray, List.set_cons_zero, List.set_cons_succ]
    refine Held.take 9 (v := ?_) hC rfl (by kernel_rfl) (by kernel_rfl) (by kernel_rfl) (by kernel_rfl) (fun _ _ _ h => h) ?_ ?_; rotate_left; · (intro W hW; obtain ⟨k0, k1⟩ := hW; go_simp <;> with_reducible rfl)
    try simp only [Act.put, List.setIfInBounds_toArray, List.set_cons_zero, List.set_cons_succ]
    refine Held.take 10 (v := ?_) hC rfl (by kernel_rfl) (by kernel_rfl) (by kernel_rfl) (by kernel_rfl) (fun _ _ _ h => h) ?_ ?_; rotate_left; · (intro W hW; obtain ⟨k0, k1⟩ := hW; go_simp <;> with_reducible rfl)
    try simp only [Act.put, List.setIfInBounds_toArray, List.set_cons_zero, List.set_cons_succ]
    refine Held.take 11 (v := ?_) hC rfl (by kernel_rfl) (by kernel_rfl) (by kernel_rfl) (by kernel_rfl) (fun _ _ _ h => h) ?_ ?_; rotate_left; · (intro W hW; obtain ⟨k0, k1⟩ := hW; go_simp <;> with_reducible rfl)
    try simp only [Act.put, List.setIfInBounds_toArray, List.set_cons_zero, List.set_cons_succ]
    have S7 := Lib.hid (S6.out.drew.next (new_below0 w5.drew (.cells #[.int .i64 L.length] 3)))
    have hC3 := HCF.out _ _ _ S7.out
    have HX1 : Hid (RdL intE (w5.drew.alloc (.cells #[.int .i64 L.length] 3)) (fun _ => True) (.slice (some ⟨w5.drew.heap.size, 0, none⟩) 1 1) [(L.length : Int)]) := RdL.lit1 (E := intE) w5.drew 3 (L.length : Int) (cs := #[.int .i64 L.length]) rfl (fun _ => True) trivial
    clear hC hC0 S6
    refine Held.only 12 (by kernel_rfl) rfl ?_
    intro K hK
    go_simp
    refine hK.out _ _ (fun _ => hC3) ?_
    clear hK K
    try simp only [Act.put, List.setIfInBounds_toArray, List.set_cons_zero, List.set_cons_succ]
    refine Held.only 13 (by kernel_rfl) rfl ?_
    intro K hK
    refine wp_appL (v := f on) (.tmp 42) (.tmp 44) intElemL (by rfl) (by rw [HFO.out, HNO.out]; rfl) (by rfl) (S7.out.own 3 rfl) HX1.out (by rw [HNO.out]; simp; omega) (Nat.zero_le _) ?_
    intro v6 w6 h2 h3 h4
    have S8 := Lib.hid (S7.out.grown 3 rfl h2 h3 h4)
    have hC6 := HCF.out _ _ _ S8.out
    clear h2 h3 h4 S7 hC3 HX1
    refine hK.out _ _ (fun _ => hC6) ?_
    clear hK K
    try simp only [Act.put, List.setIfInBounds_toArray, List.set_cons_zero, List.set_cons_succ]
    refine Held.only 14 (by kernel_rfl) rfl ?_
    intro K hK
    refine wp_sputK _ _ _ (by rfl) (by rfl) (by rfl) (by rfl) S8.out 2 rfl HON.out (.inl rfl) (by omega) ?_
    intro w7 h7
    have S9 := Lib.hid h7
    clear h7 S8 hC6
    refine hK.out _ _ (fun h => absurd rfl h) ?_
    clear hK K
    simp only [Act.put]
    refine Held.done (by kernel_rfl) ?_ _
    have HFIN : Hid (Sep B w w7 (la p l4 M :: Rs)) := by
      have h1 : Sep B w w7 (lst p M (.slice A4 n4 c4) b (L.length + 1) (upd f on v6) l4 (waitsL l4) ++ Rs) := lst_put S9.out rfl (by rw [HL4.out, waits_add, if_pos rfl]) fun x hx => by rw [HL4.out, waits_add, if_neg hx]
      exact la_close h1 (by rw [HL4.out, List.length_append]; exact Nat.le_refl _) (by rw [HL4.out]; exact HOK.out)
    clear S9
    go_wp2
    go_ret2
    rw [← HL4.out]
    exact ⟨rfl, HFIN.out⟩
  · have HE : Hid (addE L M = 2 ∧ addV L M = -1 ∧ addL L M on th = L) := by unfold addE addV addL; rw [if_neg hlt, if_neg hlt, if_neg hlt]; exact ⟨rfl, rfl, rfl⟩
    have hd : ((L.length : Int) == M) = true := by rw [beq_iff_eq]; omega
    rw [HE.out.1, HE.out.2.1, HE.out.2.2]
    clear HE HS hlt hl hm
    go_enter Try.func22, Try.ntmps22
    go_wp2
    go_ret2
    exact ⟨rfl, HH.out⟩
end Go.Proofs.Ytindcpcfilfnkaa.AftC
