/-
  Package task, as it landed, fourth part: a task waits (Park, Again). No condition.
-/
import Derived.Test.YthdipkdolgcmgaaTkC
namespace Go.Proofs.Ythdipkdolgcmgaa.TkA
open Go.ChangeShapes Go.WideShapes Go.ChangeAt Go.RowKit Mem MutP TaskP Hand RefTask TaskI

theorem pkA_one (q : Pk) : (pkA q).all (·.oneCell') = true := by simp [pkA, Value.oneCell']
theorem size_p (q : Pk) : (Try.prog.info? 32).map (·.size) = some (pkA q).size := by kernel_rfl

theorem lit_at {wk : World} {g : Nat} (hg : wk.heap.size = g) (s : Int) : Rd (wk.alloc (.cells #[.int .i64 s] 3)) (fun _ => True) (.slice (some ⟨g, 0, none⟩) [s].length 1) [s] := by
  subst hg
  exact lit_one wk s
section
variable {B : Nat → Prop} {w wk wn : World} {Rs : List Res} {p : Nat} {L : List Tk} {N : Int}
/-- The block in which all tasks lie. -/
theorem ta_block {k n c bb : Nat} {t : Tk} (h : Sep B w wk (ta p L N (.slice (some ⟨bb, 0, none⟩) n c) ++ Rs)) (hk : L[k]? = some t) : ∃ cur : Array Value, wk.heap[bb]? = some (.cells cur 53 (0, 0)) ∧ k * 17 + 17 ≤ cur.size := by
  have ho := h.own 1 rfl
  have hl := (List.getElem?_eq_some_iff.1 hk).1
  rcases ho.2 with ⟨_, hn⟩ | ⟨b, cap, cur, he, hb, hg, hnc, hcm, hcs, hcur⟩
  · omega
  · obtain ⟨rfl, rfl⟩ : bb = b ∧ c = cap := by
      injection he with h1 _ h2
      injection h1 with h1
      injection h1 with h1
      exact ⟨h1, h2⟩
    refine ⟨cur, hg, ?_⟩
    have h17 : tkE.sz = 17 := rfl
    rw [h17] at hcs
    omega

theorem ta_whole {k n c bb : Nat} {t : Tk} (h : Sep B w wk (ta p L N (.slice (some ⟨bb, 0, none⟩) n c) ++ Rs)) (hk : L[k]? = some t) (q : Pk) :
    Sep B w (setCells wk bb (k * 17 + 10) (pkA q).toList) (ta p (L.set k (wtT t q)) N (.slice (some ⟨bb, 0, none⟩) n c) ++ Rs) := by
  have h1 := (ta_wait h hk q).1
  simp only [pkA, setCells, Nat.add_assoc] at h1 ⊢
  exact h1
set_option maxHeartbeats 1000000 in
set_option maxRecDepth 100000 in
theorem wait_s {A : Option Addr} {c : Nat} (hok : TaskP.Ok L N) (h : Sep B w wk (ta p L N (.slice A L.length c) ++ Rs)) (st n : Int) (q : Pk) (hst : st ≠ 0) {b : Bool} {L' : List Tk} (hb : (decide (1 ≤ q.k) && isB L n st) = b) (hL : doL b L n (fun t => pkT t q) = L') :
    Calls Try.prog 37 #[.pointer (some ⟨p, 0, none⟩), .int .i64 st, .int .i64 n, .agg (pkA q)] wk fun e wn => e = .returned (.bool b) ∧ Sep B w wn (ta p L' N (.slice A L.length c) ++ Rs) := by
  have szP := size_p q
  have oP := pkA_one q
  have HX0 : Hid ((pkA q)[0]? = some (.int .i64 q.k)) := rfl
  have hX6 : (pkA q).size = 6 := rfl
  have HW : Hid (∀ (wz : World) (Z : List Res) (M : List Tk) (k m c bb : Nat) (t : Tk), Sep B w wz (ta p M N (.slice (some ⟨bb, 0, none⟩) m c) ++ Z) → M[k]? = some t → Sep B w (setCells wz bb (k * 17 + 10) (pkA q).toList) (ta p (M.set k (wtT t q)) N (.slice (some ⟨bb, 0, none⟩) m c) ++ Z)) := fun _ _ _ _ _ _ _ _ h hk => ta_whole h hk q
  generalize pkA q = X at *
  obtain ⟨o, ho⟩ : ∃ o : Obj, o = .cells X 32 := ⟨_, rfl⟩
  have hn := h.new o
  have hn2 : Sep B w (wk.alloc o) (ta p L N (.slice A L.length c) ++ (blk wk.heap.size o :: Rs)) := hn.perm (by
    show List.Perm (_ :: _ :: _ :: Rs) (_ :: _ :: _ :: Rs)
    exact (List.Perm.swap ..).trans (.cons _ (.swap ..)))
  have hse := (ta_sees hok hn2).below (new_below0 (wk.alloc o) (.cells #[.int .i64 st] 3))
  have S0 := Lib.hid (hn2.next (new_below0 (wk.alloc o) (.cells #[.int .i64 st] 3)))
  rcases hi : isB L n st with _ | _
  · rw [hi, Bool.and_false] at hb
    subst hb
    rw [doL_no rfl] at hL
    subst hL
    have HN := Lib.hid (among_no hse n (lit_at (wk := wk.alloc o) (g := wk.heap.size + 1) (by simp) st) (by rw [in_one hst, hi]))
    clear h hse hi hok hn hn2
    generalize L.length = len at *
    subst ho
    go_enter Try.func37, Try.ntmps37
    go_wp2_with fail
    refine HN.out.mono ?_
    rintro e w1 ⟨rfl, hb⟩
    have HS := Lib.hid (S0.out.next hb)
    clear S0 hb HN
    go_wp2
    go_ret
    refine ⟨rfl, HS.out.sub ?_⟩
    show List.Sublist (_ :: _ :: Rs) (_ :: _ :: _ :: Rs)
    exact ((List.sublist_cons_self _ _).cons_cons _).cons_cons _
  · obtain ⟨k, t, rfl, hk⟩ := at_is hi
    obtain ⟨bb, rfl⟩ := ta_addr h hk
    have HN := Lib.hid (among_yes hse hk (lit_at (wk := wk.alloc o) (g := wk.heap.size + 1) (by simp) st) (by have h1 := in_one (L := L) (n := (k : Int)) (s := st) hst; rw [getT_at hk] at h1; rw [h1, hi]))
    have HK := Lib.hid hk
    by_cases hq : 1 ≤ q.k
    · rw [hi, decide_eq_true hq] at hb
      subst hb
      rw [show doL (true && true) L (k : Int) (fun t => pkT t q) = L.set k (pkT t q) from doL_yes rfl hk] at hL
      subst hL
      have d1 : decide (q.k < 1) = false := decide_eq_false (by omega)
      have HP : Hid (pkT t q = wtT (put t 0 2) q) := rfl
      generalize pkT t q = t3 at *
      clear h hse hi hok hk hn hn2 hq
      generalize L.length = len at *
      subst ho
      go_enter Try.func37, Try.ntmps37
      go_wp2_with fail
      refine HN.out.mono ?_
      rintro e w1 ⟨rfl, hb⟩
      have hs := S0.out.next hb
      have hbl := hs.blk_at 2 rfl
      have l0 : w1.cell? ⟨wk.heap.size, 0, none⟩ = some (.int .i64 q.k) := (cell_block hbl 0).trans HX0.out
      have S1 := Lib.hid hs
      clear S0 hb HN hs hbl
      go_wp2_with fail
      generalize wk.heap.size = g at *
      have SD := Lib.hid S1.out.drew
      clear S1 l0
      refine Held.begin_ (fun V : World => V.heap[g]? = some (.cells X 32 (0, 0))) 99 (by kernel_rfl) ?_
      have hC : (fun V : World => V.heap[g]? = some (.cells X 32 (0, 0))) w1.drew := SD.out.blk_at 2 rfl
      generalize w1.drew = w0 at *
      refine Held.takeN 0 (v := ?_) hC rfl (by kernel_rfl) (by kernel_rfl) (by kernel_rfl) rfl (fun _ _ _ h => h) rfl ?_ ?_; rotate_left; · (intro W _; go_simp <;> with_reducible rfl)
      try simp only [Act.put, List.setIfInBounds_toArray, List.set_cons_zero, List.set_cons_succ]
      refine Held.takeN 1 (v := ?_) hC rfl (by kernel_rfl) (by kernel_rfl) (by kernel_rfl) rfl (fun _ _ _ h => h) rfl ?_ ?_; rotate_left; · (intro W _; go_simp <;> with_reducible rfl)
      try simp only [Act.put, List.setIfInBounds_toArray, List.set_cons_zero, List.set_cons_succ]
      refine Held.takeN 2 (v := .agg X) hC rfl (by kernel_rfl) (by kernel_rfl) (by kernel_rfl) rfl (fun _ _ _ h => h) rfl (fun W hW => exec_block1 32 (.tmp 7) rfl rfl hW Try.underlying32 rfl szP) ?_
      try simp only [Act.put, List.setIfInBounds_toArray, List.set_cons_zero, List.set_cons_succ]
      refine Held.takeN 3 (v := ?_) hC rfl (by kernel_rfl) (by kernel_rfl) (by kernel_rfl) rfl (fun _ _ _ h => h) rfl ?_ ?_; rotate_left; · (intro W _; go_simp <;> with_reducible rfl)
      try simp only [Act.put, List.setIfInBounds_toArray, List.set_cons_zero, List.set_cons_succ]
      refine Held.takeN 4 (v := ?_) hC rfl (by kernel_rfl) (by kernel_rfl) (by kernel_rfl) rfl (fun _ _ _ h => h) rfl ?_ ?_; rotate_left; · (intro W _; go_simp <;> with_reducible rfl)
      try simp only [Act.put, List.setIfInBounds_toArray, List.set_cons_zero, List.set_cons_succ]
      have hat := ta_at SD.out HK.out
      have c0 := hat.c0
      have f0 := hat.f0
      obtain ⟨s1, t1⟩ := ta_put SD.out HK.out 0 (by omega) 2
      have S1 := Lib.hid s1
      have HK1 := Lib.hid t1
      clear hC hat s1 t1
      refine Held.only 5 (by kernel_rfl) rfl ?_
      intro K hK
      go_simp
      refine hK.out _ _ (fun _ => S1.out.blk_at 2 rfl) ?_
      clear hK K
      try simp only [Act.put, List.setIfInBounds_toArray, List.set_cons_zero, List.set_cons_succ]
      have hC : (fun V : World => V.heap[g]? = some (.cells X 32 (0, 0))) (w0.setCell ⟨bb, k * 17 + 0, none⟩ (.int .i64 2)) := S1.out.blk_at 2 rfl
      refine Held.takeN 6 (v := ?_) hC rfl (by kernel_rfl) (by kernel_rfl) (by kernel_rfl) rfl (fun _ _ _ h => h) rfl ?_ ?_; rotate_left; · (intro W _; go_simp <;> with_reducible rfl)
      try simp only [Act.put, List.setIfInBounds_toArray, List.set_cons_zero, List.set_cons_succ]
      refine Held.takeN 7 (v := ?_) hC rfl (by kernel_rfl) (by kernel_rfl) (by kernel_rfl) rfl (fun _ _ _ h => h) rfl ?_ ?_; rotate_left; · (intro W _; go_simp <;> with_reducible rfl)
      try simp only [Act.put, List.setIfInBounds_toArray, List.set_cons_zero, List.set_cons_succ]
      obtain ⟨cur, hcur, hcs⟩ := ta_block S1.out HK1.out
      have s2 := HW.out _ _ _ _ _ _ _ _ S1.out HK1.out
      rw [List.set_set, ← HP.out] at s2
      have HS := Lib.hid s2
      clear s2 hC
      refine Held.only 8 (by kernel_rfl) rfl ?_
      intro K hK
      refine wp_storeAt 32 (.tmp 28) (.tmp 24) rfl (off := k * 17 + 10) rfl rfl hcur (by omega) szP oP ?_
      refine hK.out _ _ (fun _ => HS.out.blk_at 2 rfl) ?_
      clear hK K
      try simp only [Act.put]
      refine Held.done (by kernel_rfl) ?_ _
      go_wp2
      go_ret
      refine ⟨rfl, HS.out.sub ?_⟩
      show List.Sublist (_ :: _ :: Rs) (_ :: _ :: _ :: Rs)
      exact ((List.sublist_cons_self _ _).cons_cons _).cons_cons _
    · rw [decide_eq_false hq, Bool.false_and] at hb
      subst hb
      rw [doL_no rfl] at hL
      subst hL
      have d1 : decide (q.k < 1) = true := decide_eq_true (by omega)
      clear h hse hi hok hk hn hn2 hq
      generalize L.length = len at *
      subst ho
      go_enter Try.func37, Try.ntmps37
      go_wp2_with fail
      refine HN.out.mono ?_
      rintro e w1 ⟨rfl, hb⟩
      have hs := S0.out.next hb
      have hbl := hs.blk_at 2 rfl
      have l0 : w1.cell? ⟨wk.heap.size, 0, none⟩ = some (.int .i64 q.k) := (cell_block hbl 0).trans HX0.out
      have HS := Lib.hid hs
      clear S0 hb HN hs hbl
      go_wp2
      go_ret
      refine ⟨rfl, HS.out.sub ?_⟩
      show List.Sublist (_ :: _ :: Rs) (_ :: _ :: _ :: Rs)
      exact ((List.sublist_cons_self _ _).cons_cons _).cons_cons _
end
end Go.Proofs.Ythdipkdolgcmgaa.TkA
