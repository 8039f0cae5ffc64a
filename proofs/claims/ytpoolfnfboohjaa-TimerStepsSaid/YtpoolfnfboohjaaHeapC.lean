/-
  Contracts of the functions of package heap, as it landed, fourth part: the first of those below a place. Condition: the pointer's blocks are as 'HB' says.
-/
import Derived.Test.YtpoolfnfboohjaaHeapB
namespace Go.Proofs.Ytpoolfnfboohjaa.HeapC
open Go.ChangeShapes Go.WideShapes Go.ChangeAt Go.RowKit Mem RefHeap HeapI HeapP

/-- The first of them all. -/
def minG (a : Ent) (l : List Ent) : Ent := l.foldl (fun m y => if RefHeap.ahead y m = true then y else m) a
theorem minG_snoc (a y : Ent) (l : List Ent) : minG a (l ++ [y]) = if RefHeap.ahead y (minG a l) = true then y else minG a l := by unfold minG; rw [List.foldl_append]; rfl
theorem minG_mem (a : Ent) : ∀ l : List Ent, minG a l ∈ a :: l := by
  intro l
  induction l generalizing a with
  | nil => simp [minG]
  | cons y l ih =>
    have h := ih (if RefHeap.ahead y a = true then y else a)
    have e : minG a (y :: l) = minG (if RefHeap.ahead y a = true then y else a) l := rfl
    rw [e]
    rcases List.mem_cons.1 h with h | h
    · rw [h]
      split <;> simp
    · simp [h]
theorem minG_le (a : Ent) : ∀ (l : List Ent) (y : Ent), y ∈ a :: l → RefHeap.ahead y (minG a l) = false := by
  intro l
  induction l generalizing a with
  | nil => intro y hy; simp at hy; subst hy; exact no_self _
  | cons z l ih =>
    intro y hy
    have e : minG a (z :: l) = minG (if RefHeap.ahead z a = true then z else a) l := rfl
    rw [e]
    have hm := ih (if RefHeap.ahead z a = true then z else a) _ (List.mem_cons_self ..)
    by_cases hz : RefHeap.ahead z a = true
    · rw [if_pos hz] at hm ⊢
      rcases List.mem_cons.1 hy with rfl | hy
      · exact no_trans (no_of hz) hm
      · have := ih z y (by simpa using hy)
        exact this
    · rw [if_neg hz] at hm ⊢
      rcases List.mem_cons.1 hy with rfl | hy
      · exact hm
      · rcases List.mem_cons.1 hy with rfl | hy
        · exact no_trans (by simpa using hz) hm
        · exact ih a y (by simp [hy])

/-- Where the loop of MinFunc stands: the first of those that were seen, in a block of its own. -/
def MinAt (w wr : World) (m : Ent) : Prop :=
  wr.heap[w.heap.size + 1]? = some (.cells #[.int .i64 m.id, .int .i64 m.at_, .int .i64 m.seq] 65 (0, 0)) ∧ wr.heap[w.heap.size]? = some (.cells #[.int .i64 0, .int .i64 0, .int .i64 0] 65 (0, 0)) ∧ Below w.heap.size w wr
theorem MinAt.set {w wr : World} {m : Ent} (h : MinAt w wr m) (y : Ent) : MinAt w (((wr.setCell ⟨w.heap.size + 1, 0, none⟩ (.int .i64 y.id)).setCell ⟨w.heap.size + 1, 1, none⟩ (.int .i64 y.at_)).setCell ⟨w.heap.size + 1, 2, none⟩ (.int .i64 y.seq)) y :=
  ⟨set3 h.1 _ _ _, (set3_far (by omega) _ _ _).trans h.2.1, ((h.2.2.setCell (Nat.le_succ _) _).setCell (Nat.le_succ _) _).setCell (Nat.le_succ _) _⟩

set_option maxRecDepth 100000 in
set_option maxHeartbeats 1000000 in
theorem min_c {w : World} {G : Nat → Prop} {v : Value} {a : Ent} {l : List Ent} (h : RdL entE w G v (a :: l)) :
    Calls Try.prog 76 #[v, .func (.func 41) #[] #[]] w fun e w' => e = .returned (minG a (a :: l)).val ∧ Below w.heap.size w w' := by
  have hm := h.le
  obtain ⟨A, c, rfl⟩ := h.form
  obtain ⟨b, off, rfl, _, hb, c0, c1, c2⟩ := ent_cells h (i := 0) (a := a) rfl
  simp only [Nat.zero_mul, Nat.add_zero] at c0 c1 c2
  obtain ⟨L, hL⟩ : ∃ L, a :: l = L := ⟨_, rfl⟩
  have hpos : 0 < L.length := by rw [← hL]; simp
  have H1 : Hid (minG a (L.take 1) = a) := by show _ = _; rw [← hL]; simp [minG, no_self]
  rw [hL] at h hm ⊢
  have HR := Lib.hid h
  clear h hL
  have i0 : ¬ (L.length : Int) < 1 := by omega
  have n0 : 0 < L.length := hpos
  have n1 : (0 : Int) < (L.length : Int) := by omega
  have HBL : Hid (((w.alloc (.cells #[.int .i64 0, .int .i64 0, .int .i64 0] 65)).alloc (.cells #[.int .i64 a.id, .int .i64 a.at_, .int .i64 a.seq] 65)).drew.heap[w.heap.size + 1]? = some (.cells #[.int .i64 a.id, .int .i64 a.at_, .int .i64 a.seq] 65 (0, 0))) := alloc2_new w _ _
  have HZL : Hid (((w.alloc (.cells #[.int .i64 0, .int .i64 0, .int .i64 0] 65)).alloc (.cells #[.int .i64 a.id, .int .i64 a.at_, .int .i64 a.seq] 65)).drew.heap[w.heap.size]? = some (.cells #[.int .i64 0, .int .i64 0, .int .i64 0] 65 (0, 0))) := alloc2_old w _ _
  have HB0 : Hid (Below w.heap.size w ((w.alloc (.cells #[.int .i64 0, .int .i64 0, .int .i64 0] 65)).alloc (.cells #[.int .i64 a.id, .int .i64 a.at_, .int .i64 a.seq] 65))) := (new_below0 w _).alloc (by simp) _
  go_enter Try.func76, Try.ntmps76
  go_wp2
  go_loopw [6] (fun t wr => ∃ i : Nat, 1 ≤ i ∧ i ≤ L.length ∧ t = .int .i64 i ∧ Hid (MinAt w wr (minG a (L.take i)))) (fun t _ => L.length - (intOf t).toNat)
  case atStart => exact ⟨1, Nat.le_refl _, by omega, rfl, by show MinAt _ _ _; rw [H1.out]; exact ⟨HBL.out, HZL.out, HB0.out⟩⟩
  case round =>
    obtain ⟨i, hi1, hi, rfl, HM⟩ := hrel
    have hwr : w.heap.size + 1 < wr.heap.size := lt_of_block HM.out.1
    by_cases hlt : i < L.length
    · have hx : L[i]? = some L[i] := List.getElem?_eq_getElem hlt
      generalize L[i] = y at hx
      obtain ⟨b', off', he, _, hb', d0, d1, d2⟩ := ent_cells HR.out hx
      injection he with he
      injection he with he1 he2
      subst he1 he2
      have HS : Hid (minG a (L.take (i + 1)) = if RefHeap.ahead y (minG a (L.take i)) = true then y else minG a (L.take i)) := by show _ = _; rw [take_snocE L i y hx, minG_snoc]
      generalize minG a (L.take i) = m at *
      have q0 : wr.drew.cell? ⟨b, off + i * 3, none⟩ = some (.int .i64 y.id) := (HM.out.2.2.cell (p := ⟨b, off + i * 3, none⟩) hb).trans d0
      have q1 : wr.drew.cell? ⟨b, off + i * 3 + 1, none⟩ = some (.int .i64 y.at_) := (HM.out.2.2.cell (p := ⟨b, off + i * 3 + 1, none⟩) hb).trans d1
      have q2 : wr.drew.cell? ⟨b, off + i * 3 + 2, none⟩ = some (.int .i64 y.seq) := (HM.out.2.2.cell (p := ⟨b, off + i * 3 + 2, none⟩) hb).trans d2
      have z0 : wr.drew.cell? ⟨w.heap.size + 1, 0, none⟩ = some (.int .i64 m.id) := (cell_block HM.out.1 0).trans rfl
      have z1 : wr.drew.cell? ⟨w.heap.size + 1, 1, none⟩ = some (.int .i64 m.at_) := (cell_block HM.out.1 1).trans rfl
      have z2 : wr.drew.cell? ⟨w.heap.size + 1, 2, none⟩ = some (.int .i64 m.seq) := (cell_block HM.out.1 2).trans rfl
      have ii0 : (0 : Int) ≤ (i : Int) := by omega
      have ii1 : (i : Int) < (L.length : Int) := by omega
      have HMD : Hid (MinAt w wr.drew m) := ⟨HM.out.1, HM.out.2.1, HM.out.2.2.drew⟩
      have hwd : w.heap.size + 1 < wr.drew.heap.size := hwr
      clear hx d0 d1 d2 HBL HZL HB0 c0 c1 c2
      go_wp2
      refine wp_region_still_tail 6 (by kernel_rfl) (by kernel_rfl) ?_
      simp only [List.take_succ_cons, List.take_zero, List.drop_succ_cons, List.drop_zero]
      change wpStill _ _ wr.drew (fun a' => wpList _ _ _ _ a' wr.drew) _ _
      generalize wr.drew = w2 at *
      repeat still_step
      refine wpStill_nil ?_
      have hcon := against_c y m w2
      unfold Ent.val at hcon
      have HC := Lib.hid hcon
      clear hcon
      go_wp2_with fail
      refine HC.out.mono ?_
      rintro e w3 ⟨rfl, hg3⟩
      have hb3 := hg3.below
      have hb3s : w.heap.size + 1 < w3.heap.size := Nat.lt_of_lt_of_le hwd hb3.size
      have HM3 : Hid (MinAt w w3 m) := ⟨(hb3.block _ hwd).trans HMD.out.1, (hb3.block _ (by omega)).trans HMD.out.2.1, HMD.out.2.2.trans (hb3.mono (by omega))⟩
      have r0 := (hb3.cell (p := ⟨b, off + i * 3, none⟩) (by show b < _; omega)).trans q0
      have r1 := (hb3.cell (p := ⟨b, off + i * 3 + 1, none⟩) (by show b < _; omega)).trans q1
      have r2 := (hb3.cell (p := ⟨b, off + i * 3 + 2, none⟩) (by show b < _; omega)).trans q2
      have s0 : w3.cell? ⟨w.heap.size + 1, 0, none⟩ = some (.int .i64 m.id) := (cell_block HM3.out.1 0).trans rfl
      have s1 : w3.cell? ⟨w.heap.size + 1, 1, none⟩ = some (.int .i64 m.at_) := (cell_block HM3.out.1 1).trans rfl
      have s2 : w3.cell? ⟨w.heap.size + 1, 2, none⟩ = some (.int .i64 m.seq) := (cell_block HM3.out.1 2).trans rfl
      have f0 := frozen_block HM3.out.1 0
      have f1 := frozen_block HM3.out.1 1
      have f2 := frozen_block HM3.out.1 2
      obtain ⟨ah, hah⟩ : ∃ ah, RefHeap.ahead y m = ah := ⟨_, rfl⟩
      have hd : decide (cmpE y m < 0) = ah := (cmpE_neg y m).trans hah
      rw [hah] at HS
      generalize cmpE y m = r at *
      clear hah hg3 hb3 q0 q1 q2 z0 z1 z2 HMD HM HC
      cases ah
      · have HS2 : Hid (minG a (L.take (i + 1)) = m) := by show _ = _; have := HS.out; simpa using this
        clear HS
        go_wp2
        go_roundw
        case rel => exact ⟨i + 1, by omega, by omega, by go_num, by rw [HS2.out]; exact HM3⟩
        case measure => simp [intOf]; omega
      · have HS2 : Hid (minG a (L.take (i + 1)) = y) := by show _ = _; have := HS.out; simpa using this
        clear HS
        go_wp2
        go_roundw
        case rel => exact ⟨i + 1, by omega, by omega, by go_num, by rw [HS2.out]; exact HM3.out.set y⟩
        case measure => simp [intOf]; omega
    · have HS : Hid (L.take i = L) := List.take_of_length_le (by omega)
      have HMf : Hid (MinAt w wr (minG a L)) := by have := HM.out; rw [HS.out] at this; exact this
      generalize hme : minG a L = m at *
      have HME := Lib.hid hme
      clear hme
      have s0 : wr.cell? ⟨w.heap.size + 1, 0, none⟩ = some (.int .i64 m.id) := (cell_block HMf.out.1 0).trans rfl
      have s1 : wr.cell? ⟨w.heap.size + 1, 1, none⟩ = some (.int .i64 m.at_) := (cell_block HMf.out.1 1).trans rfl
      have s2 : wr.cell? ⟨w.heap.size + 1, 2, none⟩ = some (.int .i64 m.seq) := (cell_block HMf.out.1 2).trans rfl
      have y0 : wr.cell? ⟨w.heap.size, 0, none⟩ = some (.int .i64 0) := (cell_block HMf.out.2.1 0).trans rfl
      have y1 : wr.cell? ⟨w.heap.size, 1, none⟩ = some (.int .i64 0) := (cell_block HMf.out.2.1 1).trans rfl
      have y2 : wr.cell? ⟨w.heap.size, 2, none⟩ = some (.int .i64 0) := (cell_block HMf.out.2.1 2).trans rfl
      have f0 := frozen_block HMf.out.2.1 0
      have f1 := frozen_block HMf.out.2.1 1
      have f2 := frozen_block HMf.out.2.1 2
      clear HM HS HBL HZL HB0 c0 c1 c2
      go_wp2
      have HY := Lib.hid (set3 HMf.out.2.1 (.int .i64 m.id) (.int .i64 m.at_) (.int .i64 m.seq))
      have r0 := (cell_block HY.out 0).trans rfl
      have r1 := (cell_block HY.out 1).trans rfl
      have r2 := (cell_block HY.out 2).trans rfl
      exact bodyPost_ret (v := m.val) (by simp [results, Try.results76, go_sem, Ent.val, r0, r1, r2]) rfl ⟨by rw [HME.out], ((HMf.out.2.2.setCell (Nat.le_refl _) _).setCell (Nat.le_refl _) _).setCell (Nat.le_refl _) _⟩

/-- y, at place j, is the first of those below place k. -/
def Least (R : List Ent) (k : Nat) (y : Ent) (j : Nat) : Prop := R[j]? = some y ∧ 1 ≤ j ∧ (j - 1) / 4 = k ∧ ∀ c a, 1 ≤ c → (c - 1) / 4 = k → R[c]? = some a → RefHeap.ahead a y = false
theorem least_of {R : List Ent} {k n : Nat} (hk : 4 * k + 1 < R.length) (hn : n = min (4 * k + 5) R.length - (4 * k + 1)) : ∃ a l, (R.drop (4 * k + 1)).take n = a :: l ∧ ∃ j, Least R k (minG a (a :: l)) j := by
  have hL : ((R.drop (4 * k + 1)).take n).length = n := by rw [List.length_take, List.length_drop]; omega
  have hget : ∀ i, i < n → ((R.drop (4 * k + 1)).take n)[i]? = R[4 * k + 1 + i]? := fun i hi => by rw [List.getElem?_take_of_lt hi, List.getElem?_drop]
  generalize (R.drop (4 * k + 1)).take n = L at *
  cases L with
  | nil => simp at hL; omega
  | cons a l =>
    refine ⟨a, l, rfl, ?_⟩
    have hm : minG a (a :: l) ∈ a :: l := by
      have := minG_mem a (a :: l)
      rcases List.mem_cons.1 this with h | h
      · rw [h]; simp
      · exact h
    obtain ⟨i, hi, he⟩ := List.getElem_of_mem hm
    have hi' : i < n := by omega
    have hg := hget i hi'
    rw [List.getElem?_eq_getElem hi, he] at hg
    refine ⟨4 * k + 1 + i, hg.symm, by omega, by omega, fun c b h1 h2 hc => ?_⟩
    have hcl := (List.getElem?_eq_some_iff.1 hc).1
    have hci : c - (4 * k + 1) < n := by omega
    have hg2 := hget _ hci
    rw [show 4 * k + 1 + (c - (4 * k + 1)) = c by omega, hc] at hg2
    exact minG_le a (a :: l) b (List.mem_cons_of_mem _ (List.mem_of_getElem? hg2))

section
variable {w : World} {g q : Nat} {u : Value} {R : List Ent} {p : List Int} (h : HB w g q u R p)
include h
theorem HB.cut {b c f n : Nat} (hu : u = .slice (some ⟨b, 0, none⟩) R.length c) (hm : R.length ≤ 100000) : RdL entE w (fun _ => True) (.slice (some ⟨b, f * 3, none⟩) ((R.drop f).take n).length (c - f)) ((R.drop f).take n) := by
  refine ⟨_, _, rfl, by simp; omega, fun _ => ⟨b, f * 3, rfl, trivial, ?_, fun i a hi j v hj => ?_⟩⟩
  · subst hu
    exact (h.rows.lt b rfl).2
  · have hin : i < n := by
      have := (List.getElem?_eq_some_iff.1 hi).1
      rw [List.length_take] at this
      omega
    rw [List.getElem?_take_of_lt hin, List.getElem?_drop] at hi
    have := World.ownsRow.cells h.rows (g := b) (by subst hu; rfl) ((f + i) * 3 + j) v (flat_get R (f + i) a hi j v hj)
    rw [add_plain, Nat.zero_add] at this
    rw [show f * 3 + (i * entE.sz + j) = (f + i) * 3 + j by show f * 3 + (i * 3 + j) = _; omega]
    exact this

set_option maxRecDepth 100000 in
set_option maxHeartbeats 1000000 in
theorem firstBelow_c (hR : R.length ≤ 100000) (k : Nat) (hk : 4 * k + 1 < R.length) :
    Calls Try.prog 70 #[.pointer (some ⟨g, 0, none⟩), .int .i64 k] w fun e w' => ∃ y, e = .returned y.val ∧ (∃ j, Least R k y j) ∧ Below w.heap.size w w' := by
  obtain ⟨b, c, rfl, hbg, hbq, hbl, c0, c1, c2, hf⟩ := h.row (List.getElem?_eq_getElem hk)
  obtain ⟨n, hn⟩ : ∃ n, n = min (4 * k + 5) R.length - (4 * k + 1) := ⟨_, rfl⟩
  obtain ⟨a, l, hal, hle⟩ := least_of hk hn
  have hcut := h.cut (b := b) (c := c) (f := 4 * k + 1) (n := n) rfl hR
  have hcl : ((R.drop (4 * k + 1)).take n).length = n := by rw [List.length_take, List.length_drop]; omega
  rw [hcl, hal] at hcut
  have g0 : (w.alloc (.cells #[.int .i64 0, .int .i64 0, .int .i64 0] 65)).drew.cell? ⟨g, 0, none⟩ = some (.slice (some ⟨b, 0, none⟩) R.length c) := ((h.alloc (.cells #[.int .i64 0, .int .i64 0, .int .i64 0] 65)).drew).c0
  have HZ : Hid ((w.alloc (.cells #[.int .i64 0, .int .i64 0, .int .i64 0] 65)).drew.heap[w.heap.size]? = some (.cells #[.int .i64 0, .int .i64 0, .int .i64 0] 65 (0, 0))) := heap_alloc_new w _
  have HC : Hid (RdL entE (w.alloc (.cells #[.int .i64 0, .int .i64 0, .int .i64 0] 65)).drew (fun _ => True) (.slice (some ⟨b, (4 * k + 1) * 3, none⟩) n (c - (4 * k + 1))) (a :: l)) := (hcut.alloc _).drew
  have HB0 : Hid (Below w.heap.size w (w.alloc (.cells #[.int .i64 0, .int .i64 0, .int .i64 0] 65)).drew) := (new_below0 w _).drew
  have HLE := Lib.hid hle
  have HN := Lib.hid hn
  have hcap : R.length ≤ c := by
    rcases h.rows.2 with ⟨he, _⟩ | ⟨_, cap, _, he, _, _, hnc, _⟩
    · cases he
    · injection he with _ _ he; subst he; exact hnc
  clear h hle hcut hal hcl c0 c1 c2 hf hn
  go_enter Try.func70, Try.ntmps70
  go_wp2
  refine wp_region_still_tail 14 (by kernel_rfl) (by kernel_rfl) ?_
  simp only [List.take_succ_cons, List.take_zero, List.drop_succ_cons, List.drop_zero]
  change wpStill _ _ (w.alloc (.cells #[.int .i64 0, .int .i64 0, .int .i64 0] 65)).drew (fun a' => wpList _ _ _ _ a' (w.alloc (.cells #[.int .i64 0, .int .i64 0, .int .i64 0] 65)).drew) _ _
  generalize (w.alloc (.cells #[.int .i64 0, .int .i64 0, .int .i64 0] 65)).drew = w2 at *
  have wq : IntKind.i64.wrap (4 * (k : Int) + 1 + 4) = 4 * (k : Int) + 5 := by rw [IntWalk.i64_in _ (by omega)]; omega
  have l0 : (0 : Int) ≤ 4 * (k : Int) + 1 := by omega
  rcases (by omega : (R.length : Int) < 4 * (k : Int) + 5 ∨ ¬ (R.length : Int) < 4 * (k : Int) + 5) with hlt | hlt
  · have l1 : 4 * (k : Int) + 1 ≤ (R.length : Int) := by omega
    have l2 : (R.length : Int) ≤ c := by omega
    repeat still_step
    refine wpStill_nil ?_
    obtain rfl : n = R.length - (4 * k + 1) := by have := HN.out; omega
    clear wq
    go_wp2_with fail
    refine (min_c HC.out).mono ?_
    rintro e w3 ⟨rfl, hb3⟩
    generalize minG a (a :: l) = m at *
    have hz3 := (hb3.block w.heap.size (lt_of_block HZ.out)).trans HZ.out
    have HB3 : Hid (Below w.heap.size w w3) := HB0.out.trans (hb3.mono HB0.out.size)
    have f0 := frozen_block hz3 0
    have f1 := frozen_block hz3 1
    have f2 := frozen_block hz3 2
    have y0 : w3.cell? ⟨w.heap.size, 0, none⟩ = some (.int .i64 0) := (cell_block hz3 0).trans rfl
    have y1 : w3.cell? ⟨w.heap.size, 1, none⟩ = some (.int .i64 0) := (cell_block hz3 1).trans rfl
    have y2 : w3.cell? ⟨w.heap.size, 2, none⟩ = some (.int .i64 0) := (cell_block hz3 2).trans rfl
    have HY := Lib.hid (set3 hz3 (.int .i64 m.id) (.int .i64 m.at_) (.int .i64 m.seq))
    clear hb3 hz3
    unfold Ent.val
    go_wp2
    have r0 := (cell_block HY.out 0).trans rfl
    have r1 := (cell_block HY.out 1).trans rfl
    have r2 := (cell_block HY.out 2).trans rfl
    exact bodyPost_ret (v := m.val) (by simp [results, Try.results70, go_sem, Ent.val, r0, r1, r2]) rfl ⟨m, rfl, HLE.out, ((HB3.out.setCell (Nat.le_refl _) _).setCell (Nat.le_refl _) _).setCell (Nat.le_refl _) _⟩
  · have l1 : 4 * (k : Int) + 1 ≤ 4 * (k : Int) + 5 := by omega
    have l2 : 4 * (k : Int) + 5 ≤ c := by omega
    repeat still_step
    refine wpStill_nil ?_
    obtain rfl : n = 4 := by have := HN.out; omega
    clear wq
    go_wp2_with fail
    refine (min_c HC.out).mono ?_
    rintro e w3 ⟨rfl, hb3⟩
    generalize minG a (a :: l) = m at *
    have hz3 := (hb3.block w.heap.size (lt_of_block HZ.out)).trans HZ.out
    have HB3 : Hid (Below w.heap.size w w3) := HB0.out.trans (hb3.mono HB0.out.size)
    have f0 := frozen_block hz3 0
    have f1 := frozen_block hz3 1
    have f2 := frozen_block hz3 2
    have y0 : w3.cell? ⟨w.heap.size, 0, none⟩ = some (.int .i64 0) := (cell_block hz3 0).trans rfl
    have y1 : w3.cell? ⟨w.heap.size, 1, none⟩ = some (.int .i64 0) := (cell_block hz3 1).trans rfl
    have y2 : w3.cell? ⟨w.heap.size, 2, none⟩ = some (.int .i64 0) := (cell_block hz3 2).trans rfl
    have HY := Lib.hid (set3 hz3 (.int .i64 m.id) (.int .i64 m.at_) (.int .i64 m.seq))
    clear hb3 hz3
    unfold Ent.val
    go_wp2
    have r0 := (cell_block HY.out 0).trans rfl
    have r1 := (cell_block HY.out 1).trans rfl
    have r2 := (cell_block HY.out 2).trans rfl
    exact bodyPost_ret (v := m.val) (by simp [results, Try.results70, go_sem, Ent.val, r0, r1, r2]) rfl ⟨m, rfl, HLE.out, ((HB3.out.setCell (Nat.le_refl _) _).setCell (Nat.le_refl _) _).setCell (Nat.le_refl _) _⟩
end
end Go.Proofs.Ytpoolfnfboohjaa.HeapC
