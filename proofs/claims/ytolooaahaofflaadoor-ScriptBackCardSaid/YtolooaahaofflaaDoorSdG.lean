/-
  What package script does as it landed, fourth part: Read. Condition: the table of package code lies as it was written; what the slice reads as.
-/
import Derived.Test.YtolooaahaofflaaDoorSdE
import Derived.Test.YtolooaahaofflaaDoorHeldN
namespace Go.Proofs.YtolooaahaofflaaDoor.ScA
open Go.ChangeShapes Go.WideShapes Go.ChangeAt Go.RowKit Mem MutP CodeP ScriptP Hand RefCode CodeI Scr CodeT CdA

/-- What is at hand at a call's end. -/
theorem saysL_of {α : Type} {E : Enc α} {w wk : World} {u : Value} {l : List α} {Rs : List Res} (h : Sep (fun _ => False) w wk (told E u l :: Rs)) : SaysL E w wk u l := by
  have ho := h.old
  obtain ⟨_, F1, F2, ⟨h1, _⟩, _, s1, _, _⟩ := h
  exact ⟨h1.mono fun k _ hk => (s1 k hk).resolve_left id, ho⟩

set_option maxRecDepth 100000 in
set_option maxHeartbeats 4000000 in
theorem read_k {w : World} {G : Nat → Prop} {A : Option Addr} {c : Nat} {b : List Int} (hT : Tab w) (h : RdL byE w G (.slice A b.length c) b) (hb : ∀ x ∈ b, Byte x) (hc : b.length ≤ c) :
    Calls Tryd.prog 11 #[.slice A b.length c] w fun e w' => ∃ q, e = .returned (.tuple #[.agg q.arr, .int .i64 (readSE b)]) ∧ SaysS w w' q (readS b) := by
  have HR := Lib.hid h
  have HBY := Lib.hid hb
  have HT := Lib.hid hT
  clear h hb hT
  obtain ⟨n, hn⟩ : ∃ n, b.length = n := ⟨_, rfl⟩
  have HN := Lib.hid hn
  rw [hn] at HR hc ⊢
  clear hn
  unfold Sv.arr
  have S0 : Hid (Sep (fun _ => False) w (w.alloc (.cells #[.int .i64 0, .int .i64 0, .int .i64 0, .int .i64 0, .slice none 0 0, .slice none 0 0] 28)) [blk w.heap.size (.cells #[.int .i64 0, .int .i64 0, .int .i64 0, .int .i64 0, .slice none 0 0, .slice none 0 0] 28)]) := (Sep.nil (fun _ => False) w).new (.cells #[.int .i64 0, .int .i64 0, .int .i64 0, .int .i64 0, .slice none 0 0, .slice none 0 0] 28)
  rcases (by omega : 4000 < n ∨ (n ≤ 4000 ∧ n < 33) ∨ (n ≤ 4000 ∧ 33 ≤ n)) with h1 | ⟨h1, h2⟩ | ⟨h1, h2⟩
  · have HF : Hid (readSE b = 9) := se_long (by rw [HN.out]; exact h1)
    have d0 : decide ((n : Int) > 4000) = true := decide_eq_true (by omega)
    have d1 : decide (4000 < n) = true := decide_eq_true h1
    clear h1
    go_enter Tryd.func11, Tryd.ntmps11
    have T1 := S0.out
    obtain ⟨wz, hwz⟩ : ∃ wz : World, wz = w.alloc (.cells #[.int .i64 0, .int .i64 0, .int .i64 0, .int .i64 0, .slice none 0 0, .slice none 0 0] 28) := ⟨_, rfl⟩
    rw [← hwz] at T1
    have TB := Lib.hid (T1.blk_at 0 (g := w.heap.size) (o := .cells #[.int .i64 0, .int .i64 0, .int .i64 0, .int .i64 0, .slice none 0 0, .slice none 0 0] 28) rfl)
    have TO := Lib.hid T1.old
    have HWZ := Lib.hid hwz
    clear T1 hwz
    go_wp2
    rw [← HWZ.out]
    have z0 := (cell_block TB.out 0).trans rfl
    have z1 := (cell_block TB.out 1).trans rfl
    have z2 := (cell_block TB.out 2).trans rfl
    have z3 := (cell_block TB.out 3).trans rfl
    have z4 := (cell_block TB.out 4).trans rfl
    have z5 := (cell_block TB.out 5).trans rfl
    refine bodyPost_ret (v := .tuple #[.agg #[.int .i64 0, .int .i64 0, .int .i64 0, .int .i64 0, .slice none 0 0, .slice none 0 0], .int .i64 (readSE b)]) (by simp [results, Tryd.results11, go_sem, z0, z1, z2, z3, z4, z5, HF.out]) rfl ?_
    have hne : readSE b ≠ 0 := by rw [HF.out]; decide
    refine ⟨⟨0, 0, 0, 0, none, 0, 0, none, 0, 0⟩, rfl, ?_⟩
    rw [show readS b = zeroS by unfold readS; rw [if_neg hne]]
    exact saysS_zero TO.out
  · have HF : Hid (readSE b = 8) := se_short (by rw [HN.out]; exact h2)
    have d0 : decide ((n : Int) > 4000) = false := decide_eq_false (by omega)
    have d1 : decide (4000 < n) = false := decide_eq_false (by omega)
    have d2 : decide ((n : Int) < 33) = true := decide_eq_true (by omega)
    have d3 : decide (n < 33) = true := decide_eq_true h2
    clear h1 h2
    go_enter Tryd.func11, Tryd.ntmps11
    have T1 := S0.out
    obtain ⟨wz, hwz⟩ : ∃ wz : World, wz = w.alloc (.cells #[.int .i64 0, .int .i64 0, .int .i64 0, .int .i64 0, .slice none 0 0, .slice none 0 0] 28) := ⟨_, rfl⟩
    rw [← hwz] at T1
    have TB := Lib.hid (T1.blk_at 0 (g := w.heap.size) (o := .cells #[.int .i64 0, .int .i64 0, .int .i64 0, .int .i64 0, .slice none 0 0, .slice none 0 0] 28) rfl)
    have TO := Lib.hid T1.old
    have HWZ := Lib.hid hwz
    clear T1 hwz
    go_wp2
    rw [← HWZ.out]
    have z0 := (cell_block TB.out 0).trans rfl
    have z1 := (cell_block TB.out 1).trans rfl
    have z2 := (cell_block TB.out 2).trans rfl
    have z3 := (cell_block TB.out 3).trans rfl
    have z4 := (cell_block TB.out 4).trans rfl
    have z5 := (cell_block TB.out 5).trans rfl
    refine bodyPost_ret (v := .tuple #[.agg #[.int .i64 0, .int .i64 0, .int .i64 0, .int .i64 0, .slice none 0 0, .slice none 0 0], .int .i64 (readSE b)]) (by simp [results, Tryd.results11, go_sem, z0, z1, z2, z3, z4, z5, HF.out]) rfl ?_
    have hne : readSE b ≠ 0 := by rw [HF.out]; decide
    refine ⟨⟨0, 0, 0, 0, none, 0, 0, none, 0, 0⟩, rfl, ?_⟩
    rw [show readS b = zeroS by unfold readS; rw [if_neg hne]]
    exact saysS_zero TO.out
  · obtain ⟨x, hx⟩ : ∃ x, b[0]? = some x := ⟨_, List.getElem?_eq_getElem (by rw [HN.out]; omega)⟩
    obtain ⟨g, off, rfl, hg, _⟩ := by_at HR.out hx
    have HCE : Hid (∀ V : World, Below w.heap.size w V → ∀ (j : Nat) (y : Int), b[j]? = some y → V.cell? ⟨g, off + j, none⟩ = some (.int .u8 y)) := fun V hV j y hy => by
      obtain ⟨g', off', e, _, hcell⟩ := by_at HR.out hy
      injection e with e
      injection e with e1 e2
      subst e1 e2
      exact (hV.cell (p := ⟨g, off + j, none⟩) hg).trans hcell
    obtain ⟨n0, n1, n2, n3, hro⟩ : ∃ n0 n1 n2 n3, roomsOf b = [n0, n1, n2, n3] := ⟨_, _, _, _, rfl⟩
    have HRO := Lib.hid hro
    have HRM : Hid (∀ V : World, Below w.heap.size w V → Calls Tryd.prog 27 #[.slice (some ⟨g, off, none⟩) n c] V fun e w' => e = .returned (.agg #[.int .i64 n0, .int .i64 n1, .int .i64 n2, .int .i64 n3]) ∧ Below V.heap.size V w') := fun V hV =>
      roomsOf_k HN.out (by omega) hc HBY.out (Nat.lt_of_lt_of_le hg hV.size) (fun j y hy => HCE.out V hV j y hy) HRO.out
    obtain ⟨y, hy⟩ : ∃ y, b[32]? = some y := ⟨_, List.getElem?_eq_getElem (by rw [HN.out]; omega)⟩
    have HM : Hid (manyOf b = y) := by show _ = _; unfold manyOf; simp [List.getD, hy]
    have hy0 : 0 ≤ y ∧ y ≤ 255 := HBY.out y (List.mem_of_getElem? hy)
    have HY := Lib.hid hy
    have wy : IntKind.i64.wrap y = y := IntWalk.i64_in _ (by omega)
    have n32 : (32 : Int) < (n : Int) := by omega
    have n32' : 32 < n := by omega
    have HLEN : Hid (b.length ≤ 4000 ∧ 33 ≤ b.length) := by show _ ∧ _; rw [HN.out]; exact ⟨h1, h2⟩
    obtain ⟨A', ⟨sl1, sl2⟩, hrd⟩ := cut_any HR.out hc (by omega) 33 (by omega)
    have HRD := Lib.hid hrd
    have SL1 : Hid (∀ w, (Instr.sliceAt 29 (.slice (some ⟨g, off, none⟩) n c) (some (.int .i64 33)) none none).run Tryd.prog w = .ok (.slice A' (n - 33) (c - 33)) w) := sl1
    have SL2 : Hid (∀ w, (Instr.slice 29 (.slice (some ⟨g, off, none⟩) n c) (some (.int .i64 33)) none none).run Tryd.prog w = .ok (.slice A' (n - 33) (c - 33)) w) := sl2
    have HNC : Hid (n - 33 ≤ c - 33) := by show _ ≤ _; omega
    have d0 : decide ((n : Int) > 4000) = false := decide_eq_false (by omega)
    have d1 : decide (4000 < n) = false := decide_eq_false (by omega)
    have d2 : decide ((n : Int) < 33) = false := decide_eq_false (by omega)
    have d3 : decide (n < 33) = false := decide_eq_false (by omega)
    clear hx hro hc hy hrd sl1 sl2 hg
    go_enter Tryd.func11, Tryd.ntmps11
    go_upto_region 5 with (fail)
    clear d0 d1 d2 d3
    go_cut [4, 5] (fun s4 s5 wx => ∃ R : Nat, s4 = .pointer (some ⟨R, 0, none⟩) ∧ s5 = .int .i64 y ∧ Hid (Sep (fun _ => False) w wx [blk R (.cells #[.int .i64 n0, .int .i64 n1, .int .i64 n2, .int .i64 n3] 24), blk w.heap.size (.cells #[.int .i64 0, .int .i64 0, .int .i64 0, .int .i64 0, .slice none 0 0, .slice none 0 0] 28)]))
    case first => as_aux_lemma =>
      have SD := Lib.hid S0.out.drew
      refine Held.begin_ (fun V : World => V.cell? ⟨g, off + 32, none⟩ = some (.int .u8 y)) 99 (by kernel_rfl) ?_
      have hC : (fun V : World => V.cell? ⟨g, off + 32, none⟩ = some (.int .u8 y)) (w.alloc (.cells #[.int .i64 0, .int .i64 0, .int .i64 0, .int .i64 0, .slice none 0 0, .slice none 0 0] 28)).drew := HCE.out _ SD.out.old 32 y HY.out
      generalize (w.alloc (.cells #[.int .i64 0, .int .i64 0, .int .i64 0, .int .i64 0, .slice none 0 0, .slice none 0 0] 28)).drew = w0 at *
      refine Held.takeN 0 (v := ?_) hC rfl (by kernel_rfl) (by kernel_rfl) (by kernel_rfl) rfl (fun _ _ _ h => h) rfl ?_ ?_; rotate_left; · (intro W hW; go_simp <;> with_reducible rfl)
      try simp only [Act.put, List.setIfInBounds_toArray, List.set_cons_zero, List.set_cons_succ]
      refine Held.takeN 2 (v := ?_) hC rfl (by kernel_rfl) (by kernel_rfl) (by kernel_rfl) rfl (fun _ _ _ h => h) rfl ?_ ?_; rotate_left; · (intro W hW; go_simp <;> with_reducible rfl)
      try simp only [Act.put, List.setIfInBounds_toArray, List.set_cons_zero, List.set_cons_succ]
      refine Held.takeN 3 (v := ?_) hC rfl (by kernel_rfl) (by kernel_rfl) (by kernel_rfl) rfl (fun _ _ _ h => h) rfl ?_ ?_; rotate_left; · (intro W hW; go_simp <;> with_reducible rfl)
      try simp only [Act.put, List.setIfInBounds_toArray, List.set_cons_zero, List.set_cons_succ]
      refine Held.takeN 4 (v := ?_) hC rfl (by kernel_rfl) (by kernel_rfl) (by kernel_rfl) rfl (fun _ _ _ h => h) rfl ?_ ?_; rotate_left; · (intro W hW; go_simp <;> with_reducible rfl)
      try simp only [Act.put, List.setIfInBounds_toArray, List.set_cons_zero, List.set_cons_succ]
      refine Held.takeN 5 (v := ?_) hC rfl (by kernel_rfl) (by kernel_rfl) (by kernel_rfl) rfl (fun _ _ _ h => h) rfl ?_ ?_; rotate_left; · (intro W hW; go_simp <;> with_reducible rfl)
      try simp only [Act.put, List.setIfInBounds_toArray, List.set_cons_zero, List.set_cons_succ]
      clear hC
      refine Held.either 1 6 (by kernel_rfl) rfl rfl ?_ ?_
      · intro K hK
        go_simp
        refine (HRM.out _ SD.out.old).mono ?_
        rintro e w3 ⟨rfl, h3⟩
        have S3 := Lib.hid (SD.out.next h3)
        clear h3
        refine hK.out _ _ (fun _ => HCE.out _ S3.out.old 32 y HY.out) ?_
        clear hK K
        try simp only [Act.put, List.setIfInBounds_toArray, List.set_cons_zero, List.set_cons_succ]
        refine Held.only 6 (by kernel_rfl) rfl ?_
        intro K hK
        go_simp
        have S4 := Lib.hid (S3.out.new (.cells #[.int .i64 0, .int .i64 0, .int .i64 0, .int .i64 0] 24))
        refine hK.out _ _ (fun _ => HCE.out _ S4.out.old 32 y HY.out) ?_
        clear hK K
        try simp only [Act.put, List.setIfInBounds_toArray, List.set_cons_zero, List.set_cons_succ]
        refine Held.only 7 (by kernel_rfl) rfl ?_
        intro K hK
        have p0 := (cell_block (S4.out.blk_at 0 (g := w3.heap.size) (o := .cells #[.int .i64 0, .int .i64 0, .int .i64 0, .int .i64 0] 24) rfl) 0).trans rfl
        have fp0 := frozen_block (S4.out.blk_at 0 (g := w3.heap.size) (o := .cells #[.int .i64 0, .int .i64 0, .int .i64 0, .int .i64 0] 24) rfl) 0
        have p1 := (cell_block (S4.out.blk_at 0 (g := w3.heap.size) (o := .cells #[.int .i64 0, .int .i64 0, .int .i64 0, .int .i64 0] 24) rfl) 1).trans rfl
        have fp1 := frozen_block (S4.out.blk_at 0 (g := w3.heap.size) (o := .cells #[.int .i64 0, .int .i64 0, .int .i64 0, .int .i64 0] 24) rfl) 1
        have p2 := (cell_block (S4.out.blk_at 0 (g := w3.heap.size) (o := .cells #[.int .i64 0, .int .i64 0, .int .i64 0, .int .i64 0] 24) rfl) 2).trans rfl
        have fp2 := frozen_block (S4.out.blk_at 0 (g := w3.heap.size) (o := .cells #[.int .i64 0, .int .i64 0, .int .i64 0, .int .i64 0] 24) rfl) 2
        have p3 := (cell_block (S4.out.blk_at 0 (g := w3.heap.size) (o := .cells #[.int .i64 0, .int .i64 0, .int .i64 0, .int .i64 0] 24) rfl) 3).trans rfl
        have fp3 := frozen_block (S4.out.blk_at 0 (g := w3.heap.size) (o := .cells #[.int .i64 0, .int .i64 0, .int .i64 0, .int .i64 0] 24) rfl) 3
        have S5 : Hid (Sep (fun _ => False) w (w3.alloc (.cells #[.int .i64 n0, .int .i64 n1, .int .i64 n2, .int .i64 n3] 24)) [blk w3.heap.size (.cells #[.int .i64 n0, .int .i64 n1, .int .i64 n2, .int .i64 n3] 24), blk w.heap.size (.cells #[.int .i64 0, .int .i64 0, .int .i64 0, .int .i64 0, .slice none 0 0, .slice none 0 0] 28)]) := S3.out.new (.cells #[.int .i64 n0, .int .i64 n1, .int .i64 n2, .int .i64 n3] 24)
        go_simp
        refine hK.out _ _ (fun _ => HCE.out _ S5.out.old 32 y HY.out) ?_
        clear hK K
        try simp only [Act.put, List.setIfInBounds_toArray, List.set_cons_zero, List.set_cons_succ]
        refine Held.only 8 (by kernel_rfl) rfl ?_
        intro K hK
        go_simp
        refine hK.out _ _ (fun _ => HCE.out _ S5.out.old 32 y HY.out) ?_
        clear hK K
        try simp only [Act.put, List.setIfInBounds_toArray, List.set_cons_zero, List.set_cons_succ]
        refine Held.done (by kernel_rfl) ?_ _
        go_wp2_with fail
        go_meet
        exact ⟨_, rfl, rfl, S5.out⟩
      · intro K hK
        go_simp
        have S3 := Lib.hid (SD.out.new (.cells #[.int .i64 0, .int .i64 0, .int .i64 0, .int .i64 0] 24))
        refine hK.out _ _ (fun _ => HCE.out _ S3.out.old 32 y HY.out) ?_
        clear hK K
        try simp only [Act.put, List.setIfInBounds_toArray, List.set_cons_zero, List.set_cons_succ]
        refine Held.only 1 (by kernel_rfl) rfl ?_
        intro K hK
        go_simp
        refine (HRM.out _ S3.out.old).mono ?_
        rintro e w3 ⟨rfl, h3⟩
        have S4 := Lib.hid (S3.out.next h3)
        clear h3
        refine hK.out _ _ (fun _ => HCE.out _ S4.out.old 32 y HY.out) ?_
        clear hK K
        try simp only [Act.put, List.setIfInBounds_toArray, List.set_cons_zero, List.set_cons_succ]
        refine Held.only 7 (by kernel_rfl) rfl ?_
        intro K hK
        have p0 := (cell_block (S4.out.blk_at 0 (g := w0.heap.size) (o := .cells #[.int .i64 0, .int .i64 0, .int .i64 0, .int .i64 0] 24) rfl) 0).trans rfl
        have fp0 := frozen_block (S4.out.blk_at 0 (g := w0.heap.size) (o := .cells #[.int .i64 0, .int .i64 0, .int .i64 0, .int .i64 0] 24) rfl) 0
        have p1 := (cell_block (S4.out.blk_at 0 (g := w0.heap.size) (o := .cells #[.int .i64 0, .int .i64 0, .int .i64 0, .int .i64 0] 24) rfl) 1).trans rfl
        have fp1 := frozen_block (S4.out.blk_at 0 (g := w0.heap.size) (o := .cells #[.int .i64 0, .int .i64 0, .int .i64 0, .int .i64 0] 24) rfl) 1
        have p2 := (cell_block (S4.out.blk_at 0 (g := w0.heap.size) (o := .cells #[.int .i64 0, .int .i64 0, .int .i64 0, .int .i64 0] 24) rfl) 2).trans rfl
        have fp2 := frozen_block (S4.out.blk_at 0 (g := w0.heap.size) (o := .cells #[.int .i64 0, .int .i64 0, .int .i64 0, .int .i64 0] 24) rfl) 2
        have p3 := (cell_block (S4.out.blk_at 0 (g := w0.heap.size) (o := .cells #[.int .i64 0, .int .i64 0, .int .i64 0, .int .i64 0] 24) rfl) 3).trans rfl
        have fp3 := frozen_block (S4.out.blk_at 0 (g := w0.heap.size) (o := .cells #[.int .i64 0, .int .i64 0, .int .i64 0, .int .i64 0] 24) rfl) 3
        have S5 : Hid (Sep (fun _ => False) w (((((w3.setCell ⟨w0.heap.size, 0, none⟩ (.int .i64 n0)).setCell ⟨w0.heap.size, 1, none⟩ (.int .i64 n1)).setCell ⟨w0.heap.size, 2, none⟩ (.int .i64 n2)).setCell ⟨w0.heap.size, 3, none⟩ (.int .i64 n3))) [blk w0.heap.size (.cells #[.int .i64 n0, .int .i64 n1, .int .i64 n2, .int .i64 n3] 24), blk w.heap.size (.cells #[.int .i64 0, .int .i64 0, .int .i64 0, .int .i64 0, .slice none 0 0, .slice none 0 0] 28)]) := ((((S4.out.set 0 rfl 0 (.int .i64 n0)).set 0 rfl 1 (.int .i64 n1)).set 0 rfl 2 (.int .i64 n2)).set 0 rfl 3 (.int .i64 n3))
        go_simp
        refine hK.out _ _ (fun _ => HCE.out _ S5.out.old 32 y HY.out) ?_
        clear hK K
        try simp only [Act.put, List.setIfInBounds_toArray, List.set_cons_zero, List.set_cons_succ]
        refine Held.only 8 (by kernel_rfl) rfl ?_
        intro K hK
        go_simp
        refine hK.out _ _ (fun _ => HCE.out _ S5.out.old 32 y HY.out) ?_
        clear hK K
        try simp only [Act.put, List.setIfInBounds_toArray, List.set_cons_zero, List.set_cons_succ]
        refine Held.done (by kernel_rfl) ?_ _
        go_wp2_with fail
        go_meet
        exact ⟨_, rfl, rfl, S5.out⟩
    case rest =>
    obtain ⟨R, rfl, rfl, S5⟩ := hcut
    clear S0
    have HC1 := Lib.hid (rooms_k n0 n1 n2 n3 wc)
    obtain ⟨a1, ha1⟩ : ∃ a1, ([n0, n1, n2, n3].all fun x => decide (0 ≤ x)) = a1 := ⟨_, rfl⟩
    have HA1 := Lib.hid ha1
    rw [ha1] at HC1
    clear ha1 n32 n32'
    have p0 := (cell_block (S5.out.blk_at 0 (g := R) (o := .cells #[.int .i64 n0, .int .i64 n1, .int .i64 n2, .int .i64 n3] 24) rfl) 0).trans rfl
    have p1 := (cell_block (S5.out.blk_at 0 (g := R) (o := .cells #[.int .i64 n0, .int .i64 n1, .int .i64 n2, .int .i64 n3] 24) rfl) 1).trans rfl
    have p2 := (cell_block (S5.out.blk_at 0 (g := R) (o := .cells #[.int .i64 n0, .int .i64 n1, .int .i64 n2, .int .i64 n3] 24) rfl) 2).trans rfl
    have p3 := (cell_block (S5.out.blk_at 0 (g := R) (o := .cells #[.int .i64 n0, .int .i64 n1, .int .i64 n2, .int .i64 n3] 24) rfl) 3).trans rfl
    cases a1
    · have HF : Hid (readSE b = 7) := by
        have ha := HA1.out
        rw [List.all_eq_false] at ha
        obtain ⟨x, hx, hx2⟩ := ha
        exact se_room HLEN.out.1 HLEN.out.2 (by rw [HRO.out]; exact hx) (by simpa using hx2)
      go_wp2_with fail
      refine HC1.out.mono ?_
      rintro e w6 ⟨rfl, h6⟩
      have S6 := Lib.hid (S5.out.next h6)
      clear h6 S5 HC1 p0 p1 p2 p3
      have m0 := (cell_block (S6.out.blk_at 1 (g := w.heap.size) (o := .cells #[.int .i64 0, .int .i64 0, .int .i64 0, .int .i64 0, .slice none 0 0, .slice none 0 0] 28) rfl) 0).trans rfl
      have f0 := frozen_block (S6.out.blk_at 1 (g := w.heap.size) (o := .cells #[.int .i64 0, .int .i64 0, .int .i64 0, .int .i64 0, .slice none 0 0, .slice none 0 0] 28) rfl) 0
      have m1 := (cell_block (S6.out.blk_at 1 (g := w.heap.size) (o := .cells #[.int .i64 0, .int .i64 0, .int .i64 0, .int .i64 0, .slice none 0 0, .slice none 0 0] 28) rfl) 1).trans rfl
      have f1 := frozen_block (S6.out.blk_at 1 (g := w.heap.size) (o := .cells #[.int .i64 0, .int .i64 0, .int .i64 0, .int .i64 0, .slice none 0 0, .slice none 0 0] 28) rfl) 1
      have m2 := (cell_block (S6.out.blk_at 1 (g := w.heap.size) (o := .cells #[.int .i64 0, .int .i64 0, .int .i64 0, .int .i64 0, .slice none 0 0, .slice none 0 0] 28) rfl) 2).trans rfl
      have f2 := frozen_block (S6.out.blk_at 1 (g := w.heap.size) (o := .cells #[.int .i64 0, .int .i64 0, .int .i64 0, .int .i64 0, .slice none 0 0, .slice none 0 0] 28) rfl) 2
      have m3 := (cell_block (S6.out.blk_at 1 (g := w.heap.size) (o := .cells #[.int .i64 0, .int .i64 0, .int .i64 0, .int .i64 0, .slice none 0 0, .slice none 0 0] 28) rfl) 3).trans rfl
      have f3 := frozen_block (S6.out.blk_at 1 (g := w.heap.size) (o := .cells #[.int .i64 0, .int .i64 0, .int .i64 0, .int .i64 0, .slice none 0 0, .slice none 0 0] 28) rfl) 3
      have m4 := (cell_block (S6.out.blk_at 1 (g := w.heap.size) (o := .cells #[.int .i64 0, .int .i64 0, .int .i64 0, .int .i64 0, .slice none 0 0, .slice none 0 0] 28) rfl) 4).trans rfl
      have f4 := frozen_block (S6.out.blk_at 1 (g := w.heap.size) (o := .cells #[.int .i64 0, .int .i64 0, .int .i64 0, .int .i64 0, .slice none 0 0, .slice none 0 0] 28) rfl) 4
      have m5 := (cell_block (S6.out.blk_at 1 (g := w.heap.size) (o := .cells #[.int .i64 0, .int .i64 0, .int .i64 0, .int .i64 0, .slice none 0 0, .slice none 0 0] 28) rfl) 5).trans rfl
      have f5 := frozen_block (S6.out.blk_at 1 (g := w.heap.size) (o := .cells #[.int .i64 0, .int .i64 0, .int .i64 0, .int .i64 0, .slice none 0 0, .slice none 0 0] 28) rfl) 5
      have T1 := ((((((S6.out.set 1 rfl 0 (.int .i64 0)).set 1 rfl 1 (.int .i64 0)).set 1 rfl 2 (.int .i64 0)).set 1 rfl 3 (.int .i64 0)).set 1 rfl 4 (.slice none 0 0)).set 1 rfl 5 (.slice none 0 0))
      obtain ⟨wz, hwz⟩ : ∃ wz : World, wz = ((((((w6.setCell ⟨w.heap.size, 0, none⟩ (.int .i64 0)).setCell ⟨w.heap.size, 1, none⟩ (.int .i64 0)).setCell ⟨w.heap.size, 2, none⟩ (.int .i64 0)).setCell ⟨w.heap.size, 3, none⟩ (.int .i64 0)).setCell ⟨w.heap.size, 4, none⟩ (.slice none 0 0)).setCell ⟨w.heap.size, 5, none⟩ (.slice none 0 0)) := ⟨_, rfl⟩
      rw [← hwz] at T1
      have TB := Lib.hid (T1.blk_at 1 (g := w.heap.size) (o := .cells #[.int .i64 0, .int .i64 0, .int .i64 0, .int .i64 0, .slice none 0 0, .slice none 0 0] 28) rfl)
      have TO := Lib.hid T1.old
      have HWZ := Lib.hid hwz
      clear T1 hwz
      go_wp2
      rw [← HWZ.out]
      have z0 := (cell_block TB.out 0).trans rfl
      have z1 := (cell_block TB.out 1).trans rfl
      have z2 := (cell_block TB.out 2).trans rfl
      have z3 := (cell_block TB.out 3).trans rfl
      have z4 := (cell_block TB.out 4).trans rfl
      have z5 := (cell_block TB.out 5).trans rfl
      refine bodyPost_ret (v := .tuple #[.agg #[.int .i64 0, .int .i64 0, .int .i64 0, .int .i64 0, .slice none 0 0, .slice none 0 0], .int .i64 (readSE b)]) (by simp [results, Tryd.results11, go_sem, z0, z1, z2, z3, z4, z5, HF.out]) rfl ?_
      have hne : readSE b ≠ 0 := by rw [HF.out]; first | decide | exact HNE.out
      refine ⟨⟨0, 0, 0, 0, none, 0, 0, none, 0, 0⟩, rfl, ?_⟩
      rw [show readS b = zeroS by unfold readS; rw [if_neg hne]]
      exact saysS_zero TO.out
    · have HHD : Hid (Head b) := ⟨HLEN.out, fun x hx => by
        rw [HRO.out] at hx
        exact of_decide_eq_true (List.all_eq_true.1 HA1.out x hx)⟩
      go_wp2_with fail
      refine HC1.out.mono ?_
      rintro e w6 ⟨rfl, h6⟩
      have S6 := Lib.hid (S5.out.next h6)
      clear h6 S5 HC1 p0 p1 p2 p3
      have HC2 := Lib.hid (many_k y)
      obtain ⟨a2, ha2⟩ : ∃ a2, decide (1 ≤ y ∧ y ≤ 8) = a2 := ⟨_, rfl⟩
      have HA2 := Lib.hid ha2
      rw [ha2] at HC2
      clear ha2
      cases a2
      · have HF : Hid (readSE b = 7) := se_many HHD.out (by rw [HM.out]; have := of_decide_eq_false HA2.out; omega)
        go_wp2_with fail
        refine (HC2.out _).mono ?_
        rintro e w7 ⟨rfl, rfl⟩
        clear HC2 wy
        have m0 := (cell_block (S6.out.blk_at 1 (g := w.heap.size) (o := .cells #[.int .i64 0, .int .i64 0, .int .i64 0, .int .i64 0, .slice none 0 0, .slice none 0 0] 28) rfl) 0).trans rfl
        have f0 := frozen_block (S6.out.blk_at 1 (g := w.heap.size) (o := .cells #[.int .i64 0, .int .i64 0, .int .i64 0, .int .i64 0, .slice none 0 0, .slice none 0 0] 28) rfl) 0
        have m1 := (cell_block (S6.out.blk_at 1 (g := w.heap.size) (o := .cells #[.int .i64 0, .int .i64 0, .int .i64 0, .int .i64 0, .slice none 0 0, .slice none 0 0] 28) rfl) 1).trans rfl
        have f1 := frozen_block (S6.out.blk_at 1 (g := w.heap.size) (o := .cells #[.int .i64 0, .int .i64 0, .int .i64 0, .int .i64 0, .slice none 0 0, .slice none 0 0] 28) rfl) 1
        have m2 := (cell_block (S6.out.blk_at 1 (g := w.heap.size) (o := .cells #[.int .i64 0, .int .i64 0, .int .i64 0, .int .i64 0, .slice none 0 0, .slice none 0 0] 28) rfl) 2).trans rfl
        have f2 := frozen_block (S6.out.blk_at 1 (g := w.heap.size) (o := .cells #[.int .i64 0, .int .i64 0, .int .i64 0, .int .i64 0, .slice none 0 0, .slice none 0 0] 28) rfl) 2
        have m3 := (cell_block (S6.out.blk_at 1 (g := w.heap.size) (o := .cells #[.int .i64 0, .int .i64 0, .int .i64 0, .int .i64 0, .slice none 0 0, .slice none 0 0] 28) rfl) 3).trans rfl
        have f3 := frozen_block (S6.out.blk_at 1 (g := w.heap.size) (o := .cells #[.int .i64 0, .int .i64 0, .int .i64 0, .int .i64 0, .slice none 0 0, .slice none 0 0] 28) rfl) 3
        have m4 := (cell_block (S6.out.blk_at 1 (g := w.heap.size) (o := .cells #[.int .i64 0, .int .i64 0, .int .i64 0, .int .i64 0, .slice none 0 0, .slice none 0 0] 28) rfl) 4).trans rfl
        have f4 := frozen_block (S6.out.blk_at 1 (g := w.heap.size) (o := .cells #[.int .i64 0, .int .i64 0, .int .i64 0, .int .i64 0, .slice none 0 0, .slice none 0 0] 28) rfl) 4
        have m5 := (cell_block (S6.out.blk_at 1 (g := w.heap.size) (o := .cells #[.int .i64 0, .int .i64 0, .int .i64 0, .int .i64 0, .slice none 0 0, .slice none 0 0] 28) rfl) 5).trans rfl
        have f5 := frozen_block (S6.out.blk_at 1 (g := w.heap.size) (o := .cells #[.int .i64 0, .int .i64 0, .int .i64 0, .int .i64 0, .slice none 0 0, .slice none 0 0] 28) rfl) 5
        have T1 := ((((((S6.out.set 1 rfl 0 (.int .i64 0)).set 1 rfl 1 (.int .i64 0)).set 1 rfl 2 (.int .i64 0)).set 1 rfl 3 (.int .i64 0)).set 1 rfl 4 (.slice none 0 0)).set 1 rfl 5 (.slice none 0 0))
        obtain ⟨wz, hwz⟩ : ∃ wz : World, wz = ((((((w6.setCell ⟨w.heap.size, 0, none⟩ (.int .i64 0)).setCell ⟨w.heap.size, 1, none⟩ (.int .i64 0)).setCell ⟨w.heap.size, 2, none⟩ (.int .i64 0)).setCell ⟨w.heap.size, 3, none⟩ (.int .i64 0)).setCell ⟨w.heap.size, 4, none⟩ (.slice none 0 0)).setCell ⟨w.heap.size, 5, none⟩ (.slice none 0 0)) := ⟨_, rfl⟩
        rw [← hwz] at T1
        have TB := Lib.hid (T1.blk_at 1 (g := w.heap.size) (o := .cells #[.int .i64 0, .int .i64 0, .int .i64 0, .int .i64 0, .slice none 0 0, .slice none 0 0] 28) rfl)
        have TO := Lib.hid T1.old
        have HWZ := Lib.hid hwz
        clear T1 hwz
        go_wp2
        rw [← HWZ.out]
        have z0 := (cell_block TB.out 0).trans rfl
        have z1 := (cell_block TB.out 1).trans rfl
        have z2 := (cell_block TB.out 2).trans rfl
        have z3 := (cell_block TB.out 3).trans rfl
        have z4 := (cell_block TB.out 4).trans rfl
        have z5 := (cell_block TB.out 5).trans rfl
        refine bodyPost_ret (v := .tuple #[.agg #[.int .i64 0, .int .i64 0, .int .i64 0, .int .i64 0, .slice none 0 0, .slice none 0 0], .int .i64 (readSE b)]) (by simp [results, Tryd.results11, go_sem, z0, z1, z2, z3, z4, z5, HF.out]) rfl ?_
        have hne : readSE b ≠ 0 := by rw [HF.out]; first | decide | exact HNE.out
        refine ⟨⟨0, 0, 0, 0, none, 0, 0, none, 0, 0⟩, rfl, ?_⟩
        rw [show readS b = zeroS by unfold readS; rw [if_neg hne]]
        exact saysS_zero TO.out
      obtain ⟨m, rfl⟩ := Int.eq_ofNat_of_zero_le hy0.1
      have hm8 : 1 ≤ m ∧ m ≤ 8 := by have := of_decide_eq_true HA2.out; omega
      have HMB : Hid (1 ≤ manyOf b ∧ manyOf b ≤ 8) := by show _ ∧ _; rw [HM.out]; omega
      have HTP : Hid (tailP b = readP m (b.drop 33)) := by show _ = _; unfold tailP; rw [HM.out, Int.toNat_natCast]
      have hdl : (b.drop 33).length = n - 33 := by rw [List.length_drop, HN.out]
      have HC3 : Hid (∀ V, Below w.heap.size w V → Calls Tryd.prog 29 #[.slice A' (n - 33) (c - 33), .int .i64 m] V fun e w' => Programs (b.drop 33) m V w' e) := fun V hV => by
        have h5 := readP_k (m := m) (HT.out.next hV) (by rw [hdl]; exact HRD.out.below hV) (fun x hx => HBY.out x (List.mem_of_mem_drop hx)) (by rw [hdl]; exact HNC.out) hm8.2 (by rw [hdl]; omega)
        rw [hdl] at h5
        exact h5
      have sl1 := SL1.out
      have sl2 := SL2.out
      clear hdl hm8 hy0 wy
      go_wp2_with fail
      refine (HC2.out _).mono ?_
      rintro e w7 ⟨rfl, rfl⟩
      clear HC2
      go_wp2_with fail
      refine (HC3.out _ S6.out.old).mono ?_
      intro e w8 h8
      clear sl1 sl2 HC3
      rcases h8 with ⟨hE, rfl, h8⟩ | ⟨ps, rest, Ap, pn, cp, A2, c2, hP, rfl, hpn, hc2, hrd2, hby2, hrl, h8⟩
      · have S8 := Lib.hid (S6.out.next h8)
        obtain ⟨E, hEE⟩ : ∃ E, (readP m (b.drop 33)).1 = E := ⟨_, rfl⟩
        rw [hEE] at hE ⊢
        have ene : (E != 0) = true := by simpa using hE
        have HNE : Hid (E ≠ 0) := hE
        have HF : Hid (readSE b = E) := by
          have h5 : (tailP b).1 = E := by rw [HTP.out]; exact hEE
          exact (se_prog HHD.out HMB.out (by rw [h5]; exact hE)).trans h5
        clear hE hEE h8 S6
        have m0 := (cell_block (S8.out.blk_at 1 (g := w.heap.size) (o := .cells #[.int .i64 0, .int .i64 0, .int .i64 0, .int .i64 0, .slice none 0 0, .slice none 0 0] 28) rfl) 0).trans rfl
        have f0 := frozen_block (S8.out.blk_at 1 (g := w.heap.size) (o := .cells #[.int .i64 0, .int .i64 0, .int .i64 0, .int .i64 0, .slice none 0 0, .slice none 0 0] 28) rfl) 0
        have m1 := (cell_block (S8.out.blk_at 1 (g := w.heap.size) (o := .cells #[.int .i64 0, .int .i64 0, .int .i64 0, .int .i64 0, .slice none 0 0, .slice none 0 0] 28) rfl) 1).trans rfl
        have f1 := frozen_block (S8.out.blk_at 1 (g := w.heap.size) (o := .cells #[.int .i64 0, .int .i64 0, .int .i64 0, .int .i64 0, .slice none 0 0, .slice none 0 0] 28) rfl) 1
        have m2 := (cell_block (S8.out.blk_at 1 (g := w.heap.size) (o := .cells #[.int .i64 0, .int .i64 0, .int .i64 0, .int .i64 0, .slice none 0 0, .slice none 0 0] 28) rfl) 2).trans rfl
        have f2 := frozen_block (S8.out.blk_at 1 (g := w.heap.size) (o := .cells #[.int .i64 0, .int .i64 0, .int .i64 0, .int .i64 0, .slice none 0 0, .slice none 0 0] 28) rfl) 2
        have m3 := (cell_block (S8.out.blk_at 1 (g := w.heap.size) (o := .cells #[.int .i64 0, .int .i64 0, .int .i64 0, .int .i64 0, .slice none 0 0, .slice none 0 0] 28) rfl) 3).trans rfl
        have f3 := frozen_block (S8.out.blk_at 1 (g := w.heap.size) (o := .cells #[.int .i64 0, .int .i64 0, .int .i64 0, .int .i64 0, .slice none 0 0, .slice none 0 0] 28) rfl) 3
        have m4 := (cell_block (S8.out.blk_at 1 (g := w.heap.size) (o := .cells #[.int .i64 0, .int .i64 0, .int .i64 0, .int .i64 0, .slice none 0 0, .slice none 0 0] 28) rfl) 4).trans rfl
        have f4 := frozen_block (S8.out.blk_at 1 (g := w.heap.size) (o := .cells #[.int .i64 0, .int .i64 0, .int .i64 0, .int .i64 0, .slice none 0 0, .slice none 0 0] 28) rfl) 4
        have m5 := (cell_block (S8.out.blk_at 1 (g := w.heap.size) (o := .cells #[.int .i64 0, .int .i64 0, .int .i64 0, .int .i64 0, .slice none 0 0, .slice none 0 0] 28) rfl) 5).trans rfl
        have f5 := frozen_block (S8.out.blk_at 1 (g := w.heap.size) (o := .cells #[.int .i64 0, .int .i64 0, .int .i64 0, .int .i64 0, .slice none 0 0, .slice none 0 0] 28) rfl) 5
        have T1 := ((((((S8.out.set 1 rfl 0 (.int .i64 0)).set 1 rfl 1 (.int .i64 0)).set 1 rfl 2 (.int .i64 0)).set 1 rfl 3 (.int .i64 0)).set 1 rfl 4 (.slice none 0 0)).set 1 rfl 5 (.slice none 0 0))
        obtain ⟨wz, hwz⟩ : ∃ wz : World, wz = ((((((w8.setCell ⟨w.heap.size, 0, none⟩ (.int .i64 0)).setCell ⟨w.heap.size, 1, none⟩ (.int .i64 0)).setCell ⟨w.heap.size, 2, none⟩ (.int .i64 0)).setCell ⟨w.heap.size, 3, none⟩ (.int .i64 0)).setCell ⟨w.heap.size, 4, none⟩ (.slice none 0 0)).setCell ⟨w.heap.size, 5, none⟩ (.slice none 0 0)) := ⟨_, rfl⟩
        rw [← hwz] at T1
        have TB := Lib.hid (T1.blk_at 1 (g := w.heap.size) (o := .cells #[.int .i64 0, .int .i64 0, .int .i64 0, .int .i64 0, .slice none 0 0, .slice none 0 0] 28) rfl)
        have TO := Lib.hid T1.old
        have HWZ := Lib.hid hwz
        clear T1 hwz
        go_wp2
        rw [← HWZ.out]
        have z0 := (cell_block TB.out 0).trans rfl
        have z1 := (cell_block TB.out 1).trans rfl
        have z2 := (cell_block TB.out 2).trans rfl
        have z3 := (cell_block TB.out 3).trans rfl
        have z4 := (cell_block TB.out 4).trans rfl
        have z5 := (cell_block TB.out 5).trans rfl
        refine bodyPost_ret (v := .tuple #[.agg #[.int .i64 0, .int .i64 0, .int .i64 0, .int .i64 0, .slice none 0 0, .slice none 0 0], .int .i64 (readSE b)]) (by simp [results, Tryd.results11, go_sem, z0, z1, z2, z3, z4, z5, HF.out]) rfl ?_
        have hne : readSE b ≠ 0 := by rw [HF.out]; first | decide | exact HNE.out
        refine ⟨⟨0, 0, 0, 0, none, 0, 0, none, 0, 0⟩, rfl, ?_⟩
        rw [show readS b = zeroS by unfold readS; rw [if_neg hne]]
        exact saysS_zero TO.out
      · have S8 : Hid (Sep (fun _ => False) w w8 [toldN inE (.slice Ap pn cp) ps, blk R (.cells #[.int .i64 n0, .int .i64 n1, .int .i64 n2, .int .i64 n3] 24), blk w.heap.size (.cells #[.int .i64 0, .int .i64 0, .int .i64 0, .int .i64 0, .slice none 0 0, .slice none 0 0] 28)]) := SaysN.sep S6.out (saysN_of h8)
        have HTE : Hid (tailP b = (0, ps, rest)) := HTP.out.trans hP
        have HPN : Hid (pn ≤ cp) := hpn
        obtain ⟨r, hr⟩ : ∃ r, rest.length = r := ⟨_, rfl⟩
        have HRR := Lib.hid hr
        obtain ⟨k, hk⟩ : ∃ k, r / 10 = k := ⟨_, rfl⟩
        have HKK := Lib.hid hk
        have hrl4 : rest.length ≤ 4000 := by rw [List.length_drop] at hrl; have := HLEN.out.1; omega
        have HC4 := Lib.hid (readX_k (k := k) (hrd2.below h8.old) hby2 hc2 hrl4 (by rw [hr]; exact hk))
        rw [hr] at HC4 ⊢
        clear hP hpn hc2 hrd2 hby2 hrl h8 S6 hr hk hrl4
        go_wp2_with fail
        refine HC4.out.mono ?_
        intro e w9 h9
        clear HC4
        rcases h9 with ⟨hz, rfl, h9⟩ | ⟨hz, ha, rfl, h9⟩ | ⟨hz, ha, A3, rfl, h9⟩
        · have S9 := Lib.hid (S8.out.next h9)
          have HF : Hid (readSE b = 8) := se_left HHD.out HMB.out HTE.out hz
          clear hz h9 S8
          have m0 := (cell_block (S9.out.blk_at 2 (g := w.heap.size) (o := .cells #[.int .i64 0, .int .i64 0, .int .i64 0, .int .i64 0, .slice none 0 0, .slice none 0 0] 28) rfl) 0).trans rfl
          have f0 := frozen_block (S9.out.blk_at 2 (g := w.heap.size) (o := .cells #[.int .i64 0, .int .i64 0, .int .i64 0, .int .i64 0, .slice none 0 0, .slice none 0 0] 28) rfl) 0
          have m1 := (cell_block (S9.out.blk_at 2 (g := w.heap.size) (o := .cells #[.int .i64 0, .int .i64 0, .int .i64 0, .int .i64 0, .slice none 0 0, .slice none 0 0] 28) rfl) 1).trans rfl
          have f1 := frozen_block (S9.out.blk_at 2 (g := w.heap.size) (o := .cells #[.int .i64 0, .int .i64 0, .int .i64 0, .int .i64 0, .slice none 0 0, .slice none 0 0] 28) rfl) 1
          have m2 := (cell_block (S9.out.blk_at 2 (g := w.heap.size) (o := .cells #[.int .i64 0, .int .i64 0, .int .i64 0, .int .i64 0, .slice none 0 0, .slice none 0 0] 28) rfl) 2).trans rfl
          have f2 := frozen_block (S9.out.blk_at 2 (g := w.heap.size) (o := .cells #[.int .i64 0, .int .i64 0, .int .i64 0, .int .i64 0, .slice none 0 0, .slice none 0 0] 28) rfl) 2
          have m3 := (cell_block (S9.out.blk_at 2 (g := w.heap.size) (o := .cells #[.int .i64 0, .int .i64 0, .int .i64 0, .int .i64 0, .slice none 0 0, .slice none 0 0] 28) rfl) 3).trans rfl
          have f3 := frozen_block (S9.out.blk_at 2 (g := w.heap.size) (o := .cells #[.int .i64 0, .int .i64 0, .int .i64 0, .int .i64 0, .slice none 0 0, .slice none 0 0] 28) rfl) 3
          have m4 := (cell_block (S9.out.blk_at 2 (g := w.heap.size) (o := .cells #[.int .i64 0, .int .i64 0, .int .i64 0, .int .i64 0, .slice none 0 0, .slice none 0 0] 28) rfl) 4).trans rfl
          have f4 := frozen_block (S9.out.blk_at 2 (g := w.heap.size) (o := .cells #[.int .i64 0, .int .i64 0, .int .i64 0, .int .i64 0, .slice none 0 0, .slice none 0 0] 28) rfl) 4
          have m5 := (cell_block (S9.out.blk_at 2 (g := w.heap.size) (o := .cells #[.int .i64 0, .int .i64 0, .int .i64 0, .int .i64 0, .slice none 0 0, .slice none 0 0] 28) rfl) 5).trans rfl
          have f5 := frozen_block (S9.out.blk_at 2 (g := w.heap.size) (o := .cells #[.int .i64 0, .int .i64 0, .int .i64 0, .int .i64 0, .slice none 0 0, .slice none 0 0] 28) rfl) 5
          have T1 := ((((((S9.out.set 2 rfl 0 (.int .i64 0)).set 2 rfl 1 (.int .i64 0)).set 2 rfl 2 (.int .i64 0)).set 2 rfl 3 (.int .i64 0)).set 2 rfl 4 (.slice none 0 0)).set 2 rfl 5 (.slice none 0 0))
          obtain ⟨wz, hwz⟩ : ∃ wz : World, wz = ((((((w9.setCell ⟨w.heap.size, 0, none⟩ (.int .i64 0)).setCell ⟨w.heap.size, 1, none⟩ (.int .i64 0)).setCell ⟨w.heap.size, 2, none⟩ (.int .i64 0)).setCell ⟨w.heap.size, 3, none⟩ (.int .i64 0)).setCell ⟨w.heap.size, 4, none⟩ (.slice none 0 0)).setCell ⟨w.heap.size, 5, none⟩ (.slice none 0 0)) := ⟨_, rfl⟩
          rw [← hwz] at T1
          have TB := Lib.hid (T1.blk_at 2 (g := w.heap.size) (o := .cells #[.int .i64 0, .int .i64 0, .int .i64 0, .int .i64 0, .slice none 0 0, .slice none 0 0] 28) rfl)
          have TO := Lib.hid T1.old
          have HWZ := Lib.hid hwz
          clear T1 hwz
          go_wp2
          rw [← HWZ.out]
          have z0 := (cell_block TB.out 0).trans rfl
          have z1 := (cell_block TB.out 1).trans rfl
          have z2 := (cell_block TB.out 2).trans rfl
          have z3 := (cell_block TB.out 3).trans rfl
          have z4 := (cell_block TB.out 4).trans rfl
          have z5 := (cell_block TB.out 5).trans rfl
          refine bodyPost_ret (v := .tuple #[.agg #[.int .i64 0, .int .i64 0, .int .i64 0, .int .i64 0, .slice none 0 0, .slice none 0 0], .int .i64 (readSE b)]) (by simp [results, Tryd.results11, go_sem, z0, z1, z2, z3, z4, z5, HF.out]) rfl ?_
          have hne : readSE b ≠ 0 := by rw [HF.out]; first | decide | exact HNE.out
          refine ⟨⟨0, 0, 0, 0, none, 0, 0, none, 0, 0⟩, rfl, ?_⟩
          rw [show readS b = zeroS by unfold readS; rw [if_neg hne]]
          exact saysS_zero TO.out
        · have S9 := Lib.hid (S8.out.next h9)
          have HF : Hid (readSE b = 7) := by
            show _ = _
            rw [se_head HHD.out, if_neg (by have := HMB.out; omega), HTE.out, if_neg (by simp), if_neg (by simpa using hz), if_pos]
            rw [sc_xs HTE.out, HRR.out, HKK.out]
            rw [readX_len]
            rw [Bool.and_eq_false_iff] at ha
            rcases ha with ha | ha
            · have := of_decide_eq_false ha
              exact .inl (by omega)
            · exact .inr ha
          clear hz ha h9 S8
          have m0 := (cell_block (S9.out.blk_at 2 (g := w.heap.size) (o := .cells #[.int .i64 0, .int .i64 0, .int .i64 0, .int .i64 0, .slice none 0 0, .slice none 0 0] 28) rfl) 0).trans rfl
          have f0 := frozen_block (S9.out.blk_at 2 (g := w.heap.size) (o := .cells #[.int .i64 0, .int .i64 0, .int .i64 0, .int .i64 0, .slice none 0 0, .slice none 0 0] 28) rfl) 0
          have m1 := (cell_block (S9.out.blk_at 2 (g := w.heap.size) (o := .cells #[.int .i64 0, .int .i64 0, .int .i64 0, .int .i64 0, .slice none 0 0, .slice none 0 0] 28) rfl) 1).trans rfl
          have f1 := frozen_block (S9.out.blk_at 2 (g := w.heap.size) (o := .cells #[.int .i64 0, .int .i64 0, .int .i64 0, .int .i64 0, .slice none 0 0, .slice none 0 0] 28) rfl) 1
          have m2 := (cell_block (S9.out.blk_at 2 (g := w.heap.size) (o := .cells #[.int .i64 0, .int .i64 0, .int .i64 0, .int .i64 0, .slice none 0 0, .slice none 0 0] 28) rfl) 2).trans rfl
          have f2 := frozen_block (S9.out.blk_at 2 (g := w.heap.size) (o := .cells #[.int .i64 0, .int .i64 0, .int .i64 0, .int .i64 0, .slice none 0 0, .slice none 0 0] 28) rfl) 2
          have m3 := (cell_block (S9.out.blk_at 2 (g := w.heap.size) (o := .cells #[.int .i64 0, .int .i64 0, .int .i64 0, .int .i64 0, .slice none 0 0, .slice none 0 0] 28) rfl) 3).trans rfl
          have f3 := frozen_block (S9.out.blk_at 2 (g := w.heap.size) (o := .cells #[.int .i64 0, .int .i64 0, .int .i64 0, .int .i64 0, .slice none 0 0, .slice none 0 0] 28) rfl) 3
          have m4 := (cell_block (S9.out.blk_at 2 (g := w.heap.size) (o := .cells #[.int .i64 0, .int .i64 0, .int .i64 0, .int .i64 0, .slice none 0 0, .slice none 0 0] 28) rfl) 4).trans rfl
          have f4 := frozen_block (S9.out.blk_at 2 (g := w.heap.size) (o := .cells #[.int .i64 0, .int .i64 0, .int .i64 0, .int .i64 0, .slice none 0 0, .slice none 0 0] 28) rfl) 4
          have m5 := (cell_block (S9.out.blk_at 2 (g := w.heap.size) (o := .cells #[.int .i64 0, .int .i64 0, .int .i64 0, .int .i64 0, .slice none 0 0, .slice none 0 0] 28) rfl) 5).trans rfl
          have f5 := frozen_block (S9.out.blk_at 2 (g := w.heap.size) (o := .cells #[.int .i64 0, .int .i64 0, .int .i64 0, .int .i64 0, .slice none 0 0, .slice none 0 0] 28) rfl) 5
          have T1 := ((((((S9.out.set 2 rfl 0 (.int .i64 0)).set 2 rfl 1 (.int .i64 0)).set 2 rfl 2 (.int .i64 0)).set 2 rfl 3 (.int .i64 0)).set 2 rfl 4 (.slice none 0 0)).set 2 rfl 5 (.slice none 0 0))
          obtain ⟨wz, hwz⟩ : ∃ wz : World, wz = ((((((w9.setCell ⟨w.heap.size, 0, none⟩ (.int .i64 0)).setCell ⟨w.heap.size, 1, none⟩ (.int .i64 0)).setCell ⟨w.heap.size, 2, none⟩ (.int .i64 0)).setCell ⟨w.heap.size, 3, none⟩ (.int .i64 0)).setCell ⟨w.heap.size, 4, none⟩ (.slice none 0 0)).setCell ⟨w.heap.size, 5, none⟩ (.slice none 0 0)) := ⟨_, rfl⟩
          rw [← hwz] at T1
          have TB := Lib.hid (T1.blk_at 2 (g := w.heap.size) (o := .cells #[.int .i64 0, .int .i64 0, .int .i64 0, .int .i64 0, .slice none 0 0, .slice none 0 0] 28) rfl)
          have TO := Lib.hid T1.old
          have HWZ := Lib.hid hwz
          clear T1 hwz
          go_wp2
          rw [← HWZ.out]
          have z0 := (cell_block TB.out 0).trans rfl
          have z1 := (cell_block TB.out 1).trans rfl
          have z2 := (cell_block TB.out 2).trans rfl
          have z3 := (cell_block TB.out 3).trans rfl
          have z4 := (cell_block TB.out 4).trans rfl
          have z5 := (cell_block TB.out 5).trans rfl
          refine bodyPost_ret (v := .tuple #[.agg #[.int .i64 0, .int .i64 0, .int .i64 0, .int .i64 0, .slice none 0 0, .slice none 0 0], .int .i64 (readSE b)]) (by simp [results, Tryd.results11, go_sem, z0, z1, z2, z3, z4, z5, HF.out]) rfl ?_
          have hne : readSE b ≠ 0 := by rw [HF.out]; first | decide | exact HNE.out
          refine ⟨⟨0, 0, 0, 0, none, 0, 0, none, 0, 0⟩, rfl, ?_⟩
          rw [show readS b = zeroS by unfold readS; rw [if_neg hne]]
          exact saysS_zero TO.out
        · have S9 : Hid (Sep (fun _ => False) w w9 [told itE (.slice A3 k k) (readX k rest), toldN inE (.slice Ap pn cp) ps, blk R (.cells #[.int .i64 n0, .int .i64 n1, .int .i64 n2, .int .i64 n3] 24), blk w.heap.size (.cells #[.int .i64 0, .int .i64 0, .int .i64 0, .int .i64 0, .slice none 0 0, .slice none 0 0] 28)]) := SaysL.sep S8.out (saysL_of h9)
          have HOK : Hid (readSE b = 0 ∧ readS b = ⟨[n0, n1, n2, n3], ps, readX k rest⟩) := by
            rw [Bool.and_eq_true] at ha
            have h5 := se_ok HHD.out HMB.out HTE.out hz (by rw [HRR.out, HKK.out]; exact List.all_eq_true.1 ha.2) (by rw [HRR.out, HKK.out]; exact of_decide_eq_true ha.1)
            rw [HRR.out, HKK.out, HRO.out] at h5
            exact h5
          clear hz ha h9 S8
          have p0 := (cell_block (S9.out.blk_at 2 (g := R) (o := .cells #[.int .i64 n0, .int .i64 n1, .int .i64 n2, .int .i64 n3] 24) rfl) 0).trans rfl
          have p1 := (cell_block (S9.out.blk_at 2 (g := R) (o := .cells #[.int .i64 n0, .int .i64 n1, .int .i64 n2, .int .i64 n3] 24) rfl) 1).trans rfl
          have p2 := (cell_block (S9.out.blk_at 2 (g := R) (o := .cells #[.int .i64 n0, .int .i64 n1, .int .i64 n2, .int .i64 n3] 24) rfl) 2).trans rfl
          have p3 := (cell_block (S9.out.blk_at 2 (g := R) (o := .cells #[.int .i64 n0, .int .i64 n1, .int .i64 n2, .int .i64 n3] 24) rfl) 3).trans rfl
          have m0 := (cell_block (S9.out.blk_at 3 (g := w.heap.size) (o := .cells #[.int .i64 0, .int .i64 0, .int .i64 0, .int .i64 0, .slice none 0 0, .slice none 0 0] 28) rfl) 0).trans rfl
          have f0 := frozen_block (S9.out.blk_at 3 (g := w.heap.size) (o := .cells #[.int .i64 0, .int .i64 0, .int .i64 0, .int .i64 0, .slice none 0 0, .slice none 0 0] 28) rfl) 0
          have m1 := (cell_block (S9.out.blk_at 3 (g := w.heap.size) (o := .cells #[.int .i64 0, .int .i64 0, .int .i64 0, .int .i64 0, .slice none 0 0, .slice none 0 0] 28) rfl) 1).trans rfl
          have f1 := frozen_block (S9.out.blk_at 3 (g := w.heap.size) (o := .cells #[.int .i64 0, .int .i64 0, .int .i64 0, .int .i64 0, .slice none 0 0, .slice none 0 0] 28) rfl) 1
          have m2 := (cell_block (S9.out.blk_at 3 (g := w.heap.size) (o := .cells #[.int .i64 0, .int .i64 0, .int .i64 0, .int .i64 0, .slice none 0 0, .slice none 0 0] 28) rfl) 2).trans rfl
          have f2 := frozen_block (S9.out.blk_at 3 (g := w.heap.size) (o := .cells #[.int .i64 0, .int .i64 0, .int .i64 0, .int .i64 0, .slice none 0 0, .slice none 0 0] 28) rfl) 2
          have m3 := (cell_block (S9.out.blk_at 3 (g := w.heap.size) (o := .cells #[.int .i64 0, .int .i64 0, .int .i64 0, .int .i64 0, .slice none 0 0, .slice none 0 0] 28) rfl) 3).trans rfl
          have f3 := frozen_block (S9.out.blk_at 3 (g := w.heap.size) (o := .cells #[.int .i64 0, .int .i64 0, .int .i64 0, .int .i64 0, .slice none 0 0, .slice none 0 0] 28) rfl) 3
          have m4 := (cell_block (S9.out.blk_at 3 (g := w.heap.size) (o := .cells #[.int .i64 0, .int .i64 0, .int .i64 0, .int .i64 0, .slice none 0 0, .slice none 0 0] 28) rfl) 4).trans rfl
          have f4 := frozen_block (S9.out.blk_at 3 (g := w.heap.size) (o := .cells #[.int .i64 0, .int .i64 0, .int .i64 0, .int .i64 0, .slice none 0 0, .slice none 0 0] 28) rfl) 4
          have m5 := (cell_block (S9.out.blk_at 3 (g := w.heap.size) (o := .cells #[.int .i64 0, .int .i64 0, .int .i64 0, .int .i64 0, .slice none 0 0, .slice none 0 0] 28) rfl) 5).trans rfl
          have f5 := frozen_block (S9.out.blk_at 3 (g := w.heap.size) (o := .cells #[.int .i64 0, .int .i64 0, .int .i64 0, .int .i64 0, .slice none 0 0, .slice none 0 0] 28) rfl) 5
          have T1 := ((((((S9.out.set 3 rfl 0 (.int .i64 n0)).set 3 rfl 1 (.int .i64 n1)).set 3 rfl 2 (.int .i64 n2)).set 3 rfl 3 (.int .i64 n3)).set 3 rfl 4 (.slice Ap pn cp)).set 3 rfl 5 (.slice A3 k k))
          obtain ⟨wz, hwz⟩ : ∃ wz : World, wz = ((((((w9.setCell ⟨w.heap.size, 0, none⟩ (.int .i64 n0)).setCell ⟨w.heap.size, 1, none⟩ (.int .i64 n1)).setCell ⟨w.heap.size, 2, none⟩ (.int .i64 n2)).setCell ⟨w.heap.size, 3, none⟩ (.int .i64 n3)).setCell ⟨w.heap.size, 4, none⟩ (.slice Ap pn cp)).setCell ⟨w.heap.size, 5, none⟩ (.slice A3 k k)) := ⟨_, rfl⟩
          rw [← hwz] at T1
          have TS : Hid (Sep (fun _ => False) w wz [told itE (.slice A3 k k) (readX k rest), toldN inE (.slice Ap pn cp) ps, blk R (.cells #[.int .i64 n0, .int .i64 n1, .int .i64 n2, .int .i64 n3] 24), blk w.heap.size (.cells #[.int .i64 n0, .int .i64 n1, .int .i64 n2, .int .i64 n3, .slice Ap pn cp, .slice A3 k k] 28)]) := T1
          have HWZ := Lib.hid hwz
          clear T1 hwz
          go_wp2
          rw [← HWZ.out]
          have z0 := (cell_block (TS.out.blk_at 3 (g := w.heap.size) (o := .cells #[.int .i64 n0, .int .i64 n1, .int .i64 n2, .int .i64 n3, .slice Ap pn cp, .slice A3 k k] 28) rfl) 0).trans rfl
          have z1 := (cell_block (TS.out.blk_at 3 (g := w.heap.size) (o := .cells #[.int .i64 n0, .int .i64 n1, .int .i64 n2, .int .i64 n3, .slice Ap pn cp, .slice A3 k k] 28) rfl) 1).trans rfl
          have z2 := (cell_block (TS.out.blk_at 3 (g := w.heap.size) (o := .cells #[.int .i64 n0, .int .i64 n1, .int .i64 n2, .int .i64 n3, .slice Ap pn cp, .slice A3 k k] 28) rfl) 2).trans rfl
          have z3 := (cell_block (TS.out.blk_at 3 (g := w.heap.size) (o := .cells #[.int .i64 n0, .int .i64 n1, .int .i64 n2, .int .i64 n3, .slice Ap pn cp, .slice A3 k k] 28) rfl) 3).trans rfl
          have z4 := (cell_block (TS.out.blk_at 3 (g := w.heap.size) (o := .cells #[.int .i64 n0, .int .i64 n1, .int .i64 n2, .int .i64 n3, .slice Ap pn cp, .slice A3 k k] 28) rfl) 4).trans rfl
          have z5 := (cell_block (TS.out.blk_at 3 (g := w.heap.size) (o := .cells #[.int .i64 n0, .int .i64 n1, .int .i64 n2, .int .i64 n3, .slice Ap pn cp, .slice A3 k k] 28) rfl) 5).trans rfl
          refine bodyPost_ret (v := .tuple #[.agg #[.int .i64 n0, .int .i64 n1, .int .i64 n2, .int .i64 n3, .slice Ap pn cp, .slice A3 k k], .int .i64 (readSE b)]) (by simp [results, Tryd.results11, go_sem, z0, z1, z2, z3, z4, z5, HOK.out.1]) rfl ?_
          refine ⟨⟨n0, n1, n2, n3, Ap, pn, cp, A3, k, k⟩, rfl, ?_⟩
          rw [HOK.out.2]
          exact saysS_of (scr_of (q := ⟨n0, n1, n2, n3, Ap, pn, cp, A3, k, k⟩) (s := ⟨[n0, n1, n2, n3], ps, readX k rest⟩) TS.out.swap rfl HPN.out (Nat.le_refl _))
end Go.Proofs.YtolooaahaofflaaDoor.ScA
