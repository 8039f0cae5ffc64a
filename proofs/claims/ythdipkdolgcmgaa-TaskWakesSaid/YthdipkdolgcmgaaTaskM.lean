/-
  The law's own awake() of layer 18 over any package that meets 'Tb': it returns true and leaves old memory as it was. Conditions: none but 'Tb'.
-/
import Derived.Test.YthdipkdolgcmgaaTaskD
import Derived.Test.YthdipkdolgcmgaaTaskO
namespace Go.Proofs.Ythdipkdolgcmgaa.TaskI
open Go.ChangeShapes Go.WideShapes Go.ChangeAt Go.RowKit Mem MutP TaskP Hand RefTask

theorem built_t : Try.prog.built 53 [] = some (tkA zeroT) := by kernel_rfl
theorem size_t : (Try.prog.info? 53).map (·.size) = some 17 := by kernel_rfl
theorem zero_t : (Try.prog.info? 53).map (·.zero) = some (some (.agg (tkA zeroT))) := by kernel_rfl
theorem sizeT_t (t : Tk) : (Try.prog.info? 53).map (·.size) = some (tkA t).size := by rw [tkA_size]; exact size_t
/-- A task in a block, loaded as a whole. -/
theorem load_whole {V : World} {g : Nat} {t : Tk} {ty : TypeId} (h : V.heap[g]? = some (.cells (tkA t) ty (0, 0))) : (loadCellsFrom ⟨g, 0, none⟩ 0 17 #[]).run Try.prog V = .ok (tkA t) V := by
  have hl := run_loadCells_list (P := Try.prog) V ⟨g, 0, none⟩ (tkA t).toList (fun j v hv => by
    have hadd : (⟨g, 0, none⟩ : Addr).add j = ⟨g, j, none⟩ := by unfold Addr.add; split <;> simp_all
    rw [hadd, cell_block h j]
    simpa using hv)
  rw [Array.length_toList, tkA_size, Array.toArray_toList] at hl
  exact hl
/-- A variable of a task is made, and stored to. -/
def varT (V : World) (t : Tk) : World := setCells (V.alloc (.cells (tkA zeroT) 53)) V.heap.size 0 (tkA t).toList
theorem var_sep {B : Nat → Prop} {w wk : World} {Rs : List Res} (h : Sep B w wk Rs) (t : Tk) : Sep B w (varT wk t) (blk wk.heap.size (.cells (tkA t) 53) :: Rs) := by
  have h2 := Sep.whole (tkA t).toList 0 (h.new (.cells (tkA zeroT) 53)) 0 rfl
  rw [tkA_over _ _ (tkA_size _)] at h2
  exact h2
theorem in64s (a : Int) (h : -1000 ≤ a ∧ a ≤ 1000) : In64 a := ⟨by omega, by omega⟩
theorem litI (w : World) (e : TypeId) (l : List Int) {cs : Array Value} (hc : cs.toList = l.map (Value.int .i64)) (hl : l.length ≤ 1000000) {n : Nat} (hn : n = l.length) : Rd (w.alloc (.cells cs e)) (fun b => b = w.heap.size) (.slice (some ⟨w.heap.size, 0, none⟩) n n) l := by
  subst hn
  have hs : cs.size = l.length * 1 := by rw [← Array.length_toList, hc, List.length_map, Nat.mul_one]
  have h := World.ownsRow_lit (e := e) (size := 1) (base := 0) w cs l.length (Nat.zero_le _) (by unfold maxLen; omega) hs
  rw [hc] at h
  exact Own.rd (base := 0) h hl fun k hk => by simp [Value.ownBlock] at hk; exact hk.symm
/-- Same of two lists that can be read. -/
theorem same_b {w : World} {G G' : Nat → Prop} {va vb : Value} {xs ys : List Int} (ha : Rd w G va xs) (hb : Rd w G' vb ys) :
    Calls Try.prog 17 #[va, vb] w fun e w' => e = .returned (.bool (decide (xs = ys))) ∧ Below w.heap.size w w' := by
  refine (SameI.same_any ha hb).mono ?_
  rintro e w' ⟨rfl, n, rfl⟩
  exact ⟨rfl, below_drewN (Below.refl _ _) n⟩
theorem same_d {w : World} {G G' : Nat → Prop} {va vb : Value} {xs ys : List Int} (ha : Rd w G va xs) (hb : Rd w G' vb ys) (h : xs = ys) :
    Calls Try.prog 17 #[va, vb] w fun e w' => e = .returned (.bool true) ∧ Below w.heap.size w w' := by
  refine (same_b ha hb).mono ?_
  rintro e w' ⟨rfl, hb⟩
  exact ⟨by rw [decide_eq_true h], hb⟩

set_option maxHeartbeats 4000000 in
set_option maxRecDepth 100000 in
theorem awake_any (I : Tb) (w : World) : Calls Try.prog 6 #[] w fun e w' => e = .returned (.bool true) ∧ Below w.heap.size w w' := by
  have hgu := tkGuard
  go_enter Try.func6, Try.ntmps6
  go_wp2_with fail
  refine (t_new (Sep.nil (fun _ => False) w) I 2 (by omega) (by omega)).mono ?_
  rintro e w1 ⟨a, rfl, h⟩
  have S1 := Lib.hid h
  clear h
  go_wp2_with fail
  refine (t_no S1.out I 0 (in64s _ (by omega)) (by omega)).mono ?_
  rintro e w2 ⟨rfl, h⟩
  have S2 := Lib.hid h
  clear h S1
  go_wp2_with fail
  refine (t_begin S2.out 0 rfl 3 (-1) (in64s _ (by omega)) (in64s _ (by omega)) (V := 0) (E := 0) (L' := [⟨[1, 3, 0, -1, 0, 0, 0, 0, 0, 0, 0, 0, 0, 0, 0, 0, 0], rfl⟩]) (by kernel_rfl) (by kernel_rfl) (by kernel_rfl)).mono ?_
  rintro e w3 ⟨rfl, h⟩
  have S3 := Lib.hid h
  clear h S2
  simp only [List.set_cons_zero] at S3
  go_wp2_with fail
  refine (t_begin S3.out 0 rfl 4 1 (in64s _ (by omega)) (in64s _ (by omega)) (V := 1) (E := 0) (L' := [⟨[1, 3, 0, -1, 0, 0, 0, 0, 0, 0, 0, 0, 0, 0, 0, 0, 0], rfl⟩, ⟨[1, 4, 0, 1, 0, 0, 0, 0, 0, 0, 0, 0, 0, 0, 0, 0, 0], rfl⟩]) (by kernel_rfl) (by kernel_rfl) (by kernel_rfl)).mono ?_
  rintro e w4 ⟨rfl, h⟩
  have S4 := Lib.hid h
  clear h S3
  simp only [List.set_cons_zero] at S4
  go_wp2_with fail
  refine (t_begin S4.out 0 rfl 5 0 (in64s _ (by omega)) (in64s _ (by omega)) (V := (-1)) (E := 2) (L' := [⟨[1, 3, 0, -1, 0, 0, 0, 0, 0, 0, 0, 0, 0, 0, 0, 0, 0], rfl⟩, ⟨[1, 4, 0, 1, 0, 0, 0, 0, 0, 0, 0, 0, 0, 0, 0, 0, 0], rfl⟩]) (by kernel_rfl) (by kernel_rfl) (by kernel_rfl)).mono ?_
  rintro e w5 ⟨rfl, h⟩
  have S5 := Lib.hid h
  clear h S4
  simp only [List.set_cons_zero] at S5
  go_wp2_with fail
  refine (t_go S5.out 0 rfl 0 9 (in64s _ (by omega)) (in64s _ (by omega)) (b := true) (L' := [⟨[1, 3, 9, -1, 0, 0, 0, 0, 0, 0, 0, 0, 0, 0, 0, 0, 0], rfl⟩, ⟨[1, 4, 0, 1, 0, 0, 0, 0, 0, 0, 0, 0, 0, 0, 0, 0, 0], rfl⟩]) (by kernel_rfl) (by kernel_rfl)).mono ?_
  rintro e w6 ⟨rfl, h⟩
  have S6 := Lib.hid h
  clear h S5
  simp only [List.set_cons_zero] at S6
  go_wp2_with fail
  refine (t_set S6.out 0 rfl 0 1 5 (in64s _ (by omega)) (in64s _ (by omega)) (in64s _ (by omega)) (b := true) (L' := [⟨[1, 3, 9, -1, 0, 5, 0, 0, 0, 0, 0, 0, 0, 0, 0, 0, 0], rfl⟩, ⟨[1, 4, 0, 1, 0, 0, 0, 0, 0, 0, 0, 0, 0, 0, 0, 0, 0], rfl⟩]) (by kernel_rfl) (by kernel_rfl)).mono ?_
  rintro e w7 ⟨rfl, h⟩
  have S7 := Lib.hid h
  clear h S6
  simp only [List.set_cons_zero] at S7
  go_wp2_with fail
  refine (t_set S7.out 0 rfl 0 6 5 (in64s _ (by omega)) (in64s _ (by omega)) (in64s _ (by omega)) (b := false) (L' := [⟨[1, 3, 9, -1, 0, 5, 0, 0, 0, 0, 0, 0, 0, 0, 0, 0, 0], rfl⟩, ⟨[1, 4, 0, 1, 0, 0, 0, 0, 0, 0, 0, 0, 0, 0, 0, 0, 0], rfl⟩]) (by kernel_rfl) (by kernel_rfl)).mono ?_
  rintro e w8 ⟨rfl, h⟩
  have S8 := Lib.hid h
  clear h S7
  simp only [List.set_cons_zero] at S8
  go_wp2_with fail
  refine (t_park S8.out 0 rfl 0 ⟨2, 7, 3, 2, -1, 0⟩ (in64s _ (by omega)) (show InPk ⟨2, 7, 3, 2, -1, 0⟩ from ⟨in64s (2) (by omega), in64s (7) (by omega), in64s (3) (by omega), in64s (2) (by omega), in64s (-1) (by omega), in64s (0) (by omega)⟩) (b := true) (L' := [⟨[2, 3, 9, -1, 0, 5, 0, 0, 0, 0, 2, 7, 3, 2, -1, 0, 0], rfl⟩, ⟨[1, 4, 0, 1, 0, 0, 0, 0, 0, 0, 0, 0, 0, 0, 0, 0, 0], rfl⟩]) (by kernel_rfl) (by kernel_rfl)).mono ?_
  rintro e w9 ⟨rfl, h⟩
  have S9 := Lib.hid h
  clear h S8
  simp only [List.set_cons_zero] at S9
  go_wp2_with fail
  refine (t_park S9.out 0 rfl 0 ⟨1, 0, 0, 0, 0, 0⟩ (in64s _ (by omega)) (show InPk ⟨1, 0, 0, 0, 0, 0⟩ from ⟨in64s (1) (by omega), in64s (0) (by omega), in64s (0) (by omega), in64s (0) (by omega), in64s (0) (by omega), in64s (0) (by omega)⟩) (b := false) (L' := [⟨[2, 3, 9, -1, 0, 5, 0, 0, 0, 0, 2, 7, 3, 2, -1, 0, 0], rfl⟩, ⟨[1, 4, 0, 1, 0, 0, 0, 0, 0, 0, 0, 0, 0, 0, 0, 0, 0], rfl⟩]) (by kernel_rfl) (by kernel_rfl)).mono ?_
  rintro e w10 ⟨rfl, h⟩
  have S10 := Lib.hid h
  clear h S9
  simp only [List.set_cons_zero] at S10
  go_wp2_with fail
  refine (t_under S10.out 0 rfl 3 (in64s _ (by omega)) (l := [0]) (m := 1) (by kernel_rfl) rfl).mono ?_
  rintro e w11 ⟨A1, c1, rfl, h, _⟩
  have S11 := Lib.hid h
  clear h S10
  go_wp2_with fail
  refine (t_again S11.out 1 rfl 0 ⟨4, 0, -1, 2, 0, 0⟩ (in64s _ (by omega)) (show InPk ⟨4, 0, -1, 2, 0, 0⟩ from ⟨in64s (4) (by omega), in64s (0) (by omega), in64s (-1) (by omega), in64s (2) (by omega), in64s (0) (by omega), in64s (0) (by omega)⟩) (b := true) (L' := [⟨[2, 3, 9, -1, 0, 5, 0, 0, 0, 0, 4, 0, -1, 2, 0, 0, 0], rfl⟩, ⟨[1, 4, 0, 1, 0, 0, 0, 0, 0, 0, 0, 0, 0, 0, 0, 0, 0], rfl⟩]) (by kernel_rfl) (by kernel_rfl)).mono ?_
  rintro e w12 ⟨rfl, h⟩
  have S12 := Lib.hid h
  clear h S11
  simp only [List.set_cons_zero, List.set_cons_succ] at S12
  go_wp2_with fail
  refine (t_wake S12.out 1 rfl 0 8 (in64s _ (by omega)) (in64s _ (by omega)) (b := true) (L' := [⟨[1, 3, 9, -1, 0, 5, 8, 0, 0, 0, 0, 0, 0, 0, 0, 0, 0], rfl⟩, ⟨[1, 4, 0, 1, 0, 0, 0, 0, 0, 0, 0, 0, 0, 0, 0, 0, 0], rfl⟩]) (by kernel_rfl) (by kernel_rfl)).mono ?_
  rintro e w13 ⟨rfl, h⟩
  have S13 := Lib.hid h
  clear h S12
  simp only [List.set_cons_zero, List.set_cons_succ] at S13
  go_wp2_with fail
  refine (t_end S13.out 1 rfl 1 6 (in64s _ (by omega)) (in64s _ (by omega)) (b := true) (L' := [⟨[1, 3, 9, -1, 0, 5, 8, 0, 0, 0, 0, 0, 0, 0, 0, 0, 0], rfl⟩, ⟨[3, 4, 0, 1, 0, 0, 0, 0, 0, 0, 0, 0, 0, 0, 0, 0, 6], rfl⟩]) (by kernel_rfl) (by kernel_rfl)).mono ?_
  rintro e w14 ⟨rfl, h⟩
  have S14 := Lib.hid h
  clear h S13
  simp only [List.set_cons_zero, List.set_cons_succ] at S14
  go_wp2_with fail
  refine (t_end S14.out 1 rfl 1 7 (in64s _ (by omega)) (in64s _ (by omega)) (b := false) (L' := [⟨[1, 3, 9, -1, 0, 5, 8, 0, 0, 0, 0, 0, 0, 0, 0, 0, 0], rfl⟩, ⟨[3, 4, 0, 1, 0, 0, 0, 0, 0, 0, 0, 0, 0, 0, 0, 0, 6], rfl⟩]) (by kernel_rfl) (by kernel_rfl)).mono ?_
  rintro e w15 ⟨rfl, h⟩
  have S15 := Lib.hid h
  clear h S14
  simp only [List.set_cons_zero, List.set_cons_succ] at S15
  go_wp2_with fail
  refine (t_get S15.out 1 rfl 0 (in64s _ (by omega)) (t := ⟨[1, 3, 9, -1, 0, 5, 8, 0, 0, 0, 0, 0, 0, 0, 0, 0, 0], rfl⟩) (b := true) (by kernel_rfl) (by kernel_rfl)).mono ?_
  rintro e w16 ⟨rfl, h, _⟩
  have G15 := Lib.hid h
  clear h S15
  obtain ⟨t0, ht0⟩ : ∃ t : Tk, ⟨[1, 3, 9, -1, 0, 5, 8, 0, 0, 0, 0, 0, 0, 0, 0, 0, 0], rfl⟩ = t := ⟨_, rfl⟩
  have HT0 := Lib.hid ht0
  rw [ht0]
  clear ht0
  have zr := zero_t
  have sT := sizeT_t t0
  have oT := tkA_one t0
  have sz : 0 + (tkA t0).size ≤ (tkA zeroT).size := by rw [tkA_size, tkA_size]; omega
  have HB : Hid ((w16.alloc (.cells (tkA zeroT) 53)).heap[w16.heap.size]? = some (.cells (tkA zeroT) 53 (0, 0))) := (G15.out.new _).blk_at 0 rfl
  have S16v : Hid (Sep (fun _ => False) w (setCells (w16.alloc (.cells (tkA zeroT) 53)) w16.heap.size 0 (tkA t0).toList) (blk w16.heap.size (.cells (tkA t0) 53) :: _)) := var_sep G15.out t0
  generalize tkA zeroT = Z at *
  obtain ⟨X0, hx⟩ : ∃ X, tkA t0 = X := ⟨_, rfl⟩
  have HX0 := Lib.hid hx
  rw [hx] at sT oT sz S16v ⊢
  go_wp2_with (first | (refine wl_allocT rfl 53 rfl zr ?_; simp only [Act.put, List.setIfInBounds_toArray, List.set_cons_zero, List.set_cons_succ]) | (refine wl_storeAt rfl 53 (.tmp 19) (.tmp 73) rfl rfl rfl HB.out sz sT oT ?_))
  obtain ⟨v16, hv⟩ : ∃ v, setCells (w16.alloc (.cells Z 53)) w16.heap.size 0 X0.toList = v := ⟨_, rfl⟩
  rw [hv] at S16v
  (try rw [hv])
  rw [← hx] at S16v
  have S16 := Lib.hid S16v.out
  obtain ⟨g0, hg⟩ : ∃ g, w16.heap.size = g := ⟨_, rfl⟩
  rw [hg] at S16
  (try rw [hg])
  clear hv hg S16v HB zr sT oT sz hx G15
  (try clear Z)
  go_wp2_with fail
  refine (t_get S16.out 2 rfl 1 (in64s _ (by omega)) (t := ⟨[3, 4, 0, 1, 0, 0, 0, 0, 0, 0, 0, 0, 0, 0, 0, 0, 6], rfl⟩) (b := true) (by kernel_rfl) (by kernel_rfl)).mono ?_
  rintro e w17 ⟨rfl, h, _⟩
  have G16 := Lib.hid h
  clear h S16
  obtain ⟨t1, ht1⟩ : ∃ t : Tk, ⟨[3, 4, 0, 1, 0, 0, 0, 0, 0, 0, 0, 0, 0, 0, 0, 0, 6], rfl⟩ = t := ⟨_, rfl⟩
  have HT1 := Lib.hid ht1
  rw [ht1]
  clear ht1
  have zr := zero_t
  have sT := sizeT_t t1
  have oT := tkA_one t1
  have sz : 0 + (tkA t1).size ≤ (tkA zeroT).size := by rw [tkA_size, tkA_size]; omega
  have HB : Hid ((w17.alloc (.cells (tkA zeroT) 53)).heap[w17.heap.size]? = some (.cells (tkA zeroT) 53 (0, 0))) := (G16.out.new _).blk_at 0 rfl
  have S17v : Hid (Sep (fun _ => False) w (setCells (w17.alloc (.cells (tkA zeroT) 53)) w17.heap.size 0 (tkA t1).toList) (blk w17.heap.size (.cells (tkA t1) 53) :: _)) := var_sep G16.out t1
  generalize tkA zeroT = Z at *
  obtain ⟨X1, hx⟩ : ∃ X, tkA t1 = X := ⟨_, rfl⟩
  have HX1 := Lib.hid hx
  rw [hx] at sT oT sz S17v ⊢
  go_wp2_with (first | (refine wl_allocT rfl 53 rfl zr ?_; simp only [Act.put, List.setIfInBounds_toArray, List.set_cons_zero, List.set_cons_succ]) | (refine wl_storeAt rfl 53 (.tmp 21) (.tmp 78) rfl rfl rfl HB.out sz sT oT ?_))
  obtain ⟨v17, hv⟩ : ∃ v, setCells (w17.alloc (.cells Z 53)) w17.heap.size 0 X1.toList = v := ⟨_, rfl⟩
  rw [hv] at S17v
  (try rw [hv])
  rw [← hx] at S17v
  have S17 := Lib.hid S17v.out
  obtain ⟨g1, hg⟩ : ∃ g, w17.heap.size = g := ⟨_, rfl⟩
  rw [hg] at S17
  (try rw [hg])
  clear hv hg S17v HB zr sT oT sz hx G16
  (try clear Z)
  go_wp2_with fail
  refine (t_get S17.out 3 rfl 2 (in64s _ (by omega)) (t := zeroT) (b := false) (by kernel_rfl) (by kernel_rfl)).mono ?_
  rintro e w18 ⟨rfl, h, _⟩
  have G17 := Lib.hid h
  clear h S17
  obtain ⟨t2, ht2⟩ : ∃ t : Tk, zeroT = t := ⟨_, rfl⟩
  have HT2 := Lib.hid ht2
  rw [ht2]
  clear ht2
  have zr := zero_t
  have sT := sizeT_t t2
  have oT := tkA_one t2
  have sz : 0 + (tkA t2).size ≤ (tkA zeroT).size := by rw [tkA_size, tkA_size]; omega
  have HB : Hid ((w18.alloc (.cells (tkA zeroT) 53)).heap[w18.heap.size]? = some (.cells (tkA zeroT) 53 (0, 0))) := (G17.out.new _).blk_at 0 rfl
  have S18v : Hid (Sep (fun _ => False) w (setCells (w18.alloc (.cells (tkA zeroT) 53)) w18.heap.size 0 (tkA t2).toList) (blk w18.heap.size (.cells (tkA t2) 53) :: _)) := var_sep G17.out t2
  generalize tkA zeroT = Z at *
  obtain ⟨X2, hx⟩ : ∃ X, tkA t2 = X := ⟨_, rfl⟩
  have HX2 := Lib.hid hx
  rw [hx] at sT oT sz S18v ⊢
  go_upto_region 20 with (first | (refine wl_allocT rfl 53 rfl zr ?_; simp only [Act.put, List.setIfInBounds_toArray, List.set_cons_zero, List.set_cons_succ]) | (refine wl_storeAt rfl 53 (.tmp 23) (.tmp 83) rfl rfl rfl HB.out sz sT oT ?_))
  obtain ⟨v18, hv⟩ : ∃ v, setCells (w18.alloc (.cells Z 53)) w18.heap.size 0 X2.toList = v := ⟨_, rfl⟩
  rw [hv] at S18v
  (try rw [hv])
  rw [← hx] at S18v
  have S18 := Lib.hid S18v.out
  obtain ⟨g2, hg⟩ : ∃ g, w18.heap.size = g := ⟨_, rfl⟩
  rw [hg] at S18
  (try rw [hg])
  clear hv hg S18v HB zr sT oT sz hx G17
  (try clear Z)
  simp only [List.append_eq, List.cons_append, List.nil_append]
  have S19a := Lib.hid (S18.out.next (new_below0 _ (.cells #[.int .i64 0] 3)))
  have HL19 := Lib.hid (litI v18 3 [0] (cs := #[.int .i64 0]) rfl (by decide) (n := 1) rfl)
  go_wp2_with fail
  refine (same_d (S19a.out.rd 3 rfl) HL19.out rfl).mono ?_
  rintro e w20 ⟨rfl, hb⟩
  have S20 := Lib.hid (S19a.out.next hb)
  clear hb S19a S18 HL19
  have HC0 := Lib.hid (cells_at (S20.out.blk_at 2 (g := g0) rfl))
  have HC1 := Lib.hid (cells_at (S20.out.blk_at 1 (g := g1) rfl))
  have sx0 := sizeT_t t0
  have sx1 := sizeT_t t1
  rw [HX0.out] at HC0 sx0
  rw [HX1.out] at HC1 sx1
  have heq0 : ∀ W, (binOp .eql 53 (.agg X0) (.agg #[.int .i64 1, .int .i64 3, .int .i64 9, .int .i64 (-1), .int .i64 0, .int .i64 5, .int .i64 8, .int .i64 0, .int .i64 0, .int .i64 0, .int .i64 0, .int .i64 0, .int .i64 0, .int .i64 0, .int .i64 0, .int .i64 0, .int .i64 0])).run Try.prog W = .ok (.bool true) W := fun W => by
    have h1 := run_eql_tkT W t0 t0
    rw [HX0.out, decide_eq_true rfl] at h1
    have h2 : X0 = #[.int .i64 1, .int .i64 3, .int .i64 9, .int .i64 (-1), .int .i64 0, .int .i64 5, .int .i64 8, .int .i64 0, .int .i64 0, .int .i64 0, .int .i64 0, .int .i64 0, .int .i64 0, .int .i64 0, .int .i64 0, .int .i64 0, .int .i64 0] := by rw [← HX0.out, ← HT0.out]; rfl
    rw [← h2]; exact h1
  have heq1 : ∀ W, (binOp .eql 53 (.agg X1) (.agg #[.int .i64 3, .int .i64 4, .int .i64 0, .int .i64 1, .int .i64 0, .int .i64 0, .int .i64 0, .int .i64 0, .int .i64 0, .int .i64 0, .int .i64 0, .int .i64 0, .int .i64 0, .int .i64 0, .int .i64 0, .int .i64 0, .int .i64 6])).run Try.prog W = .ok (.bool true) W := fun W => by
    have h1 := run_eql_tkT W t1 t1
    rw [HX1.out, decide_eq_true rfl] at h1
    have h2 : X1 = #[.int .i64 3, .int .i64 4, .int .i64 0, .int .i64 1, .int .i64 0, .int .i64 0, .int .i64 0, .int .i64 0, .int .i64 0, .int .i64 0, .int .i64 0, .int .i64 0, .int .i64 0, .int .i64 0, .int .i64 0, .int .i64 0, .int .i64 6] := by rw [← HX1.out, ← HT1.out]; rfl
    rw [← h2]; exact h1
  go_wp2_with (first | (refine wl_loadG (by rfl) 53 (.tmp 19) rfl rfl HC0.out Try.underlying53 rfl sx0 ?_; simp only [Act.put, List.setIfInBounds_toArray, List.set_cons_zero, List.set_cons_succ]) | (refine wl_loadG (by rfl) 53 (.tmp 21) rfl rfl HC1.out Try.underlying53 rfl sx1 ?_; simp only [Act.put, List.setIfInBounds_toArray, List.set_cons_zero, List.set_cons_succ]))
  refine (t_in S20.out 4 rfl 3 (in64s _ (by omega)) (l := [1]) (m := 1) (by kernel_rfl) rfl).mono ?_
  rintro e w21 ⟨A2, c2, rfl, h, _⟩
  have S21 := Lib.hid (h.next (new_below0 _ (.cells #[.int .i64 1] 3)))
  have HL21 := Lib.hid (litI w21 3 [1] (cs := #[.int .i64 1]) rfl (by decide) (n := 1) rfl)
  clear h S20
  go_wp2_with fail
  refine (same_d (S21.out.rd 0 rfl) HL21.out rfl).mono ?_
  rintro e w22 ⟨rfl, hb⟩
  have S22 := Lib.hid (S21.out.next hb)
  clear hb S21 HL21
  go_wp2_with fail
  refine (t_len S22.out 5 rfl).mono ?_
  rintro e w23 ⟨rfl, h, _⟩
  have S23 := Lib.hid h
  clear h S22
  go_wp2
  go_ret
  exact ⟨rfl, S23.out.old⟩
end Go.Proofs.Ythdipkdolgcmgaa.TaskI
