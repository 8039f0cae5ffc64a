/-
  Package task, as it landed, fifth part: Park, Again, and lists of tasks. No condition.
-/
import Derived.Test.YthdipkdolgcmgaaTkD
namespace Go.Proofs.Ythdipkdolgcmgaa.TkA
open Go.ChangeShapes Go.WideShapes Go.ChangeAt Go.RowKit Mem MutP TaskP Hand RefTask TaskI

section
variable {B : Nat → Prop} {w wk wn : World} {Rs : List Res} {p : Nat} {L : List Tk} {N : Int}
set_option maxRecDepth 100000 in
theorem park_s {A : Option Addr} {c : Nat} (hok : TaskP.Ok L N) (h : Sep B w wk (ta p L N (.slice A L.length c) ++ Rs)) (n : Int) (q : Pk) :
    Calls Try.prog 30 #[.pointer (some ⟨p, 0, none⟩), .int .i64 n, .agg (pkA q)] wk fun e wn => e = .returned (.bool (parkB L n q)) ∧ Sep B w wn (ta p (parkL L n q) N (.slice A L.length c) ++ Rs) := by
  have hn : Sep B w (wk.alloc (.cells (pkA q) 32)) (ta p L N (.slice A L.length c) ++ (blk wk.heap.size (.cells (pkA q) 32) :: Rs)) := (h.new _).perm (by
    show List.Perm (_ :: _ :: _ :: Rs) (_ :: _ :: _ :: Rs)
    exact (List.Perm.swap ..).trans (.cons _ (.swap ..)))
  have HW := Lib.hid (wait_s hok hn 1 n q (by omega) (b := parkB L n q) (L' := parkL L n q) rfl rfl)
  have szP := size_p q
  have HLD : Hid (∀ j, j < (pkA q).size → (wk.alloc (.cells (pkA q) 32)).cell? ⟨wk.heap.size, 0 + j, none⟩ = (pkA q)[j]?) := cells_at (hn.blk_at 2 rfl)
  clear h hn
  generalize parkB L n q = b at *
  generalize parkL L n q = L2 at *
  generalize pkA q = X at *
  generalize L.length = len at *
  go_enter Try.func30, Try.ntmps30
  go_wp2_with (first | (refine wl_loadAt rfl 32 (.tmp 5) rfl rfl HLD.out Try.underlying32 rfl szP ?_; simp only [Act.put, List.setIfInBounds_toArray, List.set_cons_zero, List.set_cons_succ]) | fail)
  refine HW.out.mono ?_
  rintro e w1 ⟨rfl, h1⟩
  have HS := Lib.hid h1
  clear h1 HW
  go_wp2
  go_ret
  refine ⟨rfl, HS.out.sub ?_⟩
  show List.Sublist (_ :: _ :: Rs) (_ :: _ :: _ :: Rs)
  exact ((List.sublist_cons_self _ _).cons_cons _).cons_cons _
set_option maxRecDepth 100000 in
theorem again_s {A : Option Addr} {c : Nat} (hok : TaskP.Ok L N) (h : Sep B w wk (ta p L N (.slice A L.length c) ++ Rs)) (n : Int) (q : Pk) :
    Calls Try.prog 25 #[.pointer (some ⟨p, 0, none⟩), .int .i64 n, .agg (pkA q)] wk fun e wn => e = .returned (.bool (againB L n q)) ∧ Sep B w wn (ta p (againL L n q) N (.slice A L.length c) ++ Rs) := by
  have hn : Sep B w (wk.alloc (.cells (pkA q) 32)) (ta p L N (.slice A L.length c) ++ (blk wk.heap.size (.cells (pkA q) 32) :: Rs)) := (h.new _).perm (by
    show List.Perm (_ :: _ :: _ :: Rs) (_ :: _ :: _ :: Rs)
    exact (List.Perm.swap ..).trans (.cons _ (.swap ..)))
  have HW := Lib.hid (wait_s hok hn 2 n q (by omega) (b := againB L n q) (L' := againL L n q) rfl rfl)
  have szP := size_p q
  have HLD : Hid (∀ j, j < (pkA q).size → (wk.alloc (.cells (pkA q) 32)).cell? ⟨wk.heap.size, 0 + j, none⟩ = (pkA q)[j]?) := cells_at (hn.blk_at 2 rfl)
  clear h hn
  generalize againB L n q = b at *
  generalize againL L n q = L2 at *
  generalize pkA q = X at *
  generalize L.length = len at *
  go_enter Try.func25, Try.ntmps25
  go_wp2_with (first | (refine wl_loadAt rfl 32 (.tmp 5) rfl rfl HLD.out Try.underlying32 rfl szP ?_; simp only [Act.put, List.setIfInBounds_toArray, List.set_cons_zero, List.set_cons_succ]) | fail)
  refine HW.out.mono ?_
  rintro e w1 ⟨rfl, h1⟩
  have HS := Lib.hid h1
  clear h1 HW
  go_wp2
  go_ret
  refine ⟨rfl, HS.out.sub ?_⟩
  show List.Sublist (_ :: _ :: Rs) (_ :: _ :: _ :: Rs)
  exact ((List.sublist_cons_self _ _).cons_cons _).cons_cons _
end

theorem cell_tk {V : World} {g : Nat} {t : Tk} {ty : TypeId} (h : V.heap[g]? = some (.cells (tkA t) ty (0, 0))) {j : Nat} (hj : j < 17) : V.cell? ⟨g, j, none⟩ = some (.int .i64 (get t j)) := (cell_block h j).trans (tkA_get t hj)
set_option maxRecDepth 100000 in
theorem in1_s (t : Tk) {w : World} {q : Nat} {s : Int} (hq : w.cell? ⟨q, 0, none⟩ = some (.int .i64 s)) :
    Calls Try.prog 34 #[.agg (tkA t), .pointer (some ⟨q, 0, none⟩)] w fun e w' => e = .returned (.bool (inP s t)) ∧ Below w.heap.size w w' := by
  have hlt : q < w.heap.size := World.block_lt_of_cell? _ _ hq
  have c0 := cell_tk (heap_alloc_new w (.cells (tkA t) 53)) (j := 0) (by omega)
  have HB := Lib.hid (new_below0 w (.cells (tkA t) 53))
  have HR : Hid (inP s t = (get t 0 == s)) := by show _ = _; unfold inP; rw [Bool.eq_iff_iff]; simp
  generalize inP s t = b at *
  generalize get t 0 = g at *
  generalize tkA t = X at *
  go_enter Try.func34, Try.ntmps34
  go_wp2
  go_ret
  exact ⟨by rw [HR.out]; rfl, HB.out⟩
set_option maxRecDepth 100000 in
theorem under1_s (t : Tk) {w : World} {q : Nat} {s : Int} (hq : w.cell? ⟨q, 0, none⟩ = some (.int .i64 s)) :
    Calls Try.prog 35 #[.agg (tkA t), .pointer (some ⟨q, 0, none⟩)] w fun e w' => e = .returned (.bool (underP s t)) ∧ Below w.heap.size w w' := by
  have hlt : q < w.heap.size := World.block_lt_of_cell? _ _ hq
  have c0 := cell_tk (heap_alloc_new w (.cells (tkA t) 53)) (j := 0) (by omega)
  have c12 := cell_tk (heap_alloc_new w (.cells (tkA t) 53)) (j := 12) (by omega)
  have HB := Lib.hid (new_below0 w (.cells (tkA t) 53))
  rcases hb : underP s t with _ | _
  · have hb2 := of_decide_eq_false hb
    by_cases h1 : get t 0 = 2
    · by_cases h2 : 0 ≤ s
      · have h3 : (get t 12 == s) = false := by rw [beq_eq_false_iff_ne]; exact fun e => hb2 ⟨h2, h1, e⟩
        rw [h1] at c0
        clear hb hb2 h1
        generalize get t 12 = g2 at *
        generalize tkA t = X at *
        go_enter Try.func35, Try.ntmps35
        go_wp2
        go_ret
        exact ⟨rfl, HB.out⟩
      · have h3 : decide (s ≥ 0) = false := decide_eq_false h2
        rw [h1] at c0
        clear hb hb2 h1 h2
        generalize get t 12 = g2 at *
        generalize tkA t = X at *
        go_enter Try.func35, Try.ntmps35
        go_wp2
        go_ret
        exact ⟨rfl, HB.out⟩
    · have h3 : (get t 0 == 2) = false := by rw [beq_eq_false_iff_ne]; exact h1
      clear hb hb2 h1 c12
      generalize get t 0 = g2 at *
      generalize tkA t = X at *
      go_enter Try.func35, Try.ntmps35
      go_wp2
      go_ret
      exact ⟨rfl, HB.out⟩
  · obtain ⟨h2, h1, h3⟩ := of_decide_eq_true hb
    rw [h1] at c0
    rw [h3] at c12
    clear hb h1 h3
    generalize tkA t = X at *
    go_enter Try.func35, Try.ntmps35
    go_wp2
    go_ret
    exact ⟨rfl, HB.out⟩

section
variable {wk : World} {p : Nat} {L : List Tk}
/-- The function literal of In, that holds what is asked for in a block. -/
def inF (q : Nat) : Value := .func (.func 34) #[] #[.pointer (some ⟨q, 0, none⟩)]
set_option maxHeartbeats 1000000 in
set_option maxRecDepth 100000 in
theorem all_in {A : Option Addr} {c : Nat} (h : Sees wk p A c L) {q : Nat} {s : Int} (hq : wk.cell? ⟨q, 0, none⟩ = some (.int .i64 s)) :
    Calls Try.prog 33 #[.pointer (some ⟨p, 0, none⟩), inF q] wk fun e wn => ∃ A c, e = .returned (.slice A (inS L s).length c) ∧ Sep (fun _ => False) wk wn (grow intE 3 (.slice A (inS L s).length c) (inS L s) :: []) := by
  have hlt : q < wk.heap.size := World.block_lt_of_cell? _ _ hq
  have hm := h.len
  have k1 := h.k1
  have HSE := Lib.hid h
  have HQ : Hid (wk.cell? ⟨q, 0, none⟩ = some (.int .i64 s)) := hq
  have S0 : Hid (Sep (fun _ => False) wk wk [grow intE 3 (.slice none 0 0) []]) := (Sep.nil (fun _ => False) wk).add (R := grow intE 3 (.slice none 0 0) []) (F := fun _ => False) (Below.refl _ _) ⟨OwnL.none_ _ _ _, by funext k; simp [Value.ownBlock]⟩ fun k hk => hk.elim
  have zr := zero_t
  clear h hq
  unfold inF
  go_enter Try.func33, Try.ntmps33
  go_wp2
  go_loopw [5, 13] (fun o u wr => ∃ i : Nat, i ≤ L.length ∧ u = .int .i64 i ∧ Hid (∃ A c, o = .slice A (pick (inP s) L i).length c ∧ Sep (fun _ => False) wk wr (grow intE 3 (.slice A (pick (inP s) L i).length c) (pick (inP s) L i) :: []))) (fun _ u _ => L.length - (intOf u).toNat)
  case atStart => exact ⟨0, Nat.zero_le _, rfl, _, _, rfl, S0.out⟩
  case round =>
    obtain ⟨i, hi, rfl, HS⟩ := hrel
    obtain ⟨A1, c1, rfl, hs⟩ := HS.out
    have S1 := Lib.hid hs
    have hul := pick_len (inP s) L i
    have HRW := Lib.hid (HSE.out.below hs.old).rd
    have HQW : Hid (wr.cell? ⟨q, 0, none⟩ = some (.int .i64 s)) := (hs.old.cell (p := ⟨q, 0, none⟩) hlt).trans HQ.out
    clear HS S0 hs
    by_cases hlt2 : i < L.length
    · have hk := List.getElem?_eq_getElem hlt2
      generalize L[i] = t at *
      have HP := Lib.hid (pick_succ (p := inP s) hk)
      obtain ⟨bb, off, rfl, hbl, _, cs⟩ := tk_cells HRW.out hk
      have i0 : (0 : Int) ≤ (i : Int) := by omega
      have i1 : (i : Int) < (L.length : Int) := by omega
      have HLD : Hid (∀ j, j < (tkA t).size → wr.cell? ⟨bb, off + i * 17 + j, none⟩ = (tkA t)[j]?) := fun j hj => by
        rw [tkA_size] at hj
        rw [tkA_get t hj]
        exact cs j hj
      have S2 : Hid (Sep (fun _ => False) wk (setCells (wr.alloc (.cells (tkA zeroT) 53)) wr.heap.size 0 (tkA t).toList) (blk wr.heap.size (.cells (tkA t) 53) :: [grow intE 3 (.slice A1 (pick (inP s) L i).length c1) (pick (inP s) L i)])) := var_sep S1.out t
      have HB0 : Hid ((wr.alloc (.cells (tkA zeroT) 53)).heap[wr.heap.size]? = some (.cells (tkA zeroT) 53 (0, 0))) := heap_alloc_new ..
      have HLD2 : Hid (∀ j, j < (tkA t).size → (setCells (wr.alloc (.cells (tkA zeroT) 53)) wr.heap.size 0 (tkA t).toList).cell? ⟨wr.heap.size, 0 + j, none⟩ = (tkA t)[j]?) := cells_at (S2.out.blk_at 0 rfl)
      have HQ2 : Hid ((setCells (wr.alloc (.cells (tkA zeroT) 53)) wr.heap.size 0 (tkA t).toList).cell? ⟨q, 0, none⟩ = some (.int .i64 s)) := (S2.out.old.cell (p := ⟨q, 0, none⟩) hlt).trans HQ.out
      have sX := sizeT_t t
      have oX := tkA_one t
      have sz : 0 + (tkA t).size ≤ (tkA zeroT).size := by rw [tkA_size, tkA_size]; omega
      have HC := Lib.hid (in1_s t HQ2.out)
      clear hk cs hbl HQ2 HQW HRW
      generalize tkA zeroT = Z at *
      generalize tkA t = X at *
      obtain ⟨wz, hwz⟩ : ∃ wz, wz = setCells (wr.alloc (.cells Z 53)) wr.heap.size 0 X.toList := ⟨_, rfl⟩
      rw [← hwz] at S2 HLD2 HC
      have HWZ := Lib.hid hwz
      clear hwz
      rcases hpp : inP s t with _ | _
      · have HU : Hid (pick (inP s) L (i + 1) = pick (inP s) L i) := by show _ = _; rw [HP.out, if_neg (by rw [hpp]; simp)]
        rw [hpp] at HC
        clear hpp HP S1
        go_wp2_with (first | (refine wl_allocT rfl 53 rfl zr ?_; simp only [Act.put, List.setIfInBounds_toArray, List.set_cons_zero, List.set_cons_succ]) | (refine wl_loadAt rfl 53 (.tmp 16) rfl rfl HLD.out Try.underlying53 rfl sX ?_; simp only [Act.put, List.setIfInBounds_toArray, List.set_cons_zero, List.set_cons_succ]) | (refine wl_storeAt rfl 53 (.tmp 7) (.tmp 17) rfl rfl rfl HB0.out sz sX oX ?_; rw [← HWZ.out]) | (refine wl_loadAt rfl 53 (.tmp 7) rfl rfl HLD2.out Try.underlying53 rfl sX ?_; simp only [Act.put, List.setIfInBounds_toArray, List.set_cons_zero, List.set_cons_succ]) | fail)
        refine HC.out.mono ?_
        rintro e w2 ⟨rfl, hb2⟩
        have S3 := Lib.hid ((S2.out.next hb2).tail)
        clear hb2 S2 HC HLD HLD2 HB0
        go_wp2
        go_roundw
        case rel => exact ⟨i + 1, by omega, by go_num, by rw [HU.out]; exact ⟨_, _, rfl, S3.out⟩⟩
        case measure => simp [intOf]; omega
      · have HU : Hid (pick (inP s) L (i + 1) = pick (inP s) L i ++ [(i : Int)]) := by show _ = _; rw [HP.out, if_pos hpp]
        rw [hpp] at HC
        clear hpp HP S1
        go_wp2_with (first | (refine wl_allocT rfl 53 rfl zr ?_; simp only [Act.put, List.setIfInBounds_toArray, List.set_cons_zero, List.set_cons_succ]) | (refine wl_loadAt rfl 53 (.tmp 16) rfl rfl HLD.out Try.underlying53 rfl sX ?_; simp only [Act.put, List.setIfInBounds_toArray, List.set_cons_zero, List.set_cons_succ]) | (refine wl_storeAt rfl 53 (.tmp 7) (.tmp 17) rfl rfl rfl HB0.out sz sX oX ?_; rw [← HWZ.out]) | (refine wl_loadAt rfl 53 (.tmp 7) rfl rfl HLD2.out Try.underlying53 rfl sX ?_; simp only [Act.put, List.setIfInBounds_toArray, List.set_cons_zero, List.set_cons_succ]) | fail)
        refine HC.out.mono ?_
        rintro e w2 ⟨rfl, hb2⟩
        have S3 := Lib.hid ((S2.out.next hb2).tail)
        have HX1 : Hid (RdL intE (w2.alloc (.cells #[.int .i64 (i : Int)] 3)) (fun _ => True) (.slice (some ⟨w2.heap.size, 0, none⟩) 1 1) [(i : Int)]) := RdL.lit1 (E := intE) w2 3 (i : Int) (cs := #[.int .i64 (i : Int)]) rfl (fun _ => True) trivial
        clear hb2 S2 HC HLD HLD2 HB0
        go_wp2_with (at_builtin; refine wpList_appS rfl _ _ intElemL rfl rfl rfl (S3.out.next (new_below0 _ _)) 0 rfl HX1.out (by simp; omega) ?_; intro A3 c3 w5 l3 HL3 h3)
        have S4 := Lib.hid h3
        clear h3 S3 HX1
        go_wp2
        go_roundw
        case rel => exact ⟨i + 1, by omega, by go_num, by rw [HU.out, ← HL3.out]; exact ⟨_, _, rfl, S4.out⟩⟩
        case measure => simp [intOf]; omega
    · obtain rfl : i = L.length := by omega
      clear HRW
      go_wp2
      go_ret
      exact ⟨_, _, rfl, S1.out⟩
set_option maxRecDepth 100000 in
theorem in_s {A : Option Addr} {c : Nat} (h : Sees wk p A c L) (s : Int) :
    Calls Try.prog 18 #[.pointer (some ⟨p, 0, none⟩), .int .i64 s] wk fun e wn => ∃ u, e = .returned u ∧ Says wk wn u (inS L s) := by
  have hb := new_below0 wk (.cells #[.int .i64 s] 3)
  have HB := Lib.hid hb
  have HA := Lib.hid (all_in (h.below hb) (q := wk.heap.size) (s := s) ((cell_block (heap_alloc_new ..) 0).trans rfl))
  have hl : (inS L s).length ≤ 1000000 := by have h1 := inS_len L s; have h2 := h.len; omega
  clear h hb
  generalize inS L s = l at *
  unfold inF at HA
  go_enter Try.func18, Try.ntmps18
  go_wp2_with fail
  refine HA.out.mono ?_
  rintro e w1 ⟨A1, c1, rfl, h1⟩
  have HS : Hid (Says wk w1 (.slice A1 l.length c1) l) := by
    refine ⟨?_, HB.out.trans (h1.old.mono HB.out.size)⟩
    obtain ⟨F, ⟨hO, hF⟩, hFF, _⟩ := h1.upd 0 rfl
    have hr := (OwnL.rd hO hl (G := fun k => F k) fun k hk => by rw [hF]; exact hk)
    exact (rd_of hr).mono fun k _ hk => by
      have := (hFF k hk).resolve_left id
      simp at this
      omega
  clear h1 HA
  go_wp2
  go_ret
  exact ⟨_, rfl, HS.out⟩
/-- The function literal of Under, that holds what is asked for in a block. -/
def underF (q : Nat) : Value := .func (.func 35) #[] #[.pointer (some ⟨q, 0, none⟩)]
set_option maxHeartbeats 1000000 in
set_option maxRecDepth 100000 in
theorem all_under {A : Option Addr} {c : Nat} (h : Sees wk p A c L) {q : Nat} {s : Int} (hq : wk.cell? ⟨q, 0, none⟩ = some (.int .i64 s)) :
    Calls Try.prog 33 #[.pointer (some ⟨p, 0, none⟩), underF q] wk fun e wn => ∃ A c, e = .returned (.slice A (underS L s).length c) ∧ Sep (fun _ => False) wk wn (grow intE 3 (.slice A (underS L s).length c) (underS L s) :: []) := by
  have hlt : q < wk.heap.size := World.block_lt_of_cell? _ _ hq
  have hm := h.len
  have k1 := h.k1
  have HSE := Lib.hid h
  have HQ : Hid (wk.cell? ⟨q, 0, none⟩ = some (.int .i64 s)) := hq
  have S0 : Hid (Sep (fun _ => False) wk wk [grow intE 3 (.slice none 0 0) []]) := (Sep.nil (fun _ => False) wk).add (R := grow intE 3 (.slice none 0 0) []) (F := fun _ => False) (Below.refl _ _) ⟨OwnL.none_ _ _ _, by funext k; simp [Value.ownBlock]⟩ fun k hk => hk.elim
  have zr := zero_t
  clear h hq
  unfold underF
  go_enter Try.func33, Try.ntmps33
  go_wp2
  go_loopw [5, 13] (fun o u wr => ∃ i : Nat, i ≤ L.length ∧ u = .int .i64 i ∧ Hid (∃ A c, o = .slice A (pick (underP s) L i).length c ∧ Sep (fun _ => False) wk wr (grow intE 3 (.slice A (pick (underP s) L i).length c) (pick (underP s) L i) :: []))) (fun _ u _ => L.length - (intOf u).toNat)
  case atStart => exact ⟨0, Nat.zero_le _, rfl, _, _, rfl, S0.out⟩
  case round =>
    obtain ⟨i, hi, rfl, HS⟩ := hrel
    obtain ⟨A1, c1, rfl, hs⟩ := HS.out
    have S1 := Lib.hid hs
    have hul := pick_len (underP s) L i
    have HRW := Lib.hid (HSE.out.below hs.old).rd
    have HQW : Hid (wr.cell? ⟨q, 0, none⟩ = some (.int .i64 s)) := (hs.old.cell (p := ⟨q, 0, none⟩) hlt).trans HQ.out
    clear HS S0 hs
    by_cases hlt2 : i < L.length
    · have hk := List.getElem?_eq_getElem hlt2
      generalize L[i] = t at *
      have HP := Lib.hid (pick_succ (p := underP s) hk)
      obtain ⟨bb, off, rfl, hbl, _, cs⟩ := tk_cells HRW.out hk
      have i0 : (0 : Int) ≤ (i : Int) := by omega
      have i1 : (i : Int) < (L.length : Int) := by omega
      have HLD : Hid (∀ j, j < (tkA t).size → wr.cell? ⟨bb, off + i * 17 + j, none⟩ = (tkA t)[j]?) := fun j hj => by
        rw [tkA_size] at hj
        rw [tkA_get t hj]
        exact cs j hj
      have S2 : Hid (Sep (fun _ => False) wk (setCells (wr.alloc (.cells (tkA zeroT) 53)) wr.heap.size 0 (tkA t).toList) (blk wr.heap.size (.cells (tkA t) 53) :: [grow intE 3 (.slice A1 (pick (underP s) L i).length c1) (pick (underP s) L i)])) := var_sep S1.out t
      have HB0 : Hid ((wr.alloc (.cells (tkA zeroT) 53)).heap[wr.heap.size]? = some (.cells (tkA zeroT) 53 (0, 0))) := heap_alloc_new ..
      have HLD2 : Hid (∀ j, j < (tkA t).size → (setCells (wr.alloc (.cells (tkA zeroT) 53)) wr.heap.size 0 (tkA t).toList).cell? ⟨wr.heap.size, 0 + j, none⟩ = (tkA t)[j]?) := cells_at (S2.out.blk_at 0 rfl)
      have HQ2 : Hid ((setCells (wr.alloc (.cells (tkA zeroT) 53)) wr.heap.size 0 (tkA t).toList).cell? ⟨q, 0, none⟩ = some (.int .i64 s)) := (S2.out.old.cell (p := ⟨q, 0, none⟩) hlt).trans HQ.out
      have sX := sizeT_t t
      have oX := tkA_one t
      have sz : 0 + (tkA t).size ≤ (tkA zeroT).size := by rw [tkA_size, tkA_size]; omega
      have HC := Lib.hid (under1_s t HQ2.out)
      clear hk cs hbl HQ2 HQW HRW
      generalize tkA zeroT = Z at *
      generalize tkA t = X at *
      obtain ⟨wz, hwz⟩ : ∃ wz, wz = setCells (wr.alloc (.cells Z 53)) wr.heap.size 0 X.toList := ⟨_, rfl⟩
      rw [← hwz] at S2 HLD2 HC
      have HWZ := Lib.hid hwz
      clear hwz
      rcases hpp : underP s t with _ | _
      · have HU : Hid (pick (underP s) L (i + 1) = pick (underP s) L i) := by show _ = _; rw [HP.out, if_neg (by rw [hpp]; simp)]
        rw [hpp] at HC
        clear hpp HP S1
        go_wp2_with (first | (refine wl_allocT rfl 53 rfl zr ?_; simp only [Act.put, List.setIfInBounds_toArray, List.set_cons_zero, List.set_cons_succ]) | (refine wl_loadAt rfl 53 (.tmp 16) rfl rfl HLD.out Try.underlying53 rfl sX ?_; simp only [Act.put, List.setIfInBounds_toArray, List.set_cons_zero, List.set_cons_succ]) | (refine wl_storeAt rfl 53 (.tmp 7) (.tmp 17) rfl rfl rfl HB0.out sz sX oX ?_; rw [← HWZ.out]) | (refine wl_loadAt rfl 53 (.tmp 7) rfl rfl HLD2.out Try.underlying53 rfl sX ?_; simp only [Act.put, List.setIfInBounds_toArray, List.set_cons_zero, List.set_cons_succ]) | fail)
        refine HC.out.mono ?_
        rintro e w2 ⟨rfl, hb2⟩
        have S3 := Lib.hid ((S2.out.next hb2).tail)
        clear hb2 S2 HC HLD HLD2 HB0
        go_wp2
        go_roundw
        case rel => exact ⟨i + 1, by omega, by go_num, by rw [HU.out]; exact ⟨_, _, rfl, S3.out⟩⟩
        case measure => simp [intOf]; omega
      · have HU : Hid (pick (underP s) L (i + 1) = pick (underP s) L i ++ [(i : Int)]) := by show _ = _; rw [HP.out, if_pos hpp]
        rw [hpp] at HC
        clear hpp HP S1
        go_wp2_with (first | (refine wl_allocT rfl 53 rfl zr ?_; simp only [Act.put, List.setIfInBounds_toArray, List.set_cons_zero, List.set_cons_succ]) | (refine wl_loadAt rfl 53 (.tmp 16) rfl rfl HLD.out Try.underlying53 rfl sX ?_; simp only [Act.put, List.setIfInBounds_toArray, List.set_cons_zero, List.set_cons_succ]) | (refine wl_storeAt rfl 53 (.tmp 7) (.tmp 17) rfl rfl rfl HB0.out sz sX oX ?_; rw [← HWZ.out]) | (refine wl_loadAt rfl 53 (.tmp 7) rfl rfl HLD2.out Try.underlying53 rfl sX ?_; simp only [Act.put, List.setIfInBounds_toArray, List.set_cons_zero, List.set_cons_succ]) | fail)
        refine HC.out.mono ?_
        rintro e w2 ⟨rfl, hb2⟩
        have S3 := Lib.hid ((S2.out.next hb2).tail)
        have HX1 : Hid (RdL intE (w2.alloc (.cells #[.int .i64 (i : Int)] 3)) (fun _ => True) (.slice (some ⟨w2.heap.size, 0, none⟩) 1 1) [(i : Int)]) := RdL.lit1 (E := intE) w2 3 (i : Int) (cs := #[.int .i64 (i : Int)]) rfl (fun _ => True) trivial
        clear hb2 S2 HC HLD HLD2 HB0
        go_wp2_with (at_builtin; refine wpList_appS rfl _ _ intElemL rfl rfl rfl (S3.out.next (new_below0 _ _)) 0 rfl HX1.out (by simp; omega) ?_; intro A3 c3 w5 l3 HL3 h3)
        have S4 := Lib.hid h3
        clear h3 S3 HX1
        go_wp2
        go_roundw
        case rel => exact ⟨i + 1, by omega, by go_num, by rw [HU.out, ← HL3.out]; exact ⟨_, _, rfl, S4.out⟩⟩
        case measure => simp [intOf]; omega
    · obtain rfl : i = L.length := by omega
      clear HRW
      go_wp2
      go_ret
      exact ⟨_, _, rfl, S1.out⟩
set_option maxRecDepth 100000 in
theorem under_s {A : Option Addr} {c : Nat} (h : Sees wk p A c L) (s : Int) :
    Calls Try.prog 20 #[.pointer (some ⟨p, 0, none⟩), .int .i64 s] wk fun e wn => ∃ u, e = .returned u ∧ Says wk wn u (underS L s) := by
  have hb := new_below0 wk (.cells #[.int .i64 s] 3)
  have HB := Lib.hid hb
  have HA := Lib.hid (all_under (h.below hb) (q := wk.heap.size) (s := s) ((cell_block (heap_alloc_new ..) 0).trans rfl))
  have hl : (underS L s).length ≤ 1000000 := by have h1 := underS_len L s; have h2 := h.len; omega
  clear h hb
  generalize underS L s = l at *
  unfold underF at HA
  go_enter Try.func20, Try.ntmps20
  go_wp2_with fail
  refine HA.out.mono ?_
  rintro e w1 ⟨A1, c1, rfl, h1⟩
  have HS : Hid (Says wk w1 (.slice A1 l.length c1) l) := by
    refine ⟨?_, HB.out.trans (h1.old.mono HB.out.size)⟩
    obtain ⟨F, ⟨hO, hF⟩, hFF, _⟩ := h1.upd 0 rfl
    have hr := (OwnL.rd hO hl (G := fun k => F k) fun k hk => by rw [hF]; exact hk)
    exact (rd_of hr).mono fun k _ hk => by
      have := (hFF k hk).resolve_left id
      simp at this
      omega
  clear h1 HA
  go_wp2
  go_ret
  exact ⟨_, rfl, HS.out⟩
end
end Go.Proofs.Ythdipkdolgcmgaa.TkA
