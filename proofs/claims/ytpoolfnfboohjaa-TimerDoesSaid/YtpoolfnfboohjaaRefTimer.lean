/-
  Contracts of the functions of package countermandref04 (the document's answer for layer 4): a clock of the reference. Condition: the pointer's blocks are as 'RC' says.
-/
import Derived.Test.YtpoolfnfboohjaaRows
import Derived.Test.YtpoolfnfboohjaaEnt
import Derived.Deep.QuietTactic
import Derived.BigQuiet
import Derived.Deep.RegionHeld3
import Derived.Laws.StructEq
namespace Go.Proofs.Ytpoolfnfboohjaa.RefTimer
open Go.ChangeShapes Go.WideShapes Go.ChangeAt Go.RowKit Mem RefHeap

/-- The reference's clock behind the pointer to block p: its time, how many alarms were set, its alarms, how many keys. -/
def RC (w : World) (G : Nat → Prop) (p : Nat) (T C : Int) (L : List Ent) (M : Int) : Prop :=
  ∃ v, w.heap[p]? = some (.cells #[.int .i64 T, .int .i64 C, v, .int .i64 M] 45 (0, 0)) ∧ G p ∧ 0 ≤ M ∧ M ≤ 1000 ∧ RdL entE w (fun b => G b ∧ b ≠ p) v L

section
variable {w w' : World} {G G' : Nat → Prop} {p : Nat} {T C : Int} {L L' : List Ent} {M : Int}
theorem RC.keep (h : RC w G p T C L M) (hs : w.heap.size ≤ w'.heap.size) (hk : ∀ k, k < w.heap.size → G k → w'.heap[k]? = w.heap[k]?) : RC w' G p T C L M := by
  obtain ⟨v, hp, gp, h0, h1, hr⟩ := h
  exact ⟨v, (hk p (lt_of_block hp) gp).trans hp, gp, h0, h1, hr.keep hs fun k hb hg => hk k hb hg.1⟩
theorem RC.mono (h : RC w G p T C L M) (hG : ∀ k, k < w.heap.size → G k → G' k) : RC w G' p T C L M := by
  obtain ⟨v, hp, gp, h0, h1, hr⟩ := h
  exact ⟨v, hp, hG p (lt_of_block hp) gp, h0, h1, hr.mono fun k hb hg => ⟨hG k hb hg.1, hg.2⟩⟩
theorem RC.below (h : RC w G p T C L M) (hb : Below w.heap.size w w') : RC w' G p T C L M := h.keep hb.size fun k hk _ => hb.block k hk
theorem RC.lt (h : RC w G p T C L M) : p < w.heap.size := by obtain ⟨v, hp, _⟩ := h; exact lt_of_block hp
theorem RC.head (h : RC w G p T C L M) :
    ∃ A c, w.cell? ⟨p, 2, none⟩ = some (.slice A L.length c) ∧ w.cell? ⟨p, 3, none⟩ = some (.int .i64 M) ∧ w.frozen? ⟨p, 2, none⟩ = false ∧ L.length ≤ 1000000 ∧ RdL entE w (fun b => G b ∧ b ≠ p) (.slice A L.length c) L ∧
      w.cell? ⟨p, 0, none⟩ = some (.int .i64 T) ∧ w.cell? ⟨p, 1, none⟩ = some (.int .i64 C) ∧ w.frozen? ⟨p, 0, none⟩ = false ∧ w.frozen? ⟨p, 1, none⟩ = false := by
  obtain ⟨v, hp, gp, h0, h1, hr⟩ := h
  obtain ⟨A, c, rfl⟩ := hr.form
  exact ⟨A, c, (cell_block hp 2).trans rfl, (cell_block hp 3).trans rfl, frozen_block hp 2, hr.le, hr, (cell_block hp 0).trans rfl, (cell_block hp 1).trans rfl, frozen_block hp 0, frozen_block hp 1⟩
theorem RC.set (h : RC w G p T C L M) {v : Value} (hv : RdL entE w (fun b => G b ∧ b ≠ p) v L') : RC (w.setCell ⟨p, 2, none⟩ v) G p T C L' M := by
  obtain ⟨u, hp, gp, h0, h1, _⟩ := h
  refine ⟨v, ?_, gp, h0, h1, hv.keep (by simp [World.setCell]) fun k _ hk => Below.heap_setCell w _ _ k hk.2⟩
  simp [World.setCell, Array.getElem?_modify, hp]
theorem RC.setT (h : RC w G p T C L M) (t : Int) : RC (w.setCell ⟨p, 0, none⟩ (.int .i64 t)) G p t C L M := by
  obtain ⟨u, hp, gp, h0, h1, hr⟩ := h
  refine ⟨u, ?_, gp, h0, h1, hr.keep (by simp [World.setCell]) fun k _ hk => Below.heap_setCell w _ _ k hk.2⟩
  simp [World.setCell, Array.getElem?_modify, hp]
theorem RC.setC (h : RC w G p T C L M) (t : Int) : RC (w.setCell ⟨p, 1, none⟩ (.int .i64 t)) G p T t L M := by
  obtain ⟨u, hp, gp, h0, h1, hr⟩ := h
  refine ⟨u, ?_, gp, h0, h1, hr.keep (by simp [World.setCell]) fun k _ hk => Below.heap_setCell w _ _ k hk.2⟩
  simp [World.setCell, Array.getElem?_modify, hp]
end

theorem get_any {w : World} {G : Nat → Prop} {p : Nat} {T C : Int} {L : List Ent} {M : Int} (h : RC w G p T C L M) (id : Int) :
    Calls Try.prog 22 #[.pointer (some ⟨p, 0, none⟩), .int .i64 id] w fun e w' => e = .returned (.tuple #[(getE L id).val, .bool (getB L id)]) ∧ Below w.heap.size w w' := by
  have hpb := h.lt
  have H0 := h.below (new_below0 w (.cells #[.int .i64 0, .int .i64 0, .int .i64 0] 51))
  obtain ⟨A, c, h0, h1, _, hm, hr, _⟩ := H0.head
  have HR := Lib.hid hr
  clear hr H0 h
  go_enter Try.func22, Try.ntmps22
  go_wp2
  go_loop [6] (fun t => ∃ i : Nat, i ≤ L.length ∧ t = .int .i64 i ∧ Hid (∀ j b, j < i → L[j]? = some b → b.id ≠ id)) (fun t => L.length - (intOf t).toNat)
  case atStart => exact ⟨0, Nat.zero_le _, rfl, fun j b hj => absurd hj (by omega)⟩
  case round =>
    obtain ⟨i, hi, rfl, hno⟩ := hrel
    by_cases hlt : i < L.length
    · have hx : L[i]? = some L[i] := List.getElem?_eq_getElem hlt
      generalize L[i] = a at hx
      obtain ⟨b, off, rfl, _, hb, c0, c1, c2⟩ := ent_cells HR.out hx
      have HX := Lib.hid hx
      clear hx
      by_cases hid : a.id = id
      · have e1 : (a.id == id) = true := by simpa using hid
        have HF := Lib.hid (get_hit HX.out hid hno.out)
        clear hid
        go_wp2
        refine bodyPost_ret (v := .tuple #[a.val, .bool true]) (by simp [results, Try.results22, go_sem, Ent.val]) rfl ⟨?_, (Below.refl _ _).alloc (Nat.le_refl _) _⟩
        unfold getE getB
        rw [HF.out]
        rfl
      · have e1 : (a.id == id) = false := by simpa using hid
        have HI := Lib.hid hid
        clear hid
        go_wp2
        go_round
        case rel => exact ⟨i + 1, by omega, by go_num, fun j b hj hb => by
          rcases Nat.lt_or_ge j i with h | h
          · exact hno.out j b h hb
          · obtain rfl : j = i := by omega
            rw [HX.out] at hb
            injection hb with hb
            subst hb
            exact HI.out⟩
        case measure => simp [intOf]; omega
    · have HF := Lib.hid (get_miss (L := L) (id := id) fun j b hj hb => hno.out j b (by omega) hb)
      go_wp2
      refine bodyPost_ret (v := .tuple #[zeroEnt.val, .bool false]) (by simp [results, Try.results22, go_sem, Ent.val, zeroEnt]) rfl ⟨?_, (Below.refl _ _).alloc (Nat.le_refl _) _⟩
      unfold getE getB
      rw [HF.out]
      rfl


theorem entElem : Elem entE Try.prog 36 51 := elem_of (z := .agg #[.int .i64 0, .int .i64 0, .int .i64 0]) (bytes := 24) Try.underlying36 (by kernel_rfl) rfl (by omega)


set_option maxHeartbeats 1000000 in
theorem stop_any {w : World} {G : Nat → Prop} {p : Nat} {T C : Int} {L : List Ent} {M : Int} (h : RC w G p T C L M) (hG : ∀ b, w.heap.size ≤ b → G b) (id : Int) :
    Calls Try.prog 13 #[.pointer (some ⟨p, 0, none⟩), .int .i64 id] w fun e w' => e = .returned (.bool (decide ((dropH L id).length < L.length))) ∧ RC w' G p T C (dropH L id) M ∧ Only (fun b => b = p) w w' := by
  have hpb := h.lt
  obtain ⟨A, c, h0, h1, hfz, hm, hr, _⟩ := h.head
  have HR := Lib.hid hr
  have H := Lib.hid h
  have HG := Lib.hid hG
  clear hr h hG
  go_enter Try.func13, Try.ntmps13
  go_wp2
  go_loopw [5, 6] (fun u t wr => ∃ i : Nat, i ≤ L.length ∧ t = .int .i64 i ∧ OwnL entE wr w.heap.size 51 u (dropH (L.take i) id) ∧ Below w.heap.size w wr) (fun _ t _ => L.length - (intOf t).toNat)
  case atStart => exact ⟨0, Nat.zero_le _, rfl, OwnL.lit0 (E := entE) w _ _ (Nat.le_refl _), (Below.refl _ _).alloc (Nat.le_refl _) _⟩
  case round =>
    obtain ⟨i, hi, rfl, hown, hbel⟩ := hrel
    have k0 := (hbel.cell (p := ⟨p, 2, none⟩) hpb).trans h0
    have HO := Lib.hid hown
    have HB := Lib.hid hbel
    have hfl : (dropH (L.take i) id).length ≤ i := Nat.le_trans (List.length_filter_le _ _) (List.length_take_le _ _)
    have hbs : w.heap.size ≤ wr.heap.size := hbel.size
    obtain ⟨Ao, co, rfl⟩ := hown.form
    clear hown hbel
    by_cases hlt : i < L.length
    · have hx : L[i]? = some L[i] := List.getElem?_eq_getElem hlt
      generalize L[i] = a at hx
      obtain ⟨b, off, rfl, _, hb, c0, c1, c2⟩ := ent_cells HR.out hx
      have q0 := (HB.out.cell (p := ⟨b, off + i * 3, none⟩) hb).trans c0
      have q1 := (HB.out.cell (p := ⟨b, off + i * 3 + 1, none⟩) hb).trans c1
      have q2 := (HB.out.cell (p := ⟨b, off + i * 3 + 2, none⟩) hb).trans c2
      have HS : Hid (dropH (L.take (i + 1)) id = dropH (L.take i) id ++ (if a.id = id then [] else [a])) := by
        show _ = _
        unfold dropH
        rw [take_snocE L i a hx, List.filter_append]
        by_cases hid : a.id = id <;> simp [hid]
      clear hx c0 c1 c2
      by_cases hid : a.id = id
      · have e1 : (a.id != id) = false := by simpa using hid
        have HS2 : Hid (dropH (L.take (i + 1)) id = dropH (L.take i) id) := by have := HS.out; rw [if_pos hid, List.append_nil] at this; exact this
        clear hid
        go_wp2
        go_roundw
        case rel => exact ⟨i + 1, by omega, by go_num, by rw [HS2.out]; exact HO.out, HB.out⟩
        case measure => simp [intOf]; omega
      · have e1 : (a.id != id) = true := by simpa using hid
        have HS2 : Hid (dropH (L.take (i + 1)) id = dropH (L.take i) id ++ [a]) := by have := HS.out; rw [if_neg hid] at this; exact this
        clear hid
        go_wp2_with (at_builtin; refine wpList_appL rfl _ _ entElem rfl rfl rfl (HO.out.alloc _) (RdL.lit1 (E := entE) wr _ a rfl (fun _ => True) trivial) (by simp; omega) (by simp; omega) ?_)
        intro v' w1 hown1 hgrow hat
        have hb1 : Below w.heap.size w w1 := Below.grown (HB.out.alloc hbs _) hgrow (by simp; omega) (fun g hg' => (HO.out.lt g hg').1)
        have HO1 := Lib.hid hown1
        have HB1 := Lib.hid hb1
        clear hown1 hb1 hgrow hat
        go_wp2
        go_roundw
        case rel => exact ⟨i + 1, by omega, by go_num, by rw [HS2.out]; exact HO1.out, HB1.out⟩
        case measure => simp [intOf]; omega
    · have HS : Hid (L.take i = L) := List.take_of_length_le (by omega)
      have fq := (HB.out.frozen (p := ⟨p, 2, none⟩) hpb).trans hfz
      go_wp2
      go_ret
      have hO := HO.out
      rw [HS.out] at hO ⊢
      refine ⟨ret_bool (by first | rfl | simp), ?_, Only.setCell (F := fun b => b = p) (a := ⟨p, 2, none⟩) (Only.of_below HB.out) (.inl rfl) _⟩
      refine RC.set (H.out.below HB.out) (hO.rd (Nat.le_trans (List.length_filter_le _ _) hm) fun g hg => ?_)
      have := (hO.lt g hg).1
      exact ⟨HG.out g this, by omega⟩


theorem entHeld : Try.prog.stoodInHeld 51 = false := by kernel_rfl
theorem entGuard : Try.prog.eqGuardType Try.prog.depth 51 = false := by kernel_rfl
theorem run_neq_ent (W : World) (xi xa xz yi ya yz : Int) :
    (binOp .neq 51 (.agg #[.int .i64 xi, .int .i64 xa, .int .i64 xz]) (.agg #[.int .i64 yi, .int .i64 ya, .int .i64 yz])).run Try.prog W = .ok (.bool (!decide ((⟨xi, xa, xz⟩ : Ent) = ⟨yi, ya, yz⟩))) W := by
  have hut : Try.prog.underlying 51 = some (.struct (Try.prog.fieldsOf 51)) := by simp only [Program.fieldsOf, Try.underlying51]
  rw [run_neq_struct, run_equalIn_agg _ 9999 _ _ _ hut entHeld]
  simp only [Program.fieldsOf, Try.underlying51]
  have h2 := Try.underlying2
  have h3 := Try.underlying3
  simp [go_sem, h2, h3]
  by_cases e1 : xi = yi <;> by_cases e2 : xa = ya <;> by_cases e3 : xz = yz <;> simp [e1, e2, e3]


theorem same_any {w : World} {G G' : Nat → Prop} {va vb : Value} {xs ys : List Ent} (ha : RdL entE w G va xs) (hb : RdL entE w G' vb ys) :
    Calls Try.prog 15 #[va, vb] w fun e w' => e = .returned (.bool (decide (xs = ys))) ∧ ∃ n, w' = w.drewN n := by
  have hma := ha.le
  obtain ⟨A, ca, rfl⟩ := ha.form
  obtain ⟨B, cb, rfl⟩ := hb.form
  by_cases hlen : xs.length = ys.length
  · have HA := Lib.hid ha
    have HB := Lib.hid hb
    clear ha hb
    obtain ⟨m, hm⟩ : ∃ m, xs.length = m := ⟨_, rfl⟩
    have hm2 : ys.length = m := by omega
    have HM := Lib.hid hm
    have HM2 := Lib.hid hm2
    rw [hm] at hma HA ⊢
    rw [hm2] at HB ⊢
    clear hm hm2 hlen
    go_enter Try.func15, Try.ntmps15
    go_wp2
    go_loopw [5] (fun t W => ∃ k n : Nat, k ≤ m ∧ t = .int .i64 k ∧ Hid (xs.take k = ys.take k) ∧ W = w.drewN n) (fun t _ => m - (intOf t).toNat)
    case atStart => exact ⟨0, 0, Nat.zero_le _, rfl, rfl, rfl⟩
    case round =>
      obtain ⟨k, n, hk, rfl, heq, rfl⟩ := hrel
      by_cases hlt : k < m
      · have hx : xs[k]? = some (xs[k]'(by have := HM.out; omega)) := List.getElem?_eq_getElem _
        have hy : ys[k]? = some (ys[k]'(by have := HM2.out; omega)) := List.getElem?_eq_getElem _
        generalize xs[k]'_ = x at hx
        generalize ys[k]'_ = y at hy
        obtain ⟨b, off, rfl, _, _, c0, c1, c2⟩ := ent_cells HA.out hx
        obtain ⟨b', off', rfl, _, _, d0, d1, d2⟩ := ent_cells HB.out hy
        have HX := Lib.hid hx
        have HY := Lib.hid hy
        clear hx hy
        obtain ⟨xi, xa, xz⟩ := x
        obtain ⟨yi, ya, yz⟩ := y
        simp only at c0 c1 c2 d0 d1 d2
        have ii0 : (0 : Int) ≤ (k : Int) := by omega
        have ii1 : (k : Int) < (m : Int) := by omega
        have hgu := entGuard
        by_cases hxy : (⟨xi, xa, xz⟩ : Ent) = ⟨yi, ya, yz⟩
        · have hneq := fun W => run_neq_ent W xi xa xz yi ya yz
          rw [decide_eq_true hxy] at hneq
          have HE : Hid (xs.take (k + 1) = ys.take (k + 1)) := by
            show _ = _
            rw [take_snocE xs k _ HX.out, take_snocE ys k _ HY.out, heq.out, hxy]
          clear hxy
          go_wp2
          go_quiet (fail)
          go_wp2
          go_roundw
          case rel => exact ⟨k + 1, _, by omega, by go_num, HE, rfl⟩
          case measure => simp [intOf]; omega
        · have hneq := fun W => run_neq_ent W xi xa xz yi ya yz
          rw [decide_eq_false hxy] at hneq
          have HE : Hid (xs ≠ ys) := by
            show ¬ _
            rintro rfl
            rw [HX.out] at HY
            exact hxy (Option.some.inj HY.out)
          clear hxy
          go_wp2
          go_quiet (fail)
          go_wp2
          go_ret
          exact ⟨ret_bool (by symm; exact decide_eq_false HE.out), _, World.drewN_drewN _ _ _⟩
      · go_wp2
        go_ret
        exact ⟨ret_bool (by symm; apply decide_eq_true; have := heq.out; rwa [List.take_of_length_le (by rw [HM.out]; omega), List.take_of_length_le (by rw [HM2.out]; omega)] at this), _, rfl⟩
  · have hne : ((xs.length : Int) != (ys.length : Int)) = true := by rw [bne_iff_ne]; omega
    clear ha hb
    go_enter Try.func15, Try.ntmps15
    go_wp2
    go_ret
    exact ⟨ret_bool (by symm; apply decide_eq_false; intro e; exact hlen (by rw [e])), 0, rfl⟩

/-- A time so much later, of two that never go round. -/
def addT (a b : Int) : Int := if 0 < b ∧ 9223372036854775807 - b < a then 9223372036854775807 else if b < 0 ∧ a < -9223372036854775808 - b then -9223372036854775808 else a + b
def laterT (T d : Int) : Int := if d < 0 then T else addT T d
def In64 (a : Int) : Prop := -9223372036854775808 ≤ a ∧ a ≤ 9223372036854775807
theorem addT_in {a b : Int} (ha : In64 a) (hb : In64 b) : In64 (addT a b) := by
  unfold addT In64 at *
  split
  · omega
  · split <;> omega
theorem laterT_in {T d : Int} (ha : In64 T) (hb : In64 d) : In64 (laterT T d) := by
  unfold laterT
  split
  · exact ha
  · exact addT_in ha hb
theorem add_any (a b : Int) (w : World) (ha : In64 a) (hb : In64 b) :
    Calls Try.prog 30 #[.int .i64 a, .int .i64 b] w fun e w' => e = .returned (.int .i64 (addT a b)) ∧ w = w' := by
  obtain ⟨a0, a1⟩ := ha
  obtain ⟨b0, b1⟩ := hb
  rcases (by omega : (0 < b ∧ 9223372036854775807 - b < a) ∨ (0 < b ∧ a ≤ 9223372036854775807 - b) ∨ b = 0 ∨ (b < 0 ∧ a < -9223372036854775808 - b) ∨ (b < 0 ∧ -9223372036854775808 - b ≤ a)) with ⟨h1, h2⟩ | ⟨h1, h2⟩ | rfl | ⟨h1, h2⟩ | ⟨h1, h2⟩
  · have hE : Hid (addT a b = 9223372036854775807) := by show _ = _; unfold addT; rw [if_pos ⟨h1, h2⟩]
    go_enter Try.func30, Try.ntmps30
    go_wp2
    go_ret
    exact ⟨ret_int hE.out.symm, rfl⟩
  · have hE : Hid (addT a b = a + b) := by show _ = _; unfold addT; rw [if_neg (by omega), if_neg (by omega)]
    go_enter Try.func30, Try.ntmps30
    go_wp2
    go_ret
    exact ⟨ret_int hE.out.symm, rfl⟩
  · have hE : Hid (addT a 0 = a) := by show _ = _; unfold addT; rw [if_neg (by omega), if_neg (by omega)]; omega
    go_enter Try.func30, Try.ntmps30
    go_wp2
    go_ret
    exact ⟨ret_int (by rw [hE.out]; try omega), rfl⟩
  · have hE : Hid (addT a b = -9223372036854775808) := by show _ = _; unfold addT; rw [if_neg (by omega), if_pos ⟨h1, h2⟩]
    go_enter Try.func30, Try.ntmps30
    go_wp2
    go_ret
    exact ⟨ret_int hE.out.symm, rfl⟩
  · have hE : Hid (addT a b = a + b) := by show _ = _; unfold addT; rw [if_neg (by omega), if_neg (by omega)]
    go_enter Try.func30, Try.ntmps30
    go_wp2
    go_ret
    exact ⟨ret_int hE.out.symm, rfl⟩
theorem later_any {w : World} {G : Nat → Prop} {p : Nat} {T C : Int} {L : List Ent} {M : Int} (h : RC w G p T C L M) (d : Int) (hT : In64 T) (hd : In64 d) :
    Calls Try.prog 11 #[.pointer (some ⟨p, 0, none⟩), .int .i64 d] w fun e w' => e = .returned (.int .i64 (laterT T d)) ∧ w = w' := by
  obtain ⟨A, c, _, _, _, _, _, c0, _⟩ := h.head
  have HT := Lib.hid hT
  have HD := Lib.hid hd
  clear h hT hd
  by_cases hn : d < 0
  · have hE : Hid (laterT T d = T) := by show _ = _; unfold laterT; rw [if_pos hn]
    go_enter Try.func11, Try.ntmps11
    go_wp2
    go_ret
    exact ⟨ret_int hE.out.symm, rfl⟩
  · have hE : Hid (laterT T d = addT T d) := by show _ = _; unfold laterT; rw [if_neg hn]
    go_enter Try.func11, Try.ntmps11
    go_wp2_with fail
    refine (add_any T d _ HT.out HD.out).mono ?_
    rintro e w1 ⟨rfl, rfl⟩
    go_wp2
    go_ret
    exact ⟨ret_int hE.out.symm, rfl⟩
def nextT (L : List Ent) : Int := match L with | [] => 9223372036854775807 | a :: _ => a.at_
theorem next_any {w : World} {G : Nat → Prop} {p : Nat} {T C : Int} {L : List Ent} {M : Int} (h : RC w G p T C L M) :
    Calls Try.prog 19 #[.pointer (some ⟨p, 0, none⟩)] w fun e w' => e = .returned (.int .i64 (nextT L)) ∧ w = w' := by
  obtain ⟨A, c, h0, h1, _, hm, hr, _⟩ := h.head
  clear h
  cases L with
  | nil =>
    go_enter Try.func19, Try.ntmps19
    go_wp2
    go_ret
    exact ⟨rfl, rfl⟩
  | cons a L =>
    obtain ⟨b, off, rfl, _, hb, c0, c1, c2⟩ := ent_cells hr (i := 0) (a := a) rfl
    simp only [Nat.zero_mul, Nat.add_zero] at c0 c1 c2
    clear hr
    have hN : Hid (nextT (a :: L) = a.at_) := rfl
    generalize hll : (a :: L).length = ll at *
    have hpos : 0 < ll := by rw [← hll]; simp
    have e1 : ((ll : Int) == 0) = false := by simp; omega
    clear hll
    go_enter Try.func19, Try.ntmps19
    go_wp2
    go_ret
    exact ⟨ret_int hN.out.symm, rfl⟩
theorem new_no (n : Int) (w : World) (h : n < 1 ∨ 1000 < n) :
    Calls Try.prog 8 #[.int .i64 n] w fun e w' => e = .returned (.tuple #[.pointer none, .int .i64 1]) ∧ w = w' := by
  rcases (by omega : n < 1 ∨ (1 ≤ n ∧ 1000 < n)) with h1 | ⟨h1, h2⟩
  all_goals
    clear h
    go_enter Try.func8, Try.ntmps8
    go_wp2
    go_ret2
    exact ⟨rfl, rfl⟩
theorem new_yes (n : Int) (w : World) (h1 : 1 ≤ n) (h2 : n ≤ 1000) :
    Calls Try.prog 8 #[.int .i64 n] w fun e w' => ∃ p, e = .returned (.tuple #[.pointer (some ⟨p, 0, none⟩), .int .i64 0]) ∧ RC w' (fun b => w.heap.size ≤ b) p 0 0 [] n ∧ Below w.heap.size w w' := by
  go_enter Try.func8, Try.ntmps8
  go_wp2
  go_ret2
  exact ⟨w.heap.size, rfl, ⟨.slice none 0 0, heap_alloc_new w _, Nat.le_refl _, by omega, by omega, RdL.nil _ _ _ _⟩, (Below.refl _ _).alloc (Nat.le_refl _) _⟩
end Go.Proofs.Ytpoolfnfboohjaa.RefTimer
