/-
  What the laws of layer 3 ask of package heap, as one structure (a heap as the list of its entries, in order), and contracts of the law's own helpers over it. Conditions: those that each statement names.
-/
import Derived.Test.YtilfjhpellmfoaaRefHeap
namespace Go.Proofs.Ytilfjhpellmfoaa.HeapI
open Go.ChangeShapes Go.WideShapes Go.ChangeAt Go.RowKit Mem RefHeap

structure Heap where
  A : World → Value → (Nat → Prop) → List Ent → Int → Prop
  ptr : ∀ {w v F L N}, A w v F L N → ∃ a, v = .pointer (some a)
  keep : ∀ {w w' v F L N}, A w v F L N → w.heap.size ≤ w'.heap.size → (∀ k, k < w.heap.size → F k → w'.heap[k]? = w.heap[k]?) → A w' v F L N
  lt : ∀ {w v F L N}, A w v F L N → ∀ k, F k → k < w.heap.size
  ok : ∀ {w v F L N}, A w v F L N → Ok L N
  new_no : ∀ (n : Int) (w : World), In64 n → (n < 1 ∨ 1000 < n) → Calls Try.prog 8 #[.int .i64 n] w fun e w' => e = .returned (.tuple #[.pointer none, .int .i64 1]) ∧ Below w.heap.size w w'
  new_yes : ∀ (n : Int) (w : World), 1 ≤ n → n ≤ 1000 → Calls Try.prog 8 #[.int .i64 n] w fun e w' => ∃ v F, e = .returned (.tuple #[v, .int .i64 0]) ∧ A w' v F [] n ∧ Below w.heap.size w w' ∧ ∀ k, F k → w.heap.size ≤ k
  put : ∀ {w v F L N}, A w v F L N → ∀ x, EntIn x → Calls Try.prog 27 #[v, x.val] w fun e w' => e = .returned (.int .i64 (putHE L N x)) ∧ After A w w' v F (putH L N x) N
  drop : ∀ {w v F L N}, A w v F L N → ∀ id, In64 id → Calls Try.prog 30 #[v, .int .i64 id] w fun e w' => e = .returned (.bool (getB L id)) ∧ After A w w' v F (dropH L id) N
  move : ∀ {w v F L N}, A w v F L N → ∀ id t, In64 id → In64 t → Calls Try.prog 29 #[v, .int .i64 id, .int .i64 t] w fun e w' => e = .returned (.bool (getB L id)) ∧ After A w w' v F (moveH L N id t) N
  take : ∀ {w v F L N}, A w v F L N → ∀ t, In64 t → Calls Try.prog 28 #[v, .int .i64 t] w fun e w' => e = .returned (.tuple #[(takeE L t).val, .bool (takeB L t)]) ∧ After A w w' v F (takeH L t) N
  get : ∀ {w v F L N}, A w v F L N → ∀ id, In64 id → Calls Try.prog 24 #[v, .int .i64 id] w fun e w' => e = .returned (.tuple #[(getE L id).val, .bool (getB L id)]) ∧ Below w.heap.size w w'
  first : ∀ {w v F L N}, A w v F L N → Calls Try.prog 15 #[v] w fun e w' => e = .returned (.tuple #[(firstE L).val, .bool (!L.isEmpty)]) ∧ Below w.heap.size w w'
  len : ∀ {w v F L N}, A w v F L N → Calls Try.prog 17 #[v] w fun e w' => e = .returned (.int .i64 L.length) ∧ ∃ m, w' = w.drewN m
  all : ∀ {w v F L N}, A w v F L N → Calls Try.prog 20 #[v] w fun e w' => ∃ u, e = .returned u ∧ RdL entE w' (fun k => ¬ F k) u L ∧ Below w.heap.size w w'
  rows : ∀ {w v F L N}, A w v F L N → Calls Try.prog 22 #[v] w fun e w' => ∃ u R, e = .returned u ∧ RdL entE w' (fun k => ¬ F k) u R ∧ R.Perm L ∧ Held4 R ∧ Below w.heap.size w w'
  ahead : ∀ (a b : Ent) (w : World), EntIn a → EntIn b → Calls Try.prog 25 #[a.val, b.val] w fun e w' => e = .returned (.bool (RefHeap.ahead a b)) ∧ Below w.heap.size w w'

/-- own(l): the same entries, in new memory. -/
theorem own_any {w : World} {G : Nat → Prop} {u : Value} {L : List Ent} (h : RdL entE w G u L) (hlen : L.length ≤ 100000) :
    Calls Try.prog 19 #[u] w fun e w' => ∃ v, e = .returned v ∧ RdL entE w' (fun k => w.heap.size ≤ k) v L ∧ Below w.heap.size w w' := by
  obtain ⟨A, c, rfl⟩ := h.form
  have HR := Lib.hid h
  clear h
  go_enter Try.func19, Try.ntmps19
  go_wp2
  go_loopw [3, 9] (fun u t wr => ∃ i : Nat, i ≤ L.length ∧ t = .int .i64 i ∧ Hid (OwnL entE wr w.heap.size 37 u (L.take i)) ∧ Hid (Below w.heap.size w wr)) (fun _ t _ => L.length - (intOf t).toNat)
  case atStart => exact ⟨0, Nat.zero_le _, rfl, OwnL.lit0 (E := entE) w _ _ (Nat.le_refl _), (Below.refl _ _).alloc (Nat.le_refl _) _⟩
  case round =>
    obtain ⟨i, hi, rfl, HO, HB⟩ := hrel
    have hbs : w.heap.size ≤ wr.heap.size := HB.out.size
    have hol : (L.take i).length ≤ i := List.length_take_le _ _
    obtain ⟨Ao, co, rfl⟩ := HO.out.form
    by_cases hlt : i < L.length
    · have hx : L[i]? = some L[i] := List.getElem?_eq_getElem hlt
      generalize L[i] = a at hx
      obtain ⟨b, off, rfl, _, hb, c0, c1, c2⟩ := ent_cells HR.out hx
      have q0 := (HB.out.cell (p := ⟨b, off + i * 3, none⟩) hb).trans c0
      have q1 := (HB.out.cell (p := ⟨b, off + i * 3 + 1, none⟩) hb).trans c1
      have q2 := (HB.out.cell (p := ⟨b, off + i * 3 + 2, none⟩) hb).trans c2
      have HT : Hid (L.take (i + 1) = L.take i ++ [a]) := take_snocE L i a hx
      clear hx c0 c1 c2
      have HO1 : Hid (OwnL entE (wr.alloc (.cells #[.int .i64 a.id, .int .i64 a.at_, .int .i64 a.seq] 32)) w.heap.size 37 (.slice Ao (L.take i).length co) (L.take i)) := HO.out.alloc _
      have HB1 : Hid (Below w.heap.size w (wr.alloc (.cells #[.int .i64 a.id, .int .i64 a.at_, .int .i64 a.seq] 32))) := HB.out.alloc hbs _
      have HOf : Hid (∀ g, (Value.slice Ao (L.take i).length co).ownBlock = some g → w.heap.size ≤ g) := fun g hg => (HO.out.lt g hg).1
      have HRx : Hid (RdL entE ((wr.alloc (.cells #[.int .i64 a.id, .int .i64 a.at_, .int .i64 a.seq] 32)).alloc (.cells #[.int .i64 a.id, .int .i64 a.at_, .int .i64 a.seq] 37)) (fun _ => True) (.slice (some ⟨wr.heap.size + 1, 0, none⟩) 1 1) [a]) := by
        have hl := RdL.lit1 (E := entE) (wr.alloc (.cells #[.int .i64 a.id, .int .i64 a.at_, .int .i64 a.seq] 32)) 37 a (cs := #[.int .i64 a.id, .int .i64 a.at_, .int .i64 a.seq]) rfl (fun _ => True) trivial
        have es : (wr.alloc (.cells #[.int .i64 a.id, .int .i64 a.at_, .int .i64 a.seq] 32)).heap.size = wr.heap.size + 1 := by simp
        rw [es] at hl
        exact hl
      generalize hg : L.take i = lt at *
      have HGt := Lib.hid hg
      clear hg
      go_wp2_with (at_builtin; refine wpList_appL rfl _ _ entElem rfl rfl rfl (HO1.out.alloc _) HRx.out (by simp; omega) (by simp; omega) ?_)
      intro v' w1 hown1 hgrow hat
      have hb1 : Below w.heap.size w w1 := Below.grown (HB1.out.alloc HB1.out.size _) hgrow (by simp; omega) (fun g hg' => HOf.out g hg')
      have HO2 := Lib.hid hown1
      have HB2 := Lib.hid hb1
      clear hown1 hb1 hgrow hat
      go_wp2
      go_roundw
      case rel => exact ⟨i + 1, by omega, by go_num, by show OwnL _ _ _ _ _ _; rw [HT.out]; exact HO2.out, HB2⟩
      case measure => simp [intOf]; omega
    · have HS : Hid (L.take i = L) := List.take_of_length_le (by omega)
      go_wp2
      go_ret
      have hO := HO.out
      rw [HS.out] at hO ⊢
      exact ⟨_, rfl, hO.rd (by omega) fun g hg => (hO.lt g hg).1, HB.out⟩

/-- rows(l): true, where none is ahead of the one over it. -/
theorem rows_any {w : World} {G : Nat → Prop} {u : Value} {R : List Ent} (h : RdL entE w G u R) (h4 : Held4 R) :
    Calls Try.prog 21 #[u] w fun e w' => e = .returned (.bool true) ∧ Below w.heap.size w w' := by
  obtain ⟨A, c, rfl⟩ := h.form
  have hlen := h.le
  have HR := Lib.hid h
  have H4 := Lib.hid h4
  clear h h4
  go_enter Try.func21, Try.ntmps21
  go_wp2
  go_loopw [3] (fun t wr => ∃ j : Nat, 1 ≤ j ∧ j ≤ R.length + 1 ∧ t = .int .i64 j ∧ Hid (Below w.heap.size w wr)) (fun t _ => R.length + 1 - (intOf t).toNat)
  case atStart => exact ⟨1, by omega, by omega, rfl, Below.refl _ _⟩
  case round =>
    obtain ⟨j, hj, hi, rfl, HB⟩ := hrel
    have hbs : w.heap.size ≤ wr.heap.size := HB.out.size
    by_cases hlt : j < R.length
    · obtain ⟨m, hmm⟩ : ∃ m : Nat, m = (j - 1) / 4 := ⟨_, rfl⟩
      have hml : m < R.length := by omega
      obtain ⟨q, hq⟩ : ∃ q : Int, q = (j : Int) - 1 := ⟨_, rfl⟩
      have w1 : IntKind.i64.wrap ((j : Int) - 1) = q := by rw [hq]; exact IntWalk.i64_in _ (by omega)
      have w2 : q.tdiv 4 = (m : Int) := by rw [hq, Int.tdiv_eq_ediv_of_nonneg (by omega)]; omega
      have w3 : IntKind.i64.wrap (m : Int) = (m : Int) := IntWalk.i64_in _ (by omega)
      have hx : R[j]? = some R[j] := List.getElem?_eq_getElem hlt
      have hy : R[m]? = some (R[m]'hml) := List.getElem?_eq_getElem _
      generalize R[j] = a at hx
      generalize R[m]'hml = o at hy
      have HA : Hid (RefHeap.ahead a o = false) := H4.out j a o hj hx (by rw [← hmm]; exact hy)
      obtain ⟨b, off, rfl, _, hb, c0, c1, c2⟩ := ent_cells HR.out hx
      obtain ⟨b', off', he, _, hb', d0, d1, d2⟩ := ent_cells HR.out hy
      injection he with he
      injection he with he1 he2
      subst he1 he2
      have q0 := (HB.out.cell (p := ⟨b, off + j * 3, none⟩) hb).trans c0
      have q1 := (HB.out.cell (p := ⟨b, off + j * 3 + 1, none⟩) hb).trans c1
      have q2 := (HB.out.cell (p := ⟨b, off + j * 3 + 2, none⟩) hb).trans c2
      have z0 := (HB.out.cell (p := ⟨b, off + m * 3, none⟩) hb).trans d0
      have z1 := (HB.out.cell (p := ⟨b, off + m * 3 + 1, none⟩) hb).trans d1
      have z2 := (HB.out.cell (p := ⟨b, off + m * 3 + 2, none⟩) hb).trans d2
      have hbr : b < wr.heap.size := by omega
      have ii0 : (0 : Int) ≤ (j : Int) := by omega
      have ii1 : (j : Int) < (R.length : Int) := by omega
      have ii2 : (m : Int) < (R.length : Int) := by omega
      have ii3 : (0 : Int) ≤ (m : Int) := by omega
      clear hq hmm hx hy c0 c1 c2 d0 d1 d2
      go_wp2
      go_region_held3 (fun W => W.cell? ⟨b, off + j * 3, none⟩ = some (.int .i64 a.id) ∧ W.cell? ⟨b, off + j * 3 + 1, none⟩ = some (.int .i64 a.at_) ∧ W.cell? ⟨b, off + j * 3 + 2, none⟩ = some (.int .i64 a.seq) ∧ W.cell? ⟨b, off + m * 3, none⟩ = some (.int .i64 o.id) ∧ W.cell? ⟨b, off + m * 3 + 1, none⟩ = some (.int .i64 o.at_) ∧ W.cell? ⟨b, off + m * 3 + 2, none⟩ = some (.int .i64 o.seq)) (go_keep)
        ((go_at_call 26; refine (ahead_agg _ _ _ _ _ _ _).mono ?_; rintro e w5 ⟨rfl, hb5⟩; rw [HA.out]; have s0 := (hb5.cell (p := ⟨b, off + j * 3, none⟩) hbr).trans q0; have s1 := (hb5.cell (p := ⟨b, off + j * 3 + 1, none⟩) hbr).trans q1; have s2 := (hb5.cell (p := ⟨b, off + j * 3 + 2, none⟩) hbr).trans q2; have s3 := (hb5.cell (p := ⟨b, off + m * 3, none⟩) hbr).trans z0; have s4 := (hb5.cell (p := ⟨b, off + m * 3 + 1, none⟩) hbr).trans z1; have s5 := (hb5.cell (p := ⟨b, off + m * 3 + 2, none⟩) hbr).trans z2))
      have HB5 : Hid (Below w.heap.size w w5) := HB.out.drew.trans (hb5.mono (by simpa using hbs))
      go_wp2
      go_roundw
      case rel => exact ⟨j + 1, by omega, by omega, by go_num, HB5⟩
      case measure => simp [intOf]; omega
    · go_wp2
      go_ret
      exact ⟨rfl, HB.out⟩
end Go.Proofs.Ytilfjhpellmfoaa.HeapI
