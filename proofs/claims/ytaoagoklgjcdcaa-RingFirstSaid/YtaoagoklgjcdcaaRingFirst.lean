/-
  The walk of the law RingFirst over any package that meets 'Ring': it returns true and leaves old memory as it was. Conditions: none but 'Ring', and that the slices read as ints and bools.
-/
import Derived.Test.YtaoagoklgjcdcaaRingM
namespace Go.Proofs.Ytaoagoklgjcdcaa.RingI
open Go.ChangeShapes Go.WideShapes Go.ChangeAt Go.RowKit Mem RefRing

/-- An arena of the call's own, and two rows that the call itself makes, all apart. -/
def Trio (I : Ring) (w wk : World) (v : Value) (L : List (List Int)) (N : Int) (e : TypeId) (u1 : Value) (l1 : List Int) (u2 : Value) (l2 : List Int) : Prop :=
  ∃ F, I.A wk v F L N ∧ Below w.heap.size w wk ∧ (∀ k, F k → w.heap.size ≤ k) ∧ (Own wk w.heap.size e u1 l1 ∧ ∀ g, u1.ownBlock = some g → ¬ F g) ∧ (Own wk w.heap.size e u2 l2 ∧ ∀ g, u2.ownBlock = some g → ¬ F g) ∧ ∀ g, u1.ownBlock = some g → u2.ownBlock ≠ some g

theorem Own.of_blocks {w w' : World} {base : Nat} {e : TypeId} {v : Value} {xs : List Int} (h : Own w base e v xs) (hk : ∀ g, v.ownBlock = some g → g < w.heap.size → w'.heap[g]? = w.heap[g]?) : Own w' base e v xs := by
  refine ⟨h.1, ?_⟩
  rcases h.2 with h0 | ⟨g, cap, cur, rfl, hb, hg, rest⟩
  · exact .inl h0
  · exact .inr ⟨g, cap, cur, rfl, hb, (hk g rfl (lt_of_block hg)).trans hg, rest⟩

section
variable {I : Ring} {w wk wn : World} {v : Value} {L L' : List (List Int)} {N : Int} {e : TypeId} {u1 u2 : Value} {l1 l2 : List Int}
theorem Trio.old (h : Trio I w wk v L N e u1 l1 u2 l2) : Below w.heap.size w wk := by obtain ⟨F, _, ho, _⟩ := h; exact ho
theorem Trio.ok (h : Trio I w wk v L N e u1 l1 u2 l2) : Ok L N := by obtain ⟨F, ha, _⟩ := h; exact I.ok ha
theorem Trio.own1 (h : Trio I w wk v L N e u1 l1 u2 l2) : Own wk w.heap.size e u1 l1 := by obtain ⟨F, _, _, _, h1, _⟩ := h; exact h1.1
theorem Trio.own2 (h : Trio I w wk v L N e u1 l1 u2 l2) : Own wk w.heap.size e u2 l2 := by obtain ⟨F, _, _, _, _, h2, _⟩ := h; exact h2.1
theorem Trio.swap (h : Trio I w wk v L N e u1 l1 u2 l2) : Trio I w wk v L N e u2 l2 u1 l1 := by
  obtain ⟨F, ha, ho, hf, h1, h2, h12⟩ := h
  exact ⟨F, ha, ho, hf, h2, h1, fun g hg h => h12 g h hg⟩
theorem Trio.next (h : Trio I w wk v L N e u1 l1 u2 l2) (hb : Below wk.heap.size wk wn) : Trio I w wn v L N e u1 l1 u2 l2 := by
  obtain ⟨F, ha, ho, hf, h1, h2, h12⟩ := h
  exact ⟨F, I.keep ha hb.size fun k hk _ => hb.block k hk, ho.trans (hb.mono ho.size), hf, ⟨Own.of_blocks h1.1 fun g _ hg => hb.block g hg, h1.2⟩, ⟨Own.of_blocks h2.1 fun g _ hg => hb.block g hg, h2.2⟩, h12⟩
theorem Trio.after {F : Nat → Prop} (ho : Below w.heap.size w wk) (hf : ∀ k, F k → w.heap.size ≤ k) (h1 : Own wk w.heap.size e u1 l1 ∧ ∀ g, u1.ownBlock = some g → ¬ F g) (h2 : Own wk w.heap.size e u2 l2 ∧ ∀ g, u2.ownBlock = some g → ¬ F g) (h12 : ∀ g, u1.ownBlock = some g → u2.ownBlock ≠ some g)
    (h : After I.A wk wn v F L' N) : Trio I w wn v L' N e u1 l1 u2 l2 := by
  obtain ⟨F', ha', hon, hF'⟩ := h
  have tell : ∀ {u : Value} {l : List Int}, (Own wk w.heap.size e u l ∧ ∀ g, u.ownBlock = some g → ¬ F g) → Own wn w.heap.size e u l ∧ ∀ g, u.ownBlock = some g → ¬ F' g := by
    intro u l hu
    refine ⟨Own.of_blocks hu.1 fun g hg hlt => hon.block g hlt (hu.2 g hg), fun g hg h' => ?_⟩
    rcases hF' g h' with h | h
    · exact hu.2 g hg h
    · have := (World.ownsRow.lt hu.1 g hg).2; omega
  refine ⟨F', ha', ?_, fun k hk => ?_, tell h1, tell h2, h12⟩
  · exact ⟨hon.os.trans ho.os, hon.tape.trans ho.tape, hon.output.trans ho.output, Nat.le_trans ho.size hon.size, fun k hk => (hon.block k (Nat.lt_of_lt_of_le hk ho.size) (fun hF => by have := hf k hF; omega)).trans (ho.block k hk)⟩
  · rcases hF' k hk with h | h
    · exact hf k h
    · exact Nat.le_trans ho.size h
/-- Something is appended to the first row. -/
theorem Trio.app (h : Trio I w wk v L N e u1 l1 u2 l2) {u' : Value} {l' : List Int} (hown : Own wn w.heap.size e u' l') (hg : wk.grownBy wn u1.ownBlock) (hat : u'.ownBlock = u1.ownBlock ∨ u'.ownBlock = some wk.heap.size) : Trio I w wn v L N e u' l' u2 l2 := by
  obtain ⟨F, ha, ho, hf, h1, h2, h12⟩ := h
  have hF : ∀ k, k < wk.heap.size → F k → wn.heap[k]? = wk.heap[k]? := fun k hk hFk => hg.block k hk fun e => h1.2 k e.symm hFk
  refine ⟨F, I.keep ha hg.size hF, Below.grown ho hg ho.size fun k hk => (World.ownsRow.lt h1.1 k hk).1, hf, ⟨hown, fun g hgu hFg => ?_⟩, ⟨Own.of_blocks h2.1 fun g hgu hlt => hg.block g hlt fun e => h12 g e.symm hgu, h2.2⟩, fun g hgu hgu2 => ?_⟩
  · rcases hat with hat | hat
    · exact h1.2 g (hat ▸ hgu) hFg
    · rw [hat] at hgu
      injection hgu with hgu
      have := I.lt ha g hFg
      omega
  · rcases hat with hat | hat
    · exact h12 g (hat ▸ hgu) hgu2
    · rw [hat] at hgu
      injection hgu with hgu
      have := (World.ownsRow.lt h2.1 g hgu2).2
      omega
theorem t_put (h : Trio I w wk v L N e u1 l1 u2 l2) (r x : Int) (hr : In64 r) (hx : In64 x) {E : Int} (hE : putE L N r x = E) (hL : putL L N r x false = L') :
    Calls Try.prog 12 #[v, .int .i64 r, .int .i64 x] wk fun e' wn => e' = .returned (.int .i64 E) ∧ Trio I w wn v L' N e u1 l1 u2 l2 := by
  obtain ⟨F, ha, ho, hf, h1, h2, h12⟩ := h
  subst hE hL
  exact (I.put ha r x hr hx).mono fun _ _ k => ⟨k.1, Trio.after ho hf h1 h2 h12 k.2⟩
theorem t_drop (h : Trio I w wk v L N e u1 l1 u2 l2) (x : Int) (hx : In64 x) {B : Bool} (hB : decide (0 ≤ inL L x) = B) (hL : dropL L x = L') :
    Calls Try.prog 13 #[v, .int .i64 x] wk fun e' wn => e' = .returned (.bool B) ∧ Trio I w wn v L' N e u1 l1 u2 l2 := by
  obtain ⟨F, ha, ho, hf, h1, h2, h12⟩ := h
  subst hB hL
  exact (I.drop ha x hx).mono fun _ _ k => ⟨k.1, Trio.after ho hf h1 h2 h12 k.2⟩
theorem t_take (h : Trio I w wk v L N e u1 l1 u2 l2) (r : Int) (hr : In64 r) {E : Int} {B : Bool} (hE : firstL L r = E) (hB : decide (0 ≤ inL L (firstL L r)) = B) (hL : dropL L (firstL L r) = L') :
    Calls Try.prog 14 #[v, .int .i64 r] wk fun e' wn => e' = .returned (.tuple #[.int .i64 E, .bool B]) ∧ Trio I w wn v L' N e u1 l1 u2 l2 := by
  obtain ⟨F, ha, ho, hf, h1, h2, h12⟩ := h
  subst hE hB hL
  exact (I.take ha r hr).mono fun _ _ k => ⟨k.1, Trio.after ho hf h1 h2 h12 k.2⟩
theorem t_len (h : Trio I w wk v L N e u1 l1 u2 l2) (r : Int) (hr : In64 r) {E : Int} (hE : ((listL L r).length : Int) = E) :
    Calls Try.prog 15 #[v, .int .i64 r] wk fun e' wn => e' = .returned (.int .i64 E) ∧ Trio I w wn v L N e u1 l1 u2 l2 := by
  have h' := h
  obtain ⟨F, ha, ho, hf, h1, h2, h12⟩ := h
  subst hE
  exact (I.len ha r hr).mono fun _ _ k => ⟨k.1, h'.next k.2⟩
end

/-! One row alone -/
theorem inL_one (c : List Int) (x : Int) : inL [c] x = if x ∈ c then 0 else -1 := by
  unfold inL
  by_cases h : x ∈ c
  · have : ([c] : List (List Int)).findIdx? (fun l => l.contains x) = some 0 := by simp [List.findIdx?_cons, h]
    rw [this, if_pos h]; rfl
  · have : ([c] : List (List Int)).findIdx? (fun l => l.contains x) = none := by simp [List.findIdx?_cons, h]
    rw [this, if_neg h]
theorem firstL_one (c : List Int) : firstL [c] 0 = c.headD (-1) := by unfold firstL; rw [if_pos (by simp)]; rfl
theorem dropL_one_no {c : List Int} {x : Int} (h : ¬ x ∈ c) : dropL [c] x = [c] := by unfold dropL; rw [inL_one, if_neg h, if_pos (by decide)]
theorem dropL_one {a b : List Int} {x : Int} (h : (a ++ x :: b).Nodup) : dropL [a ++ x :: b] x = [a ++ b] := by
  have hin : inL [a ++ x :: b] x = 0 := by rw [inL_one, if_pos (by simp)]
  unfold dropL
  rw [hin, if_neg (by decide)]
  have hn := List.nodup_append.1 h
  have hxa : ¬ x ∈ a := fun hx => hn.2.2 x hx x (by simp) rfl
  have hxb : ¬ x ∈ b := (List.nodup_cons.1 hn.2.1).1
  have fa : a.filter (fun y => y != x) = a := List.filter_eq_self.2 fun y hy => by simp; rintro rfl; exact hxa hy
  have fb : b.filter (fun y => y != x) = b := List.filter_eq_self.2 fun y hy => by simp; rintro rfl; exact hxb hy
  simp [List.filter_append, fa, fb]
theorem putE_one (c : List Int) (x : Int) : putE [c] 20 0 x = if 0 ≤ x ∧ x < 20 then (if x ∈ c then 6 else 0) else 3 := by
  unfold putE
  rw [inL_one]
  by_cases h : 0 ≤ x ∧ x < 20
  · rw [if_pos (by simp; exact h), if_pos h]
    by_cases hx : x ∈ c
    · rw [if_pos hx, if_pos hx]; rfl
    · rw [if_neg hx, if_neg hx]; rfl
  · rw [if_neg (by simp; omega), if_neg h]
theorem putL_one {c : List Int} {x : Int} (h : putE [c] 20 0 x = 0) : putL [c] 20 0 x false = [c ++ [x]] := by unfold putL; rw [if_pos h]; rfl
theorem putL_one_no {c : List Int} {x : Int} (h : putE [c] 20 0 x ≠ 0) : putL [c] 20 0 x false = [c] := by unfold putL; rw [if_neg h]

/-- A slice of ints that came in. -/
def Nums (w : World) (A : Option Addr) (len : Nat) (zs : List Int) : Prop :=
  zs.length = len ∧ (∀ z ∈ zs, In64 z) ∧ (0 < len → ∃ b off, A = some ⟨b, off, none⟩ ∧ b < w.heap.size ∧ ∀ j, j < len → w.cell? ⟨b, off + j, none⟩ = some (.int .i64 (zs.getD j 0)))
/-- A slice of bools that came in. -/
def Flags (w : World) (A : Option Addr) (len : Nat) (zs : List Bool) : Prop :=
  zs.length = len ∧ (0 < len → ∃ b off, A = some ⟨b, off, none⟩ ∧ b < w.heap.size ∧ ∀ j, j < len → w.cell? ⟨b, off + j, none⟩ = some (.bool (zs.getD j false)))

set_option maxHeartbeats 4000000 in
set_option maxRecDepth 100000 in
theorem first_walk (I : Ring) (A : Option Addr) (len cap : Nat) (zs : List Int) (D : Option Addr) (dlen dcap : Nat) (fs : List Bool) (w : World) (hm : len ≤ 9223372036854775807) (hdm : dlen ≤ 9223372036854775807) (hz : Nums w A len zs) (hd : Flags w D dlen fs) :
    Calls Try.prog 4 #[.slice A len cap, .slice D dlen dcap] w fun e w' => e = .returned (.bool true) ∧ Below w.heap.size w w' := by
  have HZ := Lib.hid hz
  have HD := Lib.hid hd
  clear hz hd
  by_cases hl : 20 < len
  · go_enter Try.func4, Try.ntmps4
    go_wp2_with (go_at_call 6; refine (awake_any I _).mono ?_; rintro e w' ⟨rfl, hb⟩)
    go_ret
    exact ⟨rfl, hb⟩
  go_enter Try.func4, Try.ntmps4
  go_wp2_with fail
  refine (awake_any I _).mono ?_
  rintro e w1 ⟨rfl, hb1⟩
  have HB1 := Lib.hid hb1
  clear hb1
  go_wp2_with fail
  refine (I.new_yes 1 20 w1 (by omega) (by omega) (by omega) (by omega)).mono ?_
  rintro e w2 ⟨v, F, rfl, hA, hb2, hF⟩
  obtain ⟨pa, rfl⟩ := I.ptr hA
  have HT : Hid (Trio I w (w2.alloc (.cells #[] 3)) (.pointer (some pa)) [[]] 20 3 (.slice (some ⟨w2.heap.size, 0, none⟩) 0 0) [] (.slice none 0 0) []) := by
    have h1 := HB1.out
    have h0 : Below w.heap.size w w2 := h1.trans (hb2.mono h1.size)
    refine ⟨F, I.keep (by simpa using hA) (by simp) fun k hk _ => Below.heap_alloc w2 _ k hk, h0.alloc h0.size _, fun k hk => Nat.le_trans h1.size (hF k hk), ⟨Own.lit0 w2 _ _ h0.size, fun g hg hFg => ?_⟩, ⟨World.ownsRow_nil _ _ _ _, fun g hg => by simp [Value.ownBlock] at hg⟩, fun g _ h => by simp [Value.ownBlock] at h⟩
    have := I.lt hA g hFg
    simp [Value.ownBlock] at hg
    omega
  clear hA hb2 hF HB1
  go_wp2
  go_loopw [7, 33] (fun u t wr => ∃ (k : Nat) (c : List Int), k ≤ len ∧ t = .int .i64 k ∧ Hid (Trio I w wr (.pointer (some pa)) [c] 20 3 u c (.slice none 0 0) [])) (fun _ t _ => len - (intOf t).toNat)
  case atStart => exact ⟨0, [], Nat.zero_le _, rfl, HT⟩
  case round =>
    clear HT
    obtain ⟨k, c, hk, rfl, HT⟩ := hrel
    have hc1 : c.length ≤ 1000 := HT.out.ok.lens c (by simp)
    obtain ⟨A0, c0, rfl⟩ := HT.out.own1.form
    by_cases hlt : k < len
    · obtain ⟨hzl, hz64, hzc⟩ := HZ.out
      obtain ⟨b, off, rfl, hbw, hcc⟩ := hzc (by omega)
      have k0 := (HT.out.old.cell (p := ⟨b, off + k, none⟩) hbw).trans (hcc k hlt)
      have h64 : In64 (zs.getD k 0) := hz64 _ (by rw [List.getD_eq_getElem?_getD, List.getElem?_eq_getElem (by omega)]; exact List.getElem_mem _)
      generalize zs.getD k 0 = x at k0 h64
      have H64 := Lib.hid h64
      clear h64 hcc hzc hz64 hzl
      obtain ⟨E, hE⟩ : ∃ E, putE [c] 20 0 x = E := ⟨_, rfl⟩
      have HE := Lib.hid hE
      clear hE
      by_cases hE0 : E = 0
      · subst hE0
        go_wp2_with fail
        refine (t_put HT.out 0 x ⟨by omega, by omega⟩ H64.out HE.out (putL_one HE.out)).mono ?_
        rintro e w4 ⟨rfl, hT4⟩
        have HT4 := Lib.hid hT4
        have hws : w.heap.size ≤ w4.heap.size := hT4.old.size
        clear hT4 k0
        go_wp2_with (at_builtin; refine wpList_app rfl _ _ intElem rfl rfl rfl (HT4.out.own1.alloc _) (Rd.lit1 w4 _ x (fun _ => True) trivial) (by simp; omega) (by simp; omega) ?_)
        intro v' w5 hown5 hgrow hat
        have HT5 := Lib.hid (Trio.app (HT4.out.next (new_below0 w4 _)) hown5 hgrow (by simpa using hat))
        clear hown5 hgrow hat HT4
        go_wp2
        go_roundw
        case rel => exact ⟨k + 1, c ++ [x], by omega, by go_num, HT5⟩
        case measure => simp [intOf]; omega
      · have hne : (E == 0) = false := by simpa using hE0
        have HE1 : Hid (putE [c] 20 0 x ≠ 0) := by show _ ≠ _; rw [HE.out]; exact hE0
        clear hE0
        go_wp2_with fail
        refine (t_put HT.out 0 x ⟨by omega, by omega⟩ H64.out HE.out (putL_one_no HE1.out)).mono ?_
        rintro e w4 ⟨rfl, hT4⟩
        have HT4 := Lib.hid hT4
        clear hT4 k0
        go_wp2
        go_roundw
        case rel => exact ⟨k + 1, c, by omega, by go_num, HT4⟩
        case measure => simp [intOf]; omega
    · have HN : Hid (Trio I w (wr.alloc (.cells #[] 3)) (.pointer (some pa)) [c] 20 3 (.slice (some ⟨wr.heap.size, 0, none⟩) 0 0) [] (.slice A0 c.length c0) c) := by
        obtain ⟨F, ha, ho, hf, h1, h2, h12⟩ := HT.out
        have hlt1 := fun g hg => (World.ownsRow.lt h1.1 g hg).2
        refine ⟨F, I.keep ha (by simp) fun k hk _ => Below.heap_alloc wr _ k hk, ho.alloc ho.size _, hf, ⟨Own.lit0 wr _ _ ho.size, fun g hg hFg => ?_⟩, ⟨Own.of_blocks h1.1 fun g _ hg => Below.heap_alloc wr _ g hg, h1.2⟩, fun g hg h => ?_⟩
        · have := I.lt ha g hFg
          simp [Value.ownBlock] at hg
          omega
        · have := hlt1 g h
          simp [Value.ownBlock] at hg
          omega
      have hcn : Hid c.Nodup := by show c.Nodup; have := HT.out.ok.once; simpa using this
      clear HT
      go_wp2
      go_loopw [10, 49] (fun u t wn => ∃ (i : Nat) (lf : List Int), i ≤ c.length ∧ t = .int .i64 i ∧ Hid (Trio I w wn (.pointer (some pa)) [lf ++ c.drop i] 20 3 u lf (.slice A0 c.length c0) c)) (fun _ t _ => c.length - (intOf t).toNat)
      case atStart => exact ⟨0, [], Nat.zero_le _, rfl, HN⟩
      case round =>
        clear HN
        obtain ⟨i, lf, hi, rfl, HT⟩ := hrel
        have hok := HT.out.ok
        have hc2 : (lf ++ c.drop i).length ≤ 1000 := hok.lens _ (by simp)
        have hc3 : lf.length ≤ 1000 := by simp at hc2; omega
        have hnd : Hid (lf ++ c.drop i).Nodup := by show (lf ++ c.drop i).Nodup; have := hok.once; simpa using this
        have hx64 : Hid (∀ x ∈ lf ++ c.drop i, In64 x) := fun x hx => by have := hok.nodes _ (by simp) x hx; exact ⟨by omega, by omega⟩
        obtain ⟨A1, c1, rfl⟩ := HT.out.own1.form
        clear hok hc2
        by_cases hil : i < c.length
        · obtain ⟨b', off', rfl, _, _, hcc⟩ : ∃ b off, A0 = some ⟨b, off, none⟩ ∧ True ∧ True ∧ ∀ j, j < c.length → _ := by
            obtain ⟨A', c', he, _, hx⟩ := HT.out.own2.rd (G := fun _ => True) (by omega) fun _ _ => trivial
            injection he with he1 he2 he3
            subst he1
            obtain ⟨b, off, h1, _, _, h2⟩ := hx (by omega)
            exact ⟨b, off, h1, trivial, trivial, h2⟩
          have k0 := hcc i hil
          have hx : c.drop i = c.getD i 0 :: c.drop (i + 1) := by rw [List.drop_eq_getElem_cons hil]; simp [List.getD_eq_getElem?_getD, hil]
          generalize c.getD i 0 = x at k0 hx
          have HC := Lib.hid hx
          have H64 : Hid (In64 x) := hx64.out x (by rw [hx]; simp)
          have HND : Hid (lf ++ x :: c.drop (i + 1)).Nodup := by have := hnd.out; rw [hx] at this; exact this
          have hws : w.heap.size ≤ wr.heap.size := HT.out.old.size
          clear hx hcc hx64 hnd hcn
          by_cases hdl : i < dlen
          · obtain ⟨hfl, hfc⟩ := HD.out
            obtain ⟨b2, off2, rfl, hbw2, hcc2⟩ := hfc (by omega)
            have k1 := (HT.out.old.cell (p := ⟨b2, off2 + i, none⟩) hbw2).trans (hcc2 i hdl)
            generalize fs.getD i false = fl at k1
            clear hcc2 hfc hfl
            cases fl
            · go_wp2_with (at_builtin; refine wpList_app rfl _ _ intElem rfl rfl rfl (HT.out.own1.alloc _) (Rd.lit1 wr _ x (fun _ => True) trivial) (by simp; omega) (by simp; omega) ?_)
              intro v' w5 hown5 hgrow hat
              have HT5 : Hid (Trio I w w5 (.pointer (some pa)) [(lf ++ [x]) ++ c.drop (i + 1)] 20 3 v' (lf ++ [x]) (.slice (some ⟨b', off', none⟩) c.length c0) c) := by
                have h5 := Trio.app (HT.out.next (new_below0 wr _)) hown5 hgrow (by simpa using hat)
                rw [HC.out] at h5
                rw [List.append_assoc]
                exact h5
              clear hown5 hgrow hat
              go_wp2
              go_roundw
              case rel => exact ⟨i + 1, lf ++ [x], by omega, by go_num, HT5⟩
              case measure => simp [intOf]; omega
            · have HIN : Hid (decide (0 ≤ inL [lf ++ c.drop i] x) = true) := by
                show _ = _
                rw [HC.out, inL_one, if_pos (by simp)]; rfl
              have HDR : Hid (dropL [lf ++ c.drop i] x = [lf ++ c.drop (i + 1)]) := by
                show _ = _
                rw [HC.out]; exact dropL_one HND.out
              have HNO : Hid (¬ x ∈ lf ++ c.drop (i + 1)) := by
                show ¬ _
                intro hx
                have hn := List.nodup_append.1 HND.out
                rcases List.mem_append.1 hx with h | h
                · exact hn.2.2 x h x (by simp) rfl
                · exact (List.nodup_cons.1 hn.2.1).1 h
              go_wp2_with fail
              refine (t_drop HT.out x H64.out HIN.out HDR.out).mono ?_
              rintro e w5 ⟨rfl, hT5⟩
              have HT5 := Lib.hid hT5
              clear hT5
              go_wp2_with fail
              refine (t_drop HT5.out x H64.out (B := false) (by rw [inL_one, if_neg HNO.out]; rfl) (dropL_one_no HNO.out)).mono ?_
              rintro e w6 ⟨rfl, hT6⟩
              have HT6 := Lib.hid hT6
              clear hT6 HT5
              go_wp2
              go_roundw
              case rel => exact ⟨i + 1, lf, by omega, by go_num, HT6⟩
              case measure => simp [intOf]; omega
          · go_wp2_with (at_builtin; refine wpList_app rfl _ _ intElem rfl rfl rfl (HT.out.own1.alloc _) (Rd.lit1 wr _ x (fun _ => True) trivial) (by simp; omega) (by simp; omega) ?_)
            intro v' w5 hown5 hgrow hat
            have HT5 : Hid (Trio I w w5 (.pointer (some pa)) [(lf ++ [x]) ++ c.drop (i + 1)] 20 3 v' (lf ++ [x]) (.slice (some ⟨b', off', none⟩) c.length c0) c) := by
              have h5 := Trio.app (HT.out.next (new_below0 wr _)) hown5 hgrow (by simpa using hat)
              rw [HC.out] at h5
              rw [List.append_assoc]
              exact h5
            clear hown5 hgrow hat
            go_wp2
            go_roundw
            case rel => exact ⟨i + 1, lf ++ [x], by omega, by go_num, HT5⟩
            case measure => simp [intOf]; omega
        · have HE : Hid (c.drop i = []) := List.drop_of_length_le (by omega)
          have HT0 : Hid (Trio I w wr (.pointer (some pa)) [lf] 20 3 (.slice A1 lf.length c1) lf (.slice A0 c.length c0) c) := by
            have := HT.out
            rw [HE.out, List.append_nil] at this
            exact this
          clear HT hx64 hnd hcn HE
          go_wp2
          go_loopw [80] (fun t wn => ∃ j : Nat, j ≤ lf.length ∧ t = .int .i64 j ∧ Hid (Trio I w wn (.pointer (some pa)) [lf.drop j] 20 3 (.slice A1 lf.length c1) lf (.slice A0 c.length c0) c)) (fun t _ => lf.length - (intOf t).toNat)
          case atStart => exact ⟨0, Nat.zero_le _, rfl, HT0⟩
          case round =>
            clear HT0
            obtain ⟨j, hj, rfl, HT⟩ := hrel
            by_cases hjl : j < lf.length
            · obtain ⟨b3, off3, rfl, _, _, hcc⟩ : ∃ b off, A1 = some ⟨b, off, none⟩ ∧ True ∧ True ∧ ∀ i', i' < lf.length → _ := by
                obtain ⟨A', c', he, _, hx⟩ := HT.out.own1.rd (G := fun _ => True) (by omega) fun _ _ => trivial
                injection he with he1 he2 he3
                subst he1
                obtain ⟨b, off, h1, _, _, h2⟩ := hx (by omega)
                exact ⟨b, off, h1, trivial, trivial, h2⟩
              have k0 := hcc j hjl
              have hx : lf.drop j = lf.getD j 0 :: lf.drop (j + 1) := by rw [List.drop_eq_getElem_cons hjl]; simp [List.getD_eq_getElem?_getD, hjl]
              have hok := HT.out.ok
              have hnd : (lf.drop j).Nodup := by have := hok.once; simpa using this
              generalize lf.getD j 0 = x at k0 hx
              rw [hx] at hnd
              have HF : Hid (firstL [lf.drop j] 0 = x) := by show _ = _; rw [firstL_one, hx]; rfl
              have HI : Hid (decide (0 ≤ inL [lf.drop j] (firstL [lf.drop j] 0)) = true) := by show _ = _; rw [HF.out, hx, inL_one, if_pos (by simp)]; rfl
              have HL : Hid (dropL [lf.drop j] (firstL [lf.drop j] 0) = [lf.drop (j + 1)]) := by show _ = _; rw [HF.out, hx]; exact dropL_one (a := []) hnd
              have hbne : (x != x) = false := by simp
              clear hx hok hnd hcc
              go_wp2_with fail
              refine (t_take HT.out 0 ⟨by omega, by omega⟩ HF.out HI.out HL.out).mono ?_
              rintro e w5 ⟨rfl, hT5⟩
              have HT5 := Lib.hid hT5
              clear hT5 k0
              go_wp2
              go_roundw
              case rel => exact ⟨j + 1, by omega, by go_num, HT5⟩
              case measure => simp [intOf]; omega
            · have HE : Hid (lf.drop j = []) := List.drop_of_length_le (by omega)
              have HT0 : Hid (Trio I w wr (.pointer (some pa)) [[]] 20 3 (.slice A1 lf.length c1) lf (.slice A0 c.length c0) c) := by
                have := HT.out
                rw [HE.out] at this
                exact this
              clear HT HE
              go_wp2_with fail
              refine (t_take HT0.out 0 ⟨by omega, by omega⟩ (E := -1) (B := false) (L' := [[]]) (by decide) (by decide) (by decide)).mono ?_
              rintro e w5 ⟨rfl, hT5⟩
              have HT5 := Lib.hid hT5
              clear hT5
              go_wp2_with fail
              refine (t_len HT5.out 0 ⟨by omega, by omega⟩ (E := 0) (by decide)).mono ?_
              rintro e w6 ⟨rfl, hT6⟩
              have HT6 := Lib.hid hT6
              clear hT6
              go_wp2
              go_ret
              exact ⟨rfl, HT6.out.old⟩
end Go.Proofs.Ytaoagoklgjcdcaa.RingI
