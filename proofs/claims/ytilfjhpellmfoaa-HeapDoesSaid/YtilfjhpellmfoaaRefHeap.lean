/-
  Contracts of the functions of package countermandref03 (the document's answer for layer 3): a heap of the reference, as the list of its entries. Condition: the pointer's blocks are as 'RH' says.
-/
import Derived.Test.YtilfjhpellmfoaaRows
import Derived.Test.YtilfjhpellmfoaaCells
import Derived.Test.YtilfjhpellmfoaaEnt
import Derived.Deep.QuietTactic
import Derived.BigQuiet
import Derived.Deep.RegionHeld3
import Derived.Laws.StructEq
namespace Go.Proofs.Ytilfjhpellmfoaa.RefHeap
open Go.ChangeShapes Go.WideShapes Go.ChangeAt Go.RowKit Mem

/-- The reference's heap behind the pointer to block p. -/
def RH (w : World) (G : Nat → Prop) (p : Nat) (L : List Ent) (N : Int) : Prop :=
  ∃ v, w.heap[p]? = some (.cells #[v, .int .i64 N] 49 (0, 0)) ∧ G p ∧ 0 ≤ N ∧ N ≤ 1000 ∧ RdL entE w (fun b => G b ∧ b ≠ p) v L

theorem RH.keep {w w' : World} {G : Nat → Prop} {p : Nat} {L : List Ent} {N : Int} (h : RH w G p L N) (hs : w.heap.size ≤ w'.heap.size) (hk : ∀ k, k < w.heap.size → G k → w'.heap[k]? = w.heap[k]?) : RH w' G p L N := by
  obtain ⟨v, hp, gp, h0, h1, hr⟩ := h
  exact ⟨v, (hk p (lt_of_block hp) gp).trans hp, gp, h0, h1, hr.keep hs fun k hb hg => hk k hb hg.1⟩
theorem RH.mono {w : World} {G G' : Nat → Prop} {p : Nat} {L : List Ent} {N : Int} (h : RH w G p L N) (hG : ∀ k, k < w.heap.size → G k → G' k) : RH w G' p L N := by
  obtain ⟨v, hp, gp, h0, h1, hr⟩ := h
  exact ⟨v, hp, hG p (lt_of_block hp) gp, h0, h1, hr.mono fun k hb hg => ⟨hG k hb hg.1, hg.2⟩⟩
theorem RH.below {w w' : World} {G : Nat → Prop} {p : Nat} {L : List Ent} {N : Int} (h : RH w G p L N) (hb : Below w.heap.size w w') : RH w' G p L N := h.keep hb.size fun k hk _ => hb.block k hk
theorem RH.lt {w : World} {G : Nat → Prop} {p : Nat} {L : List Ent} {N : Int} (h : RH w G p L N) : p < w.heap.size := by obtain ⟨v, hp, _⟩ := h; exact lt_of_block hp
theorem RH.head {w : World} {G : Nat → Prop} {p : Nat} {L : List Ent} {N : Int} (h : RH w G p L N) :
    ∃ A c, w.cell? ⟨p, 0, none⟩ = some (.slice A L.length c) ∧ w.cell? ⟨p, 1, none⟩ = some (.int .i64 N) ∧ w.frozen? ⟨p, 0, none⟩ = false ∧ L.length ≤ 1000000 ∧ RdL entE w (fun b => G b ∧ b ≠ p) (.slice A L.length c) L := by
  obtain ⟨v, hp, gp, h0, h1, hr⟩ := h
  obtain ⟨A, c, rfl⟩ := hr.form
  exact ⟨A, c, (cell_block hp 0).trans rfl, (cell_block hp 1).trans rfl, frozen_block hp 0, hr.le, hr⟩

theorem ahead_any (a b : Ent) (w : World) :
    Calls Try.prog 26 #[a.val, b.val] w fun e w' => e = .returned (.bool (ahead a b)) ∧ Below w.heap.size w w' := by
  obtain ⟨ai, aa, az⟩ := a
  obtain ⟨bi, ba, bs⟩ := b
  unfold Ent.val
  by_cases h1 : aa = ba
  · subst h1
    have e1 : (aa != aa) = false := by simp
    by_cases h2 : az = bs
    · subst h2
      have e2 : (az != az) = false := by simp
      go_enter Try.func26, Try.ntmps26
      go_wp2
      go_ret
      exact ⟨ret_bool (by simp [ahead]), ((Below.refl _ _).alloc (Nat.le_refl _) _).alloc (by simp) _⟩
    · have e2 : (az != bs) = true := by simpa using h2
      have h3 := Lib.hid h2
      clear h2
      go_enter Try.func26, Try.ntmps26
      go_wp2
      go_ret
      exact ⟨ret_bool (by simp [ahead, h3.out]), ((Below.refl _ _).alloc (Nat.le_refl _) _).alloc (by simp) _⟩
  · have e1 : (aa != ba) = true := by simpa using h1
    have h3 := Lib.hid h1
    clear h1
    go_enter Try.func26, Try.ntmps26
    go_wp2
    go_ret
    exact ⟨ret_bool (by simp [ahead, h3.out]), ((Below.refl _ _).alloc (Nat.le_refl _) _).alloc (by simp) _⟩

theorem get_any {w : World} {G : Nat → Prop} {p : Nat} {L : List Ent} {N : Int} (h : RH w G p L N) (id : Int) :
    Calls Try.prog 23 #[.pointer (some ⟨p, 0, none⟩), .int .i64 id] w fun e w' => e = .returned (.tuple #[(getE L id).val, .bool (getB L id)]) ∧ Below w.heap.size w w' := by
  have hpb := h.lt
  have H0 := h.below (new_below0 w (.cells #[.int .i64 0, .int .i64 0, .int .i64 0] 37))
  obtain ⟨A, c, h0, h1, _, hm, hr⟩ := H0.head
  have HR := Lib.hid hr
  clear hr H0 h
  go_enter Try.func23, Try.ntmps23
  go_wp2
  go_loop [6] (fun t => ∃ i : Nat, i ≤ L.length ∧ t = .int .i64 i ∧ Hid (∀ j b, j < i → L[j]? = some b → b.id ≠ id)) (fun t => L.length - (intOf t).toNat)
  case atStart => exact ⟨0, Nat.zero_le _, rfl, fun j b hj => absurd hj (by omega)⟩
  case round =>
    obtain ⟨i, hi, rfl, hno⟩ := hrel
    by_cases hlt : i < L.length
    · have hx : L[i]? = some L[i] := List.getElem?_eq_getElem hlt
      generalize L[i] = a at hx
      obtain ⟨b, off, rfl, _, hb, c0, c1, c2⟩ := ent_cells HR.out hx
      have HX := Lib.hid hx
      clear hx
      by_cases hid : a.id = id
      · have e1 : (a.id == id) = true := by simpa using hid
        have HF := Lib.hid (get_hit HX.out hid hno.out)
        clear hid
        go_wp2
        refine bodyPost_ret (v := .tuple #[a.val, .bool true]) (by simp [results, Try.results23, go_sem, Ent.val]) rfl ⟨?_, (Below.refl _ _).alloc (Nat.le_refl _) _⟩
        unfold getE getB
        rw [HF.out]
        rfl
      · have e1 : (a.id == id) = false := by simpa using hid
        have HI := Lib.hid hid
        clear hid
        go_wp2
        go_round
        case rel => exact ⟨i + 1, by omega, by go_num, fun j b hj hb => by
          rcases Nat.lt_or_ge j i with h | h
          · exact hno.out j b h hb
          · obtain rfl : j = i := by omega
            rw [HX.out] at hb
            injection hb with hb
            subst hb
            exact HI.out⟩
        case measure => simp [intOf]; omega
    · have HF := Lib.hid (get_miss (L := L) (id := id) fun j b hj hb => hno.out j b (by omega) hb)
      go_wp2
      refine bodyPost_ret (v := .tuple #[zeroEnt.val, .bool false]) (by simp [results, Try.results23, go_sem, Ent.val, zeroEnt]) rfl ⟨?_, (Below.refl _ _).alloc (Nat.le_refl _) _⟩
      unfold getE getB
      rw [HF.out]
      rfl

theorem first_any {w : World} {G : Nat → Prop} {p : Nat} {L : List Ent} {N : Int} (h : RH w G p L N) :
    Calls Try.prog 16 #[.pointer (some ⟨p, 0, none⟩)] w fun e w' => e = .returned (.tuple #[(firstE L).val, .bool (!L.isEmpty)]) ∧ Below w.heap.size w w' := by
  have H0 := h.below (new_below0 w (.cells #[.int .i64 0, .int .i64 0, .int .i64 0] 37))
  obtain ⟨A, c, h0, h1, _, hm, hr⟩ := H0.head
  clear H0 h
  cases L with
  | nil =>
    go_enter Try.func16, Try.ntmps16
    go_wp2
    exact bodyPost_ret (v := .tuple #[zeroEnt.val, .bool false]) (by simp [results, Try.results16, go_sem, Ent.val, zeroEnt]) rfl ⟨rfl, (Below.refl _ _).alloc (Nat.le_refl _) _⟩
  | cons a L =>
    obtain ⟨b, off, rfl, _, hb, c0, c1, c2⟩ := ent_cells hr (i := 0) (a := a) rfl
    simp only [Nat.zero_mul, Nat.add_zero] at c0 c1 c2
    clear hr
    generalize hll : (a :: L).length = ll at *
    have hpos : 0 < ll := by rw [← hll]; simp
    have e1 : ((ll : Int) == 0) = false := by simp; omega
    clear hll
    go_enter Try.func16, Try.ntmps16
    go_wp2
    exact bodyPost_ret (v := .tuple #[a.val, .bool true]) (by simp [results, Try.results16, go_sem, Ent.val]) rfl ⟨rfl, (Below.refl _ _).alloc (Nat.le_refl _) _⟩

theorem entElem : Elem entE Try.prog 47 37 := elem_of (z := .agg #[.int .i64 0, .int .i64 0, .int .i64 0]) (bytes := 24) Try.underlying47 (by kernel_rfl) rfl (by omega)

theorem RH.set {w : World} {G : Nat → Prop} {p : Nat} {L L' : List Ent} {N : Int} (h : RH w G p L N) {v : Value} (hv : RdL entE w (fun b => G b ∧ b ≠ p) v L') : RH (w.setCell ⟨p, 0, none⟩ v) G p L' N := by
  obtain ⟨u, hp, gp, h0, h1, _⟩ := h
  refine ⟨v, ?_, gp, h0, h1, hv.keep (by simp [World.setCell]) fun k _ hk => Below.heap_setCell w _ _ k hk.2⟩
  simp [World.setCell, Array.getElem?_modify, hp]

set_option maxHeartbeats 1000000 in
theorem drop_any {w : World} {G : Nat → Prop} {p : Nat} {L : List Ent} {N : Int} (h : RH w G p L N) (hG : ∀ b, w.heap.size ≤ b → G b) (id : Int) :
    Calls Try.prog 12 #[.pointer (some ⟨p, 0, none⟩), .int .i64 id] w fun e w' => e = .returned (.bool (decide ((dropH L id).length < L.length))) ∧ RH w' G p (dropH L id) N ∧ Only (fun b => b = p) w w' := by
  have hpb := h.lt
  obtain ⟨A, c, h0, h1, hfz, hm, hr⟩ := h.head
  have HR := Lib.hid hr
  have H := Lib.hid h
  have HG := Lib.hid hG
  clear hr h hG
  go_enter Try.func12, Try.ntmps12
  go_wp2
  go_loopw [5, 6] (fun u t wr => ∃ i : Nat, i ≤ L.length ∧ t = .int .i64 i ∧ OwnL entE wr w.heap.size 37 u (dropH (L.take i) id) ∧ Below w.heap.size w wr) (fun _ t _ => L.length - (intOf t).toNat)
  case atStart => exact ⟨0, Nat.zero_le _, rfl, OwnL.lit0 (E := entE) w _ _ (Nat.le_refl _), (Below.refl _ _).alloc (Nat.le_refl _) _⟩
  case round =>
    obtain ⟨i, hi, rfl, hown, hbel⟩ := hrel
    have k0 := (hbel.cell (p := ⟨p, 0, none⟩) hpb).trans h0
    have HO := Lib.hid hown
    have HB := Lib.hid hbel
    have hfl : (dropH (L.take i) id).length ≤ i := Nat.le_trans (List.length_filter_le _ _) (List.length_take_le _ _)
    have hbs : w.heap.size ≤ wr.heap.size := hbel.size
    obtain ⟨Ao, co, rfl⟩ := hown.form
    clear hown hbel
    by_cases hlt : i < L.length
    · have hx : L[i]? = some L[i] := List.getElem?_eq_getElem hlt
      generalize L[i] = a at hx
      obtain ⟨b, off, rfl, _, hb, c0, c1, c2⟩ := ent_cells HR.out hx
      have q0 := (HB.out.cell (p := ⟨b, off + i * 3, none⟩) hb).trans c0
      have q1 := (HB.out.cell (p := ⟨b, off + i * 3 + 1, none⟩) hb).trans c1
      have q2 := (HB.out.cell (p := ⟨b, off + i * 3 + 2, none⟩) hb).trans c2
      have HS : Hid (dropH (L.take (i + 1)) id = dropH (L.take i) id ++ (if a.id = id then [] else [a])) := by
        show _ = _
        unfold dropH
        rw [take_snocE L i a hx, List.filter_append]
        by_cases hid : a.id = id <;> simp [hid]
      clear hx c0 c1 c2
      by_cases hid : a.id = id
      · have e1 : (a.id != id) = false := by simpa using hid
        have HS2 : Hid (dropH (L.take (i + 1)) id = dropH (L.take i) id) := by have := HS.out; rw [if_pos hid, List.append_nil] at this; exact this
        clear hid
        go_wp2
        go_roundw
        case rel => exact ⟨i + 1, by omega, by go_num, by rw [HS2.out]; exact HO.out, HB.out⟩
        case measure => simp [intOf]; omega
      · have e1 : (a.id != id) = true := by simpa using hid
        have HS2 : Hid (dropH (L.take (i + 1)) id = dropH (L.take i) id ++ [a]) := by have := HS.out; rw [if_neg hid] at this; exact this
        clear hid
        go_wp2_with (at_builtin; refine wpList_appL rfl _ _ entElem rfl rfl rfl (HO.out.alloc _) (RdL.lit1 (E := entE) wr _ a rfl (fun _ => True) trivial) (by simp; omega) (by simp; omega) ?_)
        intro v' w1 hown1 hgrow hat
        have hb1 : Below w.heap.size w w1 := Below.grown (HB.out.alloc hbs _) hgrow (by simp; omega) (fun g hg' => (HO.out.lt g hg').1)
        have HO1 := Lib.hid hown1
        have HB1 := Lib.hid hb1
        clear hown1 hb1 hgrow hat
        go_wp2
        go_roundw
        case rel => exact ⟨i + 1, by omega, by go_num, by rw [HS2.out]; exact HO1.out, HB1.out⟩
        case measure => simp [intOf]; omega
    · have HS : Hid (L.take i = L) := List.take_of_length_le (by omega)
      have fq := (HB.out.frozen (p := ⟨p, 0, none⟩) hpb).trans hfz
      go_wp2
      go_ret
      have hO := HO.out
      rw [HS.out] at hO ⊢
      refine ⟨ret_bool (by first | rfl | simp), ?_, Only.setCell (F := fun b => b = p) (a := ⟨p, 0, none⟩) (Only.of_below HB.out) (.inl rfl) _⟩
      refine RH.set (H.out.below HB.out) (hO.rd (Nat.le_trans (List.length_filter_le _ _) hm) fun g hg => ?_)
      have := (hO.lt g hg).1
      exact ⟨HG.out g this, by omega⟩

/-- Where the loop of Put stands. -/
def Laid (x : Ent) (l : List Ent) (ld : Bool) (out : List Ent) : Prop := (ld = false ∧ out = l ∧ ∀ y ∈ l, ahead x y = false) ∨ (ld = true ∧ out = insH x l ∧ ∃ y ∈ l, ahead x y = true)
theorem Laid.len {x : Ent} {l : List Ent} {ld : Bool} {out : List Ent} (h : Laid x l ld out) : out.length ≤ l.length + 1 := by
  rcases h with ⟨_, rfl, _⟩ | ⟨_, rfl, _⟩
  · omega
  · rw [ins_length]; omega
theorem Laid.on {x y : Ent} {l : List Ent} {out : List Ent} (h : Laid x l true out) : Laid x (l ++ [y]) true (out ++ [y]) := by
  rcases h with ⟨h, _⟩ | ⟨_, rfl, z, hz, ha⟩
  · cases h
  · exact .inr ⟨rfl, (ins_laid ⟨z, hz, ha⟩).symm, z, by simp [hz], ha⟩
theorem Laid.pass {x y : Ent} {l : List Ent} {out : List Ent} (h : Laid x l false out) (hy : ahead x y = false) : Laid x (l ++ [y]) false (out ++ [y]) := by
  rcases h with ⟨_, rfl, ha⟩ | ⟨h, _⟩
  · exact .inl ⟨rfl, rfl, fun z hz => by rcases List.mem_append.1 hz with h | h; exact ha z h; simp at h; subst h; exact hy⟩
  · cases h
theorem Laid.lay {x y : Ent} {l : List Ent} {out : List Ent} (h : Laid x l false out) (hy : ahead x y = true) : Laid x (l ++ [y]) true (out ++ [x] ++ [y]) := by
  rcases h with ⟨_, rfl, ha⟩ | ⟨h, _⟩
  · exact .inr ⟨rfl, (ins_hit hy ha).symm, y, by simp, hy⟩
  · cases h
theorem Laid.end_ {x : Ent} {l : List Ent} {ld : Bool} {out : List Ent} (h : Laid x l ld out) : (if ld = true then out else out ++ [x]) = insH x l := by
  rcases h with ⟨rfl, rfl, ha⟩ | ⟨rfl, rfl, _⟩
  · rw [if_neg (by simp), ins_none ha]
  · rw [if_pos rfl]

theorem ahead_agg (ai aa az bi ba bz : Int) (w : World) :
    Calls Try.prog 26 #[.agg #[.int .i64 ai, .int .i64 aa, .int .i64 az], .agg #[.int .i64 bi, .int .i64 ba, .int .i64 bz]] w fun e w' => e = .returned (.bool (ahead ⟨ai, aa, az⟩ ⟨bi, ba, bz⟩)) ∧ Below w.heap.size w w' := ahead_any ⟨ai, aa, az⟩ ⟨bi, ba, bz⟩ w

set_option maxHeartbeats 2000000 in
theorem put_any {w : World} {G : Nat → Prop} {p : Nat} {L : List Ent} {N : Int} (h : RH w G p L N) (hG : ∀ b, w.heap.size ≤ b → G b) (hlen : L.length ≤ 100000) (x : Ent) :
    Calls Try.prog 11 #[.pointer (some ⟨p, 0, none⟩), .agg #[.int .i64 x.id, .int .i64 x.at_, .int .i64 x.seq]] w fun e w' => e = .returned (.int .i64 (putHE L N x)) ∧ RH w' G p (putH L N x) N ∧ Only (fun b => b = p) w w' := by
  have hpb := h.lt
  have HB0 := Lib.hid (new_below0 w (.cells #[.int .i64 x.id, .int .i64 x.at_, .int .i64 x.seq] 37))
  have H0 := h.below HB0.out
  obtain ⟨A, c, h0, h1, hfz, hm, hr⟩ := H0.head
  have hN : 0 ≤ N ∧ N ≤ 1000 := by obtain ⟨_, _, _, a, b, _⟩ := h; exact ⟨a, b⟩
  obtain ⟨hN0, hN1⟩ := hN
  have HW := Lib.hid H0
  have HH := Lib.hid h
  have HG := Lib.hid hG
  clear hr H0 h hG hfz
  rcases (by omega : x.id < 0 ∨ (0 ≤ x.id ∧ N ≤ x.id) ∨ (0 ≤ x.id ∧ x.id < N)) with hx | ⟨hx, hx2⟩ | ⟨hx, hx2⟩
  · have HE : Hid (putHE L N x = 3) := by show _ = _; unfold putHE; rw [if_neg (by omega)]
    have e1 : decide (x.id < 0) = true := by simpa using hx
    go_enter Try.func11, Try.ntmps11
    go_wp2
    go_quiet (fail)
    go_wp2
    go_ret
    exact ⟨ret_int HE.out.symm, by unfold putH; rw [if_neg (by rw [HE.out]; decide)]; exact HW.out, Only.of_below (below_drewN HB0.out _)⟩
  · have HE : Hid (putHE L N x = 3) := by show _ = _; unfold putHE; rw [if_neg (by omega)]
    have e1 : decide (x.id < 0) = false := by simpa using hx
    have e2 : decide (N ≤ x.id) = true := by simpa using hx2
    go_enter Try.func11, Try.ntmps11
    go_wp2
    go_quiet (fail)
    go_wp2
    go_ret
    exact ⟨ret_int HE.out.symm, by unfold putH; rw [if_neg (by rw [HE.out]; decide)]; exact HW.out, Only.of_below (below_drewN HB0.out _)⟩
  · have e1 : decide (x.id < 0) = false := by simpa using hx
    have e2 : decide (N ≤ x.id) = false := by simpa using hx2
    obtain ⟨gb, hgb⟩ : ∃ gb, getB L x.id = gb := ⟨_, rfl⟩
    have HGB := Lib.hid hgb
    cases gb
    · have HE : Hid (putHE L N x = 0) := by show _ = _; unfold putHE; rw [if_pos ⟨hx, hx2⟩, if_neg (by rw [hgb]; simp)]
      have HP : Hid (putH L N x = insH x L) := by show _ = _; unfold putH; rw [if_pos HE.out]
      have HBX : Hid ((w.alloc (.cells #[.int .i64 x.id, .int .i64 x.at_, .int .i64 x.seq] 37)).heap[w.heap.size]? = some (.cells #[.int .i64 x.id, .int .i64 x.at_, .int .i64 x.seq] 37 (0, 0))) := heap_alloc_new w _
      clear hgb
      go_enter Try.func11, Try.ntmps11
      go_wp2
      go_quiet (fail)
      go_wp2_with fail
      refine (get_any (HW.out.below (below_drewN (Below.refl _ _) _)) x.id).mono ?_
      rintro e w2 ⟨rfl, hb2⟩
      rw [HGB.out]
      generalize getE L x.id = ge
      have HB2 : Hid (Below w.heap.size w (w2.alloc (.cells #[.int .i64 ge.id, .int .i64 ge.at_, .int .i64 ge.seq] 37))) := by
        have h12 := (below_drewN HB0.out _).trans (hb2.mono (by simp))
        exact h12.alloc h12.size _
      have HBx2 : Hid ((w2.alloc (.cells #[.int .i64 ge.id, .int .i64 ge.at_, .int .i64 ge.seq] 37)).heap[w.heap.size]? = some (.cells #[.int .i64 x.id, .int .i64 x.at_, .int .i64 x.seq] 37 (0, 0))) := by
        have h2 : w2.heap[w.heap.size]? = _ := (hb2.block w.heap.size (by simp [World.drewN])).trans HBX.out
        exact (Below.heap_alloc w2 _ _ (lt_of_block h2)).trans h2
      clear hb2 h0 h1 HW HB0 HBX
      simp only [Ent.val]
      go_wp2
      have HWS : Hid ((w2.alloc (.cells #[.int .i64 ge.id, .int .i64 ge.at_, .int .i64 ge.seq] 37)).heap.size = w2.heap.size + 1) := by show _ = _; simp
      generalize w2.alloc (.cells #[.int .i64 ge.id, .int .i64 ge.at_, .int .i64 ge.seq] 37) = wB at *
      have hpB : p < wB.heap.size := Nat.lt_of_lt_of_le hpb HB2.out.size
      have hxB : w.heap.size < wB.heap.size := lt_of_block HBx2.out
      have HHB := Lib.hid (HH.out.below HB2.out)
      obtain ⟨A, c, h0, h1, hfz, hm, hr⟩ := HHB.out.head
      have x0 : wB.cell? ⟨w.heap.size, 0, none⟩ = some (.int .i64 x.id) := (cell_block HBx2.out 0).trans rfl
      have x1 : wB.cell? ⟨w.heap.size, 1, none⟩ = some (.int .i64 x.at_) := (cell_block HBx2.out 1).trans rfl
      have x2 : wB.cell? ⟨w.heap.size, 2, none⟩ = some (.int .i64 x.seq) := (cell_block HBx2.out 2).trans rfl
      have HR := Lib.hid hr
      have HX0 := Lib.hid x0
      have HX1 := Lib.hid x1
      have HX2 := Lib.hid x2
      have HH0 := Lib.hid h0
      have HFZ := Lib.hid hfz
      clear hr x0 x1 x2 h0 h1 hfz
      go_loopw [7, 8, 9] (fun u l t wr => ∃ (i : Nat) (ld : Bool) (out : List Ent), i ≤ L.length ∧ t = .int .i64 i ∧ l = .bool ld ∧ Hid (Laid x (L.take i) ld out) ∧ Hid (OwnL entE wr wB.heap.size 37 u out) ∧ Hid (Below wB.heap.size wB wr)) (fun _ _ t _ => L.length - (intOf t).toNat)
      case atStart => exact ⟨0, false, [], Nat.zero_le _, rfl, rfl, .inl ⟨rfl, by simp, by simp⟩, by rw [← HWS.out]; exact OwnL.lit0 (E := entE) wB _ _ (Nat.le_refl _), (Below.refl _ _).alloc (Nat.le_refl _) _⟩
      case round =>
        obtain ⟨i, ld, out, hi, rfl, rfl, HLd, HO, HB⟩ := hrel
        have k0 := (HB.out.cell (p := ⟨p, 0, none⟩) hpB).trans HH0.out
        have z0 := (HB.out.cell (p := ⟨w.heap.size, 0, none⟩) hxB).trans HX0.out
        have z1 := (HB.out.cell (p := ⟨w.heap.size, 1, none⟩) hxB).trans HX1.out
        have z2 := (HB.out.cell (p := ⟨w.heap.size, 2, none⟩) hxB).trans HX2.out
        have hbs : wB.heap.size ≤ wr.heap.size := HB.out.size
        have hol : out.length ≤ i + 1 := Nat.le_trans HLd.out.len (by have := List.length_take_le i L; omega)
        obtain ⟨Ao, co, rfl⟩ := HO.out.form
        by_cases hlt : i < L.length
        · have hx : L[i]? = some L[i] := List.getElem?_eq_getElem hlt
          generalize L[i] = a at hx
          obtain ⟨b, off, rfl, _, hb, c0, c1, c2⟩ := ent_cells HR.out hx
          have q0 := (HB.out.cell (p := ⟨b, off + i * 3, none⟩) hb).trans c0
          have q1 := (HB.out.cell (p := ⟨b, off + i * 3 + 1, none⟩) hb).trans c1
          have q2 := (HB.out.cell (p := ⟨b, off + i * 3 + 2, none⟩) hb).trans c2
          have HT : Hid (L.take (i + 1) = L.take i ++ [a]) := take_snocE L i a hx
          have ii0 : (0 : Int) ≤ (i : Int) := by omega
          have ii1 : (i : Int) < (L.length : Int) := by omega
          have C0 := Lib.hid c0
          have C1 := Lib.hid c1
          have C2 := Lib.hid c2
          clear hx c0 c1 c2
          have hpr : p < wr.heap.size := by omega
          have hxr : w.heap.size < wr.heap.size := by omega
          have hbr : b < wr.heap.size := by omega
          cases ld
          · obtain ⟨ah, hah⟩ : ∃ ah, ahead x a = ah := ⟨_, rfl⟩
            have HAH := Lib.hid hah
            clear hah
            go_wp2
            go_region_held3 (fun W => W.cell? ⟨p, 0, none⟩ = some (.slice (some ⟨b, off, none⟩) L.length c) ∧ W.cell? ⟨w.heap.size, 0, none⟩ = some (.int .i64 x.id) ∧ W.cell? ⟨w.heap.size, 1, none⟩ = some (.int .i64 x.at_) ∧ W.cell? ⟨w.heap.size, 2, none⟩ = some (.int .i64 x.seq) ∧ W.cell? ⟨b, off + i * 3, none⟩ = some (.int .i64 a.id) ∧ W.cell? ⟨b, off + i * 3 + 1, none⟩ = some (.int .i64 a.at_) ∧ W.cell? ⟨b, off + i * 3 + 2, none⟩ = some (.int .i64 a.seq)) (go_keep)
              ((go_at_call 26; refine (ahead_agg _ _ _ _ _ _ _).mono ?_; rintro e w5 ⟨rfl, hb5⟩; rw [HAH.out]; have s0 := (hb5.cell (p := ⟨p, 0, none⟩) hpr).trans k0; have s1 := (hb5.cell (p := ⟨w.heap.size, 0, none⟩) hxr).trans z0; have s2 := (hb5.cell (p := ⟨w.heap.size, 1, none⟩) hxr).trans z1; have s3 := (hb5.cell (p := ⟨w.heap.size, 2, none⟩) hxr).trans z2; have s4 := (hb5.cell (p := ⟨b, off + i * 3, none⟩) hbr).trans q0; have s5 := (hb5.cell (p := ⟨b, off + i * 3 + 1, none⟩) hbr).trans q1; have s6 := (hb5.cell (p := ⟨b, off + i * 3 + 2, none⟩) hbr).trans q2))
            have HB5 : Hid (Below wB.heap.size wB w5) := HB.out.drew.trans (hb5.mono (by simpa using hbs))
            have HO5 : Hid (OwnL entE w5 wB.heap.size 37 (.slice Ao out.length co) out) := OwnL.of_blocks HO.out fun g _ hg => hb5.block g hg
            have hbs5 : wB.heap.size ≤ w5.heap.size := HB5.out.size
            clear hb5 HB HO k0 z0 z1 z2 q0 q1 q2
            cases ah
            · skip
              go_wp2_with (at_builtin; refine wpList_appL rfl (.tmp 57) (.tmp 65) entElem rfl rfl rfl (HO5.out.alloc _) (RdL.lit1 (E := entE) w5 _ a rfl (fun _ => True) trivial) (by simp; omega) (by simp; omega) ?_)
              intro v8 w8 hown8 hgrow8 hat8
              have hb8 : Below wB.heap.size wB w8 := Below.grown (HB5.out.alloc HB5.out.size _) hgrow8 (by simp; omega) (fun g hg' => (HO5.out.lt g hg').1)
              have HO8 := Lib.hid hown8
              have HB8 := Lib.hid hb8
              clear hown8 hb8 hgrow8 hat8
              go_wp2
              go_roundw
              case rel => exact ⟨i + 1, false, _, by omega, by go_num, rfl, by show Hid _; rw [HT.out]; exact HLd.out.pass HAH.out, HO8, HB8⟩
              case measure => simp [intOf]; omega
            · go_wp2_with (at_builtin; refine wpList_appL rfl (.tmp 53) (.tmp 55) entElem rfl rfl rfl (HO5.out.alloc _) (RdL.lit1 (E := entE) w5 _ x rfl (fun _ => True) trivial) (by simp; omega) (by simp; omega) ?_)
              intro v6 w6 hown6 hgrow6 hat6
              have hb6 : Below wB.heap.size wB w6 := Below.grown (HB5.out.alloc HB5.out.size _) hgrow6 (by simp; omega) (fun g hg' => (HO5.out.lt g hg').1)
              obtain ⟨A6, c6, rfl⟩ := hown6.form
              have HO6 := Lib.hid hown6
              have HB6 := Lib.hid hb6
              have hbs6 : wB.heap.size ≤ w6.heap.size := hb6.size
              clear hown6 hgrow6 hat6 s0 s1 s2 s3 s4 s5 s6
              have k0 := (hb6.cell (p := ⟨p, 0, none⟩) hpB).trans HH0.out
              have z0 := (hb6.cell (p := ⟨w.heap.size, 0, none⟩) hxB).trans HX0.out
              have z1 := (hb6.cell (p := ⟨w.heap.size, 1, none⟩) hxB).trans HX1.out
              have z2 := (hb6.cell (p := ⟨w.heap.size, 2, none⟩) hxB).trans HX2.out
              have q0 := (hb6.cell (p := ⟨b, off + i * 3, none⟩) hb).trans C0.out
              have q1 := (hb6.cell (p := ⟨b, off + i * 3 + 1, none⟩) hb).trans C1.out
              have q2 := (hb6.cell (p := ⟨b, off + i * 3 + 2, none⟩) hb).trans C2.out
              clear hb6
              go_wp2_with (at_builtin; refine wpList_appL rfl (.tmp 57) (.tmp 65) entElem rfl rfl rfl (HO6.out.alloc _) (RdL.lit1 (E := entE) w6 _ a rfl (fun _ => True) trivial) (by simp; omega) (by simp; omega) ?_)
              intro v8 w8 hown8 hgrow8 hat8
              have hb8 : Below wB.heap.size wB w8 := Below.grown (HB6.out.alloc HB6.out.size _) hgrow8 (by simp; omega) (fun g hg' => (HO6.out.lt g (by rw [show (out ++ [x]).length = out.length + 1 from by simp]; exact hg')).1)
              have HO8 := Lib.hid hown8
              have HB8 := Lib.hid hb8
              clear hown8 hb8 hgrow8 hat8
              go_wp2
              go_roundw
              case rel => exact ⟨i + 1, true, _, by omega, by go_num, rfl, by show Laid _ _ _ _; rw [HT.out]; have hlay := HLd.out.lay HAH.out; simpa using hlay, HO8, HB8⟩
              case measure => simp [intOf]; omega
          · go_wp2
            go_quiet (fail)
            have HBd : Hid (Below wB.heap.size wB (wr.drewN nq)) := below_drewN HB.out _
            have HOd : Hid (OwnL entE (wr.drewN nq) wB.heap.size 37 (.slice Ao out.length co) out) := HO.out
            go_wp2_with (at_builtin; refine wpList_appL rfl (.tmp 57) (.tmp 65) entElem rfl rfl rfl (HOd.out.alloc _) (RdL.lit1 (E := entE) (wr.drewN nq) _ a rfl (fun _ => True) trivial) (by simp; omega) (by simp; omega) ?_)
            intro v8 w8 hown8 hgrow8 hat8
            have hb8 : Below wB.heap.size wB w8 := Below.grown (HBd.out.alloc HBd.out.size _) hgrow8 (by simp; omega) (fun g hg' => (HOd.out.lt g hg').1)
            have HO8 := Lib.hid hown8
            have HB8 := Lib.hid hb8
            clear hown8 hb8 hgrow8 hat8
            go_wp2
            go_roundw
            case rel => exact ⟨i + 1, true, _, by omega, by go_num, rfl, by show Hid _; rw [HT.out]; exact HLd.out.on, HO8, HB8⟩
            case measure => simp [intOf]; omega
        · have HTL : Hid (L.take i = L) := List.take_of_length_le (by omega)
          have fz := (HB.out.frozen (p := ⟨p, 0, none⟩) hpB).trans HFZ.out
          have HEnd := Lib.hid HLd.out.end_
          have hol2 : out.length ≤ 100002 := by omega
          cases ld
          · go_wp2_with (at_builtin; refine wpList_appL rfl (.tmp 69) (.tmp 71) entElem rfl rfl rfl (HO.out.alloc _) (RdL.lit1 (E := entE) wr _ x rfl (fun _ => True) trivial) (by simp; omega) (by simp; omega) ?_)
            intro v6 w6 hown6 hgrow6 hat6
            have hb6 : Below wB.heap.size wB w6 := Below.grown (HB.out.alloc HB.out.size _) hgrow6 (by simp; omega) (fun g hg' => (HO.out.lt g hg').1)
            obtain ⟨A6, c6, rfl⟩ := hown6.form
            have HO6 := Lib.hid hown6
            have HB6 := Lib.hid hb6
            have k6 := (hb6.cell (p := ⟨p, 0, none⟩) hpB).trans HH0.out
            have fz6 := (hb6.frozen (p := ⟨p, 0, none⟩) hpB).trans HFZ.out
            clear hown6 hgrow6 hat6 hb6
            go_wp2
            go_ret
            refine ⟨ret_int HE.out.symm, ?_, Only.setCell (F := fun b => b = p) (a := ⟨p, 0, none⟩) (Only.of_below (HB2.out.trans (HB6.out.mono HB2.out.size))) (.inl rfl) _⟩
            rw [HP.out]
            have hE := HEnd.out
            rw [HTL.out] at hE
            rw [← hE]
            have hO := HO6.out
            rw [show (out ++ [x]).length = out.length + 1 from by simp] at hO
            refine RH.set (HHB.out.below HB6.out) (hO.rd (by first | omega | (simp; omega)) fun g hg => ?_)
            have hlt6 := (hO.lt g hg).1
            exact ⟨HG.out g (by have := HB2.out.size; omega), by omega⟩
          · go_wp2
            go_ret
            refine ⟨ret_int HE.out.symm, ?_, Only.setCell (F := fun b => b = p) (a := ⟨p, 0, none⟩) (Only.of_below (HB2.out.trans (HB.out.mono HB2.out.size))) (.inl rfl) _⟩
            rw [HP.out]
            have hE := HEnd.out
            rw [HTL.out] at hE
            rw [← hE]
            have hO := HO.out
            refine RH.set (HHB.out.below HB.out) (hO.rd (by first | omega | (simp; omega)) fun g hg => ?_)
            have hlt6 := (hO.lt g hg).1
            exact ⟨HG.out g (by have := HB2.out.size; omega), by omega⟩
    · have HE : Hid (putHE L N x = 6) := by show _ = _; unfold putHE; rw [if_pos ⟨hx, hx2⟩, if_pos hgb]
      clear hgb
      go_enter Try.func11, Try.ntmps11
      go_wp2
      go_quiet (fail)
      go_wp2_with fail
      refine (get_any (HW.out.below (below_drewN (Below.refl _ _) _)) x.id).mono ?_
      rintro e w2 ⟨rfl, hb2⟩
      rw [HGB.out]
      have HB2 : Hid (Below w.heap.size w w2) := (below_drewN HB0.out _).trans (hb2.mono (by simp))
      clear hb2
      simp only [Ent.val]
      go_wp2
      go_ret
      exact ⟨ret_int HE.out.symm, by unfold putH; rw [if_neg (by rw [HE.out]; decide)]; exact (HH.out.below HB2.out).below (new_below0 w2 _), Only.of_below (HB2.out.alloc HB2.out.size _)⟩

set_option maxHeartbeats 1000000 in
theorem take_any {w : World} {G : Nat → Prop} {p : Nat} {L : List Ent} {N : Int} (h : RH w G p L N) (hG : ∀ b, w.heap.size ≤ b → G b) (now : Int) :
    Calls Try.prog 14 #[.pointer (some ⟨p, 0, none⟩), .int .i64 now] w fun e w' => e = .returned (.tuple #[(takeE L now).val, .bool (takeB L now)]) ∧ RH w' G p (takeH L now) N ∧ Only (fun b => b = p) w w' := by
  have HB0 := Lib.hid (new_below0 w (.cells #[.int .i64 0, .int .i64 0, .int .i64 0] 37))
  have H0 := h.below HB0.out
  obtain ⟨A, c, h0, h1, _, hm, hr⟩ := H0.head
  have HH := Lib.hid h
  have HH0 := Lib.hid H0
  have HG := Lib.hid hG
  clear h H0 hG
  cases L with
  | nil =>
    go_enter Try.func14, Try.ntmps14
    go_wp2
    exact bodyPost_ret (v := .tuple #[zeroEnt.val, .bool false]) (by simp [results, Try.results14, go_sem, Ent.val, zeroEnt]) rfl ⟨rfl, HH0.out, Only.of_below HB0.out⟩
  | cons a L =>
    obtain ⟨b, off, rfl, _, hb, c0, c1, c2⟩ := ent_cells hr (i := 0) (a := a) rfl
    simp only [Nat.zero_mul, Nat.add_zero] at c0 c1 c2
    clear hr
    generalize hll : (a :: L).length = ll at *
    have hpos : 0 < ll := by rw [← hll]; simp
    have e1 : ((ll : Int) == 0) = false := by simp; omega
    clear hll
    by_cases hat : now < a.at_
    · have HT : Hid (takeB (a :: L) now = false) := by show _ = _; unfold takeB; simp; omega
      go_enter Try.func14, Try.ntmps14
      go_wp2
      exact bodyPost_ret (v := .tuple #[zeroEnt.val, .bool false]) (by simp [results, Try.results14, go_sem, Ent.val, zeroEnt]) rfl ⟨by unfold takeE; rw [HT.out]; rfl, by unfold takeH; rw [HT.out]; exact HH0.out, Only.of_below HB0.out⟩
    · have HT : Hid (takeB (a :: L) now = true) := by show _ = _; unfold takeB; simp; omega
      have hat' : a.at_ ≤ now := by omega
      clear hat
      have HB1 : Hid (Below w.heap.size w ((w.alloc (.cells #[.int .i64 0, .int .i64 0, .int .i64 0] 37)).alloc (.cells #[.int .i64 a.id, .int .i64 a.at_, .int .i64 a.seq] 37))) := HB0.out.alloc (by simp) _
      have HH1 : Hid (RH ((w.alloc (.cells #[.int .i64 0, .int .i64 0, .int .i64 0] 37)).alloc (.cells #[.int .i64 a.id, .int .i64 a.at_, .int .i64 a.seq] 37)) (fun b => G b ∧ b ≠ w.heap.size) p (a :: L) N) := (HH.out.mono (G' := fun b => G b ∧ b ≠ w.heap.size) fun k hk hg => ⟨hg, by omega⟩).below HB1.out
      have HG1 : Hid (∀ b, ((w.alloc (.cells #[.int .i64 0, .int .i64 0, .int .i64 0] 37)).alloc (.cells #[.int .i64 a.id, .int .i64 a.at_, .int .i64 a.seq] 37)).heap.size ≤ b → G b ∧ b ≠ w.heap.size) := fun b hb => ⟨HG.out b (Nat.le_trans HB1.out.size hb), by simp at hb; omega⟩
      have hpb := HH.out.lt
      go_enter Try.func14, Try.ntmps14
      go_wp2_with fail
      refine (drop_any HH1.out HG1.out a.id).mono ?_
      rintro e w3 ⟨rfl, hR3, hon⟩
      have x1b : ((w.alloc (.cells #[.int .i64 0, .int .i64 0, .int .i64 0] 37)).alloc (.cells #[.int .i64 a.id, .int .i64 a.at_, .int .i64 a.seq] 37)).heap[w.heap.size + 1]? = some (.cells #[.int .i64 a.id, .int .i64 a.at_, .int .i64 a.seq] 37 (0, 0)) := by
        have := heap_alloc_new (w.alloc (.cells #[.int .i64 0, .int .i64 0, .int .i64 0] 37)) (.cells #[.int .i64 a.id, .int .i64 a.at_, .int .i64 a.seq] 37)
        simpa using this
      have x0b : ((w.alloc (.cells #[.int .i64 0, .int .i64 0, .int .i64 0] 37)).alloc (.cells #[.int .i64 a.id, .int .i64 a.at_, .int .i64 a.seq] 37)).heap[w.heap.size]? = some (.cells #[.int .i64 0, .int .i64 0, .int .i64 0] 37 (0, 0)) := by
        rw [Below.heap_alloc _ _ _ (by simp)]
        exact heap_alloc_new w _
      have y1 := (hon.block (w.heap.size + 1) (by simp) (by omega)).trans x1b
      have y0 := (hon.block w.heap.size (by simp; omega) (by omega)).trans x0b
      have a0 : w3.cell? ⟨w.heap.size + 1, 0, none⟩ = some (.int .i64 a.id) := (cell_block y1 0).trans rfl
      have a1 : w3.cell? ⟨w.heap.size + 1, 1, none⟩ = some (.int .i64 a.at_) := (cell_block y1 1).trans rfl
      have a2 : w3.cell? ⟨w.heap.size + 1, 2, none⟩ = some (.int .i64 a.seq) := (cell_block y1 2).trans rfl
      have b0 : w3.cell? ⟨w.heap.size, 0, none⟩ = some (.int .i64 0) := (cell_block y0 0).trans rfl
      have b1 : w3.cell? ⟨w.heap.size, 1, none⟩ = some (.int .i64 0) := (cell_block y0 1).trans rfl
      have b2 : w3.cell? ⟨w.heap.size, 2, none⟩ = some (.int .i64 0) := (cell_block y0 2).trans rfl
      have f0 := frozen_block y0 0
      have f1 := frozen_block y0 1
      have f2 := frozen_block y0 2
      have HR3 := Lib.hid hR3
      have HON := Lib.hid (Only.trans (Only.of_below (F := fun b => b = p) HB1.out) hon fun _ _ h => h)
      have HY := Lib.hid (set3 y0 (.int .i64 a.id) (.int .i64 a.at_) (.int .i64 a.seq))
      clear hR3 hon x1b x0b y1 y0
      go_wp2
      have r0 := (cell_block HY.out 0).trans rfl
      have r1 := (cell_block HY.out 1).trans rfl
      have r2 := (cell_block HY.out 2).trans rfl
      refine bodyPost_ret (v := .tuple #[a.val, .bool true]) (by simp [results, Try.results14, go_sem, Ent.val, r0, r1, r2]) rfl ⟨by unfold takeE; rw [HT.out]; rfl, ?_, Only.set3 HON.out (Nat.le_refl _) _ _ _⟩
      unfold takeH
      rw [HT.out, if_pos rfl]
      exact (HR3.out.keep (by rw [set3_size]; exact Nat.le_refl _) fun k _ hk => set3_far hk.2 _ _ _).mono fun k _ hk => hk.1

theorem new_no (n : Int) (w : World) (h : n < 1 ∨ 1000 < n) :
    Calls Try.prog 9 #[.int .i64 n] w fun e w' => e = .returned (.tuple #[.pointer none, .int .i64 1]) ∧ w = w' := by
  rcases (by omega : n < 1 ∨ (1 ≤ n ∧ 1000 < n)) with h1 | ⟨h1, h2⟩
  all_goals
    clear h
    go_enter Try.func9, Try.ntmps9
    go_wp2
    go_ret2
    exact ⟨rfl, rfl⟩
theorem new_yes (n : Int) (w : World) (h1 : 1 ≤ n) (h2 : n ≤ 1000) :
    Calls Try.prog 9 #[.int .i64 n] w fun e w' => ∃ p, e = .returned (.tuple #[.pointer (some ⟨p, 0, none⟩), .int .i64 0]) ∧ RH w' (fun b => w.heap.size ≤ b) p [] n ∧ Below w.heap.size w w' := by
  go_enter Try.func9, Try.ntmps9
  go_wp2
  go_ret2
  exact ⟨w.heap.size, rfl, ⟨.slice none 0 0, heap_alloc_new w _, Nat.le_refl _, by omega, by omega, RdL.nil _ _ _ _⟩, (Below.refl _ _).alloc (Nat.le_refl _) _⟩

set_option maxHeartbeats 1000000 in
theorem move_any {w : World} {G : Nat → Prop} {p : Nat} {L : List Ent} {N : Int} (h : RH w G p L N) (hG : ∀ b, w.heap.size ≤ b → G b) (hlen : L.length ≤ 100000) (id t : Int) :
    Calls Try.prog 13 #[.pointer (some ⟨p, 0, none⟩), .int .i64 id, .int .i64 t] w fun e w' => e = .returned (.bool (getB L id)) ∧ RH w' G p (moveH L N id t) N ∧ Only (fun b => b = p) w w' := by
  have hpb := h.lt
  have HH := Lib.hid h
  have HG := Lib.hid hG
  clear h hG
  obtain ⟨gb, hgb⟩ : ∃ gb, getB L id = gb := ⟨_, rfl⟩
  have HGB := Lib.hid hgb
  cases gb
  · have HM : Hid (moveH L N id t = L) := by show _ = _; unfold moveH; rw [if_neg (by rw [hgb]; simp)]
    clear hgb
    go_enter Try.func13, Try.ntmps13
    go_wp2_with fail
    refine (get_any HH.out id).mono ?_
    rintro e w2 ⟨rfl, hb2⟩
    have HB2 := Lib.hid hb2
    rw [HGB.out]
    clear hb2
    simp only [Ent.val]
    go_wp2
    go_ret
    exact ⟨ret_bool HGB.out.symm, by rw [HM.out]; exact (HH.out.below HB2.out).below (new_below0 w2 _), Only.of_below (HB2.out.alloc HB2.out.size _)⟩
  · have HM : Hid (moveH L N id t = putH (dropH L id) N { getE L id with at_ := t }) := by show _ = _; unfold moveH; rw [if_pos hgb]
    have hdl : (dropH L id).length ≤ 100000 := Nat.le_trans (List.length_filter_le _ _) hlen
    clear hgb
    go_enter Try.func13, Try.ntmps13
    go_wp2_with fail
    refine (get_any HH.out id).mono ?_
    rintro e w2 ⟨rfl, hb2⟩
    rw [HGB.out]
    generalize getE L id = ge at *
    have HB3 : Hid (Below w.heap.size w (w2.alloc (.cells #[.int .i64 ge.id, .int .i64 ge.at_, .int .i64 ge.seq] 37))) := hb2.alloc hb2.size _
    have hw2 : w.heap.size ≤ w2.heap.size := hb2.size
    have HX3 : Hid ((w2.alloc (.cells #[.int .i64 ge.id, .int .i64 ge.at_, .int .i64 ge.seq] 37)).heap[w2.heap.size]? = some (.cells #[.int .i64 ge.id, .int .i64 ge.at_, .int .i64 ge.seq] 37 (0, 0))) := heap_alloc_new w2 _
    have HS3 : Hid ((w2.alloc (.cells #[.int .i64 ge.id, .int .i64 ge.at_, .int .i64 ge.seq] 37)).heap.size = w2.heap.size + 1) := by show _ = _; simp
    clear hb2
    simp only [Ent.val]
    go_wp2_with fail
    generalize w2.alloc (.cells #[.int .i64 ge.id, .int .i64 ge.at_, .int .i64 ge.seq] 37) = w3 at *
    generalize w2.heap.size = g at *
    have HH3 : Hid (RH w3 (fun b => G b ∧ b ≠ g) p L N) := (HH.out.mono (G' := fun b => G b ∧ b ≠ g) fun k hk hg => ⟨hg, by omega⟩).below HB3.out
    refine (drop_any HH3.out (fun b hb => ⟨HG.out b (Nat.le_trans HB3.out.size hb), by rw [HS3.out] at hb; omega⟩) id).mono ?_
    rintro e w4 ⟨rfl, hR4, hon4⟩
    have y0 := (hon4.block g (by rw [HS3.out]; omega) (by omega)).trans HX3.out
    have a0 : w4.cell? ⟨g, 0, none⟩ = some (.int .i64 ge.id) := (cell_block y0 0).trans rfl
    have a1 : w4.cell? ⟨g, 1, none⟩ = some (.int .i64 ge.at_) := (cell_block y0 1).trans rfl
    have a2 : w4.cell? ⟨g, 2, none⟩ = some (.int .i64 ge.seq) := (cell_block y0 2).trans rfl
    have f1 := frozen_block y0 1
    have HY := Lib.hid y0
    have HR4 := Lib.hid hR4
    have HN4 := Lib.hid hon4
    clear hR4 hon4 y0
    go_wp2_with fail
    have hset : (w4.setCell ⟨g, 1, none⟩ (.int .i64 t)).heap.size = w4.heap.size := by simp [World.setCell]
    have HH5 : Hid (RH (w4.setCell ⟨g, 1, none⟩ (.int .i64 t)) (fun b => G b ∧ b ≠ g) p (dropH L id) N) := HR4.out.keep (by rw [hset]; exact Nat.le_refl _) fun k _ hk => Below.heap_setCell _ _ _ _ hk.2
    have HS5 := Lib.hid hset
    clear hset
    have hs4 : w3.heap.size ≤ w4.heap.size := HN4.out.size
    refine (put_any HH5.out (fun b hb => ⟨HG.out b (by rw [HS5.out] at hb; have := HB3.out.size; omega), by rw [HS5.out] at hb; have := HS3.out; omega⟩) hdl { ge with at_ := t }).mono ?_
    rintro e w6 ⟨rfl, hR6, hon6⟩
    have HR6 := Lib.hid hR6
    have HN6 : Hid (Only (fun b => b = p) w w6) := by
      refine Only.trans (Only.setCell (a := ⟨g, 1, none⟩) (Only.trans (Only.of_below (F := fun b => b = p) HB3.out) HN4.out fun _ _ h => h) (.inr hw2) _) hon6 fun _ _ h => h
    clear hR6 hon6
    go_wp2
    go_ret
    exact ⟨ret_bool HGB.out.symm, by rw [HM.out]; exact HR6.out.mono fun k _ hk => hk.1, HN6.out⟩

theorem entHeld : Try.prog.stoodInHeld 37 = false := by kernel_rfl
theorem entGuard : Try.prog.eqGuardType Try.prog.depth 37 = false := by kernel_rfl
/-- '!=' of two entries. -/
theorem run_neq_ent (W : World) (xi xa xz yi ya yz : Int) :
    (binOp .neq 37 (.agg #[.int .i64 xi, .int .i64 xa, .int .i64 xz]) (.agg #[.int .i64 yi, .int .i64 ya, .int .i64 yz])).run Try.prog W = .ok (.bool (!decide ((⟨xi, xa, xz⟩ : Ent) = ⟨yi, ya, yz⟩))) W := by
  have hut : Try.prog.underlying 37 = some (.struct (Try.prog.fieldsOf 37)) := by simp only [Program.fieldsOf, Try.underlying37]
  rw [run_neq_struct, run_equalIn_agg _ 9999 _ _ _ hut entHeld]
  simp only [Program.fieldsOf, Try.underlying37]
  have h2 := Try.underlying2
  have h3 := Try.underlying3
  simp [go_sem, h2, h3]
  by_cases e1 : xi = yi <;> by_cases e2 : xa = ya <;> by_cases e3 : xz = yz <;> simp [e1, e2, e3]

theorem same_any {w : World} {G G' : Nat → Prop} {va vb : Value} {xs ys : List Ent} (ha : RdL entE w G va xs) (hb : RdL entE w G' vb ys) :
    Calls Try.prog 18 #[va, vb] w fun e w' => e = .returned (.bool (decide (xs = ys))) ∧ ∃ n, w' = w.drewN n := by
  have hma := ha.le
  obtain ⟨A, ca, rfl⟩ := ha.form
  obtain ⟨B, cb, rfl⟩ := hb.form
  by_cases hlen : xs.length = ys.length
  · have HA := Lib.hid ha
    have HB := Lib.hid hb
    clear ha hb
    obtain ⟨m, hm⟩ : ∃ m, xs.length = m := ⟨_, rfl⟩
    have hm2 : ys.length = m := by omega
    have HM := Lib.hid hm
    have HM2 := Lib.hid hm2
    rw [hm] at hma HA ⊢
    rw [hm2] at HB ⊢
    clear hm hm2 hlen
    go_enter Try.func18, Try.ntmps18
    go_wp2
    go_loopw [5] (fun t W => ∃ k n : Nat, k ≤ m ∧ t = .int .i64 k ∧ Hid (xs.take k = ys.take k) ∧ W = w.drewN n) (fun t _ => m - (intOf t).toNat)
    case atStart => exact ⟨0, 0, Nat.zero_le _, rfl, rfl, rfl⟩
    case round =>
      obtain ⟨k, n, hk, rfl, heq, rfl⟩ := hrel
      by_cases hlt : k < m
      · have hx : xs[k]? = some (xs[k]'(by have := HM.out; omega)) := List.getElem?_eq_getElem _
        have hy : ys[k]? = some (ys[k]'(by have := HM2.out; omega)) := List.getElem?_eq_getElem _
        generalize xs[k]'_ = x at hx
        generalize ys[k]'_ = y at hy
        obtain ⟨b, off, rfl, _, _, c0, c1, c2⟩ := ent_cells HA.out hx
        obtain ⟨b', off', rfl, _, _, d0, d1, d2⟩ := ent_cells HB.out hy
        have HX := Lib.hid hx
        have HY := Lib.hid hy
        clear hx hy
        obtain ⟨xi, xa, xz⟩ := x
        obtain ⟨yi, ya, yz⟩ := y
        simp only at c0 c1 c2 d0 d1 d2
        have ii0 : (0 : Int) ≤ (k : Int) := by omega
        have ii1 : (k : Int) < (m : Int) := by omega
        have hgu := entGuard
        by_cases hxy : (⟨xi, xa, xz⟩ : Ent) = ⟨yi, ya, yz⟩
        · have hneq := fun W => run_neq_ent W xi xa xz yi ya yz
          rw [decide_eq_true hxy] at hneq
          have HE : Hid (xs.take (k + 1) = ys.take (k + 1)) := by
            show _ = _
            rw [take_snocE xs k _ HX.out, take_snocE ys k _ HY.out, heq.out, hxy]
          clear hxy
          go_wp2
          go_quiet (fail)
          go_wp2
          go_roundw
          case rel => exact ⟨k + 1, _, by omega, by go_num, HE, rfl⟩
          case measure => simp [intOf]; omega
        · have hneq := fun W => run_neq_ent W xi xa xz yi ya yz
          rw [decide_eq_false hxy] at hneq
          have HE : Hid (xs ≠ ys) := by
            show ¬ _
            rintro rfl
            rw [HX.out] at HY
            exact hxy (Option.some.inj HY.out)
          clear hxy
          go_wp2
          go_quiet (fail)
          go_wp2
          go_ret
          exact ⟨ret_bool (by symm; exact decide_eq_false HE.out), _, World.drewN_drewN _ _ _⟩
      · go_wp2
        go_ret
        exact ⟨ret_bool (by symm; apply decide_eq_true; have := heq.out; rwa [List.take_of_length_le (by rw [HM.out]; omega), List.take_of_length_le (by rw [HM2.out]; omega)] at this), _, rfl⟩
  · have hne : ((xs.length : Int) != (ys.length : Int)) = true := by rw [bne_iff_ne]; omega
    clear ha hb
    go_enter Try.func18, Try.ntmps18
    go_wp2
    go_ret
    exact ⟨ret_bool (by symm; apply decide_eq_false; intro e; exact hlen (by rw [e])), 0, rfl⟩
end Go.Proofs.Ytilfjhpellmfoaa.RefHeap
