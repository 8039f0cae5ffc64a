/-
  Package heap, as it landed, as a list of its things in order: a contract for each function that a caller may call. Condition: the pointer is as 'HeapA' says.
-/
import Derived.Test.YtpoolfnfboohjaaHeapL
namespace Go.Proofs.Ytpoolfnfboohjaa.HeapC
open Go.ChangeShapes Go.WideShapes Go.ChangeAt Go.RowKit Mem RefHeap HeapI HeapP

theorem ins_perm (x : Ent) : ∀ L : List Ent, (insH x L).Perm (x :: L)
  | [] => .refl _
  | y :: l => by
    rw [insH]
    split
    · exact .refl _
    · exact ((ins_perm x l).cons y).trans (.swap ..)
theorem ins_order {x : Ent} : ∀ {L : List Ent}, L.Pairwise (fun a b => RefHeap.ahead a b = true) → (∀ y ∈ L, y.id ≠ x.id) → (insH x L).Pairwise (fun a b => RefHeap.ahead a b = true)
  | [], _, _ => by simp [insH]
  | y :: l, h, hx => by
    rw [List.pairwise_cons] at h
    rw [insH]
    split
    · rename_i hxy
      refine List.pairwise_cons.2 ⟨fun z hz => ?_, List.pairwise_cons.2 h⟩
      rcases List.mem_cons.1 hz with rfl | hz
      · exact hxy
      · exact ahead_trans hxy (h.1 z hz)
    · rename_i hxy
      refine List.pairwise_cons.2 ⟨fun z hz => ?_, ins_order h.2 fun z hz => hx z (by simp [hz])⟩
      rcases List.mem_cons.1 ((ins_perm x l).mem_iff.1 hz) with rfl | hz
      · exact of_no (by simpa using hxy) fun e => hx y (by simp) e.symm
      · exact h.1 z hz
theorem get_some {L : List Ent} {id : Int} (h : getB L id = true) : ∃ e, e ∈ L ∧ e.id = id ∧ getE L id = e := by
  unfold getB at h
  obtain ⟨e, he⟩ := Option.isSome_iff_exists.1 h
  exact ⟨e, List.mem_of_find?_eq_some he, by simpa using List.find?_some he, by unfold getE; rw [he]; rfl⟩
theorem get_none {L : List Ent} {id : Int} (h : getB L id = false) : (∀ e ∈ L, e.id ≠ id) ∧ getE L id = zeroEnt := by
  unfold getB at h
  have hn : L.find? (fun y => y.id == id) = none := by simpa using h
  refine ⟨fun e he => by simpa using List.find?_eq_none.1 hn e he, by unfold getE; rw [hn]; rfl⟩
theorem drop_same {L : List Ent} {id : Int} (h : ∀ e ∈ L, e.id ≠ id) : dropH L id = L := by
  unfold dropH
  exact List.filter_eq_self.2 fun e he => by simpa using h e he
theorem drop_perm {y : Ent} : ∀ {L : List Ent}, (L.map (·.id)).Nodup → y ∈ L → (y :: dropH L y.id).Perm L
  | [], _, h => by cases h
  | z :: l, hn, h => by
    rw [List.map_cons, List.nodup_cons] at hn
    rcases List.mem_cons.1 h with rfl | h
    · have : dropH (y :: l) y.id = l := by
        unfold dropH
        rw [List.filter_cons_of_neg (by simp)]
        exact drop_same fun e he e' => hn.1 (by rw [← e']; exact List.mem_map_of_mem he)
      rw [this]
    · have hne : z.id ≠ y.id := fun e => hn.1 (by rw [e]; exact List.mem_map_of_mem h)
      have : dropH (z :: l) y.id = z :: dropH l y.id := by unfold dropH; rw [List.filter_cons_of_pos (by simpa using hne)]
      rw [this]
      exact (List.Perm.swap ..).trans ((drop_perm hn.2 h).cons z)
theorem ok_good {L : List Ent} {N : Int} (h : Ok L N) : HeapP.Good L N := ⟨h.n0, h.n1, h.ids, h.ins, h.once⟩
theorem ok_of {L : List Ent} {N : Int} (h : HeapP.Good L N) (ho : L.Pairwise (fun a b => RefHeap.ahead a b = true)) : Ok L N := ⟨h.n0, h.n1, h.ids, h.ins, h.once, ho, h.len⟩
theorem ok_drop {L : List Ent} {N : Int} (h : Ok L N) (id : Int) : Ok (dropH L id) N :=
  ⟨h.n0, h.n1, fun x hx => h.ids x (List.mem_filter.1 hx).1, fun x hx => h.ins x (List.mem_filter.1 hx).1, h.once.sublist (List.filter_sublist.map _), h.order.sublist List.filter_sublist, Nat.le_trans (List.length_filter_le _ _) h.len⟩

/-- Who is first in rows of four that are held as they must be. -/
theorem top_first {R : List Ent} (h : Held4 R) {a : Ent} (h0 : R[0]? = some a) : ∀ (n i : Nat) (e : Ent), i ≤ n → R[i]? = some e → RefHeap.ahead e a = false
  | _, 0, e, _, he => by rw [h0] at he; injection he with he; subst he; exact no_self _
  | 0, i + 1, _, hi, _ => by omega
  | n + 1, i + 1, e, hi, he => by
    have hil : i + 1 < R.length := (List.getElem?_eq_some_iff.1 he).1
    have hl : (i + 1 - 1) / 4 < R.length := by omega
    have ho : R[(i + 1 - 1) / 4]? = some R[(i + 1 - 1) / 4] := List.getElem?_eq_getElem hl
    exact no_trans (h (i + 1) e _ (by omega) he ho) (top_first h h0 n ((i + 1 - 1) / 4) _ (by omega) ho)
theorem head_is {R L : List Ent} (h : Held4 R) (hp : R.Perm L) (hL : L.Pairwise (fun a b => RefHeap.ahead a b = true)) {a : Ent} (h0 : R[0]? = some a) : firstE L = a ∧ L.isEmpty = false := by
  cases L with
  | nil => have hr := hp.eq_nil; subst hr; simp at h0
  | cons b l =>
    refine ⟨?_, rfl⟩
    show b = a
    have hb : b ∈ R := hp.mem_iff.2 (by simp)
    obtain ⟨i, hi, he⟩ := List.getElem_of_mem hb
    have h1 := top_first h h0 i i b (Nat.le_refl _) (by rw [List.getElem?_eq_getElem hi, he])
    have ha : a ∈ b :: l := hp.mem_iff.1 (List.mem_of_getElem? h0)
    rcases List.mem_cons.1 ha with ha | ha
    · exact ha.symm
    · have := (List.pairwise_cons.1 hL).1 a ha
      rw [h1] at this
      cases this

/-- A heap behind a pointer, as the list of its things, in order. -/
def HeapA (w : World) (v : Value) (F : Nat → Prop) (L : List Ent) (N : Int) : Prop :=
  ∃ g q u R p, v = .pointer (some ⟨g, 0, none⟩) ∧ F = foot g q u ∧ HB w g q u R p ∧ Full R p L N ∧ Ok L N

section
variable {w w' : World} {v : Value} {F : Nat → Prop} {L : List Ent} {N : Int}
theorem HeapA.ok (h : HeapA w v F L N) : Ok L N := by obtain ⟨_, _, _, _, _, _, _, _, _, h⟩ := h; exact h
theorem HeapA.keep (h : HeapA w v F L N) (hk : ∀ k, k < w.heap.size → F k → w'.heap[k]? = w.heap[k]?) : HeapA w' v F L N := by
  obtain ⟨g, q, u, R, p, e, rfl, h, hf, ho⟩ := h
  exact ⟨g, q, u, R, p, e, rfl, h.keep hk, hf, ho⟩
theorem HeapA.below (h : HeapA w v F L N) (hb : Below w.heap.size w w') : HeapA w' v F L N := h.keep fun k hk _ => hb.block k hk
theorem HeapA.lt (h : HeapA w v F L N) : ∀ k, F k → k < w.heap.size := by
  obtain ⟨g, q, u, R, p, e, rfl, h, hf, ho⟩ := h
  exact h.lt
theorem HeapA.ptr (h : HeapA w v F L N) : ∃ a, v = .pointer (some a) := by
  obtain ⟨g, q, u, R, p, e, _⟩ := h
  exact ⟨_, e⟩
theorem after_same (h : HeapA w v F L N) (hb : Below w.heap.size w w') : After HeapA w w' v F L N := ⟨F, h.below hb, Only.of_below hb, fun _ h => .inl h⟩
theorem after_trans {w1 w2 : World} {L2 : List Ent} {F1 : Nat → Prop} (h1 : Only F w w1) (hF : ∀ k, F1 k → F k ∨ w.heap.size ≤ k) (h2 : After HeapA w1 w2 v F1 L2 N) : After HeapA w w2 v F L2 N := by
  obtain ⟨F2, a2, o2, f2⟩ := h2
  refine ⟨F2, a2, h1.trans o2 fun b hb h => (hF b h).resolve_right (by omega), fun k hk => ?_⟩
  rcases f2 k hk with h | h
  · exact hF k h
  · exact .inr (Nat.le_trans h1.size h)
theorem after_done {g q : Nat} {u : Value} {M : List Ent} (h : PutDone w w' g q u M N) (ho : M.Pairwise (fun a b => RefHeap.ahead a b = true)) : After HeapA w w' (.pointer (some ⟨g, 0, none⟩)) (foot g q u) M N := by
  obtain ⟨u', R, p, h1, h2, h3, h4⟩ := h
  exact ⟨_, ⟨g, q, u', R, p, rfl, rfl, h1, h2, ok_of h2.good ho⟩, h3, h4⟩

theorem put_a (h : HeapA w v F L N) (x : Ent) (hx : EntIn x) : Calls Try.prog 45 #[v, x.val] w fun e w' => e = .returned (.int .i64 (putHE L N x)) ∧ After HeapA w w' v F (putH L N x) N := by
  have h' := h
  obtain ⟨g, q, u, R, p, rfl, rfl, hb, hf, ho⟩ := h
  have hp : p.length ≤ 100000 := by have := Full.plen hf; omega
  by_cases hr : 0 ≤ x.id ∧ x.id < N
  · have hr' : 0 ≤ x.id ∧ x.id < p.length := by have := hf.pn; omega
    rcases hg : getB L x.id with _ | _
    · have hn := (get_none hg).1
      have hE : putHE L N x = 0 := by unfold putHE; rw [if_pos hr, hg]; rfl
      have hH : putH L N x = insH x L := by unfold putH; rw [if_pos hE]
      rw [hE, hH]
      refine (put_yes hb hf x hr.1 hr.2 hx hn (ins_perm x L)).mono ?_
      rintro e w' ⟨rfl, hd⟩
      exact ⟨rfl, after_done hd (ins_order ho.order hn)⟩
    · obtain ⟨e, he, hi, _⟩ := get_some hg
      have hE : putHE L N x = 6 := by unfold putHE; rw [if_pos hr, hg]; rfl
      have hH : putH L N x = L := by unfold putH; rw [if_neg (by rw [hE]; decide)]
      rw [hE, hH]
      obtain ⟨j, hj, hje⟩ := List.getElem_of_mem (hf.perm.mem_iff.2 he)
      have hpl := place_in hf (j := j) (e := e) (by rw [List.getElem?_eq_getElem hj, hje])
      rw [hi] at hpl
      refine (put_waits hb hp x hr' j hpl).mono ?_
      rintro e w' ⟨rfl, hd⟩
      exact ⟨rfl, after_same h' hd⟩
  · have hE : putHE L N x = 3 := by unfold putHE; rw [if_neg hr]
    have hH : putH L N x = L := by unfold putH; rw [if_neg (by rw [hE]; decide)]
    rw [hE, hH]
    refine (put_name hb hp x (by have := hf.pn; omega)).mono ?_
    rintro e w' ⟨rfl, hd⟩
    exact ⟨rfl, after_same h' hd⟩
theorem drop_a (h : HeapA w v F L N) (id : Int) : Calls Try.prog 38 #[v, .int .i64 id] w fun e w' => e = .returned (.bool (getB L id)) ∧ After HeapA w w' v F (dropH L id) N := by
  have h' := h
  obtain ⟨g, q, u, R, p, rfl, rfl, hb, hf, ho⟩ := h
  have hp : p.length ≤ 100000 := by have := Full.plen hf; omega
  rcases hg : getB L id with _ | _
  · have hn := (get_none hg).1
    rw [drop_same hn]
    refine (drop_no hb hp id (place_no hf hn)).mono ?_
    rintro e w' ⟨rfl, rfl⟩
    exact ⟨rfl, after_same h' (Below.refl _ _)⟩
  · obtain ⟨e, he, rfl, _⟩ := get_some hg
    obtain ⟨j, hj, hje⟩ := List.getElem_of_mem (hf.perm.mem_iff.2 he)
    refine (drop_yes hb hf e j (by rw [List.getElem?_eq_getElem hj, hje]) (drop_perm ho.once he)).mono ?_
    rintro e w' ⟨rfl, hd⟩
    exact ⟨rfl, after_done hd (ok_drop ho _).order⟩
theorem get_a (h : HeapA w v F L N) (id : Int) : Calls Try.prog 34 #[v, .int .i64 id] w fun e w' => e = .returned (.tuple #[(getE L id).val, .bool (getB L id)]) ∧ Below w.heap.size w w' := by
  obtain ⟨g, q, u, R, p, rfl, rfl, hb, hf, ho⟩ := h
  have hp : p.length ≤ 100000 := by have := Full.plen hf; omega
  rcases hg : getB L id with _ | _
  · have hn := get_none hg
    rw [hn.2]
    exact get_no hb hp id (place_no hf hn.1)
  · obtain ⟨e, he, rfl, h2⟩ := get_some hg
    rw [h2]
    obtain ⟨j, hj, hje⟩ := List.getElem_of_mem (hf.perm.mem_iff.2 he)
    have hx : R[j]? = some e := by rw [List.getElem?_eq_getElem hj, hje]
    exact get_yes hb hp (by have := hf.len; omega) e.id j e (place_in hf hx) hx
theorem first_a (h : HeapA w v F L N) : Calls Try.prog 31 #[v] w fun e w' => e = .returned (.tuple #[(firstE L).val, .bool (!L.isEmpty)]) ∧ Below w.heap.size w w' := by
  obtain ⟨g, q, u, R, p, rfl, rfl, hb, hf, ho⟩ := h
  cases R with
  | nil =>
    have : L = [] := hf.perm.nil_eq.symm
    subst this
    exact first_no hb rfl
  | cons a R =>
    have hh := head_is hf.held hf.perm ho.order (a := a) rfl
    rw [hh.1, hh.2]
    exact first_yes hb (by have := hf.len; omega) a rfl
theorem rows_a (h : HeapA w v F L N) : Calls Try.prog 39 #[v] w fun e w' => ∃ u R, e = .returned u ∧ RdL entE w' (fun k => ¬ F k) u R ∧ R.Perm L ∧ Held4 R ∧ Below w.heap.size w w' := by
  obtain ⟨g, q, u, R, p, rfl, rfl, hb, hf, ho⟩ := h
  refine (rows_c hb (by have := hf.len; omega)).mono ?_
  rintro e w' ⟨z, rfl, ho', hbl⟩
  exact ⟨z, R, rfl, ho'.rd (by have := hf.len; omega) fun k hk hF => by have := (ho'.lt k hk).1; have := hb.lt k hF; omega, hf.perm, hf.held, hbl⟩
theorem all_a (h : HeapA w v F L N) : Calls Try.prog 32 #[v] w fun e w' => ∃ u, e = .returned u ∧ RdL entE w' (fun k => ¬ F k) u L ∧ Below w.heap.size w w' := by
  obtain ⟨g, q, u, R, p, rfl, rfl, hb, hf, ho⟩ := h
  have hR : R.length ≤ 100000 := by have := hf.len; omega
  have HB := Lib.hid hb
  have HF := Lib.hid hf
  have HO := Lib.hid ho
  clear hb hf ho
  go_enter Try.func32, Try.ntmps32
  go_wp2_with fail
  refine (rows_c HB.out hR).mono ?_
  rintro e w1 ⟨z, rfl, hz, hbl⟩
  obtain ⟨A, c, rfl⟩ := hz.form
  have HZ := Lib.hid hz
  have HBL := Lib.hid hbl
  clear hz hbl
  go_wp2_with fail
  refine (sort_c HZ.out hR HF.out.perm HO.out.order).mono ?_
  rintro e w2 ⟨rfl, hr, hon⟩
  have HR := Lib.hid hr
  have HN := Lib.hid hon
  clear hr hon
  go_wp2
  go_ret
  have hk : ∀ k, (Value.slice A R.length c).ownBlock = some k → w.heap.size ≤ k := fun k hk => (HZ.out.lt k hk).1
  refine ⟨_, rfl, HR.out.mono fun k _ hk' hF => by have := hk k hk'; have := HB.out.lt k hF; omega, (Only.trans (Only.of_below (F := fun _ => False) HBL.out) HN.out fun b hb hf => by have := hk b hf; omega).to_below⟩
end
end Go.Proofs.Ytpoolfnfboohjaa.HeapC
