/-
  Package heap's All, as it landed: the rows, sorted by the library's sort. Condition: the pointer's blocks are as 'HB' says.
-/
import Derived.Test.YtpoolfnfboohjaaHeapN
import Derived.Test.YtpoolfnfboohjaaHeapSort
import Derived.Shelf.SlSortCmp.NoneTotal
namespace Go.Proofs.Ytpoolfnfboohjaa.HeapC
open Go.ChangeShapes Go.WideShapes Go.ChangeAt Go.RowKit Mem RefHeap HeapI HeapP

instance : Inhabited Ent := ⟨zeroEnt⟩

theorem lt_cmpE (x y : Ent) : ltOf cmpE x y = RefHeap.ahead x y := cmpE_neg x y
theorem ahead_trans {a b c : Ent} (h1 : RefHeap.ahead a b = true) (h2 : RefHeap.ahead b c = true) : RefHeap.ahead a c = true := by
  rw [ahead_iff] at *; omega
theorem ent_same {a b : Ent} (h1 : RefHeap.ahead a b = false) (h2 : RefHeap.ahead b a = false) : a = b := by
  rw [ahead_no] at *
  obtain ⟨ai, aa, az⟩ := a
  obtain ⟨bi, ba, bz⟩ := b
  simp only at h1 h2
  obtain rfl : ai = bi := by omega
  obtain rfl : aa = ba := by omega
  obtain rfl : az = bz := by omega
  rfl
theorem swoE : Go.Sort.SWO (ltOf cmpE) where
  irrefl x := by rw [lt_cmpE]; exact no_self x
  trans x y z h1 h2 := by rw [lt_cmpE] at *; exact ahead_trans h1 h2
  ntrans x y z h1 h2 := by rw [lt_cmpE] at *; exact no_trans h1 h2
theorem sorted_is {R L : List Ent} (hp : R.Perm L) (hL : L.Pairwise (fun a b => RefHeap.ahead a b = true)) : (R.mergeSort fun x y => !(ltOf cmpE) y x) = L := by
  have h1 : (R.mergeSort fun x y => !(ltOf cmpE) y x).Perm L := (List.mergeSort_perm _ _).trans hp
  have h2 := List.pairwise_mergeSort (le := fun x y => !(ltOf cmpE) y x) (fun a b c h1 h2 => by
    simp only [lt_cmpE, Bool.not_eq_true'] at *
    exact no_trans h2 h1) (fun a b => by
    simp only [lt_cmpE, Bool.or_eq_true, Bool.not_eq_true']
    rcases h : RefHeap.ahead b a with _ | _
    · exact .inl rfl
    · exact .inr (no_of h)) R
  refine List.Perm.eq_of_pairwise (le := fun x y => RefHeap.ahead y x = false) (fun a b _ _ h1 h2 => ent_same h2 h1) (h2.imp fun h => by simpa [lt_cmpE] using h) (hL.imp fun h => no_of h) h1

theorem cmpLaysE (blk off size : Nat) (w : World) : CmpLays Try.prog 41 #[] entE.cells 3 cmpE blk off size w :=
  fun _ _ _ _ x y => against_c x y _

theorem holds_of {w : World} {b c : Nat} {base : Nat} {R : List Ent} (h : OwnL entE w base 65 (.slice (some ⟨b, 0, none⟩) R.length c) R) : Go.Sort.HoldsK entE.cells 3 w b 0 R.toArray := by
  intro j hj
  rw [Go.Sort.size_flatK] at hj
  have hj' : j < R.length * 3 := by simpa using hj
  rw [Go.Sort.get_flatK _ _ _ j hj]
  have hR : j / 3 < R.length := by omega
  have e1 : R.toArray[j / 3]! = R[j / 3] := by simp [hR]
  rw [e1]
  have hx : R[j / 3]? = some R[j / 3] := List.getElem?_eq_getElem hR
  have hl : (entE.cells R[j / 3]).length = 3 := entE.len _
  have hc : (entE.cells R[j / 3])[j % 3]? = some (entE.cells R[j / 3])[j % 3]! := by
    rw [List.getElem?_eq_getElem (by rw [hl]; omega), getElem!_pos _ _ (by rw [hl]; omega)]
  have hf := flat_get (E := entE) R (j / 3) _ hx (j % 3) _ hc
  have hs : entE.sz = 3 := rfl
  rw [hs, show j / 3 * 3 + j % 3 = j by omega] at hf
  refine ⟨?_, ?_⟩
  · have := World.ownsRow.cells h (g := b) rfl j _ hf
    rw [add_plain] at this
    exact this
  · rw [Nat.zero_add]
    exact World.ownsRow.frozenAt h j

theorem only_sort (w : World) (b n : Nat) (d : Array Ent) (os : Array Obj) : Only (fun k => k = b) w (sortWorldK entE.cells 3 w b 0 n d os) := by
  refine ⟨rfl, rfl, rfl, ?_, fun k hk hn => ?_⟩
  · show w.heap.size ≤ (w.heap.modify b _ ++ os).size
    simp
  · show (w.heap.modify b _ ++ os)[k]? = _
    rw [Array.getElem?_append_left (by simpa using hk), Array.getElem?_modify, if_neg (fun e => hn e.symm)]
    try simp
theorem read_of {w : World} {b c : Nat} {L : List Ent} {G : Nat → Prop} (h : Go.Sort.HoldsK entE.cells 3 w b 0 L.toArray) (hb : b < w.heap.size) (hG : G b) (hm : L.length ≤ 1000000) : RdL entE w G (.slice (some ⟨b, 0, none⟩) L.length c) L := by
  refine ⟨_, _, rfl, hm, fun _ => ⟨b, 0, rfl, hG, hb, fun i a hi j v hj => ?_⟩⟩
  have hil := (List.getElem?_eq_some_iff.1 hi).1
  have hjl : j < 3 := by have := (List.getElem?_eq_some_iff.1 hj).1; rw [entE.len] at this; exact this
  have hs : entE.sz = 3 := rfl
  have hsz : i * 3 + j < L.toArray.size * 3 := by simp; omega
  have hc := (h (i * 3 + j) (by rw [Go.Sort.size_flatK]; exact hsz)).1
  rw [Go.Sort.get_flatK _ _ _ _ hsz, show (i * 3 + j) / 3 = i by omega, show (i * 3 + j) % 3 = j by omega] at hc
  have e1 : L.toArray[i]! = a := by
    rw [List.getElem?_eq_getElem hil] at hi
    injection hi with hi
    simp [hil, hi]
  rw [e1] at hc
  obtain ⟨hj1, hj2⟩ := List.getElem?_eq_some_iff.1 hj
  have e2 : (entE.cells a)[j]! = v := by rw [getElem!_pos (entE.cells a) j hj1, hj2]
  rw [hs, hc, e2]
  rfl

set_option maxRecDepth 100000 in
theorem sort_c {w : World} {base : Nat} {u : Value} {R L : List Ent} (h : OwnL entE w base 65 u R) (hR : R.length ≤ 100000) (hp : R.Perm L) (hL : L.Pairwise (fun a b => RefHeap.ahead a b = true)) :
    Calls Try.prog 40 #[u, .func (.func 41) #[] #[]] w fun e w' => e = .returned (.tuple #[]) ∧ RdL entE w' (fun k => u.ownBlock = some k) u L ∧ Only (fun k => u.ownBlock = some k) w w' := by
  rcases h.2 with ⟨rfl, hn⟩ | ⟨b, cap, cur, rfl, hb, hg, hnc, hcm, hcs, hcur⟩
  · have hR0 : R = [] := List.eq_nil_of_length_eq_zero hn
    subst hR0
    have hL0 : L = [] := hp.nil_eq.symm
    subst hL0
    refine (AnyF.slices_SortFunc_none sortL none 0 _ w).mono ?_
    rintro e w' ⟨rfl, rfl⟩
    exact ⟨rfl, RdL.nil _ _ _ _, Only.refl _ _⟩
  · have eg : ∀ args w, (callFunc 41 args).run Try.prog w = .ok (.enter 41 args) w := enters_of Try.func41 (by kernel_rfl) rfl
    have hbl : b < w.heap.size := lt_of_block hg
    have hcon := AnyQ.slices_SortFunc_total sortL 3 Try.isAgg65 Try.sizeOf65 entE.cells entE.len entE.one cmpE swoE 41 #[] b 0 cap R.toArray w eg (cmpLaysE b 0 _ w) (holds_of h) hbl (by simp; omega) (fun x y h1 h2 => by rw [lt_cmpE] at h1 h2; exact ent_same h1 h2)
    have hs := sorted_is hp hL
    simp only [hs] at hcon
    have hlen : L.length = R.length := hp.length_eq.symm
    refine hcon.mono ?_
    clear hcon
    rintro e w' ⟨rfl, n, os, rfl⟩
    refine ⟨rfl, ?_, (only_sort w b n _ os).mono fun k _ hk => by rw [hk]; rfl⟩
    have hh := holdsK_sortWorldK_c entE.cells 3 w b 0 R.toArray L.toArray n os (holds_of h) hbl (by simpa using hlen)
    have := read_of (c := cap) (G := fun k => (Value.slice (some ⟨b, 0, none⟩) R.length cap).ownBlock = some k) hh (Nat.lt_of_lt_of_le hbl (only_sort w b n _ os).size) rfl (by omega)
    rw [hlen] at this
    exact this
end Go.Proofs.Ytpoolfnfboohjaa.HeapC
