/-
  General lemmas for laws (functions that answer one bool and leave their arguments alone): if behind the call all old memory is as it was, then the row's last step holds. No condition on the arguments.
-/
import Derived.Test.YthdipkdolgcmgaaRows
import Derived.WalkKit
import Derived.ProofKit
import Derived.OpenShut
import Derived.Below
import Derived.WideKeyArgs
import Derived.Deep.Slices
import Derived.Deep.Fields
namespace Go.Proofs.Ythdipkdolgcmgaa.LawK
open Go.ChangeShapes Go.WideShapes Go.ChangeAt Go.RowKit
section
variable {H : Type} {enc : TypeId × Value → H} {P : Program}

theorem all_stay (hl : laidOutB P = true) {W W' : World} {sp : Nat → Bool} (hb : Below W.heap.size W W') :
    ∀ {ts : List TypeId} {vs : List Value} {ds : List (DataW H)} {ps : List MemPlace},
      (∀ t ∈ ts, P.readableRec t = true ∧ t < P.types.size) → DataW.TrodAll enc P W 0 (fun _ => true) true ts vs ds ps →
      (∀ p ∈ ps, p.block < W.heap.size) → (∀ p ∈ ps, sp p.block = true) → DataW.TrodAll enc P W' 0 sp true ts vs ds ps
  | [], [], [], _, _, h, _, _ => h
  | t :: ts, v :: vs, d :: ds, ps, hr, h, hlt, hs => by
    obtain ⟨p, q, h1, h2, rfl⟩ := h
    have ht := hr t (List.mem_cons_self ..)
    refine ⟨p, q, ?_, ?_, rfl⟩
    · exact WideElems.Trod_stays hl ht.1 ht.2 h1 (fun x hx => hb.same (hlt x (List.mem_append_left _ hx))) (fun x hx => hs x (List.mem_append_left _ hx))
    · exact all_stay hl hb (fun t' h' => hr t' (List.mem_cons_of_mem _ h')) h2 (fun x hx => hlt x (List.mem_append_right _ hx)) (fun x hx => hs x (List.mem_append_right _ hx))

/-- THE LAST STEP OF A LAW's ROW: it returned true, and all that lay in memory before the call lies there as it did. -/
theorem law_post {f : Func} {s : ChangeSpec} {apart : Bool} {W W' : World} {args : Array Value} {ds : List (DataW H)} {before : List MemPlace} {tb : TypeId}
    (hl : laidOutB P = true) (hr : ∀ t ∈ f.params.toList, P.readableRec t = true ∧ t < P.types.size) (hv : s.vars = [])
    (hres : f.resultTypes = #[tb]) (htb : P.underlying tb = some .bool)
    (hs : s.fn H (ds ++ []) = { results := [.lit (.bool true)], args := ds })
    (hW : DataW.Whole enc P f.params.toList s.vars apart W args.toList ds [] before) (hb : Below W.heap.size W W') :
    s.post enc P f apart true false false W args (.bool true) W' := by
  have hW0 := hW
  have hlt : ∀ p ∈ before, p.block < W.heap.size := fun p hp => hW.lt p hp
  obtain ⟨p, q, hA, hV, rfl, _, _⟩ := hW0
  rw [hv] at hV
  have hq : q = [] := hV
  subst hq
  refine ⟨ds, [], p ++ [], [], p, [], hW, ?_, ?_, ?_, hb.frame _, fun h => by cases h⟩
  · rw [hs, hres]
    exact trodAll_cons_mk (shut_bool htb _) trodAll_mk0
  · rw [hs]
    exact all_stay hl hb hr hA (fun x hx => hlt x (List.mem_append_left _ hx)) (fun x hx => by simpa using hlt x (List.mem_append_left _ hx))
  · rw [hs, hv]
    rfl

theorem in64 {a : Int} (h : (Lit.int .i64 a).wf = true) : -9223372036854775808 ≤ a ∧ a ≤ 9223372036854775807 := by
  have h1 : IntKind.i64.min = -9223372036854775808 := rfl
  have h2 : IntKind.i64.max = 9223372036854775807 := rfl
  simp only [Lit.wf, Bool.and_eq_true, decide_eq_true_eq] at h
  omega

/-- The number in a cell; 0, where there is none. -/
def numAt (w : World) (a : Addr) : Int := match w.cell? a with | some (.int _ n) => n | _ => 0

/-- WHAT A SLICE OF STRUCTS READS AS WHOSE FIELDS ARE ALL int64: each cell of each element is an int64. -/
theorem open_rows {w : World} {base : Nat} {spare : Nat → Bool} {held : Bool} {t e : TypeId} {fs : Array Field} {fuel : Nat} {A : Option Addr} {len cap : Nat} {x : DataW H × List MemPlace} (ht : P.underlying t = some (.slice e)) (he : P.underlying e = some (.struct fs)) (hC : P.cellsOf e = fs.size)
    (hone : Go.Deep.oneCellFields P fs = true) (hint : ∀ (j : Nat) (f : Field), fs[j]? = some f → P.underlying f.type = some (.int .i64)) (hpos : 0 < fs.size) (h : DataW.trod enc P w base spare held fuel t [.slice A len cap] = some x) :
    len ≤ maxLen ∧ (0 < len → ∃ b off, A = some ⟨b, off, none⟩ ∧ b < w.heap.size ∧ ∀ i j, i < len → j < fs.size →
      w.cell? ⟨b, off + (i * fs.size + j), none⟩ = some (.int .i64 (numAt w ⟨b, off + (i * fs.size + j), none⟩)) ∧ -9223372036854775808 ≤ numAt w ⟨b, off + (i * fs.size + j), none⟩ ∧ numAt w ⟨b, off + (i * fs.size + j), none⟩ ≤ 9223372036854775807) := by
  rcases Go.Deep.open_slice ht h with ⟨h0, _⟩ | ⟨a, len', cap', m, n, D, Pl, hcs, hb, hl, hm, hmm, hx, hi⟩
  · simp at h0
    obtain ⟨rfl, rfl, rfl⟩ := h0
    exact ⟨Nat.zero_le _, fun h => absurd h (by omega)⟩
  · simp at hcs
    obtain ⟨rfl, rfl, rfl⟩ := hcs
    refine ⟨by omega, fun hp => ?_⟩
    have hle : len ≤ m := by rw [hmm]; split <;> omega
    have cell : ∀ i j, i < len → j < fs.size → ∃ k, w.cell? (a.add (i * fs.size + j)) = some (.int .i64 k) ∧ (Lit.int .i64 k).wf = true := by
      intro i j hil hjl
      obtain ⟨cs', hc, ht'⟩ := hi i (by omega)
      rw [hC] at hc
      obtain ⟨ys, n', _, _, hlen, hyl, hf⟩ := DataW.trod_struct he ht'
      obtain ⟨_, hcl, hat⟩ := World.cells?_some hc
      have hfj : fs[j]? = some fs[j] := Array.getElem?_eq_getElem hjl
      obtain ⟨ho, hk⟩ := Go.Deep.hone_of hone j _ hfj
      have h1 := hf j _ hfj
      rw [ho, hk, List.getElem?_eq_getElem (by omega)] at h1
      obtain ⟨k, hk1, _, hwf⟩ := DataW.trod_int (hint j _ hfj) h1
      refine ⟨k, ?_, hwf⟩
      rw [← Go.Deep.add_add, hat j hjl]
      have : (cs'.drop j).take 1 = [cs'[j]'(by omega)] := by rw [List.drop_eq_getElem_cons (by omega)]; rfl
      rw [this] at hk1
      rw [List.getElem?_eq_getElem (by omega)]
      simpa using hk1
    obtain ⟨b, off, spot⟩ := a
    have hspot : spot = none := by
      obtain ⟨k, hk, _⟩ := cell 0 0 hp hpos
      simpa [Addr.add] using World.cell?_spot hk
    subst hspot
    refine ⟨b, off, rfl, ?_, fun i j hil hjl => ?_⟩
    · obtain ⟨k, hk, _⟩ := cell 0 0 hp hpos
      rw [add_plain] at hk
      exact World.block_lt_of_cell? _ _ hk
    · obtain ⟨k, hk, hwf⟩ := cell i j hil hjl
      rw [add_plain] at hk
      have e : numAt w ⟨b, off + (i * fs.size + j), none⟩ = k := by unfold numAt; rw [hk]
      rw [e]
      exact ⟨hk, in64 hwf⟩

/-- What a slice of int64s reads as. -/
theorem open_nums {w : World} {base : Nat} {spare : Nat → Bool} {held : Bool} {t e : TypeId} {fuel : Nat} {A : Option Addr} {len cap : Nat} {x : DataW H × List MemPlace} (ht : P.underlying t = some (.slice e)) (he : P.underlying e = some (.int .i64)) (hc : P.cellsOf e = 1)
    (h : DataW.trod enc P w base spare held fuel t [.slice A len cap] = some x) :
    len ≤ maxLen ∧ ∃ zs : List Int, zs.length = len ∧ (∀ z ∈ zs, -9223372036854775808 ≤ z ∧ z ≤ 9223372036854775807) ∧ (0 < len → ∃ b off, A = some ⟨b, off, none⟩ ∧ b < w.heap.size ∧ ∀ j, j < len → w.cell? ⟨b, off + j, none⟩ = some (.int .i64 (zs.getD j 0))) := by
  rcases open_ints ht he hc h with ⟨hcs, _⟩ | ⟨a, len', cap', zs, hcs, _, hl, hm, hz, _, hcell, hwz⟩
  · simp at hcs
    obtain ⟨rfl, rfl, rfl⟩ := hcs
    exact ⟨Nat.zero_le _, [], rfl, (fun z hz => by cases hz), fun h => absurd h (by omega)⟩
  · simp at hcs
    obtain ⟨rfl, rfl, rfl⟩ := hcs
    have hlz : len ≤ zs.length := by rw [hz]; split <;> omega
    refine ⟨by omega, zs.take len, by simp; omega, fun z hzz => in64 (hwz z (List.mem_of_mem_take hzz)), fun hp => ?_⟩
    obtain ⟨b, off, spot⟩ := a
    have hspot : spot = none := by simpa [Addr.add] using World.cell?_spot (hcell 0 (by omega))
    subst hspot
    have hcc : ∀ j, j < len → w.cell? ⟨b, off + j, none⟩ = some (.int .i64 ((zs.take len).getD j 0)) := fun j hj => by
      rw [← add_plain, hcell j (by omega)]
      simp [List.getD_eq_getElem?_getD, hj]
    exact ⟨b, off, rfl, World.block_lt_of_cell? _ _ (hcc 0 hp), hcc⟩

/-- The bool in a cell. -/
def flagAt (w : World) (a : Addr) : Bool := match w.cell? a with | some (.bool x) => x | _ => false
/-- What a slice of bools reads as. -/
theorem open_flags {w : World} {base : Nat} {spare : Nat → Bool} {held : Bool} {t e : TypeId} {fuel : Nat} {A : Option Addr} {len cap : Nat} {x : DataW H × List MemPlace} (ht : P.underlying t = some (.slice e)) (he : P.underlying e = some .bool) (hc : P.cellsOf e = 1)
    (h : DataW.trod enc P w base spare held fuel t [.slice A len cap] = some x) :
    len ≤ maxLen ∧ ∃ zs : List Bool, zs.length = len ∧ (0 < len → ∃ b off, A = some ⟨b, off, none⟩ ∧ b < w.heap.size ∧ ∀ j, j < len → w.cell? ⟨b, off + j, none⟩ = some (.bool (zs.getD j false))) := by
  rcases Go.Deep.open_slice ht h with ⟨h0, _⟩ | ⟨a, len', cap', m, n, D, Pl, hcs, hb, hl, hm, hmm, hx, hi⟩
  · simp at h0
    obtain ⟨rfl, rfl, rfl⟩ := h0
    exact ⟨Nat.zero_le _, [], rfl, fun h => absurd h (by omega)⟩
  · simp at hcs
    obtain ⟨rfl, rfl, rfl⟩ := hcs
    have hle : len ≤ m := by rw [hmm]; split <;> omega
    have cell : ∀ j, j < len → ∃ k, w.cell? (a.add j) = some (.bool k) := by
      intro j hj
      obtain ⟨cs', hc', ht'⟩ := hi j (by omega)
      rw [hc, Nat.mul_one] at hc'
      obtain ⟨_, hcl, hat⟩ := World.cells?_some hc'
      obtain ⟨k, hk, _⟩ := DataW.trod_bool he ht'
      subst hk
      refine ⟨k, ?_⟩
      have := hat 0 (by omega)
      simpa [Addr.add] using this
    obtain ⟨b, off, spot⟩ := a
    refine ⟨by omega, (List.range len).map fun j => flagAt w ⟨b, off + j, none⟩, by simp, fun hp => ?_⟩
    have hspot : spot = none := by
      obtain ⟨k, hk⟩ := cell 0 hp
      simpa [Addr.add] using World.cell?_spot hk
    subst hspot
    have hcc : ∀ j, j < len → w.cell? ⟨b, off + j, none⟩ = some (.bool (((List.range len).map fun j => flagAt w ⟨b, off + j, none⟩).getD j false)) := fun j hj => by
      obtain ⟨k, hk⟩ := cell j hj
      rw [add_plain] at hk
      have e : flagAt w ⟨b, off + j, none⟩ = k := by unfold flagAt; rw [hk]
      simp [List.getD_eq_getElem?_getD, hj, e, hk]
    exact ⟨b, off, rfl, World.block_lt_of_cell? _ _ (hcc 0 hp), hcc⟩
end
end Go.Proofs.Ythdipkdolgcmgaa.LawK
