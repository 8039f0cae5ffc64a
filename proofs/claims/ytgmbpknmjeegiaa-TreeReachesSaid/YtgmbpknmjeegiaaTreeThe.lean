/-
  Package tree, as it landed, meets what the laws of layer 5 ask of it. No condition.
-/
import Derived.Test.YtgmbpknmjeegiaaTreeI
import Derived.Test.YtgmbpknmjeegiaaTreeB
import Derived.Test.YtgmbpknmjeegiaaTreeD
namespace Go.Proofs.Ytgmbpknmjeegiaa.TreeC
open Go.ChangeShapes Go.WideShapes Go.ChangeAt Go.RowKit Mem TreeP Hand

theorem New.told {w w' : World} {F : Nat → Prop} {u : Value} {l : List Int} (h : New w w' u l) (hF : ∀ k, F k → k < w.heap.size) (hl : l.length ≤ 1000000) : TreeI.Told w w' F u l := by
  obtain ⟨A, c, rfl, ho, hb⟩ := h
  exact ⟨rd_of (ho.rd hl fun k hk hf => by have := (ho.lt k hk).1; have := hF k hf; omega), hb, New.fits (w := w) (w' := w') (l := l) ⟨A, c, rfl, ho, hb⟩⟩
theorem told_c {w : World} {v : Value} {F : Nat → Prop} {L : List Nd} {M : Int} (h : TA w v F L M) {f : FuncId} {args : Array Value} {l : List Int} (hl : l.length ≤ 1000000)
    (hc : Calls Try.prog f args w fun e w' => ∃ u, e = .returned u ∧ New w w' u l) : Calls Try.prog f args w fun e w' => ∃ u, e = .returned u ∧ TreeI.Told w w' F u l := by
  refine hc.mono ?_
  rintro e w1 ⟨u, rfl, hn⟩
  exact ⟨u, rfl, hn.told h.lt hl⟩
theorem lens {L : List Nd} {M : Int} (h : Ok L M) : L.length ≤ 200 := by have := h.len; have := h.m1; omega

def theTree : TreeI.Tr where
  A := TA
  ptr := TA.ptr
  keep := TA.keep
  lt := TA.lt
  ok := TA.ok
  new_no := fun n w _ h => new_no n w h
  new_yes := fun n w h1 h2 => (new_yes n w h1 h2).mono fun _ _ ⟨v, F, he, ha, hb, hf⟩ => ⟨v, F, he, ha, hb, hf⟩
  root := fun h => root_c h
  add := fun h o c _ => add_c h o c
  len := fun {w v F L M} h => by
    obtain ⟨p, rfl, hv⟩ := h.view
    exact (len_c hv).mono fun e w' ⟨he, hw⟩ => ⟨he, 0, hw.symm⟩
  over := fun {w v F L M} h n _ => by
    obtain ⟨p, rfl, hv⟩ := h.view
    exact (over_c hv n).mono fun e w' ⟨he, hw⟩ => ⟨he, by rw [← hw]; exact Below.refl _ _⟩
  cut := fun {w v F L M} h n _ => by
    obtain ⟨p, rfl, hv⟩ := h.view
    exact (cut_c hv n).mono fun e w' ⟨he, hw⟩ => ⟨he, by rw [← hw]; exact Below.refl _ _⟩
  kids := fun {w v F L M} h n _ => by
    obtain ⟨p, rfl, hv⟩ := h.view
    have := lens h.ok
    have := kidsT_len (L := L) n
    exact told_c h (by omega) (kids_c hv (by omega) n)
  reach := fun {w v F L M} h n _ => by
    obtain ⟨p, rfl, hv⟩ := h.view
    have := lens h.ok
    have := reach_len h.ok.wf n
    exact told_c h (by omega) (reach_c hv h.lt h.ok.wf (by omega) n)
  chain := fun {w v F L M} h n _ => by
    obtain ⟨p, rfl, hv⟩ := h.view
    have := lens h.ok
    have := chain_len h.ok.wf n
    exact told_c h (by omega) (chain_c hv h.ok.wf (by omega) n)
  path := fun {w v F L M} h n _ => by
    obtain ⟨p, rfl, hv⟩ := h.view
    have := lens h.ok
    have := path_len (L := L) n
    exact told_c h (by omega) (path_c hv h.ok.wf (by omega) n)
end Go.Proofs.Ytgmbpknmjeegiaa.TreeC
