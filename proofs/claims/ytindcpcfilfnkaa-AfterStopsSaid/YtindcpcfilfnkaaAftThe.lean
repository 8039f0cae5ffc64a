/-
  Package after, as it landed, meets what the laws of layer 7 ask of it. No condition.
-/
import Derived.Test.YtindcpcfilfnkaaAftE
namespace Go.Proofs.Ytindcpcfilfnkaa.AftC
open Go.ChangeShapes Go.WideShapes Go.ChangeAt Go.RowKit Mem AfterP Hand RefAfter AfterI

/-- A list behind a pointer, in blocks of F. -/
def LA : Ob St where
  A w v F s := ∃ p, v = .pointer (some ⟨p, 0, none⟩) ∧ (la p s.1 s.2).holds w F
  ptr := fun ⟨_, e, _⟩ => ⟨_, e⟩
  keep := fun ⟨p, e, h⟩ hs hk => ⟨p, e, (la p _ _).keep h hs hk⟩
  lt := fun ⟨p, _, h⟩ => (la p _ _).lt h
section
variable {w wn : World} {F : Nat → Prop} {p : Nat} {L L' : List Rg} {M : Int}
theorem LA.sep (h : (la p L M).holds w F) : Sep F w w [la p L M] := Sep.of (R := la p L M) h
theorem stays_of (h : Sep F w wn [la p L' M]) : Stays (ob LA (.pointer (some ⟨p, 0, none⟩)) (L', M)) F w wn := by
  obtain ⟨F', hR, ho, hF⟩ := h.left 0 rfl
  exact ⟨F', ⟨p, rfl, hR⟩, ho, hF⟩
theorem tells_of {u : Value} {l : List Int} (h : Sep F w wn [grow intE 3 u l, la p L' M]) (hl : l.length ≤ 1000000) : Tells (ob LA (.pointer (some ⟨p, 0, none⟩)) (L', M)) F w wn u l := by
  obtain ⟨hon, G, F2, ⟨h0, _⟩, ⟨F1, F3, h1, _, s3, _, _⟩, s1, s2, d⟩ := grow_nums h hl
  exact ⟨F1, G, ⟨p, rfl, h1⟩, h0, hon, fun k hk => s2 k (s3 k hk), s1, fun k hk hf => d k hk (s3 k hf)⟩
end
def theAf : AfterI.Af where
  O := LA
  ok := fun {w v F s} h => by
    obtain ⟨p, rfl, h⟩ := h
    exact la_ok (LA.sep h)
  new_no := fun n w _ h => newL_no n w h
  new_yes := fun n w h1 h2 => by
    refine (newL_yes (Sep.nil (fun _ => False) w) n h1 h2).mono ?_
    rintro e wn ⟨p, rfl, hs⟩
    have hb := hs.old
    obtain ⟨_, F1, _, h3, _, s1, _, _⟩ := hs
    exact ⟨_, F1, rfl, ⟨p, rfl, h3⟩, hb, fun k hk => (s1 k hk).resolve_left id⟩
  add := fun {w v F L M} h on th h1 h2 => by
    obtain ⟨p, rfl, h⟩ := h
    refine (addL_s (LA.sep h) on th h1 h2).mono ?_
    rintro e wn ⟨rfl, hs⟩
    exact ⟨rfl, stays_of hs⟩
  stop := fun {w v F L M} h n hn => by
    obtain ⟨p, rfl, h⟩ := h
    refine (stopL_s (LA.sep h) n hn).mono ?_
    rintro e wn ⟨rfl, hs⟩
    exact ⟨rfl, stays_of hs⟩
  fire := fun {w v F L M} h G u l hr hG hl hin => by
    obtain ⟨p, rfl, h⟩ := h
    have hok : Ok L M := la_ok (LA.sep h)
    have hfl : (fireO L l).length ≤ 1000000 := by
      have h1 := fireO_len L l
      have h2 : L.length ≤ 200 := by have := hok.len; have := hok.m1; omega
      exact Nat.le_trans h1 (Nat.le_trans (Nat.mul_le_mul h2 hl) (by omega))
    obtain ⟨A, c, e, hm, hx⟩ := hr
    refine (fire_s (LA.sep h) (G := fun k => G k ∧ k < w.heap.size) (u := u) (on := l) ⟨A, c, e, hm, fun hp => ?_⟩ (fun k hk => ⟨hk.2, hG k hk.1⟩) hl hin).mono ?_
    · obtain ⟨b, off, ha, hg, hb, hc⟩ := hx hp
      exact ⟨b, off, ha, ⟨hg, hb⟩, hb, hc⟩
    · rintro r wn ⟨A, c, rfl, hs⟩
      exact ⟨_, rfl, tells_of hs hfl⟩
  rows := fun {w v F L M} h => by
    obtain ⟨p, rfl, h⟩ := h
    exact rowsL_s (LA.sep h)
  waiting := fun {w v F L M} h d hd => by
    obtain ⟨p, rfl, h⟩ := h
    exact waitingL_s (LA.sep h) d hd
end Go.Proofs.Ytindcpcfilfnkaa.AftC
