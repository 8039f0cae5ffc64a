/-
  Package task, as it landed, meets what the laws of layer 18 ask of it: 'theTb'. No condition.
-/
import Derived.Test.YthdipkdolgcmgaaTkE
namespace Go.Proofs.Ythdipkdolgcmgaa.TkA
open Go.ChangeShapes Go.WideShapes Go.ChangeAt Go.RowKit Mem MutP TaskP Hand RefTask TaskI

/-- Each task has a state. -/
def Stt (L : List Tk) : Prop := ∀ t ∈ L, get t 0 ≠ 0
theorem put0 (t : Tk) {j : Nat} (x : Int) (h : j ≠ 0) : get (put t j x) 0 = get t 0 := get_put_ne t x h
theorem wt0 (t : Tk) (q : Pk) : get (wtT t q) 0 = get t 0 := by
  unfold wtT
  rw [put0 _ _ (by omega), put0 _ _ (by omega), put0 _ _ (by omega), put0 _ _ (by omega), put0 _ _ (by omega), put0 _ _ (by omega)]
theorem st0 (t : Tk) (s : Int) : get (stT t s) 0 = s := get_put t 0 s (by omega)
theorem reg0 (t : Tk) (r x : Int) : get (regT t r x) 0 = get t 0 := by
  unfold regT
  split
  · exact put0 _ _ (by omega)
  · rfl
theorem Stt.do_ {L : List Tk} (h : Stt L) (b : Bool) (n : Int) (f : Tk → Tk) (hf : ∀ t, get t 0 ≠ 0 → get (f t) 0 ≠ 0) (hb : b = true → getB L n = true) : Stt (doL b L n f) := by
  intro t ht
  unfold doL at ht
  split at ht
  · rename_i e
    have hn := of_decide_eq_true (hb e)
    rcases List.mem_or_eq_of_mem_set ht with h1 | h1
    · exact h t h1
    · rw [h1]
      obtain ⟨k, rfl⟩ := Int.eq_ofNat_of_zero_le hn.1
      obtain ⟨u, hk⟩ : ∃ u, L[k]? = some u := ⟨_, List.getElem?_eq_getElem (by omega)⟩
      rw [getT_at hk]
      exact hf u (h u (List.mem_of_getElem? hk))
  · exact h t ht
theorem live_here {L : List Tk} {n : Int} (h : liveB L n = true) : getB L n = true := by
  unfold liveB at h
  rcases Bool.or_eq_true_iff.1 h with h | h
  · exact is_here h
  · exact is_here h
theorem Stt.begin_ {L : List Tk} (h : Stt L) (N g m : Int) : Stt (beginL L N g m) := by
  unfold beginL
  split
  · intro t ht
    rcases List.mem_append.1 ht with h1 | h1
    · exact h t h1
    · rw [List.mem_singleton.1 h1]
      show (1 : Int) ≠ 0
      omega
  · exact h

/-- A table behind a pointer, in blocks of F. -/
def OT : Ob St where
  A w v F s := TaskP.Ok s.1 s.2 ∧ Stt s.1 ∧ ∃ p u, v = .pointer (some ⟨p, 0, none⟩) ∧ (pack (ta p s.1 s.2 u)).holds w F
  ptr := fun ⟨_, _, _, _, e, _⟩ => ⟨_, e⟩
  keep := fun ⟨o, t, p, u, e, h⟩ hs hk => ⟨o, t, p, u, e, (pack (ta p _ _ u)).keep h hs hk⟩
  lt := fun ⟨_, _, p, u, _, h⟩ => (pack (ta p _ _ u)).lt h
section
variable {w wn : World} {v : Value} {F : Nat → Prop} {p : Nat} {L : List Tk} {N : Int} {s : St}
theorem ot_open (h : OT.A w v F s) : TaskP.Ok s.1 s.2 ∧ Stt s.1 ∧ ∃ p A c, v = .pointer (some ⟨p, 0, none⟩) ∧ Sep F w w (ta p s.1 s.2 (.slice A s.1.length c) ++ []) := by
  obtain ⟨hok, ht, p, u, rfl, h⟩ := h
  have h2 : Sep F w w (ta p s.1 s.2 u ++ []) := (Sep.of h).unpack
  obtain ⟨A, c, rfl⟩ := ta_form h2
  exact ⟨hok, ht, p, A, c, rfl, h2⟩
theorem ot_stays {u : Value} (hok : TaskP.Ok L N) (ht : Stt L) (h : Sep F w wn (ta p L N u ++ [])) : Stays (ob OT (.pointer (some ⟨p, 0, none⟩)) ((L, N) : St)) F w wn := by
  obtain ⟨F', hR, ho, hF⟩ := h.packed.left 0 rfl
  exact ⟨F', ⟨hok, ht, p, u, rfl, hR⟩, ho, hF⟩
theorem of_below {P : Program} {f : FuncId} {args : Array Value} {e0 : Ending} {Q : Ending → World → Prop} (h : Calls P f args w Q) (hq : ∀ e wn, Q e wn → e = e0 ∧ Below w.heap.size w wn) : Calls P f args w fun e wn => e = e0 ∧ Below w.heap.size w wn := h.mono hq
end

/-- Package task, as the laws ask for it. -/
def theTb : TaskI.Tb where
  O := OT
  ok := fun h => h.1
  new_no := fun n w _ h => (new_no n w h).mono fun _ _ ⟨he, hw⟩ => ⟨he, hw ▸ Below.refl _ _⟩
  new_yes := by
    intro n w h1 h2
    refine (new_s (Sep.nil (fun _ => False) w) n h1 h2).mono ?_
    rintro e wn ⟨p, rfl, h⟩
    obtain ⟨F', hR, ho, hF⟩ := h.packed.left 0 rfl
    exact ⟨_, F', rfl, ⟨.new h1 h2, fun t ht => by simp at ht, p, _, rfl, hR⟩, h.old, fun k hk => (hF k hk).resolve_left id⟩
  begin_ := by
    intro w v F s h g m _ _
    obtain ⟨hok, ht, p, A, c, rfl, hs⟩ := ot_open h
    have hok2 := hok.begin_ g m
    have ht2 := ht.begin_ s.2 g m
    by_cases hN : (s.1.length : Int) < s.2
    · refine (begin_s hok hs g m hN).mono ?_
      rintro e wn ⟨rfl, A', c', h2⟩
      unfold beginV beginE beginL beginB at *
      rw [decide_eq_true hN] at *
      exact ⟨rfl, ot_stays hok2 ht2 h2⟩
    · refine (begin_no hok hs g m hN).mono ?_
      rintro e wn ⟨rfl, rfl⟩
      unfold beginV beginE beginL beginB at *
      rw [decide_eq_false hN] at *
      exact ⟨rfl, ot_stays hok ht hs⟩
  go := by
    intro w v F s h n a _ _
    obtain ⟨hok, ht, p, A, c, rfl, hs⟩ := ot_open h
    refine (go_s hok hs n a).mono ?_
    rintro e wn ⟨rfl, h2⟩
    exact ⟨rfl, ot_stays (hok.do_ _ _ _) (ht.do_ _ _ _ (fun t h => by rw [show get (goT t a) 0 = get t 0 from put0 _ _ (by omega)]; exact h) is_here) h2⟩
  set_ := by
    intro w v F s h n r x _ _ _
    obtain ⟨hok, ht, p, A, c, rfl, hs⟩ := ot_open h
    refine (set_s hok hs n r x).mono ?_
    rintro e wn ⟨rfl, h2⟩
    exact ⟨rfl, ot_stays (hok.do_ _ _ _) (ht.do_ _ _ _ (fun t h => by rw [reg0]; exact h) fun e => live_here (by unfold setB at e; exact (Bool.and_eq_true_iff.1 e).1)) h2⟩
  park := by
    intro w v F s h n q _ _
    obtain ⟨hok, ht, p, A, c, rfl, hs⟩ := ot_open h
    refine (park_s hok hs n q).mono ?_
    rintro e wn ⟨rfl, h2⟩
    exact ⟨rfl, ot_stays (hok.do_ _ _ _) (ht.do_ _ _ _ (fun t _ => by show get (wtT (stT t 2) q) 0 ≠ 0; rw [wt0, st0]; omega) fun e => is_here (s := 1) (by unfold parkB at e; exact (Bool.and_eq_true_iff.1 e).2)) h2⟩
  again := by
    intro w v F s h n q _ _
    obtain ⟨hok, ht, p, A, c, rfl, hs⟩ := ot_open h
    refine (again_s hok hs n q).mono ?_
    rintro e wn ⟨rfl, h2⟩
    exact ⟨rfl, ot_stays (hok.do_ _ _ _) (ht.do_ _ _ _ (fun t _ => by show get (wtT (stT t 2) q) 0 ≠ 0; rw [wt0, st0]; omega) fun e => is_here (s := 2) (by unfold againB at e; exact (Bool.and_eq_true_iff.1 e).2)) h2⟩
  wake := by
    intro w v F s h n x _ _
    obtain ⟨hok, ht, p, A, c, rfl, hs⟩ := ot_open h
    refine (wake_s hok hs n x).mono ?_
    rintro e wn ⟨rfl, h2⟩
    exact ⟨rfl, ot_stays (hok.do_ _ _ _) (ht.do_ _ _ _ (fun t _ => by show get (wtT (stT (regT t (get t 13) x) 1) noPk) 0 ≠ 0; rw [wt0, st0]; omega) is_here) h2⟩
  end_ := by
    intro w v F s h n x _ _
    obtain ⟨hok, ht, p, A, c, rfl, hs⟩ := ot_open h
    refine (end_s hok hs n x).mono ?_
    rintro e wn ⟨rfl, h2⟩
    exact ⟨rfl, ot_stays (hok.do_ _ _ _) (ht.do_ _ _ _ (fun t _ => by show get (put (wtT (stT t 3) noPk) 16 x) 0 ≠ 0; rw [put0 _ _ (by omega), wt0, st0]; omega) live_here) h2⟩
  len := by
    intro w v F s h
    obtain ⟨hok, _, p, A, c, rfl, hs⟩ := ot_open h
    exact (len_s (ta_sees hok hs)).mono fun _ _ ⟨he, hw⟩ => ⟨he, hw ▸ Below.refl _ _⟩
  get := by
    intro w v F s h n _
    obtain ⟨hok, ht, p, A, c, rfl, hs⟩ := ot_open h
    exact get_s (ta_sees hok hs) ht n
  in_ := by
    intro w v F s h x _
    obtain ⟨hok, _, p, A, c, rfl, hs⟩ := ot_open h
    exact in_s (ta_sees hok hs) x
  under := by
    intro w v F s h x _
    obtain ⟨hok, _, p, A, c, rfl, hs⟩ := ot_open h
    exact under_s (ta_sees hok hs) x
end Go.Proofs.Ythdipkdolgcmgaa.TkA
