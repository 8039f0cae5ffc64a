/-
  What the laws of layer 4 ask of package timer, as one structure (a clock as its time, its count and its alarms in order), and the law's own helpers over it. Conditions: those that each statement names.
-/
import Derived.Test.YtpoolfnfboohjaaRefTimerB
namespace Go.Proofs.Ytpoolfnfboohjaa.TimerI
open Go.ChangeShapes Go.WideShapes Go.ChangeAt Go.RowKit Mem RefHeap RefTimer Hand

/-- Clocks that may be: alarms in the order of their times and numbers, each key once. -/
structure Ok (T C : Int) (L : List Ent) (M : Int) : Prop where
  m0 : 1 ≤ M
  m1 : M ≤ 1000
  t64 : In64 T
  c0 : 0 ≤ C
  ids : ∀ x ∈ L, 0 ≤ x.id ∧ x.id < M
  ats : ∀ x ∈ L, In64 x.at_
  seqs : ∀ x ∈ L, 1 ≤ x.seq ∧ x.seq ≤ C
  once : (L.map (·.id)).Nodup
  order : L.Pairwise (fun a b => a.at_ < b.at_ ∨ (a.at_ = b.at_ ∧ a.seq < b.seq))
  len : L.length ≤ 1000

def After (A : World → Value → (Nat → Prop) → Int → Int → List Ent → Int → Prop) (w w' : World) (v : Value) (F : Nat → Prop) (T C : Int) (L : List Ent) (M : Int) : Prop :=
  ∃ F', A w' v F' T C L M ∧ Only F w w' ∧ ∀ k, F' k → F k ∨ w.heap.size ≤ k

/-- .. and a list that was told, in blocks of its own. -/
def AfterTold (A : World → Value → (Nat → Prop) → Int → Int → List Ent → Int → Prop) (w w' : World) (v : Value) (F : Nat → Prop) (T C : Int) (L : List Ent) (M : Int) (u : Value) (l : List Ent) : Prop :=
  ∃ F' G', A w' v F' T C L M ∧ RdL entE w' G' u l ∧ Only F w w' ∧ (∀ k, F' k → F k ∨ w.heap.size ≤ k) ∧ (∀ k, G' k → F k ∨ w.heap.size ≤ k) ∧ ∀ k, G' k → ¬ F' k

structure Clk where
  A : World → Value → (Nat → Prop) → Int → Int → List Ent → Int → Prop
  ptr : ∀ {w v F T C L M}, A w v F T C L M → ∃ a, v = .pointer (some a)
  keep : ∀ {w w' v F T C L M}, A w v F T C L M → w.heap.size ≤ w'.heap.size → (∀ k, k < w.heap.size → F k → w'.heap[k]? = w.heap[k]?) → A w' v F T C L M
  lt : ∀ {w v F T C L M}, A w v F T C L M → ∀ k, F k → k < w.heap.size
  ok : ∀ {w v F T C L M}, A w v F T C L M → Ok T C L M
  new_no : ∀ (n : Int) (w : World), In64 n → (n < 1 ∨ 1000 < n) → Calls Try.prog 7 #[.int .i64 n] w fun e w' => e = .returned (.tuple #[.pointer none, .int .i64 1]) ∧ Below w.heap.size w w'
  new_yes : ∀ (n : Int) (w : World), 1 ≤ n → n ≤ 1000 → Calls Try.prog 7 #[.int .i64 n] w fun e w' => ∃ v F, e = .returned (.tuple #[v, .int .i64 0]) ∧ A w' v F 0 0 [] n ∧ Below w.heap.size w w' ∧ ∀ k, F k → w.heap.size ≤ k
  now : ∀ {w v F T C L M}, A w v F T C L M → Calls Try.prog 17 #[v] w fun e w' => e = .returned (.int .i64 T) ∧ Below w.heap.size w w'
  set : ∀ {w v F T C L M}, A w v F T C L M → C ≤ 1000000 → ∀ key t, In64 key → In64 t → Calls Try.prog 25 #[v, .int .i64 key, .int .i64 t] w fun e w' => e = .returned (.int .i64 (setE L M key)) ∧ After A w w' v F T (setN L M C key) (setL L M C key t) M
  after : ∀ {w v F T C L M}, A w v F T C L M → C ≤ 1000000 → ∀ key d, In64 key → In64 d → Calls Try.prog 24 #[v, .int .i64 key, .int .i64 d] w fun e w' => e = .returned (.int .i64 (setE L M key)) ∧ After A w w' v F T (setN L M C key) (setL L M C key (laterT T d)) M
  reset : ∀ {w v F T C L M}, A w v F T C L M → C ≤ 1000000 → ∀ key t, In64 key → In64 t → Calls Try.prog 27 #[v, .int .i64 key, .int .i64 t] w fun e w' => e = .returned (.int .i64 (resE M key)) ∧ After A w w' v F T (resN M C key) (resL L M C key t) M
  stop : ∀ {w v F T C L M}, A w v F T C L M → ∀ key, In64 key → Calls Try.prog 28 #[v, .int .i64 key] w fun e w' => e = .returned (.bool (getB L key)) ∧ After A w w' v F T C (dropH L key) M
  get : ∀ {w v F T C L M}, A w v F T C L M → ∀ key, In64 key → Calls Try.prog 21 #[v, .int .i64 key] w fun e w' => e = .returned (.tuple #[(getE L key).val, .bool (getB L key)]) ∧ Below w.heap.size w w'
  next : ∀ {w v F T C L M}, A w v F T C L M → Calls Try.prog 18 #[v] w fun e w' => e = .returned (.int .i64 (nextT L)) ∧ Below w.heap.size w w'
  alarms : ∀ {w v F T C L M}, A w v F T C L M → Calls Try.prog 20 #[v] w fun e w' => ∃ u, e = .returned u ∧ RdL entE w' (fun k => ¬ F k) u L ∧ Below w.heap.size w w'
  to_ : ∀ {w v F T C L M}, A w v F T C L M → ∀ t, In64 t → Calls Try.prog 23 #[v, .int .i64 t] w fun e w' => ∃ u, e = .returned u ∧ AfterTold A w w' v F (toT T t) C (L.filter (fun y => decide (toT T t < y.at_))) M u (L.filter (fun y => decide (y.at_ ≤ toT T t)))
  by_ : ∀ {w v F T C L M}, A w v F T C L M → ∀ d, In64 d → Calls Try.prog 26 #[v, .int .i64 d] w fun e w' => ∃ u, e = .returned u ∧ AfterTold A w w' v F (toT T (laterT T d)) C (L.filter (fun y => decide (toT T (laterT T d) < y.at_))) M u (L.filter (fun y => decide (y.at_ ≤ toT T (laterT T d))))

/-- The program's clock. -/
def ck (I : Clk) (v : Value) (T C : Int) (L : List Ent) (M : Int) : Res where
  holds w F := I.A w v F T C L M
  keep := I.keep
  lt := I.lt

theorem AfterTold.sep {I : Clk} {w w' : World} {v : Value} {F : Nat → Prop} {T C : Int} {L : List Ent} {M : Int} {u : Value} {l : List Ent} (h : AfterTold I.A w w' v F T C L M u l) : Sep F w w' [told entE u l, ck I v T C L M] := by
  obtain ⟨F', G', ha, hr, ho, hF, hG, hd⟩ := h
  refine ⟨ho, fun k => G' k ∧ k < w'.heap.size, F', ⟨hr.mono fun k hk hg => ⟨hg, hk⟩, fun k hk => hk.2⟩, ⟨F', fun _ => False, ha, trivial, fun _ h => h, fun _ h => h.elim, fun _ _ h => h⟩, fun k hk => hG k hk.1, hF, fun k hk => hd k hk.1⟩

/-- own(l): the same alarms, in new memory. -/
theorem own_any {w : World} {G : Nat → Prop} {u : Value} {L : List Ent} (h : RdL entE w G u L) (hlen : L.length ≤ 100000) :
    Calls Try.prog 16 #[u] w fun e w' => ∃ A c, e = .returned (.slice A L.length c) ∧ Sep (fun _ => False) w w' [grow entE 51 (.slice A L.length c) L] := by
  obtain ⟨A, c, rfl⟩ := h.form
  have HR := Lib.hid h
  have S0 := Lib.hid ((Sep.nil (fun _ => False) w).grow0 entE 51)
  clear h
  go_enter Try.func16, Try.ntmps16
  go_wp2
  go_loopw [3, 5, 9] (fun u _ t wr => ∃ i : Nat, i ≤ L.length ∧ t = .int .i64 i ∧ Hid (∃ A c, u = .slice A (L.take i).length c ∧ Sep (fun _ => False) w wr [grow entE 51 (.slice A (L.take i).length c) (L.take i)])) (fun _ _ t _ => L.length - (intOf t).toNat)
  case atStart => exact ⟨0, Nat.zero_le _, rfl, _, _, rfl, S0.out⟩
  case round =>
    obtain ⟨i, hi, rfl, HS⟩ := hrel
    obtain ⟨Ao, co, rfl, hS⟩ := HS.out
    have SL := Lib.hid hS
    have hol : (L.take i).length ≤ i := List.length_take_le _ _
    clear HS hS S0
    by_cases hlt : i < L.length
    · have hx : L[i]? = some L[i] := List.getElem?_eq_getElem hlt
      generalize L[i] = a at hx
      obtain ⟨b, off, rfl, _, hb, c0, c1, c2⟩ := ent_cells HR.out hx
      have hB := SL.out.old
      have q0 := (hB.cell (p := ⟨b, off + i * 3, none⟩) hb).trans c0
      have q1 := (hB.cell (p := ⟨b, off + i * 3 + 1, none⟩) hb).trans c1
      have q2 := (hB.cell (p := ⟨b, off + i * 3 + 2, none⟩) hb).trans c2
      have HT : Hid (L.take (i + 1) = L.take i ++ [a]) := take_snocE L i a hx
      generalize hg : L.take i = lt at *
      have HX : Hid (RdL entE ((wr.alloc (.cells #[.int .i64 a.id, .int .i64 a.at_, .int .i64 a.seq] 48)).alloc (.cells #[.int .i64 a.id, .int .i64 a.at_, .int .i64 a.seq] 51)) (fun _ => True) (.slice (some ⟨wr.heap.size + 1, 0, none⟩) 1 1) [a]) := by
        have hl := RdL.lit1 (E := entE) (wr.alloc (.cells #[.int .i64 a.id, .int .i64 a.at_, .int .i64 a.seq] 48)) 51 a (cs := #[.int .i64 a.id, .int .i64 a.at_, .int .i64 a.seq]) rfl (fun _ => True) trivial
        have es : (wr.alloc (.cells #[.int .i64 a.id, .int .i64 a.at_, .int .i64 a.seq] 48)).heap.size = wr.heap.size + 1 := by simp
        rw [es] at hl
        exact hl
      clear hx c0 c1 c2 hB hg
      go_wp2_with (at_builtin; refine wpList_appS rfl _ _ entElem rfl rfl rfl ((SL.out.next (new_below0 _ _)).next (new_below0 _ _)) 0 rfl HX.out (by simp; omega) ?_; intro A3 c3 w3 l3 HL3 h3)
      have S3 := Lib.hid h3
      clear h3 SL HX
      go_wp2
      go_roundw
      case rel => exact ⟨i + 1, by omega, by go_num, by rw [HT.out, ← HL3.out]; exact ⟨_, _, rfl, S3.out⟩⟩
      case measure => simp [intOf]; omega
    · have HS : Hid (L.take i = L) := List.take_of_length_le (by omega)
      have hS := SL.out
      rw [HS.out] at hS ⊢
      have S9 := Lib.hid hS
      clear hS SL
      go_wp2
      go_ret
      exact ⟨_, _, rfl, S9.out⟩

section
variable {I : Clk} {B : Nat → Prop} {w wk : World} {Rs : List Res} {v : Value} {T C : Int} {L : List Ent} {M : Int}
theorem c_ok (h : Sep B w wk Rs) (i : Nat) (hi : Rs[i]? = some (ck I v T C L M)) : Ok T C L M := by
  obtain ⟨F, hR⟩ := h.get i hi
  exact I.ok hR
theorem c_own (h : Sep B w wk Rs) {u : Value} {l : List Ent} (hu : RdL entE wk (fun _ => True) u l) (hl : l.length ≤ 100000) :
    Calls Try.prog 16 #[u] wk fun e wn => ∃ A c, e = .returned (.slice A l.length c) ∧ Sep B w wn (grow entE 51 (.slice A l.length c) l :: Rs) := by
  refine (own_any hu hl).mono ?_
  rintro e wn ⟨A, c, rfl, hs⟩
  obtain ⟨F, hR, hF, _⟩ := hs.upd 0 rfl
  exact ⟨A, c, rfl, h.add hs.old hR fun k hk => (hF k hk).resolve_left id⟩
theorem c_new (h : Sep B w wk Rs) (I : Clk) (n : Int) (h1 : 1 ≤ n) (h2 : n ≤ 1000) :
    Calls Try.prog 7 #[.int .i64 n] wk fun e wn => ∃ a, e = .returned (.tuple #[.pointer (some a), .int .i64 0]) ∧ Sep B w wn (ck I (.pointer (some a)) 0 0 [] n :: Rs) := by
  refine (I.new_yes n wk h1 h2).mono ?_
  rintro e wn ⟨v, F, rfl, ha, hb, hf⟩
  obtain ⟨a, rfl⟩ := I.ptr ha
  exact ⟨a, rfl, h.add hb (R := ck I _ _ _ _ _) ha hf⟩
theorem c_alarms (h : Sep B w wk Rs) (i : Nat) (hi : Rs[i]? = some (ck I v T C L M)) :
    Calls Try.prog 20 #[v] wk fun e wn => ∃ A c, e = .returned (.slice A L.length c) ∧ Sep B w wn Rs ∧ RdL entE wn (fun _ => True) (.slice A L.length c) L := by
  obtain ⟨F, hR⟩ := h.get i hi
  refine (I.alarms hR).mono ?_
  rintro e wn ⟨u, rfl, hu, hb⟩
  obtain ⟨A, c, rfl⟩ := hu.form
  exact ⟨A, c, rfl, h.next hb, hu.mono fun _ _ _ => trivial⟩
theorem c_to (h : Sep B w wk Rs) (i : Nat) (hi : Rs[i]? = some (ck I v T C L M)) (t : Int) (ht : In64 t) {T' : Int} (hT : toT T t = T') {l l' : List Ent} (hl : L.filter (fun y => decide (y.at_ ≤ T')) = l) (hl' : L.filter (fun y => decide (T' < y.at_)) = l') :
    Calls Try.prog 23 #[v, .int .i64 t] wk fun e wn => ∃ A c, e = .returned (.slice A l.length c) ∧ Sep B w wn (told entE (.slice A l.length c) l :: Rs.set i (ck I v T' C l' M)) := by
  subst hT hl hl'
  obtain ⟨F, hR, hn⟩ := h.splice2 i hi
  refine (I.to_ hR t ht).mono ?_
  rintro e wn ⟨u, rfl, hu⟩
  obtain ⟨A, c, rfl⟩ : ∃ A c, u = .slice A _ c := by obtain ⟨_, _, _, hr, _⟩ := hu; exact hr.form
  exact ⟨A, c, rfl, hn hu.sep⟩
theorem c_now (h : Sep B w wk Rs) (i : Nat) (hi : Rs[i]? = some (ck I v T C L M)) : Calls Try.prog 17 #[v] wk fun e wn => e = .returned (.int .i64 T) ∧ Sep B w wn Rs := h.still i hi fun _ ha => I.now ha
theorem c_next (h : Sep B w wk Rs) (i : Nat) (hi : Rs[i]? = some (ck I v T C L M)) : Calls Try.prog 18 #[v] wk fun e wn => e = .returned (.int .i64 (nextT L)) ∧ Sep B w wn Rs := h.still i hi fun _ ha => I.next ha
theorem c_get (h : Sep B w wk Rs) (i : Nat) (hi : Rs[i]? = some (ck I v T C L M)) (key : Int) (hk : In64 key) : Calls Try.prog 21 #[v, .int .i64 key] wk fun e wn => e = .returned (.tuple #[(getE L key).val, .bool (getB L key)]) ∧ Sep B w wn Rs := h.still i hi fun _ ha => I.get ha key hk
end

/-- What an act answers, and the clock behind it. -/
def aE (L : List Ent) (M d key : Int) : Int := if d = 0 ∨ d = 1 then setE L M key else if d = 2 then resE M key else 0
def aB (L : List Ent) (d key : Int) : Bool := if d = 3 then getB L key else false
def aT (T d n : Int) : Int := if d = 4 then toT T n else if d = 5 then toT T (laterT T n) else T
def aW (T : Int) (L : List Ent) (d n : Int) : List Ent := if d = 4 ∨ d = 5 then L.filter (fun y => decide (y.at_ ≤ aT T d n)) else []
def aC (L : List Ent) (M C d key : Int) : Int := if d = 0 ∨ d = 1 then setN L M C key else if d = 2 then resN M C key else C
def aL (T : Int) (L : List Ent) (M C d key n : Int) : List Ent := if d = 0 then setL L M C key n else if d = 1 then setL L M C key (laterT T n) else if d = 2 then resL L M C key n else if d = 3 then dropH L key else if d = 4 ∨ d = 5 then L.filter (fun y => decide (aT T d n < y.at_)) else L

theorem nil_told {B : Nat → Prop} {w wk : World} {Rs : List Res} (h : Sep B w wk Rs) : Sep B w wk (told entE (.slice none 0 0) [] :: Rs) := by
  obtain ⟨ho, ha⟩ := h
  exact ⟨ho, fun _ => False, _, ⟨RdL.nil _ _ _ _, fun _ h => h.elim⟩, ha, fun _ h => h.elim, fun _ h => h, fun _ h => h.elim⟩
theorem do_any (I : Clk) {w : World} {v : Value} {F : Nat → Prop} {T C : Int} {L : List Ent} {M : Int} (h : I.A w v F T C L M) (hC : C ≤ 1000000) (d key n : Int) (hk : In64 key) (hn : In64 n) :
    Calls Try.prog 9 #[v, .agg #[.int .i64 d, .int .i64 key, .int .i64 n]] w fun e w' => ∃ A c, e = .returned (.tuple #[.int .i64 (aE L M d key), .bool (aB L d key), .slice A (aW T L d n).length c]) ∧ Sep F w w' [told entE (.slice A (aW T L d n).length c) (aW T L d n), ck I v (aT T d n) (aC L M C d key) (aL T L M C d key n) M] := by
  obtain ⟨pa, rfl⟩ := I.ptr h
  have S0 := Lib.hid ((Sep.of (R := ck I (.pointer (some pa)) T C L M) h).new (.cells #[.int .i64 d, .int .i64 key, .int .i64 n] 32))
  have HK := Lib.hid hk
  have HN := Lib.hid hn
  clear h hk hn
  rcases (by omega : d = 0 ∨ d = 1 ∨ d = 2 ∨ d = 3 ∨ d = 4 ∨ d = 5 ∨ (d ≠ 0 ∧ d ≠ 1 ∧ d ≠ 2 ∧ d ≠ 3 ∧ d ≠ 4 ∧ d ≠ 5)) with rfl | rfl | rfl | rfl | rfl | rfl | ⟨d0, d1, d2, d3, d4, d5⟩
  · go_enter Try.func9, Try.ntmps9
    go_wp2_with fail
    refine (S0.out.to 1 rfl (R' := ck I _ _ _ _ _) fun _ ha => I.set ha hC key n HK.out HN.out).mono ?_
    rintro e w1 ⟨rfl, h1⟩
    have S1 := Lib.hid h1
    clear h1
    go_wp2
    go_ret3
    exact ⟨_, _, rfl, nil_told S1.out.tail⟩
  · go_enter Try.func9, Try.ntmps9
    go_wp2_with fail
    refine (S0.out.to 1 rfl (R' := ck I _ _ _ _ _) fun _ ha => I.after ha hC key n HK.out HN.out).mono ?_
    rintro e w1 ⟨rfl, h1⟩
    have S1 := Lib.hid h1
    clear h1
    go_wp2
    go_ret3
    exact ⟨_, _, rfl, nil_told S1.out.tail⟩
  · go_enter Try.func9, Try.ntmps9
    go_wp2_with fail
    refine (S0.out.to 1 rfl (R' := ck I _ _ _ _ _) fun _ ha => I.reset ha hC key n HK.out HN.out).mono ?_
    rintro e w1 ⟨rfl, h1⟩
    have S1 := Lib.hid h1
    clear h1
    go_wp2
    go_ret3
    exact ⟨_, _, rfl, nil_told S1.out.tail⟩
  · go_enter Try.func9, Try.ntmps9
    go_wp2_with fail
    refine (S0.out.to 1 rfl (R' := ck I _ _ _ _ _) fun _ ha => I.stop ha key HK.out).mono ?_
    rintro e w1 ⟨rfl, h1⟩
    have S1 := Lib.hid h1
    clear h1
    go_wp2
    go_ret3
    exact ⟨_, _, rfl, nil_told S1.out.tail⟩
  · go_enter Try.func9, Try.ntmps9
    go_wp2_with fail
    obtain ⟨F1, hR, hn'⟩ := S0.out.splice2 1 rfl
    refine (I.to_ hR n HN.out).mono ?_
    rintro e w1 ⟨u, rfl, hu⟩
    obtain ⟨A1, c1, rfl⟩ : ∃ A c, u = .slice A _ c := by obtain ⟨_, _, _, hr, _⟩ := hu; exact hr.form
    have S1 := Lib.hid (hn' hu.sep)
    clear hR hn' hu
    go_wp2
    go_ret3
    exact ⟨_, _, rfl, S1.out.perm ((List.Perm.swap _ _ _).cons _) |>.sub (List.Sublist.cons_cons _ (List.Sublist.cons_cons _ (List.nil_sublist _)))⟩
  · go_enter Try.func9, Try.ntmps9
    go_wp2_with fail
    obtain ⟨F1, hR, hn'⟩ := S0.out.splice2 1 rfl
    refine (I.by_ hR n HN.out).mono ?_
    rintro e w1 ⟨u, rfl, hu⟩
    obtain ⟨A1, c1, rfl⟩ : ∃ A c, u = .slice A _ c := by obtain ⟨_, _, _, hr, _⟩ := hu; exact hr.form
    have S1 := Lib.hid (hn' hu.sep)
    clear hR hn' hu
    go_wp2
    go_ret3
    exact ⟨_, _, rfl, S1.out.perm ((List.Perm.swap _ _ _).cons _) |>.sub (List.Sublist.cons_cons _ (List.Sublist.cons_cons _ (List.nil_sublist _)))⟩
  · have HR : Hid (aE L M d key = 0 ∧ aB L d key = false ∧ aT T d n = T ∧ aW T L d n = [] ∧ aC L M C d key = C ∧ aL T L M C d key n = L) := by
      show _ ∧ _
      unfold aE aB aW aC aL aT
      rw [if_neg (by omega), if_neg d2, if_neg d3, if_neg d4, if_neg d5, if_neg (by omega), if_neg (by omega), if_neg d2, if_neg d0, if_neg d1, if_neg d2, if_neg d3, if_neg (by omega)]
      exact ⟨rfl, rfl, rfl, rfl, rfl, rfl⟩
    have e0 : (d == 0) = false := by simpa using d0
    have e1 : (d == 1) = false := by simpa using d1
    have e2 : (d == 2) = false := by simpa using d2
    have e3 : (d == 3) = false := by simpa using d3
    have e4 : (d == 4) = false := by simpa using d4
    have e5 : (d == 5) = false := by simpa using d5
    clear d0 d1 d2 d3 d4 d5
    go_enter Try.func9, Try.ntmps9
    go_wp2
    go_ret3
    obtain ⟨q0, q1, q2, q3, q4, q5⟩ := HR.out
    rw [q0, q1, q2, q3, q4, q5]
    exact ⟨_, _, rfl, nil_told S0.out.tail⟩
theorem c_do {I : Clk} {B : Nat → Prop} {w wk : World} {Rs : List Res} {v : Value} {T C : Int} {L : List Ent} {M : Int} (h : Sep B w wk Rs) (i : Nat) (hi : Rs[i]? = some (ck I v T C L M)) (hC : C ≤ 1000000) (d key n : Int) (hk : In64 key) (hn : In64 n) :
    Calls Try.prog 9 #[v, .agg #[.int .i64 d, .int .i64 key, .int .i64 n]] wk fun e wn => ∃ A c, e = .returned (.tuple #[.int .i64 (aE L M d key), .bool (aB L d key), .slice A (aW T L d n).length c]) ∧ Sep B w wn (told entE (.slice A (aW T L d n).length c) (aW T L d n) :: Rs.set i (ck I v (aT T d n) (aC L M C d key) (aL T L M C d key n) M)) := by
  obtain ⟨F, hR, hn'⟩ := h.splice2 i hi
  refine (do_any I hR hC d key n hk hn).mono ?_
  rintro e wn ⟨A, c, rfl, hs⟩
  exact ⟨A, c, rfl, hn' hs⟩
theorem aC_le {L : List Ent} {M C d key : Int} : aC L M C d key ≤ C + 1 := by
  unfold aC setN resN
  split
  · split <;> omega
  · split
    · split <;> omega
    · omega
end Go.Proofs.Ytpoolfnfboohjaa.TimerI
