/-
  What the laws of layer 5 ask of package tree, as one structure (a tree as the list of its nodes), and the law's own helpers over it. Conditions: those that each statement names.
-/
import Derived.Test.YtgmbpknmjeegiaaRefTreeS
import Derived.Test.YtgmbpknmjeegiaaSameI
namespace Go.Proofs.Ytgmbpknmjeegiaa.TreeI
open Go.ChangeShapes Go.WideShapes Go.ChangeAt Go.RowKit Mem TreeP RefTree Hand

def In64 (a : Int) : Prop := -9223372036854775808 ≤ a ∧ a ≤ 9223372036854775807
def After (A : World → Value → (Nat → Prop) → List Nd → Int → Prop) (w w' : World) (v : Value) (F : Nat → Prop) (L : List Nd) (M : Int) : Prop :=
  ∃ F', A w' v F' L M ∧ Only F w w' ∧ ∀ k, F' k → F k ∨ w.heap.size ≤ k
/-- A slice's length is no more than its capacity. -/
def Fits : Value → Prop | .slice _ n c => n ≤ c | _ => True
/-- A list that was told, in blocks that are none of the tree's. -/
def Told (w w' : World) (F : Nat → Prop) (u : Value) (l : List Int) : Prop := Rd w' (fun k => ¬ F k) u l ∧ Below w.heap.size w w' ∧ Fits u

structure Tr where
  A : World → Value → (Nat → Prop) → List Nd → Int → Prop
  ptr : ∀ {w v F L M}, A w v F L M → ∃ a, v = .pointer (some a)
  keep : ∀ {w w' v F L M}, A w v F L M → w.heap.size ≤ w'.heap.size → (∀ k, k < w.heap.size → F k → w'.heap[k]? = w.heap[k]?) → A w' v F L M
  lt : ∀ {w v F L M}, A w v F L M → ∀ k, F k → k < w.heap.size
  ok : ∀ {w v F L M}, A w v F L M → Ok L M
  new_no : ∀ (n : Int) (w : World), In64 n → (n < 1 ∨ 200 < n) → Calls Try.prog 7 #[.int .i64 n] w fun e w' => e = .returned (.tuple #[.pointer none, .int .i64 1]) ∧ Below w.heap.size w w'
  new_yes : ∀ (n : Int) (w : World), 1 ≤ n → n ≤ 200 → Calls Try.prog 7 #[.int .i64 n] w fun e w' => ∃ v F, e = .returned (.tuple #[v, .int .i64 0]) ∧ A w' v F [] n ∧ Below w.heap.size w w' ∧ ∀ k, F k → w.heap.size ≤ k
  root : ∀ {w v F L M}, A w v F L M → Calls Try.prog 27 #[v] w fun e w' => e = .returned (.tuple #[.int .i64 (putV L M), .int .i64 (putE L M)]) ∧ After A w w' v F (putL L M ⟨-1, false⟩) M
  add : ∀ {w v F L M}, A w v F L M → ∀ o c, In64 o → Calls Try.prog 28 #[v, .int .i64 o, .bool c] w fun e w' => e = .returned (.tuple #[.int .i64 (addV L M o), .int .i64 (addE L M o)]) ∧ After A w w' v F (addL L M o c) M
  len : ∀ {w v F L M}, A w v F L M → Calls Try.prog 12 #[v] w fun e w' => e = .returned (.int .i64 L.length) ∧ ∃ m, w' = w.drewN m
  over : ∀ {w v F L M}, A w v F L M → ∀ n, In64 n → Calls Try.prog 13 #[v, .int .i64 n] w fun e w' => e = .returned (.int .i64 (overT L n)) ∧ Below w.heap.size w w'
  cut : ∀ {w v F L M}, A w v F L M → ∀ n, In64 n → Calls Try.prog 15 #[v, .int .i64 n] w fun e w' => e = .returned (.bool (cutT L n)) ∧ Below w.heap.size w w'
  kids : ∀ {w v F L M}, A w v F L M → ∀ n, In64 n → Calls Try.prog 18 #[v, .int .i64 n] w fun e w' => ∃ u, e = .returned u ∧ Told w w' F u (kidsT L n)
  reach : ∀ {w v F L M}, A w v F L M → ∀ n, In64 n → Calls Try.prog 20 #[v, .int .i64 n] w fun e w' => ∃ u, e = .returned u ∧ Told w w' F u (reachT L n)
  chain : ∀ {w v F L M}, A w v F L M → ∀ n, In64 n → Calls Try.prog 22 #[v, .int .i64 n] w fun e w' => ∃ u, e = .returned u ∧ Told w w' F u (chainT L n)
  path : ∀ {w v F L M}, A w v F L M → ∀ n, In64 n → Calls Try.prog 24 #[v, .int .i64 n] w fun e w' => ∃ u, e = .returned u ∧ Told w w' F u (pathT L n)

/-- The program's tree. -/
def tr (I : Tr) (v : Value) (L : List Nd) (M : Int) : Res where
  holds w F := I.A w v F L M
  keep := I.keep
  lt := I.lt

section
variable {I : Tr} {B : Nat → Prop} {w wk : World} {Rs : List Res} {v : Value} {L : List Nd} {M : Int}
theorem t_ok (h : Sep B w wk Rs) (i : Nat) (hi : Rs[i]? = some (tr I v L M)) : Ok L M := by
  obtain ⟨F, hR⟩ := h.get i hi
  exact I.ok hR
theorem t_after (h : Sep B w wk Rs) (i : Nat) (hi : Rs[i]? = some (tr I v L M)) {f : FuncId} {args : Array Value} {e0 : Ending} {L' : List Nd}
    (hc : ∀ F, I.A wk v F L M → Calls Try.prog f args wk fun e wn => e = e0 ∧ After I.A wk wn v F L' M) : Calls Try.prog f args wk fun e wn => e = e0 ∧ Sep B w wn (Rs.set i (tr I v L' M)) := by
  obtain ⟨F, hR, _, hn⟩ := h.upd i hi
  refine (hc F hR).mono ?_
  rintro e wn ⟨rfl, F', ha, ho, hF⟩
  exact ⟨rfl, hn (tr I v L' M) ha ho hF⟩
theorem t_still (h : Sep B w wk Rs) (i : Nat) (hi : Rs[i]? = some (tr I v L M)) {f : FuncId} {args : Array Value} {e0 : Ending}
    (hc : ∀ F, I.A wk v F L M → Calls Try.prog f args wk fun e wn => e = e0 ∧ Below wk.heap.size wk wn) : Calls Try.prog f args wk fun e wn => e = e0 ∧ Sep B w wn Rs := by
  obtain ⟨F, hR⟩ := h.get i hi
  refine (hc F hR).mono ?_
  rintro e wn ⟨rfl, hb⟩
  exact ⟨rfl, h.next hb⟩
theorem t_stillb (h : Sep B w wk Rs) (i : Nat) (hi : Rs[i]? = some (tr I v L M)) {f : FuncId} {args : Array Value} {e0 : Ending}
    (hc : ∀ F, I.A wk v F L M → Calls Try.prog f args wk fun e wn => e = e0 ∧ Below wk.heap.size wk wn) : Calls Try.prog f args wk fun e wn => e = e0 ∧ Sep B w wn Rs ∧ Below wk.heap.size wk wn := by
  obtain ⟨F, hR⟩ := h.get i hi
  refine (hc F hR).mono ?_
  rintro e wn ⟨rfl, hb⟩
  exact ⟨rfl, h.next hb, hb⟩
theorem t_overb (h : Sep B w wk Rs) (i : Nat) (hi : Rs[i]? = some (tr I v L M)) (n : Int) (hn : In64 n) {o : Int} (ho : overT L n = o) : Calls Try.prog 13 #[v, .int .i64 n] wk fun e wn => e = .returned (.int .i64 o) ∧ Sep B w wn Rs ∧ Below wk.heap.size wk wn := by subst ho; exact t_stillb h i hi fun _ ha => I.over ha n hn
theorem t_cutb (h : Sep B w wk Rs) (i : Nat) (hi : Rs[i]? = some (tr I v L M)) (n : Int) (hn : In64 n) {c : Bool} (hc : cutT L n = c) : Calls Try.prog 15 #[v, .int .i64 n] wk fun e wn => e = .returned (.bool c) ∧ Sep B w wn Rs ∧ Below wk.heap.size wk wn := by subst hc; exact t_stillb h i hi fun _ ha => I.cut ha n hn
theorem t_told (h : Sep B w wk Rs) (i : Nat) (hi : Rs[i]? = some (tr I v L M)) {f : FuncId} {args : Array Value} {l : List Int}
    (hc : ∀ F, I.A wk v F L M → Calls Try.prog f args wk fun e wn => ∃ u, e = .returned u ∧ Told wk wn F u l) : Calls Try.prog f args wk fun e wn => ∃ A c, e = .returned (.slice A l.length c) ∧ Sep B w wn Rs ∧ Rd wn (fun _ => True) (.slice A l.length c) l ∧ Below wk.heap.size wk wn ∧ l.length ≤ c := by
  obtain ⟨F, hR⟩ := h.get i hi
  refine (hc F hR).mono ?_
  rintro e wn ⟨u, rfl, hr, hb, hc⟩
  obtain ⟨A, c, rfl⟩ : ∃ A c, u = .slice A l.length c := by obtain ⟨A, c, e, _⟩ := hr; exact ⟨A, c, e⟩
  exact ⟨A, c, rfl, h.next hb, hr.mono fun _ _ _ => trivial, hb, hc⟩
theorem t_new (h : Sep B w wk Rs) (I : Tr) (n : Int) (h1 : 1 ≤ n) (h2 : n ≤ 200) :
    Calls Try.prog 7 #[.int .i64 n] wk fun e wn => ∃ a, e = .returned (.tuple #[.pointer (some a), .int .i64 0]) ∧ Sep B w wn (tr I (.pointer (some a)) [] n :: Rs) := by
  refine (I.new_yes n wk h1 h2).mono ?_
  rintro e wn ⟨v, F, rfl, ha, hb, hf⟩
  obtain ⟨a, rfl⟩ := I.ptr ha
  exact ⟨a, rfl, h.add hb (R := tr I _ _ _) ha hf⟩
theorem t_root (h : Sep B w wk Rs) (i : Nat) (hi : Rs[i]? = some (tr I v L M)) {V E : Int} {L' : List Nd} (hV : putV L M = V) (hE : putE L M = E) (hL : putL L M ⟨-1, false⟩ = L') :
    Calls Try.prog 27 #[v] wk fun e wn => e = .returned (.tuple #[.int .i64 V, .int .i64 E]) ∧ Sep B w wn (Rs.set i (tr I v L' M)) := by subst hV hE hL; exact t_after h i hi fun _ ha => I.root ha
theorem t_add (h : Sep B w wk Rs) (i : Nat) (hi : Rs[i]? = some (tr I v L M)) (o : Int) (c : Bool) (ho : In64 o) {V E : Int} {L' : List Nd} (hV : addV L M o = V) (hE : addE L M o = E) (hL : addL L M o c = L') :
    Calls Try.prog 28 #[v, .int .i64 o, .bool c] wk fun e wn => e = .returned (.tuple #[.int .i64 V, .int .i64 E]) ∧ Sep B w wn (Rs.set i (tr I v L' M)) := by subst hV hE hL; exact t_after h i hi fun _ ha => I.add ha o c ho
theorem t_len (h : Sep B w wk Rs) (i : Nat) (hi : Rs[i]? = some (tr I v L M)) : Calls Try.prog 12 #[v] wk fun e wn => e = .returned (.int .i64 L.length) ∧ Sep B w wn Rs := t_still h i hi fun _ ha => (I.len ha).mono fun _ _ ⟨he, m, hm⟩ => ⟨he, by rw [hm]; exact below_drewN (Below.refl _ _) m⟩
theorem quiet_len (h : Sep B w wk Rs) (i : Nat) (hi : Rs[i]? = some (tr I v L M)) (n : Nat) {u : Value} (hu : u = .int .i64 L.length) : Calls Try.prog 12 #[v] (wk.drewN n) fun e w'' => e = .returned u ∧ ∃ m, w'' = wk.drewN m := by
  subst hu
  obtain ⟨F, hR⟩ := h.get i hi
  exact Calls.quiet_of (I.len (I.keep hR (Nat.le_refl _) fun _ _ _ => rfl))
theorem t_over (h : Sep B w wk Rs) (i : Nat) (hi : Rs[i]? = some (tr I v L M)) (n : Int) (hn : In64 n) : Calls Try.prog 13 #[v, .int .i64 n] wk fun e wn => e = .returned (.int .i64 (overT L n)) ∧ Sep B w wn Rs := t_still h i hi fun _ ha => I.over ha n hn
theorem t_cut (h : Sep B w wk Rs) (i : Nat) (hi : Rs[i]? = some (tr I v L M)) (n : Int) (hn : In64 n) : Calls Try.prog 15 #[v, .int .i64 n] wk fun e wn => e = .returned (.bool (cutT L n)) ∧ Sep B w wn Rs := t_still h i hi fun _ ha => I.cut ha n hn
theorem t_kids (h : Sep B w wk Rs) (i : Nat) (hi : Rs[i]? = some (tr I v L M)) (n : Int) (hn : In64 n) {l : List Int} (hl : kidsT L n = l) : Calls Try.prog 18 #[v, .int .i64 n] wk fun e wn => ∃ A c, e = .returned (.slice A l.length c) ∧ Sep B w wn Rs ∧ Rd wn (fun _ => True) (.slice A l.length c) l ∧ Below wk.heap.size wk wn ∧ l.length ≤ c := by subst hl; exact t_told h i hi fun _ ha => I.kids ha n hn
theorem t_reach (h : Sep B w wk Rs) (i : Nat) (hi : Rs[i]? = some (tr I v L M)) (n : Int) (hn : In64 n) {l : List Int} (hl : reachT L n = l) : Calls Try.prog 20 #[v, .int .i64 n] wk fun e wn => ∃ A c, e = .returned (.slice A l.length c) ∧ Sep B w wn Rs ∧ Rd wn (fun _ => True) (.slice A l.length c) l ∧ Below wk.heap.size wk wn ∧ l.length ≤ c := by subst hl; exact t_told h i hi fun _ ha => I.reach ha n hn
theorem t_chain (h : Sep B w wk Rs) (i : Nat) (hi : Rs[i]? = some (tr I v L M)) (n : Int) (hn : In64 n) {l : List Int} (hl : chainT L n = l) : Calls Try.prog 22 #[v, .int .i64 n] wk fun e wn => ∃ A c, e = .returned (.slice A l.length c) ∧ Sep B w wn Rs ∧ Rd wn (fun _ => True) (.slice A l.length c) l ∧ Below wk.heap.size wk wn ∧ l.length ≤ c := by subst hl; exact t_told h i hi fun _ ha => I.chain ha n hn
theorem t_path (h : Sep B w wk Rs) (i : Nat) (hi : Rs[i]? = some (tr I v L M)) (n : Int) (hn : In64 n) {l : List Int} (hl : pathT L n = l) : Calls Try.prog 24 #[v, .int .i64 n] wk fun e wn => ∃ A c, e = .returned (.slice A l.length c) ∧ Sep B w wn Rs ∧ Rd wn (fun _ => True) (.slice A l.length c) l ∧ Below wk.heap.size wk wn ∧ l.length ≤ c := by subst hl; exact t_told h i hi fun _ ha => I.path ha n hn
end

/-- in(l, n): how often n is in l. -/
theorem in_any {w : World} {G : Nat → Prop} {u : Value} {l : List Int} (h : Rd w G u l) (n : Int) :
    Calls Try.prog 26 #[u, .int .i64 n] w fun e w' => e = .returned (.int .i64 (l.count n)) ∧ w = w' := by
  obtain ⟨A, c, rfl, hm, hx⟩ := h
  have HX := Lib.hid hx
  clear hx
  go_enter Try.func26, Try.ntmps26
  go_wp2
  go_loop [5, 10] (fun m t => ∃ i q : Nat, i ≤ l.length ∧ q ≤ i ∧ t = .int .i64 i ∧ m = .int .i64 q ∧ Hid ((l.take i).count n = q)) (fun _ t => l.length - (intOf t).toNat)
  case atStart => exact ⟨0, 0, Nat.zero_le _, Nat.le_refl _, rfl, rfl, rfl⟩
  case round =>
    obtain ⟨i, q, hi, hq, rfl, rfl, HC⟩ := hrel
    by_cases hlt : i < l.length
    · obtain ⟨b, off, rfl, _, hb, hc⟩ := HX.out (by omega)
      have c0 := hc i hlt
      have hg : l[i]? = some (l.getD i 0) := by rw [List.getD_eq_getElem?_getD, List.getElem?_eq_getElem hlt]; rfl
      have HT : Hid (l.take (i + 1) = l.take i ++ [l.getD i 0]) := by show _ = _; rw [List.take_add_one, hg]; rfl
      generalize l.getD i 0 = a at *
      clear hc hg
      by_cases ha : a = n
      · subst ha
        have HC2 : Hid ((l.take (i + 1)).count a = q + 1) := by show _ = _; rw [HT.out, List.count_append, HC.out]; simp
        go_wp2
        go_round
        case rel => exact ⟨i + 1, q + 1, by omega, by omega, by go_num, by go_num, HC2⟩
        case measure => simp [intOf]; omega
      · have e1 : (a == n) = false := by simpa using ha
        have HC2 : Hid ((l.take (i + 1)).count n = q) := by show _ = _; rw [HT.out, List.count_append, HC.out]; simp [ha]
        clear ha
        go_wp2
        go_round
        case rel => exact ⟨i + 1, q, by omega, by omega, by go_num, rfl, HC2⟩
        case measure => simp [intOf]; omega
    · have HC2 : Hid (l.count n = q) := by show _ = _; have := HC.out; rwa [List.take_of_length_le (by omega)] at this
      go_wp2
      go_ret
      exact ⟨ret_int (by rw [HC2.out]), rfl⟩

/-- What an act answers, and the nodes behind it. -/
def doV (L : List Nd) (M : Int) (r : Bool) (o : Int) : Int := if r = true then putV L M else addV L M o
def doE (L : List Nd) (M : Int) (r : Bool) (o : Int) : Int := if r = true then putE L M else addE L M o
def doL (L : List Nd) (M : Int) (r : Bool) (o : Int) (c : Bool) : List Nd := if r = true then putL L M ⟨-1, false⟩ else addL L M o c

/-- do(t, a): the act. -/
theorem t_do {I : Tr} {B : Nat → Prop} {w wk : World} {Rs : List Res} {v : Value} {L : List Nd} {M : Int} (h : Sep B w wk Rs) (i : Nat) (hi : Rs[i]? = some (tr I v L M)) (r c : Bool) (o : Int) (ho : In64 o) {V E : Int} {L' : List Nd} (hV : doV L M r o = V) (hE : doE L M r o = E) (hL : doL L M r o c = L') :
    Calls Try.prog 9 #[v, .agg #[.bool r, .bool c, .int .i64 o]] wk fun e wn => e = .returned (.tuple #[.int .i64 V, .int .i64 E]) ∧ Sep B w wn (Rs.set i (tr I v L' M)) := by
  subst hV hE hL
  obtain ⟨F, hR, _, hn⟩ := h.upd i hi
  obtain ⟨a, rfl⟩ := I.ptr hR
  have h1 := Lib.hid ((Sep.of (R := tr I (.pointer (some a)) L M) hR).new (.cells #[.bool r, .bool c, .int .i64 o] 32))
  have HN : Hid (∀ {wn : World} {L' : List Nd}, Stays (tr I (.pointer (some a)) L' M) F wk wn → Sep B w wn (Rs.set i (tr I (.pointer (some a)) L' M))) := fun {wn L'} ⟨F', hR', ho', hF'⟩ => hn (tr I (.pointer (some a)) L' M) hR' ho' hF'
  clear hn hR hi h
  cases r
  · go_enter Try.func9, Try.ntmps9
    go_wp2_with fail
    refine (t_add h1.out 1 rfl o c ho rfl rfl rfl).mono ?_
    rintro e w2 ⟨rfl, h2⟩
    have H2 := Lib.hid h2
    clear h2
    go_wp2
    go_ret2
    exact ⟨rfl, HN.out (H2.out.left 1 rfl)⟩
  · go_enter Try.func9, Try.ntmps9
    go_wp2_with fail
    refine (t_root h1.out 1 rfl rfl rfl rfl).mono ?_
    rintro e w2 ⟨rfl, h2⟩
    have H2 := Lib.hid h2
    clear h2
    go_wp2
    go_ret2
    exact ⟨rfl, HN.out (H2.out.left 1 rfl)⟩
end Go.Proofs.Ytgmbpknmjeegiaa.TreeI
