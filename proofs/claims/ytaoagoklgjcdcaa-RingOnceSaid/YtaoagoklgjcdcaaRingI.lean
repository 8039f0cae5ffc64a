/-
  What the laws of layer 2 ask of package ring, as one structure (an arena as the lists of its rows), and the contracts of the law's own helpers over it. Conditions: those that each statement names.
-/
import Derived.Test.YtaoagoklgjcdcaaRefRing
namespace Go.Proofs.Ytaoagoklgjcdcaa.RingI
open Go.ChangeShapes Go.WideShapes Go.ChangeAt Go.RowKit Mem RefRing

/-- int64s. -/
def In64 (a : Int) : Prop := -9223372036854775808 ≤ a ∧ a ≤ 9223372036854775807

/-- Rows that may be. -/
structure Ok (L : List (List Int)) (N : Int) : Prop where
  rows : L.length ≤ 1000
  n0 : 0 ≤ N
  n1 : N ≤ 1000
  nodes : ∀ l ∈ L, ∀ x ∈ l, 0 ≤ x ∧ x < N
  lens : ∀ l ∈ L, l.length ≤ 1000
  once : L.flatten.Nodup

/-- An arena behind a call that may have changed it: it holds L now, only its own blocks have changed, and it has only new ones besides. -/
def After (A : World → Value → (Nat → Prop) → List (List Int) → Int → Prop) (w w' : World) (v : Value) (F : Nat → Prop) (L : List (List Int)) (N : Int) : Prop :=
  ∃ F', A w' v F' L N ∧ Only F w w' ∧ ∀ k, F' k → F k ∨ w.heap.size ≤ k

structure Ring where
  A : World → Value → (Nat → Prop) → List (List Int) → Int → Prop
  ptr : ∀ {w v F L N}, A w v F L N → ∃ a, v = .pointer (some a)
  keep : ∀ {w w' v F L N}, A w v F L N → w.heap.size ≤ w'.heap.size → (∀ k, k < w.heap.size → F k → w'.heap[k]? = w.heap[k]?) → A w' v F L N
  lt : ∀ {w v F L N}, A w v F L N → ∀ k, F k → k < w.heap.size
  ok : ∀ {w v F L N}, A w v F L N → Ok L N
  new_no : ∀ (r n : Int) (w : World), In64 r → In64 n → (r < 1 ∨ 1000 < r ∨ n < 1 ∨ 1000 < n) → Calls Try.prog 7 #[.int .i64 r, .int .i64 n] w fun e w' => e = .returned (.tuple #[.pointer none, .int .i64 1]) ∧ Below w.heap.size w w'
  new_yes : ∀ (r n : Int) (w : World), 1 ≤ r → r ≤ 1000 → 1 ≤ n → n ≤ 1000 → Calls Try.prog 7 #[.int .i64 r, .int .i64 n] w fun e w' => ∃ v F, e = .returned (.tuple #[v, .int .i64 0]) ∧ A w' v F (List.replicate r.toNat []) n ∧ Below w.heap.size w w' ∧ ∀ k, F k → w.heap.size ≤ k
  rows : ∀ {w v F L N}, A w v F L N → Calls Try.prog 22 #[v] w fun e w' => e = .returned (.int .i64 L.length) ∧ w = w'
  nodes : ∀ {w v F L N}, A w v F L N → Calls Try.prog 23 #[v] w fun e w' => e = .returned (.int .i64 N) ∧ w = w'
  put : ∀ {w v F L N}, A w v F L N → ∀ r x, In64 r → In64 x → Calls Try.prog 12 #[v, .int .i64 r, .int .i64 x] w fun e w' => e = .returned (.int .i64 (putE L N r x)) ∧ After A w w' v F (putL L N r x false) N
  push : ∀ {w v F L N}, A w v F L N → ∀ r x, In64 r → In64 x → Calls Try.prog 18 #[v, .int .i64 r, .int .i64 x] w fun e w' => e = .returned (.int .i64 (putE L N r x)) ∧ After A w w' v F (putL L N r x true) N
  take : ∀ {w v F L N}, A w v F L N → ∀ r, In64 r → Calls Try.prog 14 #[v, .int .i64 r] w fun e w' => e = .returned (.tuple #[.int .i64 (firstL L r), .bool (decide (0 ≤ inL L (firstL L r)))]) ∧ After A w w' v F (dropL L (firstL L r)) N
  drop : ∀ {w v F L N}, A w v F L N → ∀ x, In64 x → Calls Try.prog 13 #[v, .int .i64 x] w fun e w' => e = .returned (.bool (decide (0 ≤ inL L x))) ∧ After A w w' v F (dropL L x) N
  move : ∀ {w v F L N}, A w v F L N → ∀ a b, In64 a → In64 b → Calls Try.prog 19 #[v, .int .i64 a, .int .i64 b] w fun e w' => e = .returned (.int .i64 (moveE L a b)) ∧ After A w w' v F (moveL L a b) N
  isIn : ∀ {w v F L N}, A w v F L N → ∀ x, In64 x → Calls Try.prog 17 #[v, .int .i64 x] w fun e w' => e = .returned (.int .i64 (inL L x)) ∧ ∃ m, w' = w.drewN m
  first : ∀ {w v F L N}, A w v F L N → ∀ r, In64 r → Calls Try.prog 21 #[v, .int .i64 r] w fun e w' => e = .returned (.int .i64 (firstL L r)) ∧ Below w.heap.size w w'
  len : ∀ {w v F L N}, A w v F L N → ∀ r, In64 r → Calls Try.prog 15 #[v, .int .i64 r] w fun e w' => e = .returned (.int .i64 (listL L r).length) ∧ Below w.heap.size w w'
  list : ∀ {w v F L N}, A w v F L N → ∀ r, In64 r → Calls Try.prog 16 #[v, .int .i64 r] w fun e w' => ∃ u, e = .returned u ∧ Rd w' (fun k => ¬ F k) u (listL L r) ∧ Below w.heap.size w w'

variable (I : Ring)

/-- An act's answers, and the rows behind it. -/
def actE (L : List (List Int)) (N d a b : Int) : Int := if d = 0 ∨ d = 1 then putE L N a b else if d = 4 then moveE L a b else 0
def actN (L : List (List Int)) (d a : Int) : Int := if d = 2 then firstL L a else 0
def actB (L : List (List Int)) (d a : Int) : Bool := if d = 2 then decide (0 ≤ inL L (firstL L a)) else if d = 3 then decide (0 ≤ inL L a) else false
def actL (L : List (List Int)) (N d a b : Int) : List (List Int) := if d = 0 then putL L N a b false else if d = 1 then putL L N a b true else if d = 2 then dropL L (firstL L a) else if d = 3 then dropL L a else if d = 4 then moveL L a b else L

theorem After.box {A : World → Value → (Nat → Prop) → List (List Int) → Int → Prop} {w w' : World} {o : Obj} {v : Value} {F : Nat → Prop} {L : List (List Int)} {N : Int} (h : After A (w.alloc o) w' v F L N) : After A w w' v F L N := by
  obtain ⟨F', ha, ho, hf⟩ := h
  exact ⟨F', ha, (Only.trans ((Only.refl F w).alloc o) ho fun _ _ h => h), fun k hk => (hf k hk).imp id fun h => Nat.le_trans (by simp) h⟩
theorem After.same {w : World} {v : Value} {F : Nat → Prop} {L : List (List Int)} {N : Int} (h : I.A w v F L N) : After I.A w w v F L N := ⟨F, h, Only.refl _ _, fun _ hk => .inl hk⟩
theorem keepAlloc {w : World} {v : Value} {F : Nat → Prop} {L : List (List Int)} {N : Int} (h : I.A w v F L N) (o : Obj) : I.A (w.alloc o) v F L N := I.keep h (by simp) fun k hk _ => Below.heap_alloc w o k hk

def ActRet (L : List (List Int)) (N d a b : Int) : Ending := .returned (.tuple #[.int .i64 (actE L N d a b), .int .i64 (actN L d a), .bool (actB L d a)])

set_option maxHeartbeats 1000000 in
theorem do_any {w : World} {v : Value} {F : Nat → Prop} {L : List (List Int)} {N : Int} (h : I.A w v F L N) (d a b : Int) (ha : In64 a) (hb : In64 b) :
    Calls Try.prog 9 #[v, .agg #[.int .i64 d, .int .i64 a, .int .i64 b]] w fun e w' => e = ActRet L N d a b ∧ After I.A w w' v F (actL L N d a b) N := by
  obtain ⟨p, rfl⟩ := I.ptr h
  have h1 := keepAlloc I h (.cells #[.int .i64 d, .int .i64 a, .int .i64 b] 32)
  have H := Lib.hid h1
  have HA := Lib.hid ha
  have HB := Lib.hid hb
  clear h h1 ha hb
  rcases (by omega : d = 0 ∨ d = 1 ∨ d = 2 ∨ d = 3 ∨ d = 4 ∨ (d ≠ 0 ∧ d ≠ 1 ∧ d ≠ 2 ∧ d ≠ 3 ∧ d ≠ 4)) with rfl | rfl | rfl | rfl | rfl | ⟨d0, d1, d2, d3, d4⟩
  · go_enter Try.func9, Try.ntmps9
    go_wp2_with (go_at_call 12; refine (I.put H.out a b HA.out HB.out).mono ?_; rintro e w' ⟨rfl, hh⟩)
    go_ret3
    exact ⟨rfl, hh.box⟩
  · go_enter Try.func9, Try.ntmps9
    go_wp2_with (go_at_call 18; refine (I.push H.out a b HA.out HB.out).mono ?_; rintro e w' ⟨rfl, hh⟩)
    go_ret3
    exact ⟨rfl, hh.box⟩
  · go_enter Try.func9, Try.ntmps9
    go_wp2_with (go_at_call 14; refine (I.take H.out a HA.out).mono ?_; rintro e w' ⟨rfl, hh⟩)
    go_ret3
    exact ⟨rfl, hh.box⟩
  · go_enter Try.func9, Try.ntmps9
    go_wp2_with (go_at_call 13; refine (I.drop H.out a HA.out).mono ?_; rintro e w' ⟨rfl, hh⟩)
    go_ret3
    exact ⟨rfl, hh.box⟩
  · go_enter Try.func9, Try.ntmps9
    go_wp2_with (go_at_call 19; refine (I.move H.out a b HA.out HB.out).mono ?_; rintro e w' ⟨rfl, hh⟩)
    go_ret3
    exact ⟨rfl, hh.box⟩
  · have HR : Hid (ActRet L N d a b = .returned (.tuple #[.int .i64 0, .int .i64 0, .bool false])) := by show _ = _; unfold ActRet actE actN actB; rw [if_neg (by omega), if_neg d4, if_neg d2, if_neg d2, if_neg d3]
    have HL : Hid (actL L N d a b = L) := by show _ = _; unfold actL; rw [if_neg d0, if_neg d1, if_neg d2, if_neg d3, if_neg d4]
    have e0 : (d == 0) = false := by simpa using d0
    have e1 : (d == 1) = false := by simpa using d1
    have e2 : (d == 2) = false := by simpa using d2
    have e3 : (d == 3) = false := by simpa using d3
    have e4 : (d == 4) = false := by simpa using d4
    clear d0 d1 d2 d3 d4
    go_enter Try.func9, Try.ntmps9
    go_wp2
    go_ret3
    exact ⟨HR.out.symm, by rw [HL.out]; exact (After.same I H.out).box⟩

/-- The reference's arena behind an act. -/
def AfterR (w w' : World) (G : Nat → Prop) (p q : Nat) (L : List (List Int)) (N : Int) : Prop := RA w' G p q L N ∧ Only (fun b => b = q) w w'
theorem AfterR.box {w w' : World} {o : Obj} {G : Nat → Prop} {p q : Nat} {L : List (List Int)} {N : Int} (h : AfterR (w.alloc o) w' G p q L N) : AfterR w w' G p q L N :=
  ⟨h.1, Only.trans ((Only.refl _ w).alloc o) h.2 fun _ _ h => h⟩

set_option maxHeartbeats 1000000 in
theorem own_any {w : World} {G : Nat → Prop} {p q : Nat} {L : List (List Int)} {N : Int} (h : RA w G p q L N) (hG : ∀ b, w.heap.size ≤ b → G b) (hlens : ∀ l ∈ L, l.length ≤ 1000) (d a b : Int) :
    Calls Try.prog 10 #[.pointer (some ⟨p, 0, none⟩), .agg #[.int .i64 d, .int .i64 a, .int .i64 b]] w fun e w' => e = ActRet L N d a b ∧ AfterR w w' G p q (actL L N d a b) N := by
  have h1 : RA (w.alloc (.cells #[.int .i64 d, .int .i64 a, .int .i64 b] 32)) G p q L N := h.keep (by simp) fun k hk _ => Below.heap_alloc w _ k hk
  have H := Lib.hid h1
  have HG : Hid (∀ b', (w.alloc (.cells #[.int .i64 d, .int .i64 a, .int .i64 b] 32)).heap.size ≤ b' → G b') := fun b' hb => hG b' (Nat.le_trans (by simp) hb)
  have HS := Lib.hid hlens
  clear h h1 hG hlens
  rcases (by omega : d = 0 ∨ d = 1 ∨ d = 2 ∨ d = 3 ∨ d = 4 ∨ (d ≠ 0 ∧ d ≠ 1 ∧ d ≠ 2 ∧ d ≠ 3 ∧ d ≠ 4)) with rfl | rfl | rfl | rfl | rfl | ⟨d0, d1, d2, d3, d4⟩
  · go_enter Try.func10, Try.ntmps10
    go_wp2_with (go_at_call 26; refine (put_any H.out HG.out HS.out a b false).mono ?_; rintro e w' ⟨rfl, hh⟩)
    go_ret3
    exact ⟨rfl, AfterR.box hh⟩
  · go_enter Try.func10, Try.ntmps10
    go_wp2_with (go_at_call 26; refine (put_any H.out HG.out HS.out a b true).mono ?_; rintro e w' ⟨rfl, hh⟩)
    go_ret3
    exact ⟨rfl, AfterR.box hh⟩
  · go_enter Try.func10, Try.ntmps10
    go_wp2_with (go_at_call 27; refine (take_any H.out HG.out a).mono ?_; rintro e w' ⟨rfl, hh⟩)
    go_ret3
    exact ⟨rfl, AfterR.box hh⟩
  · go_enter Try.func10, Try.ntmps10
    go_wp2_with (go_at_call 28; refine (drop_any H.out HG.out a).mono ?_; rintro e w' ⟨rfl, hh⟩)
    go_ret3
    exact ⟨rfl, AfterR.box hh⟩
  · go_enter Try.func10, Try.ntmps10
    go_wp2_with (go_at_call 29; refine (move_any H.out HG.out HS.out a b).mono ?_; rintro e w' ⟨rfl, hh⟩)
    go_ret3
    exact ⟨rfl, AfterR.box hh⟩
  · have HR : Hid (ActRet L N d a b = .returned (.tuple #[.int .i64 0, .int .i64 0, .bool false])) := by show _ = _; unfold ActRet actE actN actB; rw [if_neg (by omega), if_neg d4, if_neg d2, if_neg d2, if_neg d3]
    have HL : Hid (actL L N d a b = L) := by show _ = _; unfold actL; rw [if_neg d0, if_neg d1, if_neg d2, if_neg d3, if_neg d4]
    have e0 : (d == 0) = false := by simpa using d0
    have e1 : (d == 1) = false := by simpa using d1
    have e2 : (d == 2) = false := by simpa using d2
    have e3 : (d == 3) = false := by simpa using d3
    have e4 : (d == 4) = false := by simpa using d4
    clear d0 d1 d2 d3 d4
    go_enter Try.func10, Try.ntmps10
    go_wp2
    go_ret3
    exact ⟨HR.out.symm, by rw [HL.out]; exact AfterR.box ⟨H.out, Only.refl _ _⟩⟩

theorem keepDrewN {w : World} {v : Value} {F : Nat → Prop} {L : List (List Int)} {N : Int} (h : I.A w v F L N) (n : Nat) : I.A (w.drewN n) v F L N := I.keep h (Nat.le_refl _) fun _ _ _ => rfl
theorem quiet_left {P : Program} {f : FuncId} {args : Array Value} {w : World} {n : Nat} {u : Value} (h : Calls P f args (w.drewN n) fun e w' => e = .returned u ∧ w.drewN n = w') : Calls P f args (w.drewN n) fun e w'' => e = .returned u ∧ ∃ m, w'' = w.drewN m :=
  h.mono fun _ _ ⟨he, hm⟩ => ⟨he, n, hm.symm⟩

/-- Both arenas, in a world in which nothing that lay in w has changed. -/
def Both (w wk : World) (v : Value) (F G : Nat → Prop) (p q : Nat) (L : List (List Int)) (N : Int) : Prop := I.A wk v F L N ∧ RA wk G p q L N ∧ Below w.heap.size w wk
theorem Both.next {w wk wn : World} {v : Value} {F G : Nat → Prop} {p q : Nat} {L : List (List Int)} {N : Int} (h : Both I w wk v F G p q L N) (hb : Below wk.heap.size wk wn) : Both I w wn v F G p q L N :=
  ⟨I.keep h.1 hb.size fun k hk _ => hb.block k hk, h.2.1.keep hb.size fun k hk _ => hb.block k hk, h.2.2.trans (hb.mono h.2.2.size)⟩

set_option maxHeartbeats 1000000 in
theorem alike_any {w : World} {v : Value} {F G : Nat → Prop} {p q : Nat} {L : List (List Int)} {N : Int} (hA : I.A w v F L N) (hR : RA w G p q L N) :
    Calls Try.prog 11 #[v, .pointer (some ⟨p, 0, none⟩)] w fun e w' => e = .returned (.bool true) ∧ Below w.heap.size w w' := by
  have hok := I.ok hA
  have hL : L.length ≤ 1000 := hok.rows
  have hN0 : 0 ≤ N := hok.n0
  have hN1 : N ≤ 1000 := hok.n1
  obtain ⟨pa, rfl⟩ := I.ptr hA
  have HS : Hid (Both I w w (.pointer (some pa)) F G p q L N) := ⟨hA, hR, Below.refl _ _⟩
  obtain ⟨h0, h1⟩ := hR.head
  have hpb : p < w.heap.size := lt_of_block hR.1
  clear hA hR hok
  go_enter Try.func11, Try.ntmps11
  go_wp2
  go_loopw [5] (fun t wr => ∃ i : Int, -1 ≤ i ∧ i ≤ L.length + 1 ∧ t = .int .i64 i ∧ Hid (Both I w wr (.pointer (some pa)) F G p q L N)) (fun t _ => ((L.length : Int) + 1 - intOf t).toNat)
  case atStart => exact ⟨-1, by omega, by omega, rfl, HS⟩
  case round =>
    obtain ⟨i, hi0, hi1, rfl, HB⟩ := hrel
    have c0 : wr.cell? ⟨p, 0, none⟩ = some (.slice (some ⟨q, 0, none⟩) L.length L.length) := (HB.out.2.2.cell (p := ⟨p, 0, none⟩) hpb).trans h0
    have hi64 : Hid (In64 i) := ⟨by omega, by omega⟩
    by_cases hle : i ≤ L.length
    · go_wp2_with fail
      refine (I.list HB.out.1 i hi64.out).mono ?_
      rintro e w1 ⟨u, rfl, hu, hb1⟩
      have HB1 := Lib.hid (HB.out.next I hb1)
      have HU := Lib.hid hu
      clear hu hb1
      go_wp2_with fail
      refine (list_any HB1.out.2.1 i).mono ?_
      rintro e w2 ⟨u2, rfl, hu2, hb2⟩
      have HB2 := Lib.hid (HB1.out.next I hb2)
      have HU2 := Lib.hid hu2
      have HU1 := Lib.hid (HU.out.below hb2)
      clear hu2 hb2 HU
      go_wp2_with fail
      refine (same_any HU1.out HU2.out).mono ?_
      rintro e w3 ⟨rfl, n3, rfl⟩
      have HB3 := Lib.hid (HB2.out.next I (below_drewN (Below.refl _ _) n3))
      have hdt : decide (listL L i = listL L i) = true := by simp
      rw [hdt]
      clear hdt
      go_wp2_with fail
      refine (I.len HB3.out.1 i hi64.out).mono ?_
      rintro e w4 ⟨rfl, hb4⟩
      have HB4 := Lib.hid (HB3.out.next I hb4)
      clear hb4
      go_wp2_with fail
      refine (list_any HB4.out.2.1 i).mono ?_
      rintro e w5 ⟨u5, rfl, hu5, hb5⟩
      have HB5 := Lib.hid (HB4.out.next I hb5)
      obtain ⟨A5, c5, rfl, hm5, hx5⟩ := hu5
      clear hb5 hx5
      generalize hll : (listL L i).length = ll at *
      have hbne : (((ll : Int) != (ll : Int))) = false := by simp
      clear hll
      go_wp2_with fail
      refine (I.first HB5.out.1 i hi64.out).mono ?_
      rintro e w6 ⟨rfl, hb6⟩
      have HB6 := Lib.hid (HB5.out.next I hb6)
      clear hb6
      go_wp2_with fail
      refine (first_any HB6.out.2.1 i).mono ?_
      rintro e w7 ⟨rfl, rfl⟩
      generalize firstL L i = ff at *
      have hfne : ((ff : Int) != ff) = false := by simp
      go_wp2
      go_roundw
      case rel => exact ⟨i + 1, by omega, by omega, by go_num, HB6⟩
      case measure => simp [intOf]; omega
    · go_wp2
      clear c0 hi64
      go_loopw [6] (fun t wn => ∃ j : Int, -1 ≤ j ∧ j ≤ N + 1 ∧ t = .int .i64 j ∧ Hid (Both I w wn (.pointer (some pa)) F G p q L N)) (fun t _ => (N + 1 - intOf t).toNat)
      case atStart => exact ⟨-1, by omega, by omega, rfl, HB⟩
      case round =>
        obtain ⟨j, hj0, hj1, rfl, HC⟩ := hrel
        have c0 := (HC.out.2.2.cell (p := ⟨p, 0, none⟩) hpb).trans h0
        have c1 := (HC.out.2.2.cell (p := ⟨p, 1, none⟩) hpb).trans h1
        have hj64 : Hid (In64 j) := ⟨by omega, by omega⟩
        by_cases hle2 : j ≤ N
        · go_wp2_with fail
          refine (I.isIn HC.out.1 j hj64.out).mono ?_
          rintro e w1 ⟨rfl, n1, rfl⟩
          have HC1 := Lib.hid (HC.out.next I (below_drewN (Below.refl _ _) n1))
          go_wp2_with fail
          refine (in_any HC1.out.2.1 j).mono ?_
          rintro e w2 ⟨rfl, rfl⟩
          generalize inL L j = ff at *
          have hfne : ((ff : Int) != ff) = false := by simp
          go_wp2
          go_roundw
          case rel => exact ⟨j + 1, by omega, by omega, by go_num, HC1⟩
          case measure => simp [intOf]; omega
        · have hg : ((L.length : Int) == (L.length : Int)) = true := by simp
          have hg2 : (N == N) = true := by simp
          go_wp2
          go_quiet ((first | (go_at_call 22; exact quiet_left (I.rows (keepDrewN I HC.out.1 _))) | (go_at_call 23; exact quiet_left (I.nodes (keepDrewN I HC.out.1 _)))))
          go_wp2
          go_ret
          exact ⟨rfl, below_drewN HC.out.2.2 _⟩
end Go.Proofs.Ytaoagoklgjcdcaa.RingI
