/-
  Contracts of the functions of package countermandref06 (the document's answer for layer 6), first part: those that only read. Condition: the arena is at hand.
-/
import Derived.Test.YtidkppjhmgehoaaRows
import Derived.Test.YtidkppjhmgehoaaCtxP
import Derived.Test.YtidkppjhmgehoaaGrow
import Derived.Test.YtidkppjhmgehoaaRefTreeS
import Derived.Deep.QuietTactic
import Derived.BigQuiet
import Derived.Deep.RegionHeld3
import Derived.Deep.DeepCutAuto
import Derived.Deep.CutBlock
namespace Go.Proofs.Ytidkppjhmgehoaa.RefCtx
open Go.ChangeShapes Go.WideShapes Go.ChangeAt Go.RowKit Mem TreeP RefTree CtxP Hand TreeI

theorem cnElem : Elem cnE Try.prog 40 45 := elem_of (z := .agg #[.int .i64 0, .int .i64 0, .bool false, .int .i64 0, .int .i64 0, .bool false, .int .i64 0, .int .i64 0]) (bytes := 64) Try.underlying40 (by kernel_rfl) rfl (by omega)

/-- The reference's arena behind the pointer to block p: its tree, what its nodes have, how many there may be. -/
def rx (p : Nat) (T : List Nd) (X : List Cn) (M : Int) : Res where
  holds w F := (∃ q u, All w F [blk p (.cells #[.pointer (some ⟨q, 0, none⟩), u] 42), rt q T M, grow cnE 45 u X]) ∧ (∀ k, F k → k < w.heap.size) ∧ T.length = X.length ∧ Ok T M
  keep := fun ⟨⟨q, u, h⟩, e, l, o⟩ hs hk => ⟨⟨q, u, h.keep hs hk⟩, fun k hF => Nat.lt_of_lt_of_le (e k hF) hs, l, o⟩
  lt := fun ⟨_, e, _⟩ => e

section
variable {B : Nat → Prop} {w w' wk : World} {Rs : List Res} {F : Nat → Prop} {p : Nat} {T : List Nd} {X : List Cn} {M : Int}
/-- Its parts at hand. -/
theorem rx_open (h : Sep B w wk (rx p T X M :: Rs)) : ∃ q u, Sep B w wk (blk p (.cells #[.pointer (some ⟨q, 0, none⟩), u] 42) :: rt q T M :: grow cnE 45 u X :: Rs) ∧ T.length = X.length ∧ Ok T M := by
  obtain ⟨ho, F1, F2, ⟨⟨q, u, ha⟩, _, hl, hok⟩, h2, s1, s2, d⟩ := h
  exact ⟨q, u, ⟨ho, (All.append ha h2 d).mono fun k _ hk => hk.elim (s1 k) (s2 k)⟩, hl, hok⟩
/-- .. and put together again. -/
theorem rx_close {q : Nat} {u : Value} (h : Sep B w wk (blk p (.cells #[.pointer (some ⟨q, 0, none⟩), u] 42) :: rt q T M :: grow cnE 45 u X :: Rs)) (hl : T.length = X.length) (hok : Ok T M) : Sep B w wk (rx p T X M :: Rs) := by
  obtain ⟨ho, F1, G1, h1, ⟨F2, G2, h2, ⟨F3, G3, h3, hr, s5, s6, d3⟩, s3, s4, d2⟩, s1, s2, d1⟩ := h
  refine ⟨ho, fun k => F1 k ∨ F2 k ∨ F3 k, G3, ⟨⟨q, u, F1, fun k => F2 k ∨ F3 k, h1, ⟨F2, F3, h2, ⟨F3, fun _ => False, h3, trivial, fun _ h => h, fun _ h => h.elim, fun _ _ h => h⟩, fun k h => .inl h, fun k h => .inr h, fun k a b => d2 k a (s5 k b)⟩, fun k h => .inl h, fun k h => .inr h, fun k a b => d1 k a (b.elim (s3 k) fun b => s4 k (s5 k b))⟩, fun k h => ?_, hl, hok⟩, hr, fun k h => ?_, fun k h => s2 k (s4 k (s6 k h)), fun k a b => ?_⟩
  · rcases h with h | h | h
    · exact (blk p _).lt h1 k h
    · exact (rt q T M).lt h2 k h
    · exact (grow cnE _ u X).lt h3 k h
  · rcases h with h | h | h
    · exact s1 k h
    · exact s2 k (s3 k h)
    · exact s2 k (s4 k (s5 k h))
  · rcases a with a | a | a
    · exact d1 k a (s4 k (s6 k b))
    · exact d2 k a (s6 k b)
    · exact d3 k a b

theorem cn_cells {G : Nat → Prop} {A : Option Addr} {n c : Nat} (h : RdL cnE w G (.slice A n c) X) {i : Nat} {x : Cn} (hi : X[i]? = some x) :
    ∃ b off, A = some ⟨b, off, none⟩ ∧ b < w.heap.size ∧ w.cell? ⟨b, off + i * 8, none⟩ = some (.int .i64 x.e) ∧ w.cell? ⟨b, off + i * 8 + 1, none⟩ = some (.int .i64 x.cause) ∧ w.cell? ⟨b, off + i * 8 + 2, none⟩ = some (.bool x.has) ∧ w.cell? ⟨b, off + i * 8 + 3, none⟩ = some (.int .i64 x.at_) ∧
      w.cell? ⟨b, off + i * 8 + 4, none⟩ = some (.int .i64 x.why) ∧ w.cell? ⟨b, off + i * 8 + 5, none⟩ = some (.bool x.named) ∧ w.cell? ⟨b, off + i * 8 + 6, none⟩ = some (.int .i64 x.key) ∧ w.cell? ⟨b, off + i * 8 + 7, none⟩ = some (.int .i64 x.value) := by
  obtain ⟨b, off, hA, _, hb, hc⟩ := h.at_ hi
  exact ⟨b, off, hA, hb, hc 0 _ rfl, hc 1 _ rfl, hc 2 _ rfl, hc 3 _ rfl, hc 4 _ rfl, hc 5 _ rfl, hc 6 _ rfl, hc 7 _ rfl⟩

/-- What a call that only reads wants of it. -/
structure Sees (w : World) (p : Nat) (T : List Nd) (X : List Cn) (M : Int) (q : Nat) (A : Option Addr) (c : Nat) (G : Nat → Prop) : Prop where
  c0 : w.cell? ⟨p, 0, none⟩ = some (.pointer (some ⟨q, 0, none⟩))
  c1 : w.cell? ⟨p, 1, none⟩ = some (.slice A X.length c)
  lt : p < w.heap.size
  tree : RT w G q T M
  rd : RdL cnE w (fun _ => True) (.slice A X.length c) X
  len : T.length = X.length
  ok : Ok T M
theorem Sees.below {q : Nat} {A : Option Addr} {c : Nat} {G : Nat → Prop} (h : Sees w p T X M q A c G) (hb : Below w.heap.size w w') : Sees w' p T X M q A c G :=
  ⟨(hb.cell (p := ⟨p, 0, none⟩) h.lt).trans h.c0, (hb.cell (p := ⟨p, 1, none⟩) h.lt).trans h.c1, Nat.lt_of_lt_of_le h.lt hb.size, h.tree.below hb, h.rd.below hb, h.len, h.ok⟩
theorem rx_sees (h : (rx p T X M).holds w F) : ∃ q A c G, Sees w p T X M q A c G := by
  obtain ⟨q, u, hs, hl, hok⟩ := rx_open (Sep.of (R := rx p T X M) h)
  have hb := hs.blk_at 0 rfl
  obtain ⟨G, hR, _⟩ := hs.get 1 rfl
  have ho := hs.own 2 rfl
  obtain ⟨A, c, rfl⟩ := ho.form
  have hm := hok.len
  have hm' := hok.m1
  exact ⟨q, A, c, G, (cell_block hb 0).trans rfl, (cell_block hb 1).trans rfl, lt_of_block hb, hR, ho.rd (by omega) fun _ _ => trivial, hl, hok⟩
end

section
variable {w : World} {F : Nat → Prop} {p : Nat} {T : List Nd} {X : List Cn} {M : Int} (h : (rx p T X M).holds w F)
include h
theorem first_any : Calls Try.prog 42 #[.pointer (some ⟨p, 0, none⟩)] w fun e w' => e = .returned (.int .i64 (firstX X)) ∧ ∃ d, w' = w.drewN d := by
  obtain ⟨q, A, c, G, hs⟩ := rx_sees h
  have k1 := hs.c1
  have hm : X.length ≤ 200 := by have := hs.ok.len; have := hs.ok.m1; have := hs.len; omega
  have HR := Lib.hid hs.rd
  clear hs h
  go_enter Try.func42, Try.ntmps42
  go_wp2
  go_loopw [3, 4] (fun b t W => ∃ i d : Nat, i ≤ X.length ∧ t = .int .i64 i ∧ b = .int .i64 (firstTo X i) ∧ W = w.drewN d) (fun _ t _ => X.length - (intOf t).toNat)
  case atStart => exact ⟨0, 0, Nat.zero_le _, rfl, rfl, rfl⟩
  case round =>
    obtain ⟨i, d, hi, rfl, rfl, rfl⟩ := hrel
    have hF := firstTo_in X i
    have HS : Hid (firstTo X (i + 1) = if (cn X (i : Nat)).has = true ∧ (cn X (i : Nat)).e = 0 ∧ (firstTo X i < 0 ∨ (cn X (i : Nat)).at_ < (cn X (firstTo X i)).at_) then (i : Int) else firstTo X i) := rfl
    generalize hfb : firstTo X i = b at *
    by_cases hlt : i < X.length
    · have hx := cn_at hlt
      obtain ⟨bb, off, rfl, _, c0, _, c2, c3, _⟩ := cn_cells HR.out hx
      have i0 : (0 : Int) ≤ (i : Int) := by omega
      have i1 : (i : Int) < (X.length : Int) := by omega
      generalize cn X (i : Nat) = x at *
      clear hx hfb
      rcases hh : x.has with _ | _
      · rw [hh] at c2
        have HS2 : Hid (firstTo X (i + 1) = b) := by show _ = _; rw [HS.out, if_neg (by rw [hh]; simp)]
        clear hh
        go_wp2
        go_quiet (fail)
        go_wp2
        go_roundw
        case rel => exact ⟨i + 1, _, by omega, by go_num, by rw [HS2.out], rfl⟩
        case measure => simp [intOf]; omega
      · rw [hh] at c2
        by_cases he : x.e = 0
        · by_cases hb0 : b < 0
          · have HS2 : Hid (firstTo X (i + 1) = i) := by show _ = _; rw [HS.out, if_pos ⟨hh, he, .inl hb0⟩]
            rw [he] at c0
            have hd : decide (b < 0) = true := by simpa using hb0
            clear hh he hb0
            go_wp2
            go_quiet (fail)
            go_wp2
            go_roundw
            case rel => exact ⟨i + 1, _, by omega, by go_num, by rw [HS2.out], rfl⟩
            case measure => simp [intOf]; omega
          · obtain ⟨j, rfl⟩ := Int.eq_ofNat_of_zero_le (by omega : 0 ≤ b)
            have hj : j < X.length := by omega
            obtain ⟨bb', off', e', _, _, _, _, d3, _⟩ := cn_cells HR.out (cn_at hj)
            obtain ⟨rfl, rfl⟩ : bb = bb' ∧ off = off' := by simpa using e'
            have j0 : (0 : Int) ≤ (j : Int) := by omega
            have j1 : (j : Int) < (X.length : Int) := by omega
            have hd : decide ((j : Int) < 0) = false := by simp
            rw [he] at c0
            by_cases ha : x.at_ < (cn X (j : Nat)).at_
            · have HS2 : Hid (firstTo X (i + 1) = i) := by show _ = _; rw [HS.out, if_pos ⟨hh, he, .inr ha⟩]
              have hda : decide (x.at_ < (cn X (j : Nat)).at_) = true := by simpa using ha
              generalize (cn X (j : Nat)).at_ = ja at *
              clear hh he hb0 e' ha
              go_wp2
              go_quiet (fail)
              go_wp2
              go_roundw
              case rel => exact ⟨i + 1, _, by omega, by go_num, by rw [HS2.out], rfl⟩
              case measure => simp [intOf]; omega
            · have HS2 : Hid (firstTo X (i + 1) = j) := by show _ = _; rw [HS.out, if_neg (by rintro ⟨_, _, h | h⟩ <;> omega)]
              have hda : decide (x.at_ < (cn X (j : Nat)).at_) = false := by simpa using ha
              generalize (cn X (j : Nat)).at_ = ja at *
              clear hh he hb0 e' ha
              go_wp2
              go_quiet (fail)
              go_wp2
              go_roundw
              case rel => exact ⟨i + 1, _, by omega, by go_num, by rw [HS2.out], rfl⟩
              case measure => simp [intOf]; omega
        · have HS2 : Hid (firstTo X (i + 1) = b) := by show _ = _; rw [HS.out, if_neg (by rintro ⟨_, h, _⟩; exact he h)]
          have e1 : (x.e == 0) = false := by simpa using he
          clear hh he
          go_wp2
          go_quiet (fail)
          go_wp2
          go_roundw
          case rel => exact ⟨i + 1, _, by omega, by go_num, by rw [HS2.out], rfl⟩
          case measure => simp [intOf]; omega
    · have HS2 : Hid (firstX X = b) := by show _ = _; unfold firstX; rw [← hfb, show X.length = i from by omega]
      clear HS hfb
      go_wp2
      go_ret
      exact ⟨ret_int HS2.out.symm, _, rfl⟩
theorem next_any : Calls Try.prog 15 #[.pointer (some ⟨p, 0, none⟩)] w fun e w' => e = .returned (.int .i64 (nextX X)) ∧ ∃ d, w' = w.drewN d := by
  obtain ⟨q, A, c, G, hs⟩ := rx_sees h
  have k1 := hs.c1
  have hm : X.length ≤ 200 := by have := hs.ok.len; have := hs.ok.m1; have := hs.len; omega
  have HR := Lib.hid hs.rd
  have HF := Lib.hid (first_any h)
  have hF := first_in X
  have HN : Hid (nextX X = if firstX X < 0 then 9223372036854775807 else (cn X (firstX X)).at_) := rfl
  clear hs h
  generalize firstX X = b at *
  by_cases hb0 : b < 0
  · have hd : decide (b < 0) = true := by simpa using hb0
    have HN2 : Hid (nextX X = 9223372036854775807) := by show _ = _; rw [HN.out, if_pos hb0]
    clear hb0
    go_enter Try.func15, Try.ntmps15
    go_wp2_with fail
    refine HF.out.mono ?_
    rintro e w1 ⟨rfl, d, rfl⟩
    go_wp2
    go_ret
    exact ⟨ret_int HN2.out.symm, _, rfl⟩
  · obtain ⟨j, rfl⟩ := Int.eq_ofNat_of_zero_le (by omega : 0 ≤ b)
    have hj : j < X.length := by omega
    obtain ⟨bb, off, rfl, _, _, _, _, d3, _⟩ := cn_cells HR.out (cn_at hj)
    have j0 : (0 : Int) ≤ (j : Int) := by omega
    have j1 : (j : Int) < (X.length : Int) := by omega
    have hd : decide ((j : Int) < 0) = false := by simp
    have HN2 : Hid (nextX X = (cn X (j : Nat)).at_) := by show _ = _; rw [HN.out, if_neg hb0]
    clear hb0
    generalize (cn X (j : Nat)).at_ = ja at *
    go_enter Try.func15, Try.ntmps15
    go_wp2_with fail
    refine HF.out.mono ?_
    rintro e w1 ⟨rfl, d, rfl⟩
    go_wp2
    go_ret
    exact ⟨ret_int HN2.out.symm, _, rfl⟩
theorem get_any (n : Int) : Calls Try.prog 16 #[.pointer (some ⟨p, 0, none⟩), .int .i64 n] w fun e w' => e = .returned (getX T X n).val ∧ Below w.heap.size w w' := by
  obtain ⟨q, A, c, G, hs⟩ := rx_sees h
  have hs1 := hs.below (new_below0 w (.cells #[.int .i64 0, .int .i64 0, .bool false, .int .i64 0, .int .i64 0, .bool false, .int .i64 0, .int .i64 0] 45))
  have k0 := hs1.c0
  have k1 := hs1.c1
  have hpl := hs1.lt
  have hlen := hs.len
  have HR := Lib.hid hs.rd
  have HT := Lib.hid (there_any hs1.tree n)
  clear hs hs1 h
  cases ht : there T n with
  | false =>
    have HE : Hid (getX T X n = zeroCn) := by show _ = _; unfold getX; rw [if_neg (by rw [ht]; simp)]
    rw [ht] at HT
    clear ht
    go_enter Try.func16, Try.ntmps16
    go_wp2_with fail
    refine HT.out.mono ?_
    rintro e w1 ⟨rfl, rfl⟩
    go_wp2
    exact bodyPost_ret (v := zeroCn.val) (by simp [results, Try.results16, go_sem, Cn.val, zeroCn]) rfl ⟨by rw [HE.out], new_below0 w _⟩
  | true =>
    have HE : Hid (getX T X n = cn X n) := by show _ = _; unfold getX; rw [if_pos ht]
    obtain ⟨i, rfl, hi⟩ := there_nat ht
    rw [ht] at HT
    obtain ⟨bb, off, rfl, hbl, c0, c1, c2, c3, c4, c5, c6, c7⟩ := cn_cells HR.out (cn_at (X := X) (i := i) (by omega))
    have i0 : (0 : Int) ≤ (i : Int) := by omega
    have i1 : (i : Int) < (X.length : Int) := by omega
    clear ht
    generalize cn X (i : Nat) = x at *
    go_enter Try.func16, Try.ntmps16
    go_wp2_with fail
    refine HT.out.mono ?_
    rintro e w1 ⟨rfl, rfl⟩
    go_wp2
    exact bodyPost_ret (v := x.val) (by simp [results, Try.results16, go_sem, Cn.val]) rfl ⟨by rw [HE.out], new_below0 w _⟩
theorem value_any (n key : Int) : Calls Try.prog 20 #[.pointer (some ⟨p, 0, none⟩), .int .i64 n, .int .i64 key] w fun e w' => e = .returned (.tuple #[.int .i64 (valX T X n key).1, .bool (valX T X n key).2]) ∧ Below w.heap.size w w' := by
  obtain ⟨q, A, c, G, hs⟩ := rx_sees h
  have k0 := hs.c0
  have hm : X.length ≤ 200 := by have := hs.ok.len; have := hs.ok.m1; have := hs.len; omega
  have hlp := path_len (L := T) n
  have HTH : Hid (∀ (i : Nat) (k : Int), (pathT T n)[i]? = some k → there T k = true) := fun i k hk => (path_step hs.ok.wf n i k hk).1
  have HS := Lib.hid hs
  have HP := Lib.hid (path_any hs.tree hs.ok.wf n)
  have HV : Hid (valX T X n key = match (pathT T n).find? (named X key) with | some k => ((cn X k).value, true) | none => (0, false)) := rfl
  have hTX := hs.len
  clear hs h
  generalize pathT T n = l at *
  go_enter Try.func20, Try.ntmps20
  go_wp2_with fail
  refine HP.out.mono ?_
  rintro e w1 ⟨u, rfl, hr, hb⟩
  obtain ⟨A1, c1, rfl⟩ : ∃ A c, u = .slice A l.length c := by obtain ⟨A, c, e, _⟩ := hr; exact ⟨A, c, e⟩
  have HR1 := Lib.hid hr
  have HB1 := Lib.hid hb
  have HS1 := Lib.hid (HS.out.below hb)
  have k1 := HS1.out.c1
  clear hr hb HP k0
  go_wp2
  go_loopw [9] (fun t W => ∃ i d : Nat, i ≤ l.length ∧ t = .int .i64 i ∧ Hid ((l.take i).find? (named X key) = none) ∧ W = w1.drewN d) (fun t _ => l.length - (intOf t).toNat)
  case atStart => exact ⟨0, 0, Nat.zero_le _, rfl, rfl, rfl⟩
  case round =>
    obtain ⟨i, d, hi, rfl, HN, rfl⟩ := hrel
    by_cases hlt : i < l.length
    · obtain ⟨b1, o1, e1, _, _, hc1⟩ := Rd.cells HR1.out (by omega)
      subst e1
      have q0 := hc1 i hlt
      have hg : l[i]? = some (l.getD i 0) := by rw [List.getD_eq_getElem?_getD, List.getElem?_eq_getElem hlt]; rfl
      have hth := HTH.out i _ hg
      have HTk : Hid (l.take (i + 1) = l.take i ++ [l.getD i 0]) := by show _ = _; rw [List.take_add_one, hg]; rfl
      have HDk : Hid (l = l.take i ++ l.getD i 0 :: l.drop (i + 1)) := by
        show _ = _
        have : l.getD i 0 = l[i] := by rw [List.getD_eq_getElem?_getD, List.getElem?_eq_getElem hlt]; rfl
        rw [this, ← List.drop_eq_getElem_cons hlt, List.take_append_drop]
      obtain ⟨j, hj, hjl⟩ := there_nat hth
      rw [hj] at q0 HTk HDk
      have hjX : j < X.length := by omega
      obtain ⟨bb, off, rfl, _, _, _, _, _, _, c5, c6, c7⟩ := cn_cells HS1.out.rd (cn_at hjX)
      have i0 : (0 : Int) ≤ (i : Int) := by omega
      have i1 : (i : Int) < (l.length : Int) := by omega
      have j0 : (0 : Int) ≤ (j : Int) := by omega
      have j1 : (j : Int) < (X.length : Int) := by omega
      have HNM : Hid (named X key (j : Nat) = ((cn X (j : Nat)).named && decide ((cn X (j : Nat)).key = key))) := rfl
      have HVJ : Hid (∀ k, k = (j : Int) → cn X k = cn X (j : Nat)) := fun k hk => by rw [hk]
      clear hc1 hg hth hj
      generalize cn X (j : Nat) = x at *
      rcases hh : x.named with _ | _
      · rw [hh] at c5
        have HN2 : Hid ((l.take (i + 1)).find? (named X key) = none) := by show _ = _; rw [HTk.out, List.find?_append, HN.out]; simp [HNM.out, hh]
        clear hh
        go_wp2
        go_quiet (fail)
        go_wp2
        go_roundw
        case rel => exact ⟨i + 1, _, by omega, by go_num, HN2, rfl⟩
        case measure => simp [intOf]; omega
      · rw [hh] at c5
        by_cases hk : x.key = key
        · have e1 : (x.key == key) = true := by simpa using hk
          have HN2 : Hid (valX T X n key = (x.value, true)) := by
            show _ = _
            rw [HV.out, HDk.out, List.find?_append, HN.out]
            simp only [Option.none_or, List.find?_cons]
            rw [HNM.out, hh, hk]
            simp [HVJ.out _ rfl]
          clear hh hk
          go_wp2
          go_quiet (fail)
          go_wp2
          go_quiet (fail)
          go_wp2
          go_ret2
          rw [HN2.out]
          exact ⟨rfl, below_drewN (below_drewN (below_drewN HB1.out _) _) _⟩
        · have e1 : (x.key == key) = false := by simpa using hk
          have HN2 : Hid ((l.take (i + 1)).find? (named X key) = none) := by show _ = _; rw [HTk.out, List.find?_append, HN.out]; simp [HNM.out, hk]
          clear hh hk
          go_wp2
          go_quiet (fail)
          go_wp2
          go_roundw
          case rel => exact ⟨i + 1, _, by omega, by go_num, HN2, rfl⟩
          case measure => simp [intOf]; omega
    · have HN2 : Hid (valX T X n key = (0, false)) := by
        show _ = _
        have := HN.out
        rw [List.take_of_length_le (by omega)] at this
        rw [HV.out, this]
      go_wp2
      go_ret2
      rw [HN2.out]
      exact ⟨rfl, below_drewN HB1.out _⟩
theorem deadline_any (n : Int) : Calls Try.prog 18 #[.pointer (some ⟨p, 0, none⟩), .int .i64 n] w fun e w' => e = .returned (.tuple #[.int .i64 (dlX T X n).1, .bool (dlX T X n).2]) ∧ Below w.heap.size w w' := by
  obtain ⟨q, A, c, G, hs⟩ := rx_sees h
  have k0 := hs.c0
  have hm : X.length ≤ 200 := by have := hs.ok.len; have := hs.ok.m1; have := hs.len; omega
  have hTX := hs.len
  have hlp : (chainT T n).length ≤ T.length := chain_len hs.ok.wf n
  have HTH : Hid (∀ (i : Nat) (k : Int), (chainT T n)[i]? = some k → there T k = true) := fun i k hk => (chain_there hs.ok.wf (List.mem_of_getElem? hk)).1
  have HS := Lib.hid hs
  have HP := Lib.hid (chain_any hs.tree hs.ok.wf n)
  have HV : Hid (dlX T X n = (chainT T n).foldl (dlS X) (0, false)) := rfl
  clear hs h
  generalize chainT T n = l at *
  go_enter Try.func18, Try.ntmps18
  go_wp2_with fail
  refine HP.out.mono ?_
  rintro e w1 ⟨u, rfl, hr, hb⟩
  obtain ⟨A1, c1, rfl⟩ : ∃ A c, u = .slice A l.length c := by obtain ⟨A, c, e, _⟩ := hr; exact ⟨A, c, e⟩
  have HR1 := Lib.hid hr
  have HB1 := Lib.hid hb
  have HS1 := Lib.hid (HS.out.below hb)
  clear hr hb HP k0 HS
  go_wp2
  go_loopw [7, 8, 9] (fun b is t W => ∃ (i : Nat) (s : Int × Bool), i ≤ l.length ∧ t = .int .i64 i ∧ b = .int .i64 s.1 ∧ is = .bool s.2 ∧ Hid ((l.take i).foldl (dlS X) (0, false) = s) ∧ Hid (Below w1.heap.size w1 W)) (fun _ _ t _ => l.length - (intOf t).toNat)
  case atStart => exact ⟨0, (0, false), Nat.zero_le _, rfl, rfl, rfl, rfl, Below.refl _ _⟩
  case round =>
    obtain ⟨i, ⟨b, is⟩, hi, rfl, rfl, rfl, HN, HB⟩ := hrel
    dsimp only at HN ⊢
    by_cases hlt : i < l.length
    · obtain ⟨b1, o1, e1, _, hbl, hc1⟩ := Rd.cells HR1.out (by omega)
      subst e1
      have q0 := (HB.out.cell (p := ⟨b1, o1 + i, none⟩) hbl).trans (hc1 i hlt)
      have hg : l[i]? = some (l.getD i 0) := by rw [List.getD_eq_getElem?_getD, List.getElem?_eq_getElem hlt]; rfl
      have hth := HTH.out i _ hg
      have HTk : Hid (l.take (i + 1) = l.take i ++ [l.getD i 0]) := by show _ = _; rw [List.take_add_one, hg]; rfl
      obtain ⟨j, hj, hjl⟩ := there_nat hth
      rw [hj] at q0 HTk
      have hjX : j < X.length := by omega
      have HSr := Lib.hid (HS1.out.below HB.out)
      obtain ⟨bb, off, rfl, _, d0, d1, d2, d3, d4, d5, d6, d7⟩ := cn_cells HSr.out.rd (cn_at hjX)
      have k1 := HSr.out.c1
      have i0 : (0 : Int) ≤ (i : Int) := by omega
      have i1 : (i : Int) < (l.length : Int) := by omega
      have j0 : (0 : Int) ≤ (j : Int) := by omega
      have j1 : (j : Int) < (X.length : Int) := by omega
      have HNS : Hid ((l.take (i + 1)).foldl (dlS X) (0, false) = if (cn X (j : Nat)).has = true ∧ (is = false ∨ (cn X (j : Nat)).at_ < b) then ((cn X (j : Nat)).at_, true) else (b, is)) := by
        show _ = _
        rw [HTk.out, List.foldl_append, HN.out]
        rfl
      clear hc1 hg hth hj HTk
      generalize cn X (j : Nat) = x at *
      have n1 := World.new_ne wr.drew _ k1
      have n2 := World.new_ne wr.drew _ q0
      have n3 := World.new_ne wr.drew _ d0
      go_wp2
      go_cut [10] (fun s10 wx => s10 = .pointer (some ⟨wr.heap.size, 0, none⟩) ∧ wx = (wr.alloc (.cells #[.int .i64 x.e, .int .i64 x.cause, .bool x.has, .int .i64 x.at_, .int .i64 x.why, .bool x.named, .int .i64 x.key, .int .i64 x.value] 45)).drew)
      case first =>
        go_region_held3 (fun W => W.cell? ⟨p, 1, none⟩ = some (.slice (some ⟨bb, off, none⟩) X.length c) ∧ W.cell? ⟨b1, o1 + i, none⟩ = some (.int .i64 j) ∧ W.cell? ⟨bb, off + j * 8, none⟩ = some (.int .i64 x.e) ∧ W.cell? ⟨bb, off + j * 8 + 1, none⟩ = some (.int .i64 x.cause) ∧ W.cell? ⟨bb, off + j * 8 + 2, none⟩ = some (.bool x.has) ∧ W.cell? ⟨bb, off + j * 8 + 3, none⟩ = some (.int .i64 x.at_) ∧ W.cell? ⟨bb, off + j * 8 + 4, none⟩ = some (.int .i64 x.why) ∧ W.cell? ⟨bb, off + j * 8 + 5, none⟩ = some (.bool x.named) ∧ W.cell? ⟨bb, off + j * 8 + 6, none⟩ = some (.int .i64 x.key) ∧ W.cell? ⟨bb, off + j * 8 + 7, none⟩ = some (.int .i64 x.value)) (go_keep) (fail)
        all_goals
          go_wp2_with fail
          go_meet
          exact ⟨rfl, rfl⟩
      case rest =>
        obtain ⟨rfl, hwc⟩ := hcut
        have HB2 : Hid (Below w1.heap.size w1 wc) := by rw [hwc]; exact (HB.out.alloc HB.out.size _).drew
        have hz : wc.heap[wr.heap.size]? = some (.cells #[.int .i64 x.e, .int .i64 x.cause, .bool x.has, .int .i64 x.at_, .int .i64 x.why, .bool x.named, .int .i64 x.key, .int .i64 x.value] 45 (0, 0)) := by rw [hwc]; exact heap_alloc_new wr _
        have z2 : wc.cell? ⟨wr.heap.size, 2, none⟩ = some (.bool x.has) := (cell_block hz 2).trans rfl
        have z3 : wc.cell? ⟨wr.heap.size, 3, none⟩ = some (.int .i64 x.at_) := (cell_block hz 3).trans rfl
        clear hz hwc n1 n2 n3 d0 d1 d2 d3 d4 d5 d6 d7 k1 q0
        rcases hh : x.has with _ | _
        · rw [hh] at z2
          have HN3 : Hid ((l.take (i + 1)).foldl (dlS X) (0, false) = (b, is)) := by show _ = _; rw [HNS.out, if_neg (by rw [hh]; simp)]
          clear hh
          go_wp2
          go_roundw
          case rel => exact ⟨i + 1, (b, is), by omega, by go_num, rfl, rfl, HN3, HB2⟩
          case measure => simp [intOf]; omega
        · rw [hh] at z2
          cases is with
          | false =>
            have HN3 : Hid ((l.take (i + 1)).foldl (dlS X) (0, false) = (x.at_, true)) := by show _ = _; rw [HNS.out, if_pos ⟨hh, .inl rfl⟩]
            clear hh
            go_wp2
            go_roundw
            case rel => exact ⟨i + 1, (x.at_, true), by omega, by go_num, rfl, rfl, HN3, HB2⟩
            case measure => simp [intOf]; omega
          | true =>
            by_cases ha : x.at_ < b
            · have HN3 : Hid ((l.take (i + 1)).foldl (dlS X) (0, false) = (x.at_, true)) := by show _ = _; rw [HNS.out, if_pos ⟨hh, .inr ha⟩]
              have hd : decide (x.at_ < b) = true := by simpa using ha
              clear hh ha
              go_wp2
              go_roundw
              case rel => exact ⟨i + 1, (x.at_, true), by omega, by go_num, rfl, rfl, HN3, HB2⟩
              case measure => simp [intOf]; omega
            · have HN3 : Hid ((l.take (i + 1)).foldl (dlS X) (0, false) = (b, true)) := by show _ = _; rw [HNS.out, if_neg (by rintro ⟨_, h | h⟩; exact Bool.noConfusion h; exact ha h)]
              have hd : decide (x.at_ < b) = false := by simpa using ha
              clear hh ha
              go_wp2
              go_roundw
              case rel => exact ⟨i + 1, (b, true), by omega, by go_num, rfl, rfl, HN3, HB2⟩
              case measure => simp [intOf]; omega
    · have HN2 : Hid (dlX T X n = (b, is)) := by
        show _ = _
        have := HN.out
        rw [List.take_of_length_le (by omega)] at this
        rw [HV.out, this]
      go_wp2
      go_ret2
      rw [HN2.out]
      exact ⟨rfl, HB1.out.trans (HB.out.mono HB1.out.size)⟩
end
end Go.Proofs.Ytidkppjhmgehoaa.RefCtx
