/-
  Contracts of the functions of package countermandref07 (the document's answer for layer 7). Condition: the list is at hand.
-/
import Derived.Test.YtindcpcfilfnkaaAfterP
import Derived.Test.YtindcpcfilfnkaaObj
import Derived.Test.YtindcpcfilfnkaaGrow
import Derived.Test.YtindcpcfilfnkaaInts
import Derived.Deep.QuietTactic
import Derived.BigQuiet
import Derived.Deep.RegionHeld3
import Derived.StillTailTactics
import Derived.Laws.StructEq
import Derived.Deep.DeepCutAuto
namespace Go.Proofs.Ytindcpcfilfnkaa.RefAfter
open Go.ChangeShapes Go.WideShapes Go.ChangeAt Go.RowKit Mem AfterP Hand

theorem rowElem : Elem rgE Try.prog 43 57 := elem_of (z := .agg #[.int .i64 0, .int .i64 0, .int .i64 0]) (bytes := 24) Try.underlying43 (by kernel_rfl) rfl (by omega)

/-- The reference's list behind the pointer to block p. -/
def rlp (p : Nat) (L : List Rg) (M : Int) (u : Value) : List Res := [blk p (.cells #[u, .int .i64 M] 48), grow rgE 57 u L]
def rl (p : Nat) (L : List Rg) (M : Int) : Res := someR (fun _ => Ok L M) fun u : Value => pack (rlp p L M u)

section
variable {B : Nat → Prop} {w wk : World} {Rs : List Res} {p : Nat} {L : List Rg} {M : Int}
theorem rl_open (h : Sep B w wk (rl p L M :: Rs)) : ∃ A c, Sep B w wk (blk p (.cells #[.slice A L.length c, .int .i64 M] 48) :: grow rgE 57 (.slice A L.length c) L :: Rs) ∧ Ok L M := by
  obtain ⟨u, hok, h1⟩ := h.ex
  have h2 : Sep B w wk (blk p (.cells #[u, .int .i64 M] 48) :: grow rgE 57 u L :: Rs) := h1.unpack
  obtain ⟨A, c, rfl⟩ := (h2.own 1 rfl).form
  exact ⟨A, c, h2, hok⟩
theorem rl_close {u : Value} (h : Sep B w wk (blk p (.cells #[u, .int .i64 M] 48) :: grow rgE 57 u L :: Rs)) (hok : Ok L M) : Sep B w wk (rl p L M :: Rs) :=
  Sep.hide (R := fun u : Value => pack (rlp p L M u)) (a := u) hok (Sep.packed (Ss := rlp p L M u) h)
theorem rl_ok (h : Sep B w wk (rl p L M :: Rs)) : Ok L M := by obtain ⟨_, _, _, hok⟩ := rl_open h; exact hok
end

theorem new_no (n : Int) (w : World) (h : n < 1 ∨ 200 < n) :
    Calls Try.prog 9 #[.int .i64 n] w fun e w' => e = .returned (.tuple #[.pointer none, .int .i64 1]) ∧ w = w' := by
  rcases (by omega : n < 1 ∨ (1 ≤ n ∧ 200 < n)) with h1 | ⟨h1, h2⟩
  all_goals
    clear h
    go_enter Try.func9, Try.ntmps9
    go_wp2
    go_ret2
    exact ⟨rfl, rfl⟩
theorem new_s {B : Nat → Prop} {w wk : World} {Rs : List Res} (h : Sep B w wk Rs) (n : Int) (h1 : 1 ≤ n) (h2 : n ≤ 200) :
    Calls Try.prog 9 #[.int .i64 n] wk fun e wn => ∃ p, e = .returned (.tuple #[.pointer (some ⟨p, 0, none⟩), .int .i64 0]) ∧ Sep B w wn (rl p [] n :: Rs) := by
  have hs := (h.new (.cells #[.slice none 0 0, .int .i64 n] 48)).add (Below.refl _ _) (R := grow rgE 57 (.slice none 0 0) []) (F := fun _ => False) ⟨OwnL.none_ _ _ _, by funext k; simp [Value.ownBlock]⟩ fun _ h => h.elim
  have HS := Lib.hid (rl_close hs.swap (Ok.new h1 h2))
  clear h hs
  go_enter Try.func9, Try.ntmps9
  go_wp2
  go_ret2
  exact ⟨_, rfl, HS.out⟩

set_option maxRecDepth 100000 in
theorem add_s {B : Nat → Prop} {w wk : World} {Rs : List Res} {p : Nat} {L : List Rg} {M : Int} (h : Sep B w wk (rl p L M :: Rs)) (on th : Int) (h1 : In64 on) (h2 : In64 th) :
    Calls Try.prog 11 #[.pointer (some ⟨p, 0, none⟩), .int .i64 on, .int .i64 th] wk fun e wn => e = .returned (.tuple #[.int .i64 (addV L M), .int .i64 (addE L M)]) ∧ Sep B w wn (rl p (addL L M on th) M :: Rs) := by
  obtain ⟨A, c, hs, hok⟩ := rl_open h
  have HOK := Lib.hid (hok.add (on := on) (th := th) h1 h2)
  have hl := hok.len
  have hm := hok.m1
  have k0 := (cell_block (hs.blk_at 0 rfl) 0).trans rfl
  have k1 := (cell_block (hs.blk_at 0 rfl) 1).trans rfl
  have HH := Lib.hid h
  have HS := Lib.hid hs
  clear h h1 h2 hs hok
  by_cases hlt : (L.length : Int) < M
  · have HE : Hid (addE L M = 0 ∧ addV L M = L.length ∧ addL L M on th = L ++ [⟨on, th, 1⟩]) := by unfold addE addV addL; rw [if_pos hlt, if_pos hlt, if_pos hlt]; exact ⟨rfl, rfl, rfl⟩
    have hd : decide (M ≤ (L.length : Int)) = false := by simpa using hlt
    clear HH
    rw [HE.out.1, HE.out.2.1]
    rw [HE.out.2.2] at HOK ⊢
    clear HE
    go_enter Try.func11, Try.ntmps11
    go_wp2
    go_quiet (fail)
    have S1 := Lib.hid (HS.out.drewN nq)
    generalize wk.drewN nq = w1 at *
    clear HS k0 k1 hd
    have S2 := Lib.hid (S1.out.grow0 rgE 57)
    have HR : Hid (RdL rgE (w1.alloc (.cells #[] 57)) (fun _ => True) (.slice A L.length c) L) := (S2.out.own 2 rfl).rd (by omega) fun _ _ => trivial
    have k0 := (cell_block (S2.out.blk_at 1 rfl) 0).trans rfl
    clear S1
    go_wp2_with (at_builtin; refine wpList_appS rfl _ _ rowElem rfl rfl rfl S2.out 0 rfl HR.out (by simp; omega) ?_)
    intro A2 c2 w2 l2 hl2 h2
    have hl2' : l2 = L := hl2.out
    subst hl2'
    have S3 := Lib.hid (h2.new (.cells #[.int .i64 on, .int .i64 th, .int .i64 1] 57))
    have HR3 : Hid (RdL rgE (w2.alloc (.cells #[.int .i64 on, .int .i64 th, .int .i64 1] 57)) (fun _ => True) (.slice (some ⟨w2.heap.size, 0, none⟩) 1 1) [(⟨on, th, 1⟩ : Rg)]) := RdL.lit1 (E := rgE) w2 _ _ rfl _ trivial
    clear h2 S2 HR k0
    go_wp2_with (at_builtin; refine wpList_appS rfl _ _ rowElem rfl rfl rfl S3.out 1 rfl HR3.out (by simp; omega) ?_)
    intro A4 c4 w4 l4 hl4 h4
    have e4 := hl4.out
    subst e4
    simp only [List.length_append, List.length_cons, List.length_nil, Nat.zero_add] at h4 ⊢
    have k4 := (cell_block (h4.blk_at 2 rfl) 0).trans rfl
    have f4 := frozen_block (h4.blk_at 2 rfl) 0
    have S5 := h4.set 2 rfl 0 (.slice A4 (l2.length + 1) c4)
    have k5 := (cell_block (S5.blk_at 2 rfl) 0).trans rfl
    have S6 : Hid (Sep B w (w4.setCell ⟨p, 0, none⟩ (.slice A4 (l2.length + 1) c4)) (rl p (l2 ++ [⟨on, th, 1⟩]) M :: Rs)) :=
      rl_close (u := .slice A4 (l2.length + 1) c4) ((S5.tail.perm (.swap ..)).sub (.cons_cons _ (.cons_cons _ (.cons _ (List.Sublist.refl _))))) HOK.out
    clear h4 S3 S5 HR3
    go_wp2
    go_ret2
    exact ⟨rfl, S6.out⟩
  · have HE : Hid (addE L M = 2 ∧ addV L M = -1 ∧ addL L M on th = L) := by unfold addE addV addL; rw [if_neg hlt, if_neg hlt, if_neg hlt]; exact ⟨rfl, rfl, rfl⟩
    have hd : decide (M ≤ (L.length : Int)) = true := by simpa using hlt
    rw [HE.out.1, HE.out.2.1, HE.out.2.2]
    clear HE HS
    go_enter Try.func11, Try.ntmps11
    go_wp2
    go_quiet (fail)
    go_wp2
    go_ret2
    exact ⟨rfl, HH.out.drewN _⟩

theorem Rd.cells7 {w : World} {G : Nat → Prop} {A : Option Addr} {n c : Nat} {xs : List Int} (h : Rd w G (.slice A n c) xs) (hp : 0 < xs.length) : ∃ b off, A = some ⟨b, off, none⟩ ∧ G b ∧ b < w.heap.size ∧ ∀ j, j < xs.length → w.cell? ⟨b, off + j, none⟩ = some (.int .i64 (xs.getD j 0)) := by
  obtain ⟨A', c', e, _, hx⟩ := h
  injection e with e1
  subst e1
  exact hx hp
section
variable {B : Nat → Prop} {w wk : World} {Rs : List Res} {p : Nat} {L : List Rg} {M : Int}
/-- What a call that only reads one registration wants of it. -/
theorem rl_row {A : Option Addr} {c : Nat} (hs : Sep B w wk (blk p (.cells #[.slice A L.length c, .int .i64 M] 48) :: grow rgE 57 (.slice A L.length c) L :: Rs)) {i : Nat} {x : Rg} (hx : L[i]? = some x) :
    ∃ b, A = some ⟨b, 0, none⟩ ∧ b < wk.heap.size ∧ wk.cell? ⟨p, 0, none⟩ = some (.slice (some ⟨b, 0, none⟩) L.length c) ∧ wk.cell? ⟨b, i * 3, none⟩ = some (.int .i64 x.on) ∧ wk.cell? ⟨b, i * 3 + 2, none⟩ = some (.int .i64 x.st) ∧ wk.frozen? ⟨b, i * 3 + 2, none⟩ = false := by
  obtain ⟨b, c', e, hb, hc, hf⟩ := hs.elem 1 rfl hx
  injection e with e1 e2 e3
  subst e1 e3
  exact ⟨b, rfl, hb, (cell_block (hs.blk_at 0 rfl) 0).trans rfl, hc 0 _ rfl, hc 2 _ rfl, hf _⟩

set_option maxRecDepth 100000 in
theorem stop_s (h : Sep B w wk (rl p L M :: Rs)) (n : Int) :
    Calls Try.prog 12 #[.pointer (some ⟨p, 0, none⟩), .int .i64 n] wk fun e wn => e = .returned (.bool (stopB L n)) ∧ Sep B w wn (rl p (stopL L n) M :: Rs) := by
  obtain ⟨A, c, hs, hok⟩ := rl_open h
  have HH := Lib.hid h
  rcases ht : thereR L n with _ | _
  · have HE : Hid (stopB L n = false ∧ stopL L n = L) := by
      have : stopB L n = false := by unfold stopB; rw [ht]; rfl
      exact ⟨this, by unfold stopL; rw [if_neg (by rw [this]; simp)]⟩
    have k0 := (cell_block (hs.blk_at 0 rfl) 0).trans rfl
    rw [HE.out.1, HE.out.2]
    have hn : n < 0 ∨ (0 ≤ n ∧ (L.length : Int) ≤ n) := by
      by_cases h0 : n < 0
      · exact .inl h0
      · refine .inr ⟨by omega, ?_⟩
        rcases Int.lt_or_le n L.length with h1 | h1
        · rw [thereR_iff.2 ⟨by omega, h1⟩] at ht; cases ht
        · exact h1
    clear h hs hok ht HE
    rcases hn with hn | ⟨hn, hn2⟩
    all_goals
      go_enter Try.func12, Try.ntmps12
      go_wp2
      go_ret
      exact ⟨rfl, HH.out⟩
  · obtain ⟨i, rfl, hi⟩ := thereR_nat ht
    have hx := rg_at hi
    obtain ⟨b, rfl, hb, q0, q1, q2, q3⟩ := rl_row hs hx
    have HS := Lib.hid hs
    have i0 : (0 : Int) ≤ (i : Int) := by omega
    have i1 : (i : Int) < (L.length : Int) := by omega
    have HOK := Lib.hid (hok.set hi (.inr (.inr rfl) : (3 : Int) = 1 ∨ (3 : Int) = 2 ∨ (3 : Int) = 3))
    by_cases hst : (rg L i).st = 1
    · have HE : Hid (stopB L i = true ∧ stopL L i = L.set i { rg L i with st := 3 }) := by
        have : stopB L i = true := by unfold stopB; rw [ht, hst]; rfl
        exact ⟨this, by unfold stopL; rw [if_pos this, Int.toNat_natCast]⟩
      have S2 := Lib.hid (hs.setc 1 rfl (x' := { rg L i with st := 3 }) (j := 2) (u := .int .i64 3) hx (by show 2 < 3; omega) rfl)
      rw [HE.out.1, HE.out.2]
      rw [hst] at q2
      have h1 : ((1 : Int) != 1) = false := by decide
      have S3 : Hid (Sep B w (wk.setCell ⟨b, i * 3 + 2, none⟩ (.int .i64 3)) (rl p (L.set i { rg L i with st := 3 }) M :: Rs)) := by
        have h2 := S2.out
        exact rl_close (u := .slice (some ⟨b, 0, none⟩) L.length c) h2 HOK.out
      clear h hs hok ht HE hst hx S2 HH
      go_enter Try.func12, Try.ntmps12
      go_wp2
      go_ret
      exact ⟨rfl, S3.out⟩
    · have HE : Hid (stopB L i = false ∧ stopL L i = L) := by
        have : stopB L i = false := by unfold stopB; rw [ht, decide_eq_false hst]; rfl
        exact ⟨this, by unfold stopL; rw [if_neg (by rw [this]; simp)]⟩
      rw [HE.out.1, HE.out.2]
      have h1 : ((rg L i).st != 1) = true := by simpa using hst
      clear h hs hok ht HE hx HS hst
      generalize (rg L i).st = st at *
      go_enter Try.func12, Try.ntmps12
      go_wp2
      go_ret
      exact ⟨rfl, HH.out⟩
end

set_option maxRecDepth 100000 in
theorem waiting_any {w : World} {G : Nat → Prop} {p : Nat} {A : Option Addr} {c : Nat} {L : List Rg} (hp : p < w.heap.size) (hc : w.cell? ⟨p, 0, none⟩ = some (.slice A L.length c)) (hr : RdL rgE w G (.slice A L.length c) L) (d : Int) (hl : L.length ≤ 1000) :
    Calls Try.prog 19 #[.pointer (some ⟨p, 0, none⟩), .int .i64 d] w fun e w' => ∃ A' c', e = .returned (.slice A' (waitsL L d).length c') ∧ OwnL intE w' w.heap.size 3 (.slice A' (waitsL L d).length c') (waitsL L d) ∧ Below w.heap.size w w' := by
  have HR := Lib.hid hr
  have HC := Lib.hid hc
  clear hr hc
  go_enter Try.func19, Try.ntmps19
  go_wp2
  go_loopw [5, 6] (fun v t wr => ∃ i : Nat, i ≤ L.length ∧ t = .int .i64 i ∧ Hid (OwnL intE wr w.heap.size 3 v (waitsTo L d i)) ∧ Hid (Below w.heap.size w wr)) (fun _ t _ => L.length - (intOf t).toNat)
  case atStart => exact ⟨0, Nat.zero_le _, rfl, OwnL.lit0 (E := intE) w _ _ (Nat.le_refl _), new_below0 w _⟩
  case round =>
    obtain ⟨i, hi, rfl, HO, HB⟩ := hrel
    have hbs : w.heap.size ≤ wr.heap.size := HB.out.size
    have k0 := (HB.out.cell (p := ⟨p, 0, none⟩) hp).trans HC.out
    have hol := waitsTo_len L d i
    obtain ⟨Ao, co, rfl⟩ := HO.out.form
    by_cases hlt : i < L.length
    · have ii : (i : Int) < (L.length : Int) := by omega
      have i0 : (0 : Int) ≤ (i : Int) := by omega
      obtain ⟨b, off, rfl, hbl, c0, c1, c2⟩ := rg_cells HR.out (rg_at hlt)
      have q0 := (HB.out.cell (p := ⟨b, off + i * 3, none⟩) hbl).trans c0
      have q2 := (HB.out.cell (p := ⟨b, off + i * 3 + 2, none⟩) hbl).trans c2
      have HS := Lib.hid (waitsTo_snoc L d i)
      have HW : Hid (wb d (rg L (i : Nat)) = decide ((rg L (i : Nat)).on = d ∧ (rg L (i : Nat)).st = 1)) := rfl
      generalize rg L (i : Nat) = x at *
      generalize hks : waitsTo L d i = ks at *
      clear c0 c1 c2 hks
      by_cases hon : x.on = d
      · by_cases hst : x.st = 1
        · have HS2 : Hid (waitsTo L d (i + 1) = ks ++ [(i : Int)]) := by show _ = _; rw [HS.out, HW.out, decide_eq_true ⟨hon, hst⟩]; rfl
          have e1 : (x.on == d) = true := by simpa using hon
          have e2 : (x.st == 1) = true := by simpa using hst
          have HL : Hid (RdL intE (wr.alloc (.cells #[.int .i64 (i : Int)] 3)) (fun _ => True) (.slice (some ⟨wr.heap.size, 0, none⟩) 1 1) [(i : Int)]) := RdL.lit1 (E := intE) wr _ _ rfl _ trivial
          clear hon hst HS HW
          go_wp2_with (at_builtin; refine wpList_appL rfl _ _ intElemL rfl rfl rfl (HO.out.alloc _) HL.out (by simp; omega) (by simp; omega) ?_)
          intro v' w1 hown1 hgrow hat
          have hb1 : Below w.heap.size w w1 := Below.grown (HB.out.alloc hbs _) hgrow (by simp; omega) (fun g hg' => (HO.out.lt g hg').1)
          have HO4 := Lib.hid hown1
          have HB4 := Lib.hid hb1
          clear hown1 hb1 hgrow hat
          go_wp2
          go_roundw
          case rel => exact ⟨i + 1, by omega, by go_num, by show OwnL _ _ _ _ _ _; rw [HS2.out]; exact HO4.out, HB4⟩
          case measure => simp [intOf]; omega
        · have HS2 : Hid (waitsTo L d (i + 1) = ks) := by show _ = _; rw [HS.out, HW.out, decide_eq_false (fun h => hst h.2)]; simp
          have e1 : (x.on == d) = true := by simpa using hon
          have e2 : (x.st == 1) = false := by simpa using hst
          clear hon hst HS HW
          go_wp2
          go_roundw
          case rel => exact ⟨i + 1, by omega, by go_num, by show OwnL _ _ _ _ _ _; rw [HS2.out]; exact HO.out, HB⟩
          case measure => simp [intOf]; omega
      · have HS2 : Hid (waitsTo L d (i + 1) = ks) := by show _ = _; rw [HS.out, HW.out, decide_eq_false (fun h => hon h.1)]; simp
        have e1 : (x.on == d) = false := by simpa using hon
        clear hon HS HW
        go_wp2
        go_roundw
        case rel => exact ⟨i + 1, by omega, by go_num, by show OwnL _ _ _ _ _ _; rw [HS2.out]; exact HO.out, HB⟩
        case measure => simp [intOf]; omega
    · have HW : Hid (waitsTo L d i = waitsL L d) := by show _ = _; rw [show i = L.length by omega]; rfl
      have HO2 := HO.out
      rw [HW.out] at HO2 ⊢
      have HO3 := Lib.hid HO2
      clear HO2 HO
      go_wp2
      go_ret
      exact ⟨_, _, rfl, HO3.out, HB.out⟩

theorem Sep.waits {B : Nat → Prop} {w wk wn : World} {Rs : List Res} (h : Sep B w wk Rs) {u : Value} {l : List Int} (ho : OwnL intE wn wk.heap.size 3 u l) (hb : Below wk.heap.size wk wn) (hl : l.length ≤ 1000000) : Sep B w wn (nums u l :: Rs) := by
  refine h.add hb (R := nums u l) (F := fun k => u.ownBlock = some k) ⟨rd_of (ho.rd hl fun _ h => h), fun k hk => (ho.lt k hk).2⟩ fun k hk => (ho.lt k hk).1

set_option maxRecDepth 100000 in
set_option maxHeartbeats 2000000 in
theorem fire_s {B : Nat → Prop} {w wk : World} {Rs : List Res} {p : Nat} {L : List Rg} {M : Int} (h : Sep B w wk (rl p L M :: Rs)) (Au : Option Addr) (cu : Nat) (l : List Int) (hl : l.length ≤ 1000) (hu : ∀ W, Only B w W → Rd W (fun _ => True) (.slice Au l.length cu) l) :
    Calls Try.prog 13 #[.pointer (some ⟨p, 0, none⟩), .slice Au l.length cu] wk fun e wn => ∃ A c, e = .returned (.slice A (fireO L l).length c) ∧ Sep B w wn (grow intE 3 (.slice A (fireO L l).length c) (fireO L l) :: rl p (fireL L l) M :: Rs) := by
  have hok := rl_ok h
  have hm : L.length ≤ 200 := by have := hok.len; have := hok.m1; omega
  have S0 := Lib.hid (h.grow0 intE 3)
  have HU := Lib.hid hu
  clear h hu hok
  go_enter Try.func13, Try.ntmps13
  go_wp2
  go_loopw [5, 6, 7, 8] (fun o t _ _ W => ∃ i : Nat, i ≤ l.length ∧ t = .int .i64 i ∧ Hid (∃ A c, o = .slice A (fireO L (l.take i)).length c ∧ Sep B w W (grow intE 3 (.slice A (fireO L (l.take i)).length c) (fireO L (l.take i)) :: rl p (fireL L (l.take i)) M :: Rs))) (fun _ t _ _ _ => l.length - (intOf t).toNat)
  case atStart => exact ⟨0, Nat.zero_le _, rfl, _, _, rfl, S0.out⟩
  case round =>
    obtain ⟨i, hi, rfl, HS⟩ := hrel
    obtain ⟨Ao, co, rfl, hS⟩ := HS.out
    have SL := Lib.hid hS
    clear HS hS S0
    have hol := fireO_len L (l.take i)
    have hol2 : (fireO L (l.take i)).length ≤ 200000 := by
      have h1 : (l.take i).length ≤ 1000 := by rw [List.length_take]; omega
      have := Nat.mul_le_mul hm h1
      omega
    clear hol
    by_cases hlt : i < l.length
    · have hx : l[i]? = some (l.getD i 0) := by rw [List.getD_eq_getElem?_getD, List.getElem?_eq_getElem hlt]; rfl
      have HTk : Hid (l.take (i + 1) = l.take i ++ [l.getD i 0]) := by show _ = _; rw [List.take_add_one, hx]; rfl
      obtain ⟨b4, o4, rfl, _, _, hc4⟩ := Rd.cells7 (HU.out _ SL.out.only) (by omega)
      have q4 := hc4 i hlt
      have hlen2 := fireL_len L (l.take i)
      have HF := Lib.hid (fire_snoc L (l.take i) (l.getD i 0))
      generalize l.getD i 0 = d at *
      generalize fireL L (l.take i) = L1 at *
      generalize fireO L (l.take i) = O1 at *
      have hm1 : L1.length ≤ 200 := by omega
      clear hlen2
      obtain ⟨A1, c1, hs1, hok1⟩ := rl_open SL.out.swap
      have HOK := Lib.hid (hok1.fire1 d)
      have i0 : (0 : Int) ≤ (i : Int) := by omega
      have i1 : (i : Int) < (l.length : Int) := by omega
      have HS1 := Lib.hid hs1
      have hp := lt_of_block (hs1.blk_at 0 rfl)
      have HWT := Lib.hid (waiting_any (G := fun _ => True) hp ((cell_block (hs1.blk_at 0 rfl) 0).trans rfl) ((hs1.own 1 rfl).rd (by omega) fun _ _ => trivial) d (by omega))
      have hwl := waitsTo_len L1 d L1.length
      clear hs1 hx hc4 SL hok1
      go_wp2_with fail
      refine HWT.out.mono ?_
      rintro e w2 ⟨A2, c2, rfl, ho2, hb2⟩
      have hwl2 : (waitsL L1 d).length ≤ 200 := by show (waitsTo L1 d L1.length).length ≤ 200; omega
      have S2 := Lib.hid (Sep.waits HS1.out ho2 hb2 (by omega))
      have HMK := Lib.hid (markR_waits L1 d)
      have HTH : Hid (∀ (k : Nat) (x : Int), (waitsL L1 d)[k]? = some x → thereR L1 x = true) := fun k x hk => (mem_waits.1 (List.mem_of_getElem? hk)).1
      have HND : Hid ((waitsL L1 d).Pairwise (· < ·)) := waits_sorted L1 d
      generalize waitsL L1 d = ws at *
      clear ho2 hb2 HWT q4 hwl HS1 hp
      go_wp2
      go_loopw [5, 8] (fun o t W => ∃ k : Nat, k ≤ ws.length ∧ t = .int .i64 k ∧ Hid (∃ A c, o = .slice A (O1 ++ ws.take k).length c ∧ Sep B w W (nums (.slice A2 ws.length c2) ws :: blk p (.cells #[.slice A1 L1.length c1, .int .i64 M] 48) :: grow rgE 57 (.slice A1 L1.length c1) (markR L1 (ws.take k)) :: grow intE 3 (.slice A (O1 ++ ws.take k).length c) (O1 ++ ws.take k) :: Rs))) (fun _ t _ => ws.length - (intOf t).toNat)
      case atStart =>
        refine ⟨0, Nat.zero_le _, rfl, Ao, co, ?_, ?_⟩
        · rw [List.take_zero, List.append_nil]
        · rw [List.take_zero, List.append_nil, markR_nil]
          exact S2.out
      case round =>
        obtain ⟨k, hk, rfl, HS⟩ := hrel
        obtain ⟨Ax, cx, rfl, hS⟩ := HS.out
        have SL := Lib.hid hS
        clear HS S2
        have hol3 : (O1 ++ ws.take k).length ≤ 200200 := by rw [List.length_append, List.length_take]; omega
        generalize hP : O1 ++ ws.take k = P at *
        have HP := Lib.hid hP
        clear hP
        by_cases hlt2 : k < ws.length
        · have hx : ws[k]? = some (ws.getD k 0) := by rw [List.getD_eq_getElem?_getD, List.getElem?_eq_getElem hlt2]; rfl
          have HTw : Hid (ws.take (k + 1) = ws.take k ++ [ws.getD k 0]) := by show _ = _; rw [List.take_add_one, hx]; rfl
          have hth := HTH.out k _ hx
          have hnot : ws.getD k 0 ∉ ws.take k := by
            have hnd : (ws.take (k + 1)).Pairwise (· < ·) := HND.out.sublist (List.take_sublist _ _)
            rw [HTw.out, List.pairwise_append] at hnd
            intro hm
            have := hnd.2.2 _ hm (ws.getD k 0) (by simp)
            omega
          obtain ⟨b2, o2, e2, _, _, hc2⟩ := Rd.cells7 (hS.rd 0 rfl) (by omega)
          subst e2
          have q2 := hc2 k hlt2
          obtain ⟨j, hj, hjl⟩ := thereR_nat hth
          rw [hj] at q2 HTw hnot
          have hxm := markR_at hjl hnot
          obtain ⟨bb, cb, eA, hbb, hcell, hfz⟩ := hS.elem 2 rfl hxm
          obtain ⟨rfl, rfl⟩ : A1 = some ⟨bb, 0, none⟩ ∧ c1 = cb := by injection eA with e1 e2 e3; exact ⟨e1, e3⟩
          have q3 : wr.cell? ⟨bb, j * 3 + 2, none⟩ = some (.int .i64 (rg L1 j).st) := hcell 2 _ rfl
          have q4 : wr.frozen? ⟨bb, j * 3 + 2, none⟩ = false := hfz _
          have q0 := (cell_block (hS.blk_at 1 rfl) 0).trans rfl
          have HMS := Lib.hid (markR_snoc (ks := ws.take k) hjl)
          have S4 : Hid (Sep B w (wr.setCell ⟨bb, j * 3 + 2, none⟩ (.int .i64 2)).drew (nums (.slice (some ⟨b2, o2, none⟩) ws.length c2) ws :: blk p (.cells #[.slice (some ⟨bb, 0, none⟩) L1.length c1, .int .i64 M] 48) :: grow rgE 57 (.slice (some ⟨bb, 0, none⟩) L1.length c1) (markR L1 (ws.take k ++ [(j : Int)])) :: grow intE 3 (.slice Ax P.length cx) P :: Rs)) := by
            rw [HMS.out]
            exact (hS.setc 2 rfl (x' := { rg L1 j with st := 2 }) (j := 2) (u := .int .i64 2) hxm (by show 2 < 3; omega) rfl).drew
          have k0 : (0 : Int) ≤ (k : Int) := by omega
          have k1 : (k : Int) < (ws.length : Int) := by omega
          have j0 : (0 : Int) ≤ (j : Int) := by omega
          have j1 : (j : Int) < (L1.length : Int) := by omega
          clear hx hth hnot hc2 hj hxm eA hcell hfz SL hS
          go_wp2
          go_region
          have S5 := Lib.hid S4.out
          clear S4 q0 q2 q3 q4
          generalize (wr.setCell ⟨bb, j * 3 + 2, none⟩ (.int .i64 2)).drew = w3 at *
          obtain ⟨b2', o2', e2, _, _, hc2⟩ := Rd.cells7 (S5.out.rd 0 rfl) (by omega)
          obtain ⟨rfl, rfl⟩ : b2 = b2' ∧ o2 = o2' := by injection e2 with e2; injection e2 with e1 e2; exact ⟨e1, e2⟩
          have q2 := hc2 k hlt2
          have hgd : ws.getD k 0 = (j : Int) := by
            have h1 : (ws.take (k + 1))[k]? = ws[k]? := by rw [List.getElem?_take]; simp
            have h2 : (ws.take k).length = k := by rw [List.length_take]; omega
            rw [HTw.out, List.getElem?_append_right (by omega), h2, Nat.sub_self] at h1
            rw [List.getD_eq_getElem?_getD, ← h1]
            rfl
          rw [hgd] at q2
          have S6 := Lib.hid (S5.out.new (.cells #[.int .i64 (j : Int)] 3))
          have HRL : Hid (RdL intE (w3.alloc (.cells #[.int .i64 (j : Int)] 3)) (fun _ => True) (.slice (some ⟨w3.heap.size, 0, none⟩) 1 1) [(j : Int)]) := RdL.lit1 (E := intE) w3 _ _ rfl _ trivial
          have HTO : Hid (P ++ [(j : Int)] = O1 ++ ws.take (k + 1)) := by show _ = _; rw [HTw.out, ← HP.out, List.append_assoc]
          clear hc2 e2 hgd S5
          go_wp2_with (at_builtin; refine wpList_appS rfl _ _ intElemL rfl rfl rfl S6.out 4 rfl HRL.out (by simp only [List.length_cons, List.length_nil]; omega) ?_)
          intro A7 c7 w7 l7 hl7 h7
          have e7 := hl7.out
          rw [HTO.out] at e7
          have HE7 := Lib.hid e7
          rw [← HTw.out] at h7
          have S7 := Lib.hid h7.tail
          clear e7
          clear h7 S6 HRL q2 hl7
          go_wp2
          go_roundw
          case rel => exact ⟨k + 1, by omega, by go_num, A7, c7, by rw [HE7.out], by rw [← HE7.out]; exact S7.out⟩
          case measure => simp [intOf]; omega
        · have HE : Hid (ws.take k = ws) := List.take_of_length_le (by omega)
          have hP2 := HP.out
          rw [HE.out] at hP2
          have h1 := SL.out
          rw [HE.out, HMK.out, ← hP2] at h1
          have HL1 : Hid (L1.length = (fire1 L1 d).length) := (fire1_len L1 d).symm
          rw [HL1.out] at h1
          have h2 := h1.tail
          have SF : Hid (Sep B w wr (grow intE 3 (.slice Ax (O1 ++ ws).length cx) (O1 ++ ws) :: rl p (fire1 L1 d) M :: Rs)) :=
            (rl_close (u := .slice A1 (fire1 L1 d).length c1) h2 HOK.out).swap
          have HF2 := HF.out
          rw [← HTk.out] at HF2
          have HX : Hid (fireL L (l.take (i + 1)) = fire1 L1 d ∧ fireO L (l.take (i + 1)) = O1 ++ ws) := HF2
          rw [← hP2]
          have HP2 := Lib.hid hP2
          clear h1 h2 SL hS HL1 hP2
          go_wp2
          go_roundw
          case rel => exact ⟨i + 1, by omega, by go_num, Ax, cx, by rw [HX.out.2], by rw [HX.out.1, HX.out.2]; exact SF.out⟩
          case measure => simp [intOf]; omega
    · have HE : Hid (l.take i = l) := List.take_of_length_le (by omega)
      have h1 := SL.out
      rw [HE.out] at h1 ⊢
      have SF := Lib.hid h1
      clear h1 SL
      go_wp2
      go_ret
      exact ⟨_, _, rfl, SF.out⟩
end Go.Proofs.Ytindcpcfilfnkaa.RefAfter
