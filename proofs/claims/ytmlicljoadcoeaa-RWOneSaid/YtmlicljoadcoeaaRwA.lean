/-
  Package rw, as it landed, over its arena of four rows, and that it meets what the laws of layer 9 ask of it: 'theRw'. No condition.
-/
import Derived.Test.YtmlicljoadcoeaaFour
import Derived.Test.YtmlicljoadcoeaaArena
import Derived.Test.YtmlicljoadcoeaaRwI
import Derived.Deep.RegionHeld3
import Derived.Deep.DeepCutAuto
namespace Go.Proofs.Ytmlicljoadcoeaa.RwA
open Go.ChangeShapes Go.WideShapes Go.ChangeAt Go.RowKit Mem RefRing Rows4 MutP RwP Hand RefMut Arena

/-- A lock: its own block, and its arena. -/
def ark (g : Nat) (va : Value) (L : List (List Int)) (N : Int) : List Res := [blk g (.cells #[va] 61 (0, 0)), ob aren va (L, N)]
def wl (W : Int) : List Int := if W < 0 then [] else [W]
def rows4 (s : St) : List (List Int) := [s.p, s.q, s.r, wl s.w]
theorem rd_len {w : World} {G : Nat → Prop} {v : Value} {W : List Int} (h : Rd w G v W) : W.length ≤ 1000000 := by obtain ⟨_, _, _, hm, _⟩ := h; exact hm
theorem head_ne {l : List Int} (h : ∀ x ∈ l, 0 ≤ x) : (l.headD (-1) != -1) = decide (l ≠ []) := by
  cases l with
  | nil => rfl
  | cons x l =>
    have := h x (List.mem_cons_self ..)
    rw [List.headD_cons, Bool.eq_iff_iff]
    simp
    omega
theorem bool_of {b : Bool} {p : Prop} [Decidable p] (h : b = true ↔ p) : b = decide p := by rw [Bool.eq_iff_iff]; simpa using h

section
variable {B : Nat → Prop} {w wk : World} {Rs : List Res} {g : Nat} {va : Value} {L : List (List Int)} {N : Int} {s : St}
theorem ark_ptr (h : Sep B w wk (ark g va L N ++ Rs)) : ∃ a, va = .pointer (some a) := ob_ptr (O := aren) h 1 rfl
set_option maxRecDepth 100000 in
theorem has_s (h : Sep B w wk (ark g va L N ++ Rs)) (t : Int) {b : Bool} (hb : nameM N t = b) :
    Calls Try.prog 29 #[.pointer (some ⟨g, 0, none⟩), .int .i64 t] wk fun e wn => e = .returned (.bool b) ∧ wk = wn := by
  subst hb
  have c0 := (cell_block (h.blk_at 0 rfl) 0).trans rfl
  have HA := Lib.hid (a_nodes h 1 rfl)
  obtain ⟨a, rfl⟩ := ark_ptr h
  clear h
  unfold nameM
  by_cases h0 : 0 ≤ t
  · have hE : decide (0 ≤ t ∧ t < N) = decide (t < N) := by rw [Bool.eq_iff_iff]; simp [h0]
    rw [hE]
    clear hE
    go_enter Try.func29, Try.ntmps29
    go_wp2_with fail
    refine HA.out.mono ?_
    rintro e w1 ⟨rfl, rfl⟩
    go_wp2
    go_ret
    exact ⟨rfl, rfl⟩
  · have hE : decide (0 ≤ t ∧ t < N) = false := by simp [h0]
    rw [hE]
    clear hE
    go_enter Try.func29, Try.ntmps29
    go_wp2
    go_ret
    exact ⟨rfl, rfl⟩
theorem some_s (h : Sep B w wk (ark g va L N ++ Rs)) (k : Int) {b : Bool} (hb : (firstL L k != -1) = b) :
    Calls Try.prog 41 #[.pointer (some ⟨g, 0, none⟩), .int .i64 k] wk fun e wn => e = .returned (.bool b) ∧ Sep B w wn (ark g va L N ++ Rs) := by
  have c0 := (cell_block (h.blk_at 0 rfl) 0).trans rfl
  have HS := Lib.hid h
  have HA := Lib.hid (a_first h 1 rfl k)
  obtain ⟨a, rfl⟩ := ark_ptr h
  clear h
  generalize firstL L k = y at *
  go_enter Try.func41, Try.ntmps41
  go_wp2_with fail
  refine HA.out.mono ?_
  rintro e w1 ⟨rfl, n, rfl⟩
  have H1 := Lib.hid (HS.out.drewN n)
  go_wp2
  go_ret
  exact ⟨rfl, H1.out⟩
theorem waits_s (h : Sep B w wk (ark g va L N ++ Rs)) (t : Int) {b : Bool} (hb : decide (RefRing.inL L t = 0 ∨ RefRing.inL L t = 1) = b) :
    Calls Try.prog 33 #[.pointer (some ⟨g, 0, none⟩), .int .i64 t] wk fun e wn => e = .returned (.bool b) ∧ wk = wn := by
  have c0 := (cell_block (h.blk_at 0 rfl) 0).trans rfl
  have HA := Lib.hid (a_in h 1 rfl t)
  obtain ⟨a, rfl⟩ := ark_ptr h
  clear h
  generalize RefRing.inL L t = y at *
  rcases (by omega : y = 0 ∨ y = 1 ∨ (y ≠ 0 ∧ y ≠ 1)) with rfl | rfl | ⟨h0, h1⟩
  · obtain rfl : true = b := hb
    go_enter Try.func33, Try.ntmps33
    go_wp2_with fail
    refine HA.out.mono ?_
    rintro e w1 ⟨rfl, rfl⟩
    go_wp2
    go_ret
    exact ⟨rfl, rfl⟩
  · obtain rfl : true = b := hb
    go_enter Try.func33, Try.ntmps33
    go_wp2_with fail
    refine HA.out.mono ?_
    rintro e w1 ⟨rfl, rfl⟩
    go_wp2
    go_ret
    exact ⟨rfl, rfl⟩
  · obtain rfl : false = b := by rw [← hb]; simp [h0, h1]
    have e0 : (y == 0) = false := by simpa using h0
    have e1 : (y == 1) = false := by simpa using h1
    clear h0 h1 hb
    go_enter Try.func33, Try.ntmps33
    go_wp2_with fail
    refine HA.out.mono ?_
    rintro e w1 ⟨rfl, rfl⟩
    go_wp2
    go_ret
    exact ⟨rfl, rfl⟩
theorem holds_s (h : Sep B w wk (ark g va L N ++ Rs)) (t : Int) {b : Bool} (hb : decide (RefRing.inL L t = 2 ∨ RefRing.inL L t = 3) = b) :
    Calls Try.prog 30 #[.pointer (some ⟨g, 0, none⟩), .int .i64 t] wk fun e wn => e = .returned (.bool b) ∧ wk = wn := by
  have c0 := (cell_block (h.blk_at 0 rfl) 0).trans rfl
  have HA := Lib.hid (a_in h 1 rfl t)
  obtain ⟨a, rfl⟩ := ark_ptr h
  clear h
  generalize RefRing.inL L t = y at *
  rcases (by omega : y = 2 ∨ y = 3 ∨ (y ≠ 2 ∧ y ≠ 3)) with rfl | rfl | ⟨h0, h1⟩
  · obtain rfl : true = b := hb
    go_enter Try.func30, Try.ntmps30
    go_wp2_with fail
    refine HA.out.mono ?_
    rintro e w1 ⟨rfl, rfl⟩
    go_wp2
    go_ret
    exact ⟨rfl, rfl⟩
  · obtain rfl : true = b := hb
    go_enter Try.func30, Try.ntmps30
    go_wp2_with fail
    refine HA.out.mono ?_
    rintro e w1 ⟨rfl, rfl⟩
    go_wp2
    go_ret
    exact ⟨rfl, rfl⟩
  · obtain rfl : false = b := by rw [← hb]; simp [h0, h1]
    have e0 : (y == 2) = false := by simpa using h0
    have e1 : (y == 3) = false := by simpa using h1
    clear h0 h1 hb
    go_enter Try.func30, Try.ntmps30
    go_wp2_with fail
    refine HA.out.mono ?_
    rintro e w1 ⟨rfl, rfl⟩
    go_wp2
    go_ret
    exact ⟨rfl, rfl⟩
/-- The arena is another one now. -/
theorem ark_set {L' : List (List Int)} (h : Sep B w wk ((ark g va L N ++ Rs).set 1 (ob aren va (L', N)))) : Sep B w wk (ark g va L' N ++ Rs) := h
set_option maxRecDepth 100000 in
theorem join_s (h : Sep B w wk (ark g va L N ++ Rs)) (i : Nat) {A : Option Addr} {c : Nat} {l : List Int} (hi : Rs[i]? = some (nums (.slice A l.length c) l)) (k : Int) :
    Calls Try.prog 42 #[.pointer (some ⟨g, 0, none⟩), .int .i64 k, .slice A l.length c] wk fun e wn => e = .returned (.slice A l.length c) ∧ Sep B w wn (ark g va (joinL L N k l) N ++ Rs) := by
  obtain ⟨a, rfl⟩ := ark_ptr h
  have HI : Hid (∀ L', (ark g (.pointer (some a)) L' N ++ Rs)[i + 2]? = some (nums (.slice A l.length c) l)) := fun L' => by show (_ :: _ :: Rs)[i + 2]? = _; rw [List.getElem?_cons_succ, List.getElem?_cons_succ]; exact hi
  have hm := rd_len (h.rd (i + 2) (HI.out L))
  have S0 := Lib.hid h
  clear h hi
  go_enter Try.func42, Try.ntmps42
  go_wp2
  go_loopw [11] (fun u wr => ∃ j : Nat, j ≤ l.length ∧ u = .int .i64 j ∧ Hid (Sep B w wr (ark g (.pointer (some a)) (joinL L N k (l.take j)) N ++ Rs))) (fun u _ => l.length - (intOf u).toNat)
  case atStart => exact ⟨0, Nat.zero_le _, rfl, S0.out⟩
  case round =>
    obtain ⟨j, hj, rfl, SL⟩ := hrel
    clear S0
    by_cases hlt : j < l.length
    · obtain ⟨b, off, rfl, _, q0, hg⟩ := rd_at (SL.out.rd (i + 2) (HI.out _)) hlt
      have HJ : Hid (joinL L N k (l.take (j + 1)) = putL (dropL (joinL L N k (l.take j)) (l.getD j 0)) N k (l.getD j 0) false) := by
        show _ = _
        rw [join_take L N k l hlt, List.getD_eq_getElem?_getD, List.getElem?_eq_getElem hlt]
        rfl
      have c0 := (cell_block (SL.out.blk_at 0 rfl) 0).trans rfl
      have i0 : (0 : Int) ≤ (j : Int) := by omega
      have i1 : (j : Int) < (l.length : Int) := by omega
      clear hg
      generalize l.getD j 0 = t at *
      go_wp2_with fail
      refine (a_drop SL.out 1 rfl t).mono ?_
      rintro e w1 ⟨rfl, h1⟩
      have c0 := (cell_block (h1.blk_at 0 rfl) 0).trans rfl
      have S1 := Lib.hid (ark_set h1)
      clear h1
      go_wp2_with fail
      refine (a_put S1.out 1 rfl k t).mono ?_
      rintro e w2 ⟨rfl, h2⟩
      have h2' := ark_set h2
      rw [← HJ.out] at h2'
      have S2 := Lib.hid h2'
      clear h2 h2' S1 HJ
      go_wp2
      go_roundw
      case rel => exact ⟨j + 1, by omega, by go_num, S2⟩
      case measure => simp [intOf]; omega
    · have h := SL.out
      rw [List.take_of_length_le (by omega)] at h
      have S2 := Lib.hid h
      clear h SL
      go_wp2
      go_ret
      exact ⟨rfl, S2.out⟩
theorem mem_wl {W t : Int} : t ∈ wl W ↔ 0 ≤ W ∧ t = W := by
  unfold wl
  split
  · simp; omega
  · simp; omega
theorem waits4 (h : (rows4 s).flatten.Nodup) (t : Int) : decide (RefRing.inL (rows4 s) t = 0 ∨ RefRing.inL (rows4 s) t = 1) = waitsR s t := by
  obtain ⟨i0, i1, _, _⟩ := in4 (t := t) (p := s.p) (q := s.q) (r := s.r) (x := wl s.w) h
  have e : (RefRing.inL (rows4 s) t = 0 ∨ RefRing.inL (rows4 s) t = 1) ↔ (t ∈ s.p ∨ t ∈ s.q) := or_congr i0 i1
  unfold waitsR MutP.inL
  rw [decide_eq_decide.2 e, Bool.decide_or]
theorem holds4 (h : (rows4 s).flatten.Nodup) {t : Int} (ht : 0 ≤ t) : decide (RefRing.inL (rows4 s) t = 2 ∨ RefRing.inL (rows4 s) t = 3) = holdsB s t := by
  obtain ⟨_, _, i2, i3⟩ := in4 (t := t) (p := s.p) (q := s.q) (r := s.r) (x := wl s.w) h
  have e : (RefRing.inL (rows4 s) t = 2 ∨ RefRing.inL (rows4 s) t = 3) ↔ (s.w = t ∨ t ∈ s.r) := by
    rw [or_comm (a := s.w = t)]
    refine or_congr i2 (i3.trans (mem_wl.trans ⟨fun h => h.2.symm, fun h => ⟨by omega, h.symm⟩⟩))
  unfold holdsB MutP.inL
  rw [decide_eq_decide.2 e, Bool.decide_or]
theorem rows_put {s : St} {t : Int} (wr : Bool) (hE : askE s t = 0) : putL (rows4 s) s.n (if wr = true then 1 else 0) t false = rows4 (putS s t wr) := by
  obtain ⟨hn, hp, hq, hw, hr⟩ := ask0 hE
  have hno : ∀ l ∈ rows4 s, t ∉ l := by
    intro l hl
    simp only [rows4, List.mem_cons, List.not_mem_nil, or_false] at hl
    rcases hl with rfl | rfl | rfl | rfl
    · exact hp
    · exact hq
    · exact hr
    · rw [mem_wl]; exact fun h => hw h.2.symm
  cases wr with
  | true => exact (put_all (L := rows4 s) (N := s.n) (x := t) 1 (by simp [rows4]) hn hno).2
  | false => exact (put_all (L := rows4 s) (N := s.n) (x := t) 0 (by simp [rows4]) hn hno).2
theorem wl_filter (W t : Int) : ((wl W).filter fun y => decide (y ≠ t)) = wl (if W = t then -1 else W) := by
  by_cases h : W = t
  · subst h
    rw [if_pos rfl]
    unfold wl
    split <;> simp
  · rw [if_neg h]
    exact filter_id (by rw [mem_wl]; exact fun h' => h h'.2.symm)
theorem rows_out (hok : Ok0 s) (h : (rows4 s).flatten.Nodup) {t : Int} (ht : holdsB s t = true) : dropL (rows4 s) t = rows4 (outS s t) := by
  have hm : s.w = t ∨ t ∈ s.r := by unfold holdsB MutP.inL at ht; simpa using ht
  have hp : t ∉ s.p := fun hp => hm.elim (fun e => hok.wp (e ▸ hp)) fun hr => hok.pr t hp hr
  have hq : t ∉ s.q := fun hq => hm.elim (fun e => hok.wq (e ▸ hq)) fun hr => hok.qr t hq hr
  rw [drop_map h]
  show [_, _, _, _] = [_, _, _, _]
  dsimp only
  rw [filter_id hp, filter_id hq, wl_filter]
  rfl
theorem rows_go (hok : Ok0 s) (h : (rows4 s).flatten.Nodup) {t : Int} (ht : waitsR s t = true) : dropL (rows4 s) t = rows4 (goS s t) := by
  have hm : t ∈ s.p ∨ t ∈ s.q := by unfold waitsR MutP.inL at ht; simpa using ht
  have hr : t ∉ s.r := fun hr => hm.elim (fun hp => hok.pr t hp hr) fun hq => hok.qr t hq hr
  have hw : t ∉ wl s.w := by
    rw [mem_wl]
    rintro ⟨_, rfl⟩
    exact hm.elim hok.wp hok.wq
  rw [drop_map h]
  show [_, _, _, _] = [_, _, _, _]
  dsimp only
  rw [filter_id hr, filter_id hw]
  rfl

/-- What 'hasSome' tells of each row. -/
theorem somes (hok : Ok0 s) : (firstL (rows4 s) 1 != -1) = decide (s.q ≠ []) ∧ (firstL (rows4 s) 2 != -1) = decide (s.r ≠ []) ∧ (firstL (rows4 s) 3 != -1) = decide (0 ≤ s.w) := by
  obtain ⟨_, f1, f2, f3⟩ := first4 (p := s.p) (q := s.q) (r := s.r) (x := wl s.w)
  refine ⟨(congrArg (· != -1) f1).trans (head_ne fun x hx => (hok.bq x hx).1), (congrArg (· != -1) f2).trans (head_ne fun x hx => (hok.br x hx).1), (congrArg (· != -1) f3).trans ((head_ne fun x hx => by have := mem_wl.1 hx; omega).trans (decide_eq_decide.2 ?_))⟩
  unfold wl
  split
  · simp; omega
  · simp; omega

set_option maxRecDepth 100000 in
theorem give_s (h : Sep B w wk (ark g va (rows4 s) s.n ++ Rs)) (hok : Ok0 s) :
    Calls Try.prog 32 #[.pointer (some ⟨g, 0, none⟩)] wk fun e wn => ∃ A c, e = .returned (.slice A (giveV s).length c) ∧ Sep B w wn (nums (.slice A (giveV s).length c) (giveV s) :: ark g va (rows4 (giveS s)) s.n ++ Rs) := by
  obtain ⟨a, rfl⟩ := ark_ptr h
  have hfl := (a_ok h 1 rfl).once
  obtain ⟨s1, s2, s3⟩ := somes hok
  have S0 := Lib.hid h
  have X1 := Lib.hid (fun (wx : World) (h : Sep B w wx (ark g (.pointer (some a)) (rows4 s) s.n ++ Rs)) => some_s h 1 s1)
  have X2 := Lib.hid (fun (wx : World) (h : Sep B w wx (ark g (.pointer (some a)) (rows4 s) s.n ++ Rs)) => some_s h 2 s2)
  have X3 := Lib.hid (fun (wx : World) (h : Sep B w wx (ark g (.pointer (some a)) (rows4 s) s.n ++ Rs)) => some_s h 3 s3)
  have C0 : Hid (∀ wx : World, Sep B w wx (ark g (.pointer (some a)) (rows4 s) s.n ++ Rs) → wx.cell? ⟨g, 0, none⟩ = some (.pointer (some a))) := fun _ h => (cell_block (h.blk_at 0 rfl) 0).trans rfl
  clear h s1 s2 s3
  by_cases k1 : s.w < 0 ∧ s.r = [] ∧ s.q ≠ []
  · have HV : giveV s = [s.q.headD (-1)] := if_pos k1
    have HS : giveS s = ⟨s.q.headD (-1), s.r, s.p, s.q.tail, s.n⟩ := if_pos k1
    have HJ : Hid (joinL (rows4 s) s.n 3 [s.q.headD (-1)] = rows4 (giveS s)) := by
      show _ = _
      rw [HS]
      obtain ⟨W, r, p, q, n⟩ := s
      obtain ⟨k1, k2, k3⟩ := k1
      obtain rfl : r = [] := k2
      cases q with
      | nil => exact (k3 rfl).elim
      | cons x q =>
        have hx := hok.bq x (List.mem_cons_self ..)
        have hW : wl W = [] := if_pos k1
        have hx' : wl x = [x] := if_neg (by omega)
        simp only [rows4, List.headD_cons, List.tail_cons, hW, hx'] at hfl hx ⊢
        exact join_write hfl hx
    have HF : Hid (firstL (rows4 s) 1 = s.q.headD (-1)) := (first4 (p := s.p) (q := s.q) (r := s.r) (x := wl s.w)).2.1
    rw [HV]
    obtain ⟨k1, k2, k3⟩ := k1
    rw [decide_eq_true k3] at X1
    rw [decide_eq_false (by simp [k2])] at X2
    rw [decide_eq_false (by omega)] at X3
    generalize giveS s = s' at *
    generalize s.q.headD (-1) = x at *
    generalize s.n = n at *
    generalize rows4 s = L at *
    clear HV HS hok k1 k2 k3 hfl
    go_enter Try.func32, Try.ntmps32
    go_wp2_with fail
    refine (X2.out _ S0.out).mono ?_
    rintro e w1 ⟨rfl, h1⟩
    have S1 := Lib.hid h1
    clear h1
    go_wp2_with fail
    refine (X3.out _ S1.out).mono ?_
    rintro e w2 ⟨rfl, h2⟩
    have S2 := Lib.hid h2
    clear h2
    go_wp2_with fail
    refine (X1.out _ S2.out).mono ?_
    rintro e w3 ⟨rfl, h3⟩
    have S3 := Lib.hid h3
    have c0 := C0.out _ h3
    clear h3
    go_wp2_with fail
    refine (a_first S3.out 1 rfl 1).mono ?_
    rintro e w4 ⟨rfl, n4, rfl⟩
    rw [HF.out]
    have S4 := Lib.hid ((S3.out.drewN n4).lit1 3 x rfl)
    have S5 : Hid (Sep B w ((w3.drewN n4).alloc (.cells #[.int .i64 x] 3)) (ark g (.pointer (some a)) L n ++ nums (.slice (some ⟨(w3.drewN n4).heap.size, 0, none⟩) 1 1) [x] :: Rs)) := S4.out.perm ((List.Perm.swap ..).trans ((List.Perm.swap ..).cons _))
    clear S4
    go_wp2_with fail
    refine (join_s (l := [x]) S5.out 0 rfl 3).mono ?_
    rintro e w6 ⟨rfl, h6⟩
    rw [HJ.out] at h6
    have S6 : Hid (Sep B w w6 (nums (.slice (some ⟨(w3.drewN n4).heap.size, 0, none⟩) 1 1) [x] :: (ark g (.pointer (some a)) (rows4 s') n ++ Rs))) := h6.perm (((List.Perm.swap ..).cons _).trans (List.Perm.swap ..))
    clear h6 S5
    go_wp2
    go_ret
    exact ⟨_, _, rfl, S6.out⟩
  · by_cases k2 : s.w < 0 ∧ s.q = []
    · have HV : giveV s = s.p := (if_neg k1).trans (if_pos k2)
      have HS : giveS s = ⟨s.w, s.r ++ s.p, [], s.q, s.n⟩ := (if_neg k1).trans (if_pos k2)
      have HJ : Hid (joinL (rows4 s) s.n 2 s.p = rows4 (giveS s)) := by
        show _ = _
        rw [HS]
        exact join_read s.p s.r hfl hok.bp
      have HF : Hid (listL (rows4 s) 0 = s.p) := (list4 (p := s.p) (q := s.q) (r := s.r) (x := wl s.w)).1
      rw [HV]
      obtain ⟨k3, k4⟩ := k2
      rw [decide_eq_false (by simp [k4])] at X1
      rw [decide_eq_false (by omega)] at X3
      generalize hr : decide (s.r ≠ []) = b at X2
      generalize giveS s = s' at *
      generalize s.p = p at *
      generalize s.n = n at *
      generalize rows4 s = L at *
      clear HV HS hok k1 k3 k4 hfl hr
      cases b
      all_goals
        go_enter Try.func32, Try.ntmps32
        go_wp2_with fail
        refine (X2.out _ S0.out).mono ?_
        rintro e w1 ⟨rfl, h1⟩
        have S1 := Lib.hid h1
        clear h1
        go_wp2_with fail
        first
          | (refine (X3.out _ S1.out).mono ?_
             rintro e w2 ⟨rfl, h2⟩
             have S2 := Lib.hid h2
             clear h2
             go_wp2_with fail
             refine (X1.out _ S2.out).mono ?_
             rintro e w3 ⟨rfl, h3⟩
             have S3 := Lib.hid h3
             clear h3
             go_wp2_with fail
             refine (X3.out _ S3.out).mono ?_
             rintro e w4 ⟨rfl, h4⟩
             have S4 := Lib.hid h4
             clear h4
             go_wp2_with fail)
          | (refine (X3.out _ S1.out).mono ?_
             rintro e w4 ⟨rfl, h4⟩
             have S4 := Lib.hid h4
             clear h4
             go_wp2_with fail)
        refine (X1.out _ S4.out).mono ?_
        rintro e w5 ⟨rfl, h5⟩
        have S5 := Lib.hid h5
        have c0 := C0.out _ h5
        clear h5
        go_wp2_with fail
        refine (a_list S5.out 1 rfl 0).mono ?_
        rintro e w6 ⟨A6, c6, rfl, h6, _⟩
        rw [HF.out] at h6 ⊢
        have S6 : Hid (Sep B w w6 (ark g (.pointer (some a)) L n ++ nums (.slice A6 p.length c6) p :: Rs)) := h6.perm ((List.Perm.swap ..).trans ((List.Perm.swap ..).cons _))
        clear h6
        go_wp2_with fail
        refine (join_s (l := p) S6.out 0 rfl 2).mono ?_
        rintro e w7 ⟨rfl, h7⟩
        rw [HJ.out] at h7
        have S7 : Hid (Sep B w w7 (nums (.slice A6 p.length c6) p :: (ark g (.pointer (some a)) (rows4 s') n ++ Rs))) := h7.perm (((List.Perm.swap ..).cons _).trans (List.Perm.swap ..))
        clear h7 S6
        go_wp2
        go_ret
        exact ⟨_, _, rfl, S7.out⟩
    · have HV : giveV s = [] := (if_neg k1).trans (if_neg k2)
      have HS : giveS s = s := (if_neg k1).trans (if_neg k2)
      rw [HV, HS]
      have hz : (0 ≤ s.w ∧ s.r = []) ∨ (¬ 0 ≤ s.w ∧ s.q ≠ [] ∧ s.r ≠ []) := by
        by_cases hw : 0 ≤ s.w
        · exact .inl ⟨hw, hok.alone hw⟩
        · have hq : s.q ≠ [] := fun hq => k2 ⟨by omega, hq⟩
          exact .inr ⟨hw, hq, fun hr => k1 ⟨by omega, hr, hq⟩⟩
      clear k1 k2 HV HS hok hfl
      rcases hz with ⟨z1, z2⟩ | ⟨z1, z2, z3⟩
      · rw [decide_eq_false (by simp [z2])] at X2
        rw [decide_eq_true z1] at X3
        clear X1 C0 z1 z2
        go_enter Try.func32, Try.ntmps32
        go_wp2_with fail
        refine (X2.out _ S0.out).mono ?_
        rintro e w1 ⟨rfl, h1⟩
        have S1 := Lib.hid h1
        clear h1
        go_wp2_with fail
        refine (X3.out _ S1.out).mono ?_
        rintro e w2 ⟨rfl, h2⟩
        have S2 := Lib.hid h2
        clear h2
        go_wp2_with fail
        refine (X3.out _ S2.out).mono ?_
        rintro e w3 ⟨rfl, h3⟩
        have S3 := Lib.hid h3
        clear h3
        go_wp2
        go_ret
        exact ⟨none, 0, rfl, S3.out.nil_nums⟩
      · rw [decide_eq_true z3] at X2
        rw [decide_eq_false z1] at X3
        rw [decide_eq_true z2] at X1
        clear C0 z1 z2 z3
        go_enter Try.func32, Try.ntmps32
        go_wp2_with fail
        refine (X2.out _ S0.out).mono ?_
        rintro e w1 ⟨rfl, h1⟩
        have S1 := Lib.hid h1
        clear h1
        go_wp2_with fail
        refine (X3.out _ S1.out).mono ?_
        rintro e w2 ⟨rfl, h2⟩
        have S2 := Lib.hid h2
        clear h2
        go_wp2_with fail
        refine (X1.out _ S2.out).mono ?_
        rintro e w3 ⟨rfl, h3⟩
        have S3 := Lib.hid h3
        clear h3
        go_wp2
        go_ret
        exact ⟨none, 0, rfl, S3.out.nil_nums⟩

theorem flat_of (h : Sep B w wk (ark g va (rows4 s) N ++ Rs)) : (rows4 s).flatten.Nodup := (a_ok h 1 rfl).once
set_option maxRecDepth 100000 in
theorem ask_s (h : Sep B w wk (ark g va (rows4 s) s.n ++ Rs)) (hok : Ok s) (t : Int) (wr : Bool) :
    Calls Try.prog 28 #[.pointer (some ⟨g, 0, none⟩), .int .i64 (if wr = true then 1 else 0), .int .i64 t] wk fun e wn => e = .returned (.tuple #[.bool (askB s t wr), .int .i64 (askE s t)]) ∧ Sep B w wn (ark g va (rows4 (askS s t wr)) s.n ++ Rs) := by
  have hfl := flat_of h
  obtain ⟨a, rfl⟩ := ark_ptr h
  have S0 := Lib.hid h
  have HP : askE s t = 0 → putL (rows4 s) s.n (if wr = true then 1 else 0) t false = rows4 (putS s t wr) := rows_put wr
  have HG : askE s t = 0 → Ok (giveS (putS s t wr)) ∧ Ok0 (putS s t wr) := fun hE => ⟨(hok.toOk0.put hE wr).give, hok.toOk0.put hE wr⟩
  generalize (if wr = true then (1 : Int) else 0) = k at *
  unfold askB askS
  cases hn : nameM s.n t with
  | false =>
    have hE : askE s t = 3 := by unfold askE; rw [if_pos hn]
    have HH := Lib.hid (has_s h t hn)
    rw [if_neg (by omega), if_neg (by omega), hE]
    clear h HP HG hok hfl hn hE
    go_enter Try.func28, Try.ntmps28
    go_wp2_with fail
    refine HH.out.mono ?_
    rintro e w1 ⟨rfl, rfl⟩
    go_wp2
    go_ret2
    exact ⟨rfl, S0.out⟩
  | true =>
    have hnt := name_iff.1 hn
    have HH := Lib.hid (has_s h t hn)
    cases hw : waitsR s t with
    | true =>
      have hE : askE s t = 6 := by unfold askE; rw [if_neg (by rw [hn]; simp), if_pos hw]
      have HW := Lib.hid (waits_s h t ((waits4 hfl t).trans hw))
      rw [if_neg (by omega), if_neg (by omega), hE]
      clear h HP HG hok hfl hn hE hw
      go_enter Try.func28, Try.ntmps28
      go_wp2_with fail
      refine HH.out.mono ?_
      rintro e w1 ⟨rfl, rfl⟩
      go_wp2_with fail
      refine HW.out.mono ?_
      rintro e w1 ⟨rfl, rfl⟩
      go_wp2
      go_ret2
      exact ⟨rfl, S0.out⟩
    | false =>
      have HW := Lib.hid (waits_s h t ((waits4 hfl t).trans hw))
      cases hh : holdsB s t with
      | true =>
        have hE : askE s t = 4 := by unfold askE; rw [if_neg (by rw [hn]; simp), if_neg (by rw [hw]; simp), if_pos hh]
        have HO := Lib.hid (holds_s h t ((holds4 hfl hnt.1).trans hh))
        rw [if_neg (by omega), if_neg (by omega), hE]
        clear h HP HG hok hfl hn hE hw hh
        go_enter Try.func28, Try.ntmps28
        go_wp2_with fail
        refine HH.out.mono ?_
        rintro e w1 ⟨rfl, rfl⟩
        go_wp2_with fail
        refine HW.out.mono ?_
        rintro e w1 ⟨rfl, rfl⟩
        go_wp2_with fail
        refine HO.out.mono ?_
        rintro e w1 ⟨rfl, rfl⟩
        go_wp2
        go_ret2
        exact ⟨rfl, S0.out⟩
      | false =>
        have hE : askE s t = 0 := by unfold askE; rw [if_neg (by rw [hn]; simp), if_neg (by rw [hw]; simp), if_neg (by rw [hh]; simp)]
        have HO := Lib.hid (holds_s h t ((holds4 hfl hnt.1).trans hh))
        have HP := Lib.hid (HP hE)
        obtain ⟨g1, g2⟩ := HG hE
        have G1 := Lib.hid g2
        have HN : Hid ((putS s t wr).n = s.n) := put_n s t wr
        have h0 := hnt.1
        rw [if_pos hE, if_pos hE, hE]
        have HT := Lib.hid hnt.1
        clear HG hok hfl hn hE hw hh g1 g2 hnt
        generalize putS s t wr = s1 at *
        have c0 := (cell_block (h.blk_at 0 rfl) 0).trans rfl
        clear h
        go_enter Try.func28, Try.ntmps28
        go_wp2_with fail
        refine HH.out.mono ?_
        rintro e w1 ⟨rfl, rfl⟩
        go_wp2_with fail
        refine HW.out.mono ?_
        rintro e w1 ⟨rfl, rfl⟩
        go_wp2_with fail
        refine HO.out.mono ?_
        rintro e w1 ⟨rfl, rfl⟩
        go_wp2_with fail
        refine (a_put S0.out 1 rfl k t).mono ?_
        rintro e w2 ⟨rfl, h2⟩
        rw [HP.out] at h2
        have h3 := ark_set h2
        rw [← HN.out] at h3
        have S2 := Lib.hid h3
        clear h2 h3 HH HW HO S0 HP
        go_wp2_with fail
        refine (give_s S2.out G1.out).mono ?_
        rintro e w4 ⟨A4, c4, rfl, h4⟩
        have S4 := Lib.hid h4.tail
        have HO := Lib.hid (holds_s S4.out t (holds4 (flat_of S4.out) HT.out))
        clear h4 S2
        go_wp2_with fail
        refine HO.out.mono ?_
        rintro e w5 ⟨rfl, rfl⟩
        have S5 := S4.out
        rw [HN.out] at S5
        have S6 := Lib.hid S5
        clear S4 S5 HO
        go_wp2
        go_ret2
        exact ⟨rfl, S6.out⟩
theorem rlock_s (h : Sep B w wk (ark g va (rows4 s) s.n ++ Rs)) (hok : Ok s) (t : Int) :
    Calls Try.prog 20 #[.pointer (some ⟨g, 0, none⟩), .int .i64 t] wk fun e wn => e = .returned (.tuple #[.bool (askB s t false), .int .i64 (askE s t)]) ∧ Sep B w wn (ark g va (rows4 (askS s t false)) s.n ++ Rs) := by
  have HA : Hid (Calls Try.prog 28 #[.pointer (some ⟨g, 0, none⟩), .int .i64 0, .int .i64 t] wk fun e wn => e = .returned (.tuple #[.bool (askB s t false), .int .i64 (askE s t)]) ∧ Sep B w wn (ark g va (rows4 (askS s t false)) s.n ++ Rs)) := ask_s h hok t false
  clear h hok
  go_enter Try.func20, Try.ntmps20
  go_wp2_with fail
  refine HA.out.mono ?_
  rintro e w1 ⟨rfl, h1⟩
  have S1 := Lib.hid h1
  clear h1 HA
  go_wp2
  go_ret2
  exact ⟨rfl, S1.out⟩
theorem lock_s (h : Sep B w wk (ark g va (rows4 s) s.n ++ Rs)) (hok : Ok s) (t : Int) :
    Calls Try.prog 21 #[.pointer (some ⟨g, 0, none⟩), .int .i64 t] wk fun e wn => e = .returned (.tuple #[.bool (askB s t true), .int .i64 (askE s t)]) ∧ Sep B w wn (ark g va (rows4 (askS s t true)) s.n ++ Rs) := by
  have HA : Hid (Calls Try.prog 28 #[.pointer (some ⟨g, 0, none⟩), .int .i64 1, .int .i64 t] wk fun e wn => e = .returned (.tuple #[.bool (askB s t true), .int .i64 (askE s t)]) ∧ Sep B w wn (ark g va (rows4 (askS s t true)) s.n ++ Rs)) := ask_s h hok t true
  clear h hok
  go_enter Try.func21, Try.ntmps21
  go_wp2_with fail
  refine HA.out.mono ?_
  rintro e w1 ⟨rfl, h1⟩
  have S1 := Lib.hid h1
  clear h1 HA
  go_wp2
  go_ret2
  exact ⟨rfl, S1.out⟩
set_option maxRecDepth 100000 in
theorem unlock_s (h : Sep B w wk (ark g va (rows4 s) s.n ++ Rs)) (hok : Ok s) (t : Int) :
    Calls Try.prog 22 #[.pointer (some ⟨g, 0, none⟩), .int .i64 t] wk fun e wn => ∃ A c, e = .returned (.tuple #[.slice A (relV s t).length c, .int .i64 (relE s t)]) ∧ Sep B w wn (nums (.slice A (relV s t).length c) (relV s t) :: ark g va (rows4 (unlS s t)) s.n ++ Rs) := by
  have hfl := flat_of h
  obtain ⟨a, rfl⟩ := ark_ptr h
  have S0 := Lib.hid h
  unfold relV unlS
  cases hn : nameM s.n t with
  | false =>
    have hE : relE s t = 3 := by unfold relE; rw [if_pos hn]
    have HH := Lib.hid (has_s h t hn)
    rw [if_neg (by omega), if_neg (by omega), hE]
    clear h hok hfl hn hE
    go_enter Try.func22, Try.ntmps22
    go_wp2_with fail
    refine HH.out.mono ?_
    rintro e w1 ⟨rfl, rfl⟩
    go_wp2
    go_ret2
    exact ⟨none, 0, rfl, S0.out.nil_nums⟩
  | true =>
    have hnt := name_iff.1 hn
    have HH := Lib.hid (has_s h t hn)
    cases hh : holdsB s t with
    | false =>
      have hE : relE s t = 4 := by unfold relE; rw [if_neg (by rw [hn]; simp), if_neg (by rw [hh]; simp)]
      have HO := Lib.hid (holds_s h t ((holds4 hfl hnt.1).trans hh))
      rw [if_neg (by omega), if_neg (by omega), hE]
      clear h hok hfl hn hE hh
      go_enter Try.func22, Try.ntmps22
      go_wp2_with fail
      refine HH.out.mono ?_
      rintro e w1 ⟨rfl, rfl⟩
      go_wp2_with fail
      refine HO.out.mono ?_
      rintro e w1 ⟨rfl, rfl⟩
      go_wp2
      go_ret2
      exact ⟨none, 0, rfl, S0.out.nil_nums⟩
    | true =>
      have hE : relE s t = 0 := by unfold relE; rw [if_neg (by rw [hn]; simp), if_pos hh]
      have HO := Lib.hid (holds_s h t ((holds4 hfl hnt.1).trans hh))
      have HP := Lib.hid (rows_out hok.toOk0 hfl hh)
      have G1 := Lib.hid (hok.toOk0.out t)
      have HN : Hid ((outS s t).n = s.n) := rfl
      rw [if_pos hE, if_pos hE, hE]
      clear hok hfl hn hE hh hnt
      generalize outS s t = s1 at *
      have c0 := (cell_block (h.blk_at 0 rfl) 0).trans rfl
      clear h
      go_enter Try.func22, Try.ntmps22
      go_wp2_with fail
      refine HH.out.mono ?_
      rintro e w1 ⟨rfl, rfl⟩
      go_wp2_with fail
      refine HO.out.mono ?_
      rintro e w1 ⟨rfl, rfl⟩
      go_wp2_with fail
      refine (a_drop S0.out 1 rfl t).mono ?_
      rintro e w2 ⟨rfl, h2⟩
      rw [HP.out] at h2
      have h3 := ark_set h2
      rw [← HN.out] at h3
      have S2 := Lib.hid h3
      clear h2 h3 HH HO S0 HP
      go_wp2_with fail
      refine (give_s S2.out G1.out).mono ?_
      rintro e w4 ⟨A4, c4, rfl, h4⟩
      rw [HN.out] at h4
      have S4 := Lib.hid h4
      clear h4 S2
      go_wp2
      go_ret2
      exact ⟨_, _, rfl, S4.out⟩
set_option maxRecDepth 100000 in
theorem leave_s (h : Sep B w wk (ark g va (rows4 s) s.n ++ Rs)) (hok : Ok s) (t : Int) :
    Calls Try.prog 23 #[.pointer (some ⟨g, 0, none⟩), .int .i64 t] wk fun e wn => ∃ A c, e = .returned (.tuple #[.slice A (leaveV s t).length c, .bool (waitsR s t)]) ∧ Sep B w wn (nums (.slice A (leaveV s t).length c) (leaveV s t) :: ark g va (rows4 (leaveS s t)) s.n ++ Rs) := by
  have hfl := flat_of h
  obtain ⟨a, rfl⟩ := ark_ptr h
  have S0 := Lib.hid h
  unfold leaveV leaveS
  cases hw : waitsR s t with
  | false =>
    have HO := Lib.hid (waits_s h t ((waits4 hfl t).trans hw))
    rw [if_neg (by simp), if_neg (by simp)]
    clear h hok hfl hw
    go_enter Try.func23, Try.ntmps23
    go_wp2_with fail
    refine HO.out.mono ?_
    rintro e w1 ⟨rfl, rfl⟩
    go_wp2
    go_ret2
    exact ⟨none, 0, rfl, S0.out.nil_nums⟩
  | true =>
    have HO := Lib.hid (waits_s h t ((waits4 hfl t).trans hw))
    have HP := Lib.hid (rows_go hok.toOk0 hfl hw)
    have G1 := Lib.hid (hok.toOk0.go t)
    have HN : Hid ((goS s t).n = s.n) := rfl
    rw [if_pos rfl, if_pos rfl]
    clear hok hfl hw
    generalize goS s t = s1 at *
    have c0 := (cell_block (h.blk_at 0 rfl) 0).trans rfl
    clear h
    go_enter Try.func23, Try.ntmps23
    go_wp2_with fail
    refine HO.out.mono ?_
    rintro e w1 ⟨rfl, rfl⟩
    go_wp2_with fail
    refine (a_drop S0.out 1 rfl t).mono ?_
    rintro e w2 ⟨rfl, h2⟩
    rw [HP.out] at h2
    have h3 := ark_set h2
    rw [← HN.out] at h3
    have S2 := Lib.hid h3
    clear h2 h3 HO S0 HP
    go_wp2_with fail
    refine (give_s S2.out G1.out).mono ?_
    rintro e w4 ⟨A4, c4, rfl, h4⟩
    rw [HN.out] at h4
    have S4 := Lib.hid h4
    clear h4 S2
    go_wp2
    go_ret2
    exact ⟨_, _, rfl, S4.out⟩
theorem writer_s (h : Sep B w wk (ark g va (rows4 s) s.n ++ Rs)) (hok : Ok s) :
    Calls Try.prog 16 #[.pointer (some ⟨g, 0, none⟩)] wk fun e wn => e = .returned (.int .i64 s.w) ∧ Below wk.heap.size wk wn := by
  have c0 := (cell_block (h.blk_at 0 rfl) 0).trans rfl
  have ha := a_first h 1 rfl 3
  have hf : firstL (rows4 s) 3 = s.w := by
    rw [show firstL (rows4 s) 3 = (wl s.w).headD (-1) from (first4 (p := s.p) (q := s.q) (r := s.r) (x := wl s.w)).2.2.2]
    have := hok.h0
    unfold wl
    split
    · show (-1 : Int) = _; omega
    · rfl
  rw [hf] at ha
  have HA := Lib.hid ha
  obtain ⟨a, rfl⟩ := ark_ptr h
  clear h ha hok hf
  go_enter Try.func16, Try.ntmps16
  go_wp2_with fail
  refine HA.out.mono ?_
  rintro e w1 ⟨rfl, n, rfl⟩
  have HB := Lib.hid (below_drewN (Below.refl wk.heap.size wk) n)
  go_wp2
  go_ret
  exact ⟨rfl, HB.out⟩
theorem readers_s (h : Sep B w wk (ark g va (rows4 s) s.n ++ Rs)) :
    Calls Try.prog 17 #[.pointer (some ⟨g, 0, none⟩)] wk fun e wn => ∃ u, e = .returned u ∧ Says wk wn u s.r := by
  have c0 := (cell_block (h.blk_at 0 rfl) 0).trans rfl
  have ha := a_says h 1 rfl 2
  rw [show listL (rows4 s) 2 = s.r from (list4 (p := s.p) (q := s.q) (r := s.r) (x := wl s.w)).2.2.1] at ha
  have HA := Lib.hid ha
  obtain ⟨a, rfl⟩ := ark_ptr h
  clear h ha
  go_enter Try.func17, Try.ntmps17
  go_wp2_with fail
  refine HA.out.mono ?_
  rintro e w1 ⟨u, rfl, hu⟩
  have HU := Lib.hid hu
  clear hu HA
  go_wp2
  go_ret
  exact ⟨_, rfl, HU.out⟩
/-- A list that is told in a later world. -/
theorem says_at {v : Value} (h : Sep B w wk Rs) (i : Nat) (hi : Rs[i]? = some (ob aren v (L, N))) (k : Int) {l : List Int} (hl : listL L k = l) (Q : World) (hb : Below wk.heap.size wk Q) :
    Calls Try.prog 26 #[v, .int .i64 k] Q fun e wn => ∃ u, e = .returned u ∧ Rd wn (fun b => wk.heap.size ≤ b) u l ∧ Below Q.heap.size Q wn := by
  subst hl
  refine (a_says (h.next hb) i hi k).mono ?_
  rintro e wn ⟨u, rfl, hr, hb'⟩
  exact ⟨u, rfl, hr.mono fun b _ hk => Nat.le_trans hb.size hk, hb'⟩
set_option maxRecDepth 100000 in
theorem waiting_s (h : Sep B w wk (ark g va (rows4 s) s.n ++ Rs)) :
    Calls Try.prog 14 #[.pointer (some ⟨g, 0, none⟩)] wk fun e wn => ∃ u u', e = .returned (.tuple #[u, u']) ∧ Says2 wk wn u u' s.p s.q := by
  have k0 := (cell_block (h.blk_at 0 rfl) 0).trans rfl
  have hg : g < wk.heap.size := lt_of_block (h.blk_at 0 rfl)
  obtain ⟨l0, l1, _, _⟩ := list4 (p := s.p) (q := s.q) (r := s.r) (x := wl s.w)
  have H0 := Lib.hid (says_at h 1 rfl 0 l0)
  have H1 := Lib.hid (says_at h 1 rfl 1 l1)
  obtain ⟨a, rfl⟩ := ark_ptr h
  have HB : Hid (Below wk.heap.size wk wk.drew) := (Below.refl _ _).drew
  have HK : Hid (∀ Q, Below wk.heap.size wk Q → Q.cell? ⟨g, 0, none⟩ = some (.pointer (some a))) := fun Q hb => (hb.cell (p := ⟨g, 0, none⟩) hg).trans k0
  clear h l0 l1 hg
  go_enter Try.func14, Try.ntmps14
  go_upto_region 12 with (fail)
  go_region_held3 (fun Q => Q.cell? ⟨g, 0, none⟩ = some (.pointer (some a))) (go_keep)
    (first
      | (go_at_call 26; (with_reducible refine (H0.out _ HB.out).mono ?_); rintro e w11 ⟨u0, rfl, r0, hb11⟩; have R0 := Lib.hid r0; have k0 := HK.out _ (HB.out.trans (hb11.mono HB.out.size)); have HB := Lib.hid (HB.out.trans (hb11.mono HB.out.size)); (first | (have R1 := Lib.hid (R1.out.below hb11)) | skip); clear r0 hb11)
      | (go_at_call 26; (with_reducible refine (H1.out _ HB.out).mono ?_); rintro e w11 ⟨u1, rfl, r1, hb11⟩; have R1 := Lib.hid r1; have k0 := HK.out _ (HB.out.trans (hb11.mono HB.out.size)); have HB := Lib.hid (HB.out.trans (hb11.mono HB.out.size)); (first | (have R0 := Lib.hid (R0.out.below hb11)) | skip); clear r1 hb11))
  all_goals
    go_wp2_with fail
    go_ret2
    exact ⟨_, _, rfl, R0.out, R1.out, HB.out⟩
end
theorem new_no_c (n : Int) (w : World) (h : n < 1 ∨ 1000 < n) : Calls Try.prog 8 #[.int .i64 n] w fun e w' => e = .returned (.tuple #[.pointer none, .int .i64 1]) ∧ Below w.heap.size w w' := by
  have HA := Lib.hid (RingN.new_no 4 n w (by omega))
  clear h
  go_enter Try.func8, Try.ntmps8
  go_wp2_with fail
  refine HA.out.mono ?_
  rintro e w1 ⟨rfl, h1⟩
  have H1 := Lib.hid h1
  clear h1 HA
  go_wp2
  go_ret2
  exact ⟨rfl, H1.out⟩
theorem new_yes_c {B : Nat → Prop} {w wk : World} {Rs : List Res} (h : Sep B w wk Rs) (n : Int) (h1 : 1 ≤ n) (h2 : n ≤ 1000) : Calls Try.prog 8 #[.int .i64 n] wk fun e wn => ∃ g va, e = .returned (.tuple #[.pointer (some ⟨g, 0, none⟩), .int .i64 0]) ∧ Sep B w wn (ark g va (rows4 (newS n)) n ++ Rs) := by
  have HA := Lib.hid (a_new h 4 n (by omega) (by omega) h1 h2)
  clear h
  go_enter Try.func8, Try.ntmps8
  go_wp2_with fail
  refine HA.out.mono ?_
  rintro e w1 ⟨a, rfl, h1⟩
  have H1 := Lib.hid (h1.new (.cells #[.pointer (some a)] 61))
  clear h1 HA
  go_wp2
  go_ret2
  exact ⟨_, _, rfl, H1.out⟩

/-- A lock behind a pointer, in blocks of F. -/
def RA : Ob St where
  A w v F s := Ok s ∧ ∃ g va, v = .pointer (some ⟨g, 0, none⟩) ∧ (pack (ark g va (rows4 s) s.n)).holds w F
  ptr := fun ⟨_, _, _, e, _⟩ => ⟨_, e⟩
  keep := fun ⟨o, g, va, e, h⟩ hs hk => ⟨o, g, va, e, (pack (ark g va _ _)).keep h hs hk⟩
  lt := fun ⟨_, g, va, _, h⟩ => (pack (ark g va _ _)).lt h
section
variable {w wn : World} {F : Nat → Prop} {g : Nat} {va : Value} {s s' : St}
theorem ra_sep (h : (pack (ark g va (rows4 s) s.n)).holds w F) : Sep F w w (ark g va (rows4 s) s.n ++ []) := (Sep.of h).unpack
theorem ra_stays (hk : Ok s') (hn : s'.n = s.n) (h : Sep F w wn (ark g va (rows4 s') s.n ++ [])) : Stays (ob RA (.pointer (some ⟨g, 0, none⟩)) s') F w wn := by
  rw [← hn] at h
  obtain ⟨F', hR, ho, hF⟩ := h.packed.left 0 rfl
  exact ⟨F', ⟨hk, g, va, rfl, hR⟩, ho, hF⟩
theorem ra_tells (hk : Ok s') (hn : s'.n = s.n) {u : Value} {l : List Int} (h : Sep F w wn (nums u l :: ark g va (rows4 s') s.n ++ [])) : Tells (ob RA (.pointer (some ⟨g, 0, none⟩)) s') F w wn u l := by
  rw [← hn] at h
  have h2 : Sep F w wn (ark g va (rows4 s') s'.n ++ [nums u l]) := h.perm ((List.Perm.swap ..).trans ((List.Perm.swap ..).cons _))
  obtain ⟨ho, F1, F2, hR, ⟨F3, F4, hN, _, s3, _, _⟩, s1, s2, d⟩ := h2.packed
  exact ⟨F1, F3, ⟨hk, g, va, rfl, hR⟩, hN.1, ho, s1, fun k hk' => s2 k (s3 k hk'), fun k hk' h' => d k h' (s3 k hk')⟩
end
def theRw : RwI.Rw where
  O := RA
  ok := fun h => h.1
  new_no := fun n w _ h => new_no_c n w h
  new_yes := fun n w h1 h2 => by
    refine (new_yes_c (Sep.nil (fun _ => False) w) n h1 h2).mono ?_
    rintro e wn ⟨g, va, rfl, hs⟩
    have hb := hs.old
    obtain ⟨_, F1, _, h3, _, s1, _, _⟩ := hs.packed
    exact ⟨_, F1, rfl, ⟨Ok.new h1 h2, g, va, rfl, h3⟩, hb, fun k hk => (s1 k hk).resolve_left id⟩
  rlock := fun {w v F s} h t _ => by
    obtain ⟨hk, g, va, rfl, h⟩ := h
    refine (rlock_s (ra_sep h) hk t).mono ?_
    rintro e wn ⟨rfl, hs⟩
    exact ⟨rfl, ra_stays (hk.ask t false) (act_n s 0 t) hs⟩
  lock := fun {w v F s} h t _ => by
    obtain ⟨hk, g, va, rfl, h⟩ := h
    refine (lock_s (ra_sep h) hk t).mono ?_
    rintro e wn ⟨rfl, hs⟩
    exact ⟨rfl, ra_stays (hk.ask t true) (act_n s 1 t) hs⟩
  unlock := fun {w v F s} h t _ => by
    obtain ⟨hk, g, va, rfl, h⟩ := h
    refine (unlock_s (ra_sep h) hk t).mono ?_
    rintro e wn ⟨A, c, rfl, hs⟩
    exact ⟨_, rfl, ra_tells (hk.unlock t) (act_n s 2 t) hs⟩
  leave := fun {w v F s} h t _ => by
    obtain ⟨hk, g, va, rfl, h⟩ := h
    refine (leave_s (ra_sep h) hk t).mono ?_
    rintro e wn ⟨A, c, rfl, hs⟩
    exact ⟨_, rfl, ra_tells (hk.leave t) (act_n s 3 t) hs⟩
  writer := fun {w v F s} h => by
    obtain ⟨hk, g, va, rfl, h⟩ := h
    exact writer_s (ra_sep h) hk
  readers := fun {w v F s} h => by
    obtain ⟨hk, g, va, rfl, h⟩ := h
    exact readers_s (ra_sep h)
  waiting := fun {w v F s} h => by
    obtain ⟨hk, g, va, rfl, h⟩ := h
    exact waiting_s (ra_sep h)
end Go.Proofs.Ytmlicljoadcoeaa.RwA
