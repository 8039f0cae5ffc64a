/-
  Package cond, as it landed, over its arena: all but Signal and Broadcast. No condition.
-/
import Derived.Test.YtbnijgcbifpijaaArena
import Derived.Test.YtbnijgcbifpijaaCondI
import Derived.Test.YtbnijgcbifpijaaMakes
import Derived.Test.YtbnijgcbifpijaaGrow
namespace Go.Proofs.Ytbnijgcbifpijaa.CondA
open Go.ChangeShapes Go.WideShapes Go.ChangeAt Go.RowKit Mem MutP CondP Hand Arena

/-- A condition: its own block, its arena of one row, and the numbers, by task. -/
def ca (g : Nat) (va us : Value) (ls : List Int) (W : List Tl) (N : Int) : List Res := [blk g (.cells #[va, us] 59 (0, 0)), ob aren va ([W.map Tl.t], N), grow intE 3 us ls]
/-- The numbers lie where they are looked for. -/
structure Lk (ls : List Int) (W : List Tl) (N : Int) : Prop where
  len : (ls.length : Int) = N
  at_ : ∀ x ∈ W, ls[x.t.toNat]? = some x.k
theorem Lk.sub {ls : List Int} {W W' : List Tl} {N : Int} (h : Lk ls W N) (hs : ∀ x ∈ W', x ∈ W) : Lk ls W' N := ⟨h.len, fun x hx => h.at_ x (hs x hx)⟩

theorem put_is (W : List Tl) (N t k : Int) : RefRing.putE [W.map Tl.t] N 0 t = waitE W N t ∧ RefRing.putL [W.map Tl.t] N 0 t false = [(waitW W N t k).map Tl.t] := by
  have hE : RefRing.putE [W.map Tl.t] N 0 t = waitE W N t := by
    unfold RefRing.putE waitE
    by_cases hn : nameM N t = true
    · obtain ⟨h0, h1⟩ := name_iff.1 hn
      have hf : ¬ nameM N t = false := by rw [hn]; simp
      rw [if_pos ⟨⟨by omega, by simp⟩, h0, h1⟩, one_in]
      unfold hasT
      by_cases hm : t ∈ W.map Tl.t
      · rw [if_pos hm, if_pos (by omega), if_neg hf, if_pos (decide_eq_true hm)]
      · rw [if_neg hm, if_neg (by omega), if_neg hf, if_neg (by simpa using hm)]
    · have hn' : nameM N t = false := by simpa using hn
      rw [if_neg (fun h => hn (name_iff.2 h.2)), if_pos hn']
  refine ⟨hE, ?_⟩
  unfold RefRing.putL waitW
  rw [hE]
  split
  · rw [List.map_append]; rfl
  · rfl

section
variable {B : Nat → Prop} {w wk : World} {Rs : List Res} {g : Nat} {va us : Value} {ls : List Int} {W : List Tl} {N : Int}
theorem ca_ptr (h : Sep B w wk (ca g va us ls W N ++ Rs)) : ∃ a, va = .pointer (some a) := ob_ptr (O := aren) h 1 rfl

set_option maxRecDepth 100000 in
theorem with_s (h : Sep B w wk (ca g va us ls W N ++ Rs)) (t k : Int) (h0 : 0 ≤ t) (hk : ls[t.toNat]? = some k) :
    Calls Try.prog 22 #[.pointer (some ⟨g, 0, none⟩), .int .i64 t] wk fun e wn => e = .returned (.agg #[.int .i64 t, .int .i64 k]) ∧ Below wk.heap.size wk wn := by
  obtain ⟨i, rfl⟩ := Int.eq_ofNat_of_zero_le h0
  rw [Int.toNat_natCast] at hk
  have hil : i < ls.length := (List.getElem?_eq_some_iff.1 hk).1
  obtain ⟨b, c, rfl, hb, hc, _⟩ := h.elem 2 rfl hk
  have q0 : wk.cell? ⟨b, i, none⟩ = some (.int .i64 k) := by have := hc 0 _ rfl; rwa [show i * intE.sz + 0 = i from by show i * 1 + 0 = i; omega] at this
  have hg := h.blk_at 0 rfl
  have c1 : wk.cell? ⟨g, 1, none⟩ = some (.slice (some ⟨b, 0, none⟩) ls.length c) := (cell_block hg 1).trans rfl
  have hgl := lt_of_block hg
  have i0 : (0 : Int) ≤ (i : Int) := by omega
  have i1 : (i : Int) < (ls.length : Int) := by omega
  clear h hg hc hk h0
  go_enter Try.func22, Try.ntmps22
  go_wp2
  exact bodyPost_ret (v := .agg #[.int .i64 i, .int .i64 k]) (by simp [results, Try.results22, go_sem]) rfl ⟨rfl, new_below0 wk _⟩

theorem tdElem : Elem tlE Try.prog 33 50 := elem_of (z := .agg #[.int .i64 0, .int .i64 0]) (bytes := 16) Try.underlying33 (by kernel_rfl) rfl (by omega)

set_option maxRecDepth 100000 in
theorem waiting_s (h : Sep B w wk (ca g va us ls W N ++ Rs)) (hk : Lk ls W N) (hok : CondP.Ok W N) :
    Calls Try.prog 15 #[.pointer (some ⟨g, 0, none⟩)] wk fun e wn => ∃ u, e = .returned u ∧ SaysL tlE wk wn u W := by
  have c0 := (cell_block (h.blk_at 0 rfl) 0).trans rfl
  have ha := a_list h 1 rfl 0
  rw [one_list, List.length_map] at ha
  have HA := Lib.hid ha
  obtain ⟨a, rfl⟩ := ca_ptr h
  have HK := Lib.hid hk
  have HO := Lib.hid hok
  have hwl := hok.wlen
  clear h ha hk hok
  go_enter Try.func15, Try.ntmps15
  go_wp2_with fail
  refine HA.out.mono ?_
  rintro e w1 ⟨A1, cc, rfl, h1, hb1⟩
  have HRD : Hid (Rd w1 (fun _ => True) (.slice A1 W.length cc) (W.map Tl.t)) := h1.rd 0 rfl
  have H1 := Lib.hid h1.tail
  have HB1 := Lib.hid hb1
  have S0 := Lib.hid ((Sep.nil (fun _ => False) w1).growN0 tlE 50)
  clear h1 hb1 HA c0
  go_wp2
  go_loopw [3, 12] (fun u t wr => ∃ i : Nat, i ≤ W.length ∧ t = .int .i64 i ∧ Hid (∃ A c, u = .slice A (W.take i).length c ∧ Sep (fun _ => False) w1 wr [grow tlE 50 (.slice A (W.take i).length c) (W.take i)])) (fun _ t _ => W.length - (intOf t).toNat)
  case atStart => exact ⟨0, Nat.zero_le _, rfl, _, _, rfl, S0.out⟩
  case round =>
    obtain ⟨i, hi, rfl, HS⟩ := hrel
    obtain ⟨Ao, co, rfl, hS⟩ := HS.out
    have SL := Lib.hid hS
    have hol : (W.take i).length ≤ i := List.length_take_le _ _
    clear HS hS S0
    by_cases hlt : i < W.length
    · have hx : W[i]? = some W[i] := List.getElem?_eq_getElem hlt
      generalize W[i] = x at hx
      have hxm := List.mem_of_getElem? hx
      have hr := HRD.out
      obtain ⟨A2, c2, e2, _, hr⟩ := hr
      injection e2 with e2 e3 e4
      subst e2
      clear e3 e4
      obtain ⟨b, off, rfl, _, hbl, hcc⟩ := hr (by rw [List.length_map]; omega)
      have q := hcc i (by rw [List.length_map]; exact hlt)
      have hxg : (W.map Tl.t).getD i 0 = x.t := by rw [List.getD_eq_getElem?_getD, List.getElem?_map, hx]; rfl
      rw [hxg] at q
      have q0 := (SL.out.old.cell (p := ⟨b, off + i, none⟩) hbl).trans q
      have HT : Hid (W.take (i + 1) = W.take i ++ [x]) := take_snocT W i x hx
      have HWI := Lib.hid (with_s (H1.out.next SL.out.old) x.t x.k (HO.out.ws x hxm).1 (HK.out.at_ x hxm))
      have i0 : (0 : Int) ≤ (i : Int) := by omega
      have i1 : (i : Int) < (W.length : Int) := by omega
      generalize hg : W.take i = lt at *
      clear hx hg hxm hcc q hxg hr
      obtain ⟨xt, xk⟩ := x
      simp only at q0 HWI
      go_wp2_with fail
      refine HWI.out.mono ?_
      rintro e w2 ⟨rfl, h2⟩
      have S2 := Lib.hid (SL.out.next h2)
      clear h2 SL HWI
      have HX : Hid (RdL tlE (w2.alloc (.cells #[.int .i64 xt, .int .i64 xk] 50)) (fun _ => True) (.slice (some ⟨w2.heap.size, 0, none⟩) 1 1) [⟨xt, xk⟩]) :=
        RdL.lit1 (E := tlE) w2 50 ⟨xt, xk⟩ (cs := #[.int .i64 xt, .int .i64 xk]) rfl (fun _ => True) trivial
      go_wp2_with (at_builtin; refine wpList_appS rfl _ _ tdElem rfl rfl rfl (S2.out.next (new_below0 _ _)) 0 rfl HX.out (by simp; omega) ?_; intro A3 c3 w3 l3 HL3 h3)
      have S3 := Lib.hid h3
      clear h3 S2 HX
      go_wp2
      go_roundw
      case rel => exact ⟨i + 1, by omega, by go_num, by rw [HT.out, ← HL3.out]; exact ⟨_, _, rfl, S3.out⟩⟩
      case measure => simp [intOf]; omega
    · have HS : Hid (W.take i = W) := List.take_of_length_le (by omega)
      have hS := SL.out
      rw [HS.out] at hS ⊢
      have S9 := Lib.hid hS
      clear hS SL
      go_wp2
      go_ret
      obtain ⟨F9, ⟨h9, rfl⟩, hF9, _⟩ := S9.out.upd 0 rfl
      refine ⟨_, rfl, OwnL.rd h9 (by omega) fun k hk => Nat.le_trans HB1.out.size ((hF9 k hk).resolve_left id), HB1.out.trans (S9.out.old.mono HB1.out.size)⟩

set_option maxRecDepth 100000 in
theorem leave_s (h : Sep B w wk (ca g va us ls W N ++ Rs)) (hk : Lk ls W N) (hok : CondP.Ok W N) (t : Int) :
    Calls Try.prog 18 #[.pointer (some ⟨g, 0, none⟩), .int .i64 t] wk fun e wn => e = .returned (.tuple #[(getT W t).val, .bool (hasT W t)]) ∧ Sep B w wn (ca g va us ls (outT W t) N ++ Rs) := by
  have hE : decide (0 ≤ RefRing.inL [W.map Tl.t] t) = hasT W t := by
    rw [one_in]
    unfold hasT
    by_cases hm : t ∈ W.map Tl.t
    · simp [hm]
    · simp [hm]
  have hO : (W.map Tl.t).filter (fun y => decide (y ≠ t)) = (outT W t).map Tl.t := by unfold outT; rw [List.filter_map]; rfl
  have hgl := lt_of_block (h.blk_at 0 rfl)
  have hd := a_drop (h.new (.cells #[.int .i64 0, .int .i64 0] 50)) 2 rfl t
  have c0 : wk.cell? ⟨g, 0, none⟩ = some va := (cell_block (h.blk_at 0 rfl) 0).trans rfl
  rw [hE, one_drop, hO] at hd
  have HA : Hid (Calls Try.prog 24 #[va, .int .i64 t] (wk.alloc (.cells #[.int .i64 0, .int .i64 0] 50)) fun e wn => e = .returned (.bool (hasT W t)) ∧ Sep B w wn (blk wk.heap.size (.cells #[.int .i64 0, .int .i64 0] 50) :: (ca g va us ls (outT W t) N ++ Rs))) := hd
  obtain ⟨a, rfl⟩ := ca_ptr h
  have HK := Lib.hid hk
  have HO := Lib.hid hok
  clear h hd hE hO hk hok
  cases hb : hasT W t with
  | false =>
    have HG : Hid (getT W t = noTl) := get_no hb
    rw [hb] at HA
    rw [HG.out]
    clear hb
    go_enter Try.func18, Try.ntmps18
    go_wp2_with fail
    refine HA.out.mono ?_
    rintro e w1 ⟨rfl, h1⟩
    have r0 : w1.cell? ⟨wk.heap.size, 0, none⟩ = some (.int .i64 0) := (cell_block (h1.blk_at 0 rfl) 0).trans rfl
    have r1 : w1.cell? ⟨wk.heap.size, 1, none⟩ = some (.int .i64 0) := (cell_block (h1.blk_at 0 rfl) 1).trans rfl
    have f0 := frozen_block (h1.blk_at 0 rfl) 0
    have f1 := frozen_block (h1.blk_at 0 rfl) 1
    have S2 := Lib.hid ((h1.set 0 rfl 0 (.int .i64 0)).set 0 rfl 1 (.int .i64 0))
    clear h1 HA
    go_wp2
    have y0 := (cell_block (S2.out.blk_at 0 rfl) 0).trans rfl
    have y1 := (cell_block (S2.out.blk_at 0 rfl) 1).trans rfl
    exact bodyPost_ret (v := .tuple #[.agg #[.int .i64 0, .int .i64 0], .bool false]) (by simp [results, Try.results18, go_sem, y0, y1]) rfl ⟨rfl, S2.out.tail⟩
  | true =>
    obtain ⟨hm, ht⟩ := get_mem hb
    have hkk := HK.out.at_ _ hm
    have h0 := (HO.out.ws _ hm).1
    generalize hg : getT W t = x at *
    obtain ⟨xt, xk⟩ := x
    simp only at ht
    subst ht
    simp only at hkk h0
    have HKK := Lib.hid hkk
    have H0 := Lib.hid h0
    rw [hb] at HA
    clear hb hg hm hkk h0
    go_enter Try.func18, Try.ntmps18
    go_wp2_with fail
    refine HA.out.mono ?_
    rintro e w1 ⟨rfl, h1⟩
    have H1 := Lib.hid h1
    clear h1 HA
    go_wp2_with fail
    refine (with_s H1.out.tail xt xk H0.out HKK.out).mono ?_
    rintro e w2 ⟨rfl, h2⟩
    have h1 := H1.out.next h2
    have r0 : w2.cell? ⟨wk.heap.size, 0, none⟩ = some (.int .i64 0) := (cell_block (h1.blk_at 0 rfl) 0).trans rfl
    have r1 : w2.cell? ⟨wk.heap.size, 1, none⟩ = some (.int .i64 0) := (cell_block (h1.blk_at 0 rfl) 1).trans rfl
    have f0 := frozen_block (h1.blk_at 0 rfl) 0
    have f1 := frozen_block (h1.blk_at 0 rfl) 1
    have S2 := Lib.hid ((h1.set 0 rfl 0 (.int .i64 xt)).set 0 rfl 1 (.int .i64 xk))
    clear h1 h2 H1
    go_wp2
    have y0 := (cell_block (S2.out.blk_at 0 rfl) 0).trans rfl
    have y1 := (cell_block (S2.out.blk_at 0 rfl) 1).trans rfl
    exact bodyPost_ret (v := .tuple #[.agg #[.int .i64 xt, .int .i64 xk], .bool true]) (by simp [results, Try.results18, go_sem, y0, y1]) rfl ⟨rfl, S2.out.tail⟩

set_option maxRecDepth 100000 in
theorem wait_s (h : Sep B w wk (ca g va us ls W N ++ Rs)) (hk : Lk ls W N) (hok : CondP.Ok W N) (t k : Int) :
    Calls Try.prog 19 #[.pointer (some ⟨g, 0, none⟩), .int .i64 t, .int .i64 k] wk fun e wn => e = .returned (.int .i64 (waitE W N t)) ∧ ∃ ls', Lk ls' (waitW W N t k) N ∧ Sep B w wn (ca g va us ls' (waitW W N t k) N ++ Rs) := by
  have c0 := (cell_block (h.blk_at 0 rfl) 0).trans rfl
  have hp := a_put h 1 rfl 0 t
  rw [(put_is W N t k).1, (put_is W N t k).2] at hp
  obtain ⟨a, rfl⟩ := ca_ptr h
  have HK := Lib.hid hk
  have HO := Lib.hid hok
  have HP : Hid (Calls Try.prog 25 #[.pointer (some a), .int .i64 0, .int .i64 t] wk fun e wn => e = .returned (.int .i64 (waitE W N t)) ∧ Sep B w wn (ca g (.pointer (some a)) us ls (waitW W N t k) N ++ Rs)) := hp
  clear h hp hk hok
  by_cases hz : waitE W N t = 0
  · obtain ⟨⟨h0, h1⟩, hno⟩ := wait_zero hz
    have HW : Hid (waitW W N t k = W ++ [⟨t, k⟩]) := by show _ = _; unfold waitW; rw [if_pos hz]
    obtain ⟨i, rfl⟩ := Int.eq_ofNat_of_zero_le h0
    rw [hz, HW.out] at HP
    rw [hz, HW.out]
    have hil : i < ls.length := by have := HK.out.len; omega
    have HK2 : Hid (Lk (ls.set i k) (W ++ [⟨i, k⟩]) N) := by
      refine ⟨by rw [List.length_set]; exact HK.out.len, fun x hx => ?_⟩
      rcases List.mem_append.1 hx with hx | hx
      · have hne : x.t.toNat ≠ i := fun e => by
          have hx0 := (HO.out.ws x hx).1
          have hxi : x.t = i := by omega
          rw [← hxi, has_mem hx] at hno
          cases hno
        rw [List.getElem?_set_ne (fun e => hne e.symm)]
        exact HK.out.at_ x hx
      · rw [List.mem_singleton] at hx
        subst hx
        simp [hil]
    have hx : ls[i]? = some ls[i] := List.getElem?_eq_getElem hil
    generalize ls[i] = y at hx
    have HX := Lib.hid hx
    have i0 : (0 : Int) ≤ (i : Int) := by omega
    have i1 : (i : Int) < (ls.length : Int) := by omega
    clear hz h0 h1 hno hx
    go_enter Try.func19, Try.ntmps19
    go_wp2_with fail
    refine HP.out.mono ?_
    rintro e w1 ⟨rfl, h1⟩
    obtain ⟨b, c, rfl, hb, hc, hf⟩ := h1.elem 2 rfl HX.out
    have q0 : w1.cell? ⟨b, i, none⟩ = some (.int .i64 y) := by have := hc 0 _ rfl; rwa [show i * intE.sz + 0 = i from by show i * 1 + 0 = i; omega] at this
    have f0 := hf i
    have c1 : w1.cell? ⟨g, 1, none⟩ = some (.slice (some ⟨b, 0, none⟩) ls.length c) := (cell_block (h1.blk_at 0 rfl) 1).trans rfl
    have hs := h1.setc (x' := k) (j := 0) (u := .int .i64 k) 2 rfl HX.out (by show 0 < 1; omega) rfl
    rw [show i * intE.sz + 0 = i from by show i * 1 + 0 = i; omega] at hs
    have S2 : Hid (Sep B w (w1.setCell ⟨b, i, none⟩ (.int .i64 k)) (ca g (.pointer (some a)) (.slice (some ⟨b, 0, none⟩) ls.length c) (ls.set i k) (W ++ [⟨i, k⟩]) N ++ Rs)) := hs
    clear h1 hc hf hs HP
    go_wp2
    go_ret
    exact ⟨rfl, _, HK2.out, S2.out⟩
  · have HW : Hid (waitW W N t k = W) := by show _ = _; unfold waitW; rw [if_neg hz]
    rw [HW.out] at HP
    rw [HW.out]
    generalize waitE W N t = E at *
    have e0 : (E == 0) = false := by simpa using hz
    clear hz
    go_enter Try.func19, Try.ntmps19
    go_wp2_with fail
    refine HP.out.mono ?_
    rintro e w1 ⟨rfl, h1⟩
    have H1 := Lib.hid h1
    clear h1 HP
    go_wp2
    go_ret
    exact ⟨rfl, _, HK.out, H1.out⟩
end

theorem new_no_c (n : Int) (w : World) (h : n < 1 ∨ 1000 < n) : Calls Try.prog 7 #[.int .i64 n] w fun e w' => e = .returned (.tuple #[.pointer none, .int .i64 1]) ∧ Below w.heap.size w w' := by
  have HA := Lib.hid (RingN.new_no 1 n w (by omega))
  clear h
  go_enter Try.func7, Try.ntmps7
  go_wp2_with fail
  refine HA.out.mono ?_
  rintro e w1 ⟨rfl, h1⟩
  have H1 := Lib.hid h1
  clear h1 HA
  go_wp2
  go_ret2
  exact ⟨rfl, H1.out⟩
theorem new_yes_c {B : Nat → Prop} {w wk : World} {Rs : List Res} (h : Sep B w wk Rs) (n : Nat) (h1 : 1 ≤ n) (h2 : n ≤ 1000) : Calls Try.prog 7 #[.int .i64 n] wk fun e wn => ∃ g va us, e = .returned (.tuple #[.pointer (some ⟨g, 0, none⟩), .int .i64 0]) ∧ Sep B w wn (ca g va us (List.replicate n 0) [] n ++ Rs) := by
  have HA := Lib.hid (a_new h 1 n (by omega) (by omega) (by omega) (by omega))
  clear h
  go_enter Try.func7, Try.ntmps7
  go_wp2_with fail
  refine HA.out.mono ?_
  rintro e w1 ⟨a, rfl, h1⟩
  have H1 := Lib.hid h1
  clear h1 HA
  go_wp2_with (refine wpList_makeS rfl _ _ RingC.intElem rfl n rfl rfl (by omega) H1.out ?_; intro w2 h2 hs2; have H2 := Lib.hid (Sep.new h2 (.cells #[.pointer (some a), .slice (some ⟨w1.heap.size, 0, none⟩) n n] 59)); clear h2)
  go_wp2
  go_ret2
  have H3 : Sep B w (w2.alloc (.cells #[.pointer (some a), .slice (some ⟨w1.heap.size, 0, none⟩) n n] 59)) (blk w2.heap.size (.cells #[.pointer (some a), .slice (some ⟨w1.heap.size, 0, none⟩) n n] 59) :: ob aren (.pointer (some a)) ([([] : List Tl).map Tl.t], (n : Int)) :: grow intE 3 (.slice (some ⟨w1.heap.size, 0, none⟩) n n) (List.replicate n 0) :: Rs) := H2.out.perm ((List.Perm.swap ..).cons _)
  rw [hs2] at H3
  exact ⟨_, _, _, rfl, H3⟩
end Go.Proofs.Ytbnijgcbifpijaa.CondA
