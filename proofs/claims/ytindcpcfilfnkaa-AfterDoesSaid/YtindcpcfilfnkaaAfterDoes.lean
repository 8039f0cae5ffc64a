/-
  The walk of the law AfterDoes over any package that meets 'Af': it returns true and leaves old memory as it was. Conditions: none but 'Af'.
-/
import Derived.Test.YtindcpcfilfnkaaAfterM
import Derived.Deep.DeepCutAuto
import Derived.Deep.CutBlock
namespace Go.Proofs.Ytindcpcfilfnkaa.AfterI
open Go.ChangeShapes Go.WideShapes Go.ChangeAt Go.RowKit Mem AfterP Hand RefAfter

theorem Sep.nums0 {B : Nat → Prop} {w wk : World} {Rs : List Res} (h : Sep B w wk Rs) (A : Option Addr) (c : Nat) : Sep B w wk (nums (.slice A 0 c) [] :: Rs) := by
  obtain ⟨ho, ha⟩ := h
  exact ⟨ho, fun _ => False, _, ⟨Rd.nil _ _ _ _, fun _ h => h.elim⟩, ha, fun _ h => h.elim, fun _ h => h, fun _ h => h.elim⟩

section
variable {I : Af} {wq W : World} {v : Value} {F : Nat → Prop} {L : List Rg} {M : Int} {p : Nat}
theorem l_keep (hA : I.O.A wq v F (L, M)) (hb : Below wq.heap.size wq W) : I.O.A W v F (L, M) := I.O.keep hA hb.size fun k hk _ => hb.block k hk
theorem l_rows (hA : I.O.A wq v F (L, M)) (hb : Below wq.heap.size wq W) : Calls Try.prog 17 #[v] W fun e w' => ∃ A c, e = .returned (.slice A L.length c) ∧ RdL rgE w' (fun _ => True) (.slice A L.length c) L ∧ Below wq.heap.size wq w' := by
  refine (I.rows (l_keep hA hb)).mono ?_
  rintro e w' ⟨u, rfl, hr, h'⟩
  obtain ⟨A, c, rfl⟩ := hr.form
  exact ⟨A, c, rfl, hr.mono fun _ _ _ => trivial, hb.trans (h'.mono hb.size)⟩
theorem l_own {u : Value} (hr : RdL rgE W (fun _ => True) u L) (hl : L.length ≤ 100000) (hb : Below wq.heap.size wq W) : Calls Try.prog 16 #[u] W fun e w' => ∃ A c, e = .returned (.slice A L.length c) ∧ RdL rgE w' (fun _ => True) (.slice A L.length c) L ∧ Below wq.heap.size wq w' := by
  refine (own_any hr hl).mono ?_
  rintro e w' ⟨v, rfl, hr', h'⟩
  obtain ⟨A, c, rfl⟩ := hr'.form
  exact ⟨A, c, rfl, hr'.mono fun _ _ _ => trivial, hb.trans (h'.mono hb.size)⟩
theorem l_rsame {u u' : Value} (hr : RdL rgE W (fun _ => True) u L) (hr' : RdL rgE wq (fun _ => True) u' L) (hb : Below wq.heap.size wq W) : Calls Try.prog 15 #[u, u'] W fun e w' => e = .returned (.bool true) ∧ Below wq.heap.size wq w' := by
  refine (same_any hr (hr'.below hb)).mono ?_
  rintro e w' ⟨rfl, n, rfl⟩
  exact ⟨by simp, below_drewN hb n⟩
theorem l_same {u u' : Value} {l : List Int} (hu : Rd wq (fun _ => True) u l) (hu' : Rd wq (fun _ => True) u' l) (hb : Below wq.heap.size wq W) :
    Calls Try.prog 14 #[u, u'] W fun e w' => e = .returned (.bool true) ∧ Below wq.heap.size wq w' := by
  refine (SameI.same_any (hu.below hb) (hu'.below hb)).mono ?_
  rintro e w' ⟨rfl, n, rfl⟩
  exact ⟨by simp, below_drewN hb n⟩
theorem l_same2 {u u' : Value} {l : List Int} (hu : Rd W (fun _ => True) u l) (hu' : Rd W (fun _ => True) u' l) (hb : Below wq.heap.size wq W) :
    Calls Try.prog 14 #[u, u'] W fun e w' => e = .returned (.bool true) ∧ Below wq.heap.size wq w' := by
  refine (SameI.same_any hu hu').mono ?_
  rintro e w' ⟨rfl, n, rfl⟩
  exact ⟨by simp, below_drewN hb n⟩
theorem l_waiting (hA : I.O.A wq v F (L, M)) (hb : Below wq.heap.size wq W) (d : Int) (hd : In64 d) {l : List Int} (hl : waitsL L d = l) : Calls Try.prog 18 #[v, .int .i64 d] W fun e w' => ∃ A c, e = .returned (.slice A l.length c) ∧ Rd w' (fun _ => True) (.slice A l.length c) l ∧ Below wq.heap.size wq w' := by
  subst hl
  refine (I.waiting (l_keep hA hb) d hd).mono ?_
  rintro e w' ⟨u, rfl, hr, h'⟩
  obtain ⟨A, c, rfl⟩ := rd_form hr
  exact ⟨A, c, rfl, hr.mono fun _ _ _ => trivial, hb.trans (h'.mono hb.size)⟩
theorem l_rwaiting {A0 : Option Addr} {c0 : Nat} (hp : p < wq.heap.size) (hc : wq.cell? ⟨p, 0, none⟩ = some (.slice A0 L.length c0)) (hr : RdL rgE wq (fun _ => True) (.slice A0 L.length c0) L) (hl : L.length ≤ 1000) (hb : Below wq.heap.size wq W) (d : Int) {l : List Int} (hd : waitsL L d = l) :
    Calls Try.prog 19 #[.pointer (some ⟨p, 0, none⟩), .int .i64 d] W fun e w' => ∃ A c, e = .returned (.slice A l.length c) ∧ Rd w' (fun _ => True) (.slice A l.length c) l ∧ Below wq.heap.size wq w' ∧ Below W.heap.size W w' := by
  subst hd
  refine (waiting_any (Nat.lt_of_lt_of_le hp hb.size) ((hb.cell (p := ⟨p, 0, none⟩) hp).trans hc) (hr.below hb) d hl).mono ?_
  rintro e w' ⟨A, c, rfl, ho, h'⟩
  have := waitsTo_len L d L.length
  have h2 : (waitsL L d).length ≤ 1000000 := Nat.le_trans this (by omega)
  exact ⟨A, c, rfl, rd_of (ho.rd h2 fun _ _ => trivial), hb.trans (h'.mono hb.size), h'⟩
end

/-- What the law is asked of: numbers that may be. -/
def ZsIn (w : World) (A : Option Addr) (len cap : Nat) (zs : List Ac) : Prop := len ≤ 1000000 → zs.length = len ∧ RdL acE w (fun b => b < w.heap.size) (.slice A len cap) zs ∧ ∀ z ∈ zs, AcIn w z ∧ z.on ≤ 9223372036854775807

set_option maxHeartbeats 4000000 in
set_option maxRecDepth 100000 in
/-- What is too large, or no size that may be. -/
theorem does_easy (I : Af) (n : Int) (A : Option Addr) (len cap : Nat) (zs : List Ac) (w : World) (hn : In64 n) (hlen : len ≤ 9223372036854775807) (hz : ZsIn w A len cap zs) (hno : ¬ (1 ≤ n ∧ n ≤ 40 ∧ len ≤ 60 ∧ zs.any (fun z => decide (60 < z.on)) = false)) :
    Calls Try.prog 3 #[.int .i64 n, .slice A len cap] w fun e w' => e = .returned (.bool true) ∧ Below w.heap.size w w' := by
  have HN := Lib.hid hn
  have HZ := Lib.hid hz
  clear hn hz
  have key : ∀ W, Below w.heap.size w W → ∃ b, Calls Try.prog 7 #[.slice A len cap] W (fun e w' => e = .returned (.bool b) ∧ Below w.heap.size w w') ∧ (b = false → len ≤ 60 ∧ zs.any (fun z => decide (60 < z.on)) = false) := by
    intro W hb
    by_cases h60 : 60 < len
    · exact ⟨true, (large_len W A len cap h60 hlen).mono fun e w' ⟨he, h⟩ => ⟨he, h ▸ hb⟩, fun h => by cases h⟩
    · obtain ⟨h1, h2, h3⟩ := HZ.out (by omega)
      subst h1
      refine ⟨_, (large_any (h2.below hb) (by omega) fun z hz => (h3 z hz).2).mono fun e w' ⟨he, h⟩ => ⟨he, hb.trans (h.mono hb.size)⟩, fun h => ⟨by omega, h⟩⟩
  have HK := Lib.hid key
  have HNO := Lib.hid hno
  clear key hno HZ
  rcases (by omega : (40 < n ∧ n ≤ 200) ∨ n ≤ 40 ∨ (40 < n ∧ 200 < n)) with ⟨h1, h2⟩ | h1 | ⟨h1, h2⟩
  · go_enter Try.func3, Try.ntmps3
    go_wp2_with fail
    refine (awake_any I _).mono ?_
    rintro e w1 ⟨rfl, hb1⟩
    have HB := Lib.hid hb1
    clear hb1
    go_wp2
    go_ret
    exact ⟨rfl, HB.out⟩
  all_goals
    go_enter Try.func3, Try.ntmps3
    go_wp2_with fail
    refine (awake_any I _).mono ?_
    rintro e w1 ⟨rfl, hb1⟩
    have HB := Lib.hid hb1
    obtain ⟨b, hc, hbb⟩ := HK.out w1 hb1
    have HC := Lib.hid hc
    have HBB := Lib.hid hbb
    clear hb1 hc hbb
    go_wp2_with fail
    refine HC.out.mono ?_
    rintro e w2 ⟨rfl, hb2⟩
    have HB2 := Lib.hid hb2
    clear hb2
    cases b with
    | true =>
      go_wp2
      go_ret
      exact ⟨rfl, HB2.out⟩
    | false =>
      have hq : n < 1 ∨ 200 < n := by
        obtain ⟨h3, h4⟩ := HBB.out rfl
        rcases (by omega : n < 1 ∨ 1 ≤ n) with h5 | h5
        · exact .inl h5
        · exact Classical.byContradiction fun h => HNO.out ⟨h5, by omega, h3, h4⟩
      clear HC HBB HNO HK
      go_wp2_with fail
      refine (I.new_no n _ HN.out hq).mono ?_
      rintro e w3 ⟨rfl, hb3⟩
      have HB3 : Hid (Below w.heap.size w w3) := HB2.out.trans (hb3.mono HB2.out.size)
      clear hb3
      go_wp2_with fail
      refine (new_no n _ hq).mono ?_
      rintro e w4 ⟨rfl, rfl⟩
      go_wp2
      go_ret
      exact ⟨rfl, HB3.out⟩

set_option maxHeartbeats 8000000 in
set_option maxRecDepth 100000 in
theorem does_main (I : Af) (n : Int) (A : Option Addr) (len cap : Nat) (zs : List Ac) (w : World) (hlen : len ≤ 9223372036854775807) (hz : ZsIn w A len cap zs) (h1 : 1 ≤ n) (h2 : n ≤ 40) (h60 : len ≤ 60) (hno : zs.any (fun z => decide (60 < z.on)) = false) :
    Calls Try.prog 3 #[.int .i64 n, .slice A len cap] w fun e w' => e = .returned (.bool true) ∧ Below w.heap.size w w' := by
  obtain ⟨hzl, hzr, hzo⟩ := hz (by omega)
  subst hzl
  have HZR := Lib.hid hzr
  have HZO : Hid (∀ z ∈ zs, AcIn w z ∧ z.on ≤ 60) := fun z h => ⟨(hzo z h).1, by
    have := List.any_eq_false.1 hno z h
    simp at this
    exact this⟩
  have HLG : Hid (∀ W, Below w.heap.size w W → Calls Try.prog 7 #[.slice A zs.length cap] W (fun e w' => e = .returned (.bool false) ∧ Below w.heap.size w w')) := fun W hb =>
    (large_any (hzr.below hb) h60 fun z hz => (hzo z hz).2).mono fun e w' ⟨he, h⟩ => ⟨by rw [he, hno], hb.trans (h.mono hb.size)⟩
  clear hzr hzo hz hno hlen
  go_enter Try.func3, Try.ntmps3
  go_wp2_with fail
  refine (awake_any I _).mono ?_
  rintro e w1 ⟨rfl, hb1⟩
  have HB1 := Lib.hid hb1
  clear hb1
  go_wp2_with fail
  refine (HLG.out _ HB1.out).mono ?_
  rintro e w1 ⟨rfl, hb1⟩
  have S1 := Lib.hid ((Sep.nil (fun _ => False) w).next hb1)
  clear hb1 HB1 HLG
  go_wp2_with fail
  refine (f_new S1.out I n (by omega) (by omega)).mono ?_
  rintro e w2 ⟨a, rfl, h2'⟩
  have S2 := Lib.hid h2'
  clear h2' S1
  go_wp2_with fail
  refine (new_s S2.out n (by omega) (by omega)).mono ?_
  rintro e w3 ⟨p, rfl, h3⟩
  have S3 := Lib.hid h3
  clear h3 S2
  go_wp2
  go_loopw [55] (fun u wr => ∃ j : Nat, j ≤ zs.length ∧ u = .int .i64 j ∧ Hid (∃ L : List Rg, Sep (fun _ => False) w wr [rl p L n, ob I.O (.pointer (some a)) (L, n)])) (fun u _ => zs.length - (intOf u).toNat)
  case atStart => exact ⟨0, Nat.zero_le _, rfl, _, S3.out⟩
  case round =>
    obtain ⟨j, hj, rfl, HS⟩ := hrel
    obtain ⟨L, hS⟩ := HS.out
    have SL := Lib.hid hS
    clear HS hS S3
    by_cases hlt : j < zs.length
    · have hx : zs[j]? = some zs[j] := List.getElem?_eq_getElem hlt
      generalize zs[j] = z at hx
      obtain ⟨⟨hd64, ha64, hb64, hl⟩, hon⟩ := HZO.out z (List.mem_of_getElem? hx)
      obtain ⟨l, hll, hlr, hli⟩ := hl (by omega)
      obtain ⟨bb, off, rfl, hbb, c0, c1, c2, c3⟩ := ac_cells HZR.out hx
      have hb := SL.out.old
      have q0 := (hb.cell (p := ⟨bb, off + j * 4, none⟩) hbb).trans c0
      have q1 := (hb.cell (p := ⟨bb, off + j * 4 + 1, none⟩) hbb).trans c1
      have q2 := (hb.cell (p := ⟨bb, off + j * 4 + 2, none⟩) hbb).trans c2
      have q3 := (hb.cell (p := ⟨bb, off + j * 4 + 3, none⟩) hbb).trans c3
      obtain ⟨d, aa, ab, oa, on, oc⟩ := z
      simp only at hll hlr hon q0 q1 q2 q3 ha64 hb64
      subst hll
      have S4 := Lib.hid (SL.out.new (.cells #[.int .i64 d, .int .i64 aa, .int .i64 ab, .slice oa l.length oc] 34))
      have HU : Hid (∀ W, Below w.heap.size w W → Rd W (fun k => k < w.heap.size ∧ ¬ False) (.slice oa l.length oc) l) := fun W hW => (hlr.below hW).mono fun k _ h => ⟨h, fun f => f⟩
      have HA64 := Lib.hid ha64
      have HB64 := Lib.hid hb64
      have HLI := Lib.hid hli
      have HOKL := Lib.hid (rl_ok SL.out)
      clear hx c0 c1 c2 c3 hb SL hd64 ha64 hb64 hl hlr hli
      obtain ⟨V, hV⟩ : ∃ V, actV L n d = V := ⟨_, rfl⟩
      obtain ⟨E, hE⟩ : ∃ E, actE L n d = E := ⟨_, rfl⟩
      obtain ⟨Bo, hBo⟩ : ∃ Bo, actB L d aa = Bo := ⟨_, rfl⟩
      obtain ⟨O, hO⟩ : ∃ O, actO L d l = O := ⟨_, rfl⟩
      obtain ⟨L2, hL2⟩ : ∃ L2, actL L n d aa ab l = L2 := ⟨_, rfl⟩
      have KV := Lib.hid hV
      have KE := Lib.hid hE
      have KB := Lib.hid hBo
      have KO := Lib.hid hO
      have KL := Lib.hid hL2
      clear hV hE hBo hO hL2
      go_wp2_with fail
      refine (f_do S4.out 2 rfl d aa ab oa oc l HA64.out HB64.out (by omega) (HU.out _ S4.out.old) HLI.out).mono ?_
      rintro e w5 ⟨A5, c5, rfl, h5⟩
      rw [KV.out, KE.out, KB.out, KO.out]
      rw [KO.out, KL.out] at h5
      have S6 := Lib.hid ((Sep.perm h5 (show List.Perm [_, _, _, _] _ from ((List.Perm.swap _ _ _).cons _).trans (List.Perm.swap _ _ _))).next (new_below0 w5 (.cells #[] 3)))
      have HB6 := Lib.hid (h5.old.trans ((new_below0 w5 (.cells #[] 3)).mono h5.old.size))
      have a0 : (w5.alloc (.cells #[] 3)).cell? ⟨wr.heap.size, 0, none⟩ = some (.int .i64 d) := (cell_block (S6.out.blk_at 2 rfl) 0).trans rfl
      have a1 : (w5.alloc (.cells #[] 3)).cell? ⟨wr.heap.size, 1, none⟩ = some (.int .i64 aa) := (cell_block (S6.out.blk_at 2 rfl) 1).trans rfl
      have a2 : (w5.alloc (.cells #[] 3)).cell? ⟨wr.heap.size, 2, none⟩ = some (.int .i64 ab) := (cell_block (S6.out.blk_at 2 rfl) 2).trans rfl
      have a3 : (w5.alloc (.cells #[] 3)).cell? ⟨wr.heap.size, 3, none⟩ = some (.slice oa l.length oc) := (cell_block (S6.out.blk_at 2 rfl) 3).trans rfl
      have hz5 : (w5.alloc (.cells #[] 3)).heap.size = w5.heap.size + 1 := by simp
      clear h5 S4 q0 q1 q2 q3
      go_upto_block 2 with (fail)
      go_cut [15, 16, 17, 18] (fun s15 s16 s17 s18 wx => s15 = .int .i64 V ∧ s16 = .int .i64 E ∧ s17 = .bool Bo ∧ ∃ A6 c6, s18 = .slice A6 O.length c6 ∧ Hid (Sep (fun _ => False) w wx [nums (.slice A6 O.length c6) O, rl p L2 n, nums (.slice A5 O.length c5) O, blk wr.heap.size (.cells #[.int .i64 d, .int .i64 aa, .int .i64 ab, .slice oa l.length oc] 34), ob I.O (.pointer (some a)) (L2, n)]))
      case first => as_aux_lemma =>
        rcases (by omega : d = 0 ∨ d = 1 ∨ d = 2 ∨ (d ≠ 0 ∧ d ≠ 1 ∧ d ≠ 2)) with rfl | rfl | rfl | ⟨d0, d1, d2⟩
        · have hV : Hid (addV L n = V) := KV.out
          have hE : Hid (addE L n = E) := KE.out
          have hB : Hid (false = Bo) := KB.out
          have hO : Hid (([] : List Int) = O) := KO.out
          have hL : Hid (addL L n aa ab = L2) := KL.out
          go_wp2_with fail
          refine (add_s S6.out aa ab HA64.out HB64.out).mono ?_
          rintro e w7 ⟨rfl, h7⟩
          rw [hV.out, hE.out]
          have S7 := Lib.hid (Sep.nums0 h7 (some ⟨w5.heap.size, 0, none⟩) 0)
          clear h7
          go_wp2
          go_meet
          refine ⟨rfl, rfl, by rw [← hB.out], some ⟨w5.heap.size, 0, none⟩, 0, by rw [← hO.out]; rfl, ?_⟩
          have h := S7.out
          rw [← hO.out] at h ⊢
          rw [← hL.out] at h ⊢
          exact h
        · have hV : Hid (0 = V) := KV.out
          have hE : Hid (0 = E) := KE.out
          have hB : Hid (stopB L aa = Bo) := KB.out
          have hO : Hid (([] : List Int) = O) := KO.out
          have hL : Hid (stopL L aa = L2) := KL.out
          go_wp2_with fail
          refine (stop_s S6.out aa).mono ?_
          rintro e w7 ⟨rfl, h7⟩
          rw [hB.out]
          have S7 := Lib.hid (Sep.nums0 h7 (some ⟨w5.heap.size, 0, none⟩) 0)
          clear h7
          go_wp2
          go_meet
          refine ⟨by rw [← hV.out], by rw [← hE.out], rfl, some ⟨w5.heap.size, 0, none⟩, 0, by rw [← hO.out]; rfl, ?_⟩
          have h := S7.out
          rw [← hO.out] at h ⊢
          rw [← hL.out] at h ⊢
          exact h
        · have hV : Hid (0 = V) := KV.out
          have hE : Hid (0 = E) := KE.out
          have hB : Hid (false = Bo) := KB.out
          have hO : Hid (fireO L l = O) := KO.out
          have hL : Hid (fireL L l = L2) := KL.out
          go_wp2_with fail
          refine (fire_s S6.out oa oc l (by omega) fun W hW => (HU.out W hW.to_below).mono fun _ _ _ => trivial).mono ?_
          rintro e w7 ⟨A7, c7, rfl, h7⟩
          rw [hO.out]
          rw [hO.out, hL.out] at h7
          have hol : O.length ≤ 1000000 := by
            have h3 := fireO_len L l
            have h4 := HOKL.out.len
            have h5 := HOKL.out.m1
            rw [hO.out] at h3
            have h6 : L.length ≤ 200 := by omega
            have := Nat.mul_le_mul h6 hon
            omega
          have S7 := Lib.hid (grow_nums h7 hol)
          clear h7
          go_wp2
          go_meet
          exact ⟨by rw [← hV.out], by rw [← hE.out], by rw [← hB.out], A7, c7, rfl, S7.out⟩
        · have hR : Hid (0 = V ∧ 0 = E ∧ false = Bo ∧ ([] : List Int) = O ∧ L = L2) := by
            have h1 := KV.out; have h2 := KE.out; have h3 := KB.out; have h4 := KO.out; have h5 := KL.out
            unfold actV at h1; unfold actE at h2; unfold actB at h3; unfold actO at h4; unfold actL at h5
            rw [if_neg d0] at h1 h2; rw [if_neg d1] at h3; rw [if_neg d2] at h4; rw [if_neg d0, if_neg d1, if_neg d2] at h5
            exact ⟨h1, h2, h3, h4, h5⟩
          have e0 : (d == 0) = false := by simpa using d0
          have e1 : (d == 1) = false := by simpa using d1
          have e2 : (d == 2) = false := by simpa using d2
          have S7 := Lib.hid (Sep.nums0 S6.out (some ⟨w5.heap.size, 0, none⟩) 0)
          clear d0 d1 d2
          go_wp2
          go_meet
          obtain ⟨r1, r2, r3, r4, r5⟩ := hR.out
          refine ⟨by rw [← r1], by rw [← r2], by rw [← r3], some ⟨w5.heap.size, 0, none⟩, 0, by rw [← r4]; rfl, ?_⟩
          have h := S7.out
          rw [← r4] at h ⊢
          rw [← r5] at h ⊢
          exact h
      case rest => as_aux_lemma =>
        obtain ⟨rfl, rfl, rfl, A6, c6, rfl, S7⟩ := hcut
        clear S6 a0 a1 a2 a3 hz5 HB6 KV KE KB KO KL HU HLI
        obtain ⟨AL, cL, hs, hok⟩ := rl_open S7.out.tail
        have hS := S7.out
        obtain ⟨FA, hA⟩ := ob_at hS 4 rfl
        have HA : Hid (I.O.A wc (.pointer (some a)) FA (L2, n)) := hA
        have R5 := Lib.hid (hS.rd 2 rfl)
        have R6 := Lib.hid (hS.rd 0 rfl)
        have hl2 : L2.length ≤ 200 := by have := hok.len; have := hok.m1; omega
        have hpl := lt_of_block (hs.blk_at 0 rfl)
        have hxl := lt_of_block (hS.blk_at 3 rfl)
        have x0 : wc.cell? ⟨p, 0, none⟩ = some (.slice AL L2.length cL) := (cell_block (hs.blk_at 0 rfl) 0).trans rfl
        have x1 : wc.cell? ⟨wr.heap.size, 1, none⟩ = some (.int .i64 aa) := (cell_block (hS.blk_at 3 rfl) 1).trans rfl
        have RL : Hid (RdL rgE wc (fun _ => True) (.slice AL L2.length cL) L2) := (hs.own 1 rfl).rd (by omega) fun _ _ => trivial
        have HPL := Lib.hid hpl
        have HX0 := Lib.hid x0
        obtain ⟨WL, hWL⟩ : ∃ WL, waitsL L2 aa = WL := ⟨_, rfl⟩
        have HWL := Lib.hid hWL
        have FK : Hid (∀ Q, Below wc.heap.size wc Q → (Q.cell? ⟨p, 0, none⟩ = some (.slice AL L2.length cL) ∧ Q.cell? ⟨wr.heap.size, 1, none⟩ = some (.int .i64 aa))) := fun Q hb => ⟨(hb.cell (p := ⟨p, 0, none⟩) hpl).trans x0, (hb.cell (p := ⟨wr.heap.size, 1, none⟩) hxl).trans x1⟩
        have HB : Hid (Below wc.heap.size wc wc.drew) := (Below.refl _ _).drew
        have hVV : (V != V) = false := by simp
        have hEE : (E != E) = false := by simp
        have hBB : (Bo != Bo) = false := by simp
        clear hs hok hS hA hWL x0 x1
        generalize hbx : wr.heap.size = bx at *
        clear hbx
        go_upto_region 23 with (fail)
        go_cut [134] (fun s134 wx => s134 = .bool false ∧ Hid (Below wc.heap.size wc wx))
        case first => as_aux_lemma =>
          obtain ⟨k0, k1⟩ := FK.out _ HB.out
          go_region_held3 (fun Q => Q.cell? ⟨p, 0, none⟩ = some (.slice AL L2.length cL) ∧ Q.cell? ⟨bx, 1, none⟩ = some (.int .i64 aa)) (go_keep)
            (first
              | (go_at_call 14; (with_reducible refine (l_same R5.out R6.out HB.out).mono ?_); rintro e w11 ⟨rfl, hb11⟩; have HB := Lib.hid hb11; obtain ⟨k0, k1⟩ := FK.out _ hb11; clear hb11)
              | (go_at_call 17; (with_reducible refine (l_rows HA.out HB.out).mono ?_); rintro e w11 ⟨A1, c1, rfl, r11, hb11⟩; have R1 := Lib.hid r11; clear r11; have HB := Lib.hid hb11; obtain ⟨k0, k1⟩ := FK.out _ hb11; clear hb11)
              | (go_at_call 16; (with_reducible refine (l_own R1.out (by omega) HB.out).mono ?_); rintro e w11 ⟨A2, c2, rfl, r11, hb11⟩; have R2 := Lib.hid r11; clear r11; have HB := Lib.hid hb11; obtain ⟨k0, k1⟩ := FK.out _ hb11; clear hb11)
              | (go_at_call 15; (with_reducible refine (l_rsame R2.out RL.out HB.out).mono ?_); rintro e w11 ⟨rfl, hb11⟩; have HB := Lib.hid hb11; obtain ⟨k0, k1⟩ := FK.out _ hb11; clear hb11)
              | (go_at_call 18; (with_reducible refine (l_waiting HA.out HB.out aa HA64.out HWL.out).mono ?_); rintro e w11 ⟨A3, c3, rfl, r11, hb11⟩; have R3 := Lib.hid r11; clear r11; have HB := Lib.hid hb11; obtain ⟨k0, k1⟩ := FK.out _ hb11; clear hb11)
              | (go_at_call 19; (with_reducible refine (l_rwaiting HPL.out HX0.out RL.out (by omega) HB.out aa HWL.out).mono ?_); rintro e w11 ⟨A4, c4, rfl, r11, hb11, b11⟩; have R4 := Lib.hid r11; have R33 := Lib.hid (R3.out.below b11); clear r11 b11; have HB := Lib.hid hb11; obtain ⟨k0, k1⟩ := FK.out _ hb11; clear hb11)
              | (go_at_call 14; (with_reducible refine (l_same2 R33.out R4.out HB.out).mono ?_); rintro e w11 ⟨rfl, hb11⟩; have HB := Lib.hid hb11; obtain ⟨k0, k1⟩ := FK.out _ hb11; clear hb11))
          go_wp2_with fail
          go_meet
          exact ⟨rfl, HB⟩
        case rest => as_aux_lemma =>
          obtain ⟨rfl, HB9⟩ := hcut
          have SF : Hid (∃ L : List Rg, Sep (fun _ => False) w wc [rl p L n, ob I.O (.pointer (some a)) (L, n)]) := ⟨L2, (S7.out.next HB9.out).sub (.cons _ (.cons_cons _ (.cons _ (.cons _ (.cons_cons _ .slnil)))))⟩
          go_wp2
          go_roundw
          case rel => exact ⟨j + 1, by omega, by go_num, SF⟩
          case measure => simp [intOf]; omega
    · have HB := Lib.hid SL.out.old
      go_wp2
      go_ret
      exact ⟨rfl, HB.out⟩

theorem does_walk (I : Af) (n : Int) (A : Option Addr) (len cap : Nat) (zs : List Ac) (w : World) (hn : In64 n) (hlen : len ≤ 9223372036854775807) (hz : ZsIn w A len cap zs) :
    Calls Try.prog 3 #[.int .i64 n, .slice A len cap] w fun e w' => e = .returned (.bool true) ∧ Below w.heap.size w w' := by
  by_cases hno : 1 ≤ n ∧ n ≤ 40 ∧ len ≤ 60 ∧ zs.any (fun z => decide (60 < z.on)) = false
  · exact does_main I n A len cap zs w hlen hz hno.1 hno.2.1 hno.2.2.1 hno.2.2.2
  · exact does_easy I n A len cap zs w hn hlen hz hno
end Go.Proofs.Ytindcpcfilfnkaa.AfterI
