/-
  The walk of the law TaskDoes over any package that meets 'Tb'. Condition: what the arguments read as.
-/
import Derived.Test.YthdipkdolgcmgaaTaskM
import Derived.Test.YthdipkdolgcmgaaTaskA
import Derived.Test.YthdipkdolgcmgaaRefTaskF
import Derived.Test.YthdipkdolgcmgaaHeldN
import Derived.Deep.RegionHeld3
import Derived.Deep.DeepCutAuto
import Derived.Deep.CutBlock
namespace Go.Proofs.Ythdipkdolgcmgaa.TaskI
open Go.ChangeShapes Go.WideShapes Go.ChangeAt Go.RowKit Mem MutP TaskP Hand RefTask

section
variable {I : Tb} {wq Q : World} {v : Value} {FA : Nat → Prop} {L : List Tk} {N : Int} {p : Nat} {A : Option Addr} {c : Nat}
theorem l_len (hA : I.O.A wq v FA (L, N)) (hb : Below wq.heap.size wq Q) : Calls Try.prog 16 #[v] Q fun e w' => e = .returned (.int .i64 L.length) ∧ Below wq.heap.size wq w' ∧ Below Q.heap.size Q w' := by
  refine (I.len (I.O.keep hA hb.size fun k hk _ => hb.block k hk)).mono ?_
  rintro e w' ⟨rfl, h'⟩
  exact ⟨rfl, hb.trans (h'.mono hb.size), h'⟩
theorem says_l {w' : World} {u : Value} {l : List Int} {m : Nat} (hm : l.length = m) (hb : Below wq.heap.size wq Q) (h : Says Q w' u l) : ∃ A c, u = .slice A m c ∧ Rd w' (fun _ => True) (.slice A m c) l ∧ Below wq.heap.size wq w' ∧ Below Q.heap.size Q w' := by
  subst hm
  obtain ⟨A, c, rfl⟩ := rd_form h.1
  exact ⟨A, c, rfl, h.1.mono fun _ _ _ => trivial, hb.trans (h.2.mono hb.size), h.2⟩
theorem l_in (hA : I.O.A wq v FA (L, N)) (hb : Below wq.heap.size wq Q) (x : Int) (hx : In64 x) {l : List Int} {m : Nat} (hl : inS L x = l) (hm : l.length = m) : Calls Try.prog 18 #[v, .int .i64 x] Q fun e w' => ∃ A c, e = .returned (.slice A m c) ∧ Rd w' (fun _ => True) (.slice A m c) l ∧ Below wq.heap.size wq w' ∧ Below Q.heap.size Q w' := by
  subst hl
  refine (I.in_ (I.O.keep hA hb.size fun k hk _ => hb.block k hk) x hx).mono ?_
  rintro e w' ⟨u, rfl, h'⟩
  obtain ⟨A, c, rfl, h1, h2⟩ := says_l hm hb h'
  exact ⟨A, c, rfl, h1, h2⟩
theorem l_under (hA : I.O.A wq v FA (L, N)) (hb : Below wq.heap.size wq Q) (x : Int) (hx : In64 x) {l : List Int} {m : Nat} (hl : underS L x = l) (hm : l.length = m) : Calls Try.prog 20 #[v, .int .i64 x] Q fun e w' => ∃ A c, e = .returned (.slice A m c) ∧ Rd w' (fun _ => True) (.slice A m c) l ∧ Below wq.heap.size wq w' ∧ Below Q.heap.size Q w' := by
  subst hl
  refine (I.under (I.O.keep hA hb.size fun k hk _ => hb.block k hk) x hx).mono ?_
  rintro e w' ⟨u, rfl, h'⟩
  obtain ⟨A, c, rfl, h1, h2⟩ := says_l hm hb h'
  exact ⟨A, c, rfl, h1, h2⟩
theorem grow_rd {w' : World} {u : Value} {l : List Int} (h : Sep (fun _ => False) Q w' [grow intE 3 u l]) (hl : l.length ≤ 1000000) : Rd w' (fun _ => True) u l := (grow_nums h hl).rd 0 rfl
theorem r_in (hA : Seen wq p A c L) (hb : Below wq.heap.size wq Q) (x : Int) {l : List Int} {m : Nat} (hl : inS L x = l) (hm : l.length = m) : Calls Try.prog 19 #[.pointer (some ⟨p, 0, none⟩), .int .i64 x] Q fun e w' => ∃ A c, e = .returned (.slice A m c) ∧ Rd w' (fun _ => True) (.slice A m c) l ∧ Below wq.heap.size wq w' ∧ Below Q.heap.size Q w' := by
  subst hl hm
  refine (in_seen (hA.below hb) x).mono ?_
  rintro e w' ⟨A1, c1, rfl, h'⟩
  exact ⟨A1, c1, rfl, grow_rd h' (Nat.le_trans (inS_len L x) (Nat.le_trans hA.len (by omega))), hb.trans (h'.old.mono hb.size), h'.old⟩
theorem r_under (hA : Seen wq p A c L) (hb : Below wq.heap.size wq Q) (x : Int) {l : List Int} {m : Nat} (hl : underS L x = l) (hm : l.length = m) : Calls Try.prog 21 #[.pointer (some ⟨p, 0, none⟩), .int .i64 x] Q fun e w' => ∃ A c, e = .returned (.slice A m c) ∧ Rd w' (fun _ => True) (.slice A m c) l ∧ Below wq.heap.size wq w' ∧ Below Q.heap.size Q w' := by
  subst hl hm
  refine (under_seen (hA.below hb) x).mono ?_
  rintro e w' ⟨A1, c1, rfl, h'⟩
  exact ⟨A1, c1, rfl, grow_rd h' (Nat.le_trans (underS_len L x) (Nat.le_trans hA.len (by omega))), hb.trans (h'.old.mono hb.size), h'.old⟩
theorem l_same {u u' : Value} {l : List Int} (hu : Rd Q (fun _ => True) u l) (hu' : Rd Q (fun _ => True) u' l) (hb : Below wq.heap.size wq Q) :
    Calls Try.prog 17 #[u, u'] Q fun e w' => e = .returned (.bool true) ∧ Below wq.heap.size wq w' ∧ Below Q.heap.size Q w' := by
  refine (SameI.same_any hu hu').mono ?_
  rintro e w' ⟨rfl, n, rfl⟩
  exact ⟨by simp, below_drewN hb n, below_drewN (Below.refl _ _) n⟩
end
/-- A struct in a block of its own, loaded as a whole where it is but read. -/
theorem exec_block {P : Program} {o : Oper} {ev : Operand → Value} {V : World} (t : TypeId) (x : Operand) (ho : o.op = .load t x) {b : Nat} {cs : Array Value} {ty : TypeId} {d : TypeDesc} (hx : ev x = .pointer (some ⟨b, 0, none⟩)) (hc : V.heap[b]? = some (.cells cs ty (0, 0)))
    (hu : P.underlying t = some d) (hd : aggD d = true) (hi : (P.info? t).map (·.size) = some cs.size) : (execOp ev o).run P V = .ok (.value (.agg cs)) V := by
  unfold execOp
  simp only [ho, hx, Instr.loadAt, Instr.sureAddr, Sem.run_bind, Sem.run_pure, Result.andThen_ok, run_loadVar_at V b 0 t cs d (cells_at hc) hu hd hi]

set_option maxHeartbeats 1000000 in
set_option maxRecDepth 100000 in
/-- What is too large, or no size that may be. -/
theorem does_easy (I : Tb) (n s1 s2 : Int) (A : Option Addr) (len cap : Nat) (w : World) (hn : In64 n) (hlen : len ≤ 9223372036854775807) (hno : ¬ (1 ≤ n ∧ n ≤ 30 ∧ len ≤ 100)) :
    Calls Try.prog 3 #[.int .i64 n, .slice A len cap, .int .i64 s1, .int .i64 s2] w fun e w' => e = .returned (.bool true) ∧ Below w.heap.size w w' := by
  have HN := Lib.hid hn
  clear hn
  rcases (by omega : (30 < n ∧ n ≤ 200) ∨ ((n ≤ 30 ∨ 200 < n) ∧ 100 < len) ∨ (n < 1 ∧ len ≤ 100) ∨ (200 < n ∧ len ≤ 100)) with ⟨h1, h2⟩ | ⟨h1 | h1, h2⟩ | ⟨h1, h2⟩ | ⟨h1, h2⟩
  · clear hno
    go_enter Try.func3, Try.ntmps3
    go_wp2_with fail
    refine (awake_any I _).mono ?_
    rintro e w1 ⟨rfl, hb1⟩
    have HB := Lib.hid hb1
    clear hb1
    go_wp2
    go_ret
    exact ⟨rfl, HB.out⟩
  · clear hno
    go_enter Try.func3, Try.ntmps3
    go_wp2_with fail
    refine (awake_any I _).mono ?_
    rintro e w1 ⟨rfl, hb1⟩
    have HB := Lib.hid hb1
    clear hb1
    go_wp2
    go_ret
    exact ⟨rfl, HB.out⟩
  · clear hno
    go_enter Try.func3, Try.ntmps3
    go_wp2_with fail
    refine (awake_any I _).mono ?_
    rintro e w1 ⟨rfl, hb1⟩
    have HB := Lib.hid hb1
    clear hb1
    go_wp2
    go_ret
    exact ⟨rfl, HB.out⟩
  all_goals
    have hq : n < 1 ∨ 200 < n := by omega
    have HQ := Lib.hid hq
    clear hq hno
    go_enter Try.func3, Try.ntmps3
    go_wp2_with fail
    refine (awake_any I _).mono ?_
    rintro e w1 ⟨rfl, hb1⟩
    have HB := Lib.hid hb1
    clear hb1
    go_wp2_with fail
    refine (I.new_no n _ HN.out HQ.out).mono ?_
    rintro e w3 ⟨rfl, hb3⟩
    have HB3 : Hid (Below w.heap.size w w3) := HB.out.trans (hb3.mono HB.out.size)
    clear hb3
    go_wp2_with fail
    refine (newR_no n _ HQ.out).mono ?_
    rintro e w4 ⟨rfl, rfl⟩
    go_wp2
    go_ret
    exact ⟨rfl, HB3.out⟩

set_option maxHeartbeats 4000000 in
set_option maxRecDepth 100000 in
theorem does_main (I : Tb) (n y1 y2 : Int) (A : Option Addr) (len cap : Nat) (zs : List AcT) (w : World) (hz : ZsIn w A len cap zs) (h1 : 1 ≤ n) (h2 : n ≤ 30) (h60 : len ≤ 100) (hy1 : In64 y1) (hy2 : In64 y2) :
    Calls Try.prog 3 #[.int .i64 n, .slice A len cap, .int .i64 y1, .int .i64 y2] w fun e w' => e = .returned (.bool true) ∧ Below w.heap.size w w' := by
  obtain ⟨hzl, hzr, hzo⟩ := hz (by omega)
  subst hzl
  have HZR := Lib.hid hzr
  have HZO := Lib.hid hzo
  have HY1 := Lib.hid hy1
  have HY2 := Lib.hid hy2
  clear hzr hzo hz hy1 hy2
  go_enter Try.func3, Try.ntmps3
  go_wp2_with fail
  refine (awake_any I _).mono ?_
  rintro e w1 ⟨rfl, hb1⟩
  have S1 := Lib.hid ((Sep.nil (fun _ => False) w).next hb1)
  clear hb1
  go_wp2_with fail
  refine (t_new S1.out I n (by omega) (by omega)).mono ?_
  rintro e w2 ⟨a, rfl, h2'⟩
  have S2 := Lib.hid h2'
  clear h2' S1
  go_wp2_with fail
  refine (newR S2.out n (by omega) (by omega)).mono ?_
  rintro e w3 ⟨p, rfl, h3⟩
  have S3 := Lib.hid h3
  clear h3 S2
  go_wp2
  go_loopw [63] (fun u wr => ∃ j : Nat, j ≤ zs.length ∧ u = .int .i64 j ∧ Hid (∃ L : List Tk, Sep (fun _ => False) w wr [rt p L n, ob I.O (.pointer (some a)) (L, n)])) (fun u _ => zs.length - (intOf u).toNat)
  case atStart => exact ⟨0, Nat.zero_le _, rfl, _, S3.out⟩
  case round =>
    obtain ⟨j, hj, rfl, HS⟩ := hrel
    obtain ⟨L, hS⟩ := HS.out
    have SL := Lib.hid hS
    clear HS hS S3
    by_cases hlt : j < zs.length
    · have hx : zs[j]? = some zs[j] := List.getElem?_eq_getElem hlt
      generalize zs[j] = z at hx
      obtain ⟨hd64, hin⟩ := HZO.out z (List.mem_of_getElem? hx)
      obtain ⟨bb, off, rfl, hbb, c0, c1, c2, c3, c4, c5, c6, c7, c8, c9, c10⟩ := ac_cells HZR.out hx
      have hb := SL.out.old
      have q0 := (hb.cell (p := ⟨bb, off + j * 11, none⟩) hbb).trans c0
      have q1 := (hb.cell (p := ⟨bb, off + j * 11 + 1, none⟩) hbb).trans c1
      have q2 := (hb.cell (p := ⟨bb, off + j * 11 + 2, none⟩) hbb).trans c2
      have q3 := (hb.cell (p := ⟨bb, off + j * 11 + 3, none⟩) hbb).trans c3
      have q4 := (hb.cell (p := ⟨bb, off + j * 11 + 4, none⟩) hbb).trans c4
      have q5 := (hb.cell (p := ⟨bb, off + j * 11 + 5, none⟩) hbb).trans c5
      have q6 := (hb.cell (p := ⟨bb, off + j * 11 + 6, none⟩) hbb).trans c6
      have q7 := (hb.cell (p := ⟨bb, off + j * 11 + 7, none⟩) hbb).trans c7
      have q8 := (hb.cell (p := ⟨bb, off + j * 11 + 8, none⟩) hbb).trans c8
      have q9 := (hb.cell (p := ⟨bb, off + j * 11 + 9, none⟩) hbb).trans c9
      have q10 := (hb.cell (p := ⟨bb, off + j * 11 + 10, none⟩) hbb).trans c10
      obtain ⟨d, t, a', b, x, q⟩ := z
      obtain ⟨k', o', c', r', l', n'⟩ := q
      simp only at q0 q1 q2 q3 q4 q5 q6 q7 q8 q9 q10 hin
      have S4 := Lib.hid (SL.out.new (.cells #[.int .i64 d, .int .i64 t, .int .i64 a', .int .i64 b, .int .i64 x, .int .i64 k', .int .i64 o', .int .i64 c', .int .i64 r', .int .i64 l', .int .i64 n'] 34))
      have HIN := Lib.hid hin
      clear hx c0 c1 c2 c3 c4 c5 c6 c7 c8 c9 c10 hb SL hd64 hin
      obtain ⟨V, hV⟩ : ∃ V, aV L n d = V := ⟨_, rfl⟩
      obtain ⟨E, hE⟩ : ∃ E, aE L n d = E := ⟨_, rfl⟩
      obtain ⟨Bo, hBo⟩ : ∃ Bo, aB L d t a' ⟨k', o', c', r', l', n'⟩ = Bo := ⟨_, rfl⟩
      obtain ⟨L2, hL2⟩ : ∃ L2, aL L n d t a' b x ⟨k', o', c', r', l', n'⟩ = L2 := ⟨_, rfl⟩
      have KV := Lib.hid hV
      have KE := Lib.hid hE
      have KB := Lib.hid hBo
      have KL := Lib.hid hL2
      clear hV hE hBo hL2
      go_wp2_with fail
      refine (t_do S4.out 2 rfl d t a' b x ⟨k', o', c', r', l', n'⟩ HIN.out KV.out KB.out KE.out KL.out).mono ?_
      rintro e w5 ⟨rfl, h5⟩
      have S6 : Hid (Sep (fun _ => False) w w5 [blk wr.heap.size (.cells #[.int .i64 d, .int .i64 t, .int .i64 a', .int .i64 b, .int .i64 x, .int .i64 k', .int .i64 o', .int .i64 c', .int .i64 r', .int .i64 l', .int .i64 n'] 34), rt p L n, ob I.O (.pointer (some a)) (L2, n)]) := h5
      have a0 := (cell_block (S6.out.blk_at 0 (g := wr.heap.size) (o := (.cells #[.int .i64 d, .int .i64 t, .int .i64 a', .int .i64 b, .int .i64 x, .int .i64 k', .int .i64 o', .int .i64 c', .int .i64 r', .int .i64 l', .int .i64 n'] 34)) rfl) 0).trans rfl
      have a1 := (cell_block (S6.out.blk_at 0 (g := wr.heap.size) (o := (.cells #[.int .i64 d, .int .i64 t, .int .i64 a', .int .i64 b, .int .i64 x, .int .i64 k', .int .i64 o', .int .i64 c', .int .i64 r', .int .i64 l', .int .i64 n'] 34)) rfl) 1).trans rfl
      have a2 := (cell_block (S6.out.blk_at 0 (g := wr.heap.size) (o := (.cells #[.int .i64 d, .int .i64 t, .int .i64 a', .int .i64 b, .int .i64 x, .int .i64 k', .int .i64 o', .int .i64 c', .int .i64 r', .int .i64 l', .int .i64 n'] 34)) rfl) 2).trans rfl
      have a3 := (cell_block (S6.out.blk_at 0 (g := wr.heap.size) (o := (.cells #[.int .i64 d, .int .i64 t, .int .i64 a', .int .i64 b, .int .i64 x, .int .i64 k', .int .i64 o', .int .i64 c', .int .i64 r', .int .i64 l', .int .i64 n'] 34)) rfl) 3).trans rfl
      have a4 := (cell_block (S6.out.blk_at 0 (g := wr.heap.size) (o := (.cells #[.int .i64 d, .int .i64 t, .int .i64 a', .int .i64 b, .int .i64 x, .int .i64 k', .int .i64 o', .int .i64 c', .int .i64 r', .int .i64 l', .int .i64 n'] 34)) rfl) 4).trans rfl
      have a5 := (cell_block (S6.out.blk_at 0 (g := wr.heap.size) (o := (.cells #[.int .i64 d, .int .i64 t, .int .i64 a', .int .i64 b, .int .i64 x, .int .i64 k', .int .i64 o', .int .i64 c', .int .i64 r', .int .i64 l', .int .i64 n'] 34)) rfl) 5).trans rfl
      have a6 := (cell_block (S6.out.blk_at 0 (g := wr.heap.size) (o := (.cells #[.int .i64 d, .int .i64 t, .int .i64 a', .int .i64 b, .int .i64 x, .int .i64 k', .int .i64 o', .int .i64 c', .int .i64 r', .int .i64 l', .int .i64 n'] 34)) rfl) 6).trans rfl
      have a7 := (cell_block (S6.out.blk_at 0 (g := wr.heap.size) (o := (.cells #[.int .i64 d, .int .i64 t, .int .i64 a', .int .i64 b, .int .i64 x, .int .i64 k', .int .i64 o', .int .i64 c', .int .i64 r', .int .i64 l', .int .i64 n'] 34)) rfl) 7).trans rfl
      have a8 := (cell_block (S6.out.blk_at 0 (g := wr.heap.size) (o := (.cells #[.int .i64 d, .int .i64 t, .int .i64 a', .int .i64 b, .int .i64 x, .int .i64 k', .int .i64 o', .int .i64 c', .int .i64 r', .int .i64 l', .int .i64 n'] 34)) rfl) 8).trans rfl
      have a9 := (cell_block (S6.out.blk_at 0 (g := wr.heap.size) (o := (.cells #[.int .i64 d, .int .i64 t, .int .i64 a', .int .i64 b, .int .i64 x, .int .i64 k', .int .i64 o', .int .i64 c', .int .i64 r', .int .i64 l', .int .i64 n'] 34)) rfl) 9).trans rfl
      have a10 := (cell_block (S6.out.blk_at 0 (g := wr.heap.size) (o := (.cells #[.int .i64 d, .int .i64 t, .int .i64 a', .int .i64 b, .int .i64 x, .int .i64 k', .int .i64 o', .int .i64 c', .int .i64 r', .int .i64 l', .int .i64 n'] 34)) rfl) 10).trans rfl
      clear h5 S4 q0 q1 q2 q3 q4 q5 q6 q7 q8 q9 q10
      go_upto_block 2 with (fail)
      go_cut [18, 19, 20] (fun s18 s19 s20 wx => s18 = .int .i64 V ∧ s19 = .bool Bo ∧ s20 = .int .i64 E ∧ Hid (Sep (fun _ => False) w wx [rt p L2 n, ob I.O (.pointer (some a)) (L2, n)]))
      case first => as_aux_lemma =>
        have S7 : Hid (Sep (fun _ => False) w w5 [rt p L n, blk wr.heap.size (.cells #[.int .i64 d, .int .i64 t, .int .i64 a', .int .i64 b, .int .i64 x, .int .i64 k', .int .i64 o', .int .i64 c', .int .i64 r', .int .i64 l', .int .i64 n'] 34), ob I.O (.pointer (some a)) (L2, n)]) := S6.out.swap
        clear S6
        rcases (by omega : d = 0 ∨ d = 1 ∨ d = 2 ∨ d = 3 ∨ d = 4 ∨ d = 5 ∨ d = 6 ∨ (d ≠ 0 ∧ d ≠ 1 ∧ d ≠ 2 ∧ d ≠ 3 ∧ d ≠ 4 ∧ d ≠ 5 ∧ d ≠ 6)) with rfl | rfl | rfl | rfl | rfl | rfl | rfl | ⟨d0, d1, d2, d3, d4, d5, d6⟩
        · obtain rfl : false = Bo := KB.out
          go_wp2_with fail
          refine (begin_r S7.out a' b (V := V) (E := E) (L' := L2) KV.out KE.out KL.out).mono ?_
          rintro e w7 ⟨rfl, h7⟩
          have S8 := Lib.hid (h7.sub (.cons_cons _ (.cons _ (List.Sublist.refl _))))
          clear h7
          go_wp2
          go_meet
          exact ⟨rfl, rfl, rfl, S8.out⟩
        · obtain rfl : 0 = V := KV.out
          obtain rfl : 0 = E := KE.out
          have hB : Hid (isB L t 1 = Bo) := KB.out
          have hL : Hid (goL L t a' = L2) := KL.out
          go_wp2_with fail
          refine (goR S7.out t a').mono ?_
          rw [hB.out, hL.out]
          rintro e w7 ⟨rfl, h7⟩
          have S8 := Lib.hid (h7.sub (.cons_cons _ (.cons _ (List.Sublist.refl _))))
          clear h7
          go_wp2
          go_meet
          exact ⟨rfl, rfl, rfl, S8.out⟩
        · obtain rfl : 0 = V := KV.out
          obtain rfl : 0 = E := KE.out
          have hB : Hid (setB L t a' = Bo) := KB.out
          have hL : Hid (setL L t a' x = L2) := KL.out
          go_wp2_with fail
          refine (setR S7.out t a' x).mono ?_
          rw [hB.out, hL.out]
          rintro e w7 ⟨rfl, h7⟩
          have S8 := Lib.hid (h7.sub (.cons_cons _ (.cons _ (List.Sublist.refl _))))
          clear h7
          go_wp2
          go_meet
          exact ⟨rfl, rfl, rfl, S8.out⟩
        · obtain rfl : 0 = V := KV.out
          obtain rfl : 0 = E := KE.out
          have hB : Hid (parkB L t ⟨k', o', c', r', l', n'⟩ = Bo) := KB.out
          have hL : Hid (parkL L t ⟨k', o', c', r', l', n'⟩ = L2) := KL.out
          go_wp2_with fail
          refine (parkR0 S7.out t ⟨k', o', c', r', l', n'⟩).mono ?_
          rw [hB.out, hL.out]
          rintro e w7 ⟨rfl, h7⟩
          have S8 := Lib.hid (h7.sub (.cons_cons _ (.cons _ (List.Sublist.refl _))))
          clear h7
          go_wp2
          go_meet
          exact ⟨rfl, rfl, rfl, S8.out⟩
        · obtain rfl : 0 = V := KV.out
          obtain rfl : 0 = E := KE.out
          have hB : Hid (againB L t ⟨k', o', c', r', l', n'⟩ = Bo) := KB.out
          have hL : Hid (againL L t ⟨k', o', c', r', l', n'⟩ = L2) := KL.out
          go_wp2_with fail
          refine (parkR1 S7.out t ⟨k', o', c', r', l', n'⟩).mono ?_
          rw [hB.out, hL.out]
          rintro e w7 ⟨rfl, h7⟩
          have S8 := Lib.hid (h7.sub (.cons_cons _ (.cons _ (List.Sublist.refl _))))
          clear h7
          go_wp2
          go_meet
          exact ⟨rfl, rfl, rfl, S8.out⟩
        · obtain rfl : 0 = V := KV.out
          obtain rfl : 0 = E := KE.out
          have hB : Hid (isB L t 2 = Bo) := KB.out
          have hL : Hid (wakeL L t x = L2) := KL.out
          go_wp2_with fail
          refine (wakeR S7.out t x).mono ?_
          rw [hB.out, hL.out]
          rintro e w7 ⟨rfl, h7⟩
          have S8 := Lib.hid (h7.sub (.cons_cons _ (.cons _ (List.Sublist.refl _))))
          clear h7
          go_wp2
          go_meet
          exact ⟨rfl, rfl, rfl, S8.out⟩
        · obtain rfl : 0 = V := KV.out
          obtain rfl : 0 = E := KE.out
          have hB : Hid (liveB L t = Bo) := KB.out
          have hL : Hid (endL L t x = L2) := KL.out
          go_wp2_with fail
          refine (endR S7.out t x).mono ?_
          rw [hB.out, hL.out]
          rintro e w7 ⟨rfl, h7⟩
          have S8 := Lib.hid (h7.sub (.cons_cons _ (.cons _ (List.Sublist.refl _))))
          clear h7
          go_wp2
          go_meet
          exact ⟨rfl, rfl, rfl, S8.out⟩
        · have hV : Hid (0 = V) := (by unfold aV at KV; rw [if_neg d0] at KV; exact KV.out)
          have hE : Hid (0 = E) := (by unfold aE at KE; rw [if_neg d0] at KE; exact KE.out)
          have hB : Hid (false = Bo) := (by unfold aB at KB; simp only [if_neg d1, if_neg d2, if_neg d3, if_neg d4, if_neg d5, if_neg d6] at KB; exact KB.out)
          have hL : Hid (L = L2) := (by unfold aL at KL; simp only [if_neg d0, if_neg d1, if_neg d2, if_neg d3, if_neg d4, if_neg d5, if_neg d6] at KL; exact KL.out)
          have g0 : (d == 0) = false := by simpa using d0
          have g1 : (d == 1) = false := by simpa using d1
          have g2 : (d == 2) = false := by simpa using d2
          have g3 : (d == 3) = false := by simpa using d3
          have g4 : (d == 4) = false := by simpa using d4
          have g5 : (d == 5) = false := by simpa using d5
          have g6 : (d == 6) = false := by simpa using d6
          obtain rfl := hV.out
          obtain rfl := hE.out
          obtain rfl := hB.out
          obtain rfl := hL.out
          have S8 := Lib.hid (S7.out.sub (.cons_cons _ (.cons _ (List.Sublist.refl _))))
          clear d0 d1 d2 d3 d4 d5 d6 KV KE KB KL hV hE hB hL S7
          go_wp2
          go_meet
          exact ⟨rfl, rfl, rfl, S8.out⟩
      case rest => as_aux_lemma =>
        obtain ⟨rfl, rfl, rfl, S7⟩ := hcut
        clear S6 KV KE KB KL HIN a0 a1 a2 a3 a4 a5 a6 a7 a8 a9 a10
        obtain ⟨A1, c1, hs⟩ := rt_seen S7.out
        obtain ⟨FA, hA⟩ := ob_at S7.out 1 rfl
        have HSE := Lib.hid hs
        have HA : Hid (I.O.A wc (.pointer (some a)) FA (L2, n)) := hA
        obtain ⟨l1, hl1⟩ : ∃ l, inS L2 y1 = l := ⟨_, rfl⟩
        obtain ⟨l2, hl2⟩ : ∃ l, underS L2 y2 = l := ⟨_, rfl⟩
        obtain ⟨m1, hm1⟩ : ∃ m, l1.length = m := ⟨_, rfl⟩
        obtain ⟨m2, hm2⟩ : ∃ m, l2.length = m := ⟨_, rfl⟩
        have HI1 : Hid (∀ Q, Below wc.heap.size wc Q → Calls Try.prog 18 #[.pointer (some a), .int .i64 y1] Q fun e w' => ∃ A c, e = .returned (.slice A m1 c) ∧ Rd w' (fun _ => True) (.slice A m1 c) l1 ∧ Below wc.heap.size wc w' ∧ Below Q.heap.size Q w') := fun Q hb => l_in HA.out hb y1 HY1.out hl1 hm1
        have HI2 : Hid (∀ Q, Below wc.heap.size wc Q → Calls Try.prog 19 #[.pointer (some ⟨p, 0, none⟩), .int .i64 y1] Q fun e w' => ∃ A c, e = .returned (.slice A m1 c) ∧ Rd w' (fun _ => True) (.slice A m1 c) l1 ∧ Below wc.heap.size wc w' ∧ Below Q.heap.size Q w') := fun Q hb => r_in HSE.out hb y1 hl1 hm1
        have HU1 : Hid (∀ Q, Below wc.heap.size wc Q → Calls Try.prog 20 #[.pointer (some a), .int .i64 y2] Q fun e w' => ∃ A c, e = .returned (.slice A m2 c) ∧ Rd w' (fun _ => True) (.slice A m2 c) l2 ∧ Below wc.heap.size wc w' ∧ Below Q.heap.size Q w') := fun Q hb => l_under HA.out hb y2 HY2.out hl2 hm2
        have HU2 : Hid (∀ Q, Below wc.heap.size wc Q → Calls Try.prog 21 #[.pointer (some ⟨p, 0, none⟩), .int .i64 y2] Q fun e w' => ∃ A c, e = .returned (.slice A m2 c) ∧ Rd w' (fun _ => True) (.slice A m2 c) l2 ∧ Below wc.heap.size wc w' ∧ Below Q.heap.size Q w') := fun Q hb => r_under HSE.out hb y2 hl2 hm2
        obtain ⟨ln, hln⟩ : ∃ ln, L2.length = ln := ⟨_, rfl⟩
        have HLN := Lib.hid hln
        have HLL : Hid (∀ Q, Below wc.heap.size wc Q → Calls Try.prog 16 #[.pointer (some a)] Q fun e w' => e = .returned (.int .i64 ln) ∧ Below wc.heap.size wc w' ∧ Below Q.heap.size Q w') := fun Q hb => by rw [← hln]; exact l_len HA.out hb
        have FK : Hid (∀ Q, Below wc.heap.size wc Q → Q.cell? ⟨p, 0, none⟩ = some (.slice A1 ln c1)) := fun Q hb => by rw [← hln]; exact (hb.cell (p := ⟨p, 0, none⟩) hs.lt).trans hs.k0
        have HB0 : Hid (Below wc.heap.size wc wc.drew) := (Below.refl _ _).drew
        have hVV : (V != V) = false := by simp
        have hEE : (E != E) = false := by simp
        have hBB : (Bo != Bo) = false := by simp
        have hNN : ((ln : Int) != (ln : Int)) = false := by simp
        clear hs hA hl1 hl2 hm1 hm2 hln
        go_upto_region 30 with (fail)
        go_cut [175] (fun s175 wx => s175 = .bool false ∧ Hid (Below wc.heap.size wc wx))
        case first => as_aux_lemma =>
          refine Held.begin_ (fun V : World => V.cell? ⟨p, 0, none⟩ = some (.slice A1 ln c1)) 99 (by kernel_rfl) ?_
          have hC : (fun V : World => V.cell? ⟨p, 0, none⟩ = some (.slice A1 ln c1)) wc.drew := FK.out _ HB0.out
          refine Held.takeN 0 (v := ?_) hC rfl (by kernel_rfl) (by kernel_rfl) (by kernel_rfl) rfl (fun _ _ _ h => h) rfl ?_ ?_; rotate_left; · (intro W hW; have hW2 : W.cell? ⟨p, 0, none⟩ = some (.slice A1 ln c1) := hW; go_simp <;> with_reducible rfl)
          try simp only [Act.put, List.setIfInBounds_toArray, List.set_cons_zero, List.set_cons_succ]
          refine Held.takeN 1 (v := ?_) hC rfl (by kernel_rfl) (by kernel_rfl) (by kernel_rfl) rfl (fun _ _ _ h => h) rfl ?_ ?_; rotate_left; · (intro W hW; have hW2 : W.cell? ⟨p, 0, none⟩ = some (.slice A1 ln c1) := hW; go_simp <;> with_reducible rfl)
          try simp only [Act.put, List.setIfInBounds_toArray, List.set_cons_zero, List.set_cons_succ]
          refine Held.takeN 2 (v := ?_) hC rfl (by kernel_rfl) (by kernel_rfl) (by kernel_rfl) rfl (fun _ _ _ h => h) rfl ?_ ?_; rotate_left; · (intro W hW; have hW2 : W.cell? ⟨p, 0, none⟩ = some (.slice A1 ln c1) := hW; go_simp <;> with_reducible rfl)
          try simp only [Act.put, List.setIfInBounds_toArray, List.set_cons_zero, List.set_cons_succ]
          refine Held.takeN 3 (v := ?_) hC rfl (by kernel_rfl) (by kernel_rfl) (by kernel_rfl) rfl (fun _ _ _ h => h) rfl ?_ ?_; rotate_left; · (intro W hW; have hW2 : W.cell? ⟨p, 0, none⟩ = some (.slice A1 ln c1) := hW; go_simp <;> with_reducible rfl)
          try simp only [Act.put, List.setIfInBounds_toArray, List.set_cons_zero, List.set_cons_succ]
          refine Held.takeN 4 (v := ?_) hC rfl (by kernel_rfl) (by kernel_rfl) (by kernel_rfl) rfl (fun _ _ _ h => h) rfl ?_ ?_; rotate_left; · (intro W hW; have hW2 : W.cell? ⟨p, 0, none⟩ = some (.slice A1 ln c1) := hW; go_simp <;> with_reducible rfl)
          try simp only [Act.put, List.setIfInBounds_toArray, List.set_cons_zero, List.set_cons_succ]
          refine Held.takeN 5 (v := ?_) hC rfl (by kernel_rfl) (by kernel_rfl) (by kernel_rfl) rfl (fun _ _ _ h => h) rfl ?_ ?_; rotate_left; · (intro W hW; have hW2 : W.cell? ⟨p, 0, none⟩ = some (.slice A1 ln c1) := hW; go_simp <;> with_reducible rfl)
          try simp only [Act.put, List.setIfInBounds_toArray, List.set_cons_zero, List.set_cons_succ]
          refine Held.takeN 6 (v := ?_) hC rfl (by kernel_rfl) (by kernel_rfl) (by kernel_rfl) rfl (fun _ _ _ h => h) rfl ?_ ?_; rotate_left; · (intro W hW; have hW2 : W.cell? ⟨p, 0, none⟩ = some (.slice A1 ln c1) := hW; go_simp <;> with_reducible rfl)
          try simp only [Act.put, List.setIfInBounds_toArray, List.set_cons_zero, List.set_cons_succ]
          refine Held.takeN 7 (v := ?_) hC rfl (by kernel_rfl) (by kernel_rfl) (by kernel_rfl) rfl (fun _ _ _ h => h) rfl ?_ ?_; rotate_left; · (intro W hW; have hW2 : W.cell? ⟨p, 0, none⟩ = some (.slice A1 ln c1) := hW; go_simp <;> with_reducible rfl)
          try simp only [Act.put, List.setIfInBounds_toArray, List.set_cons_zero, List.set_cons_succ]
          refine Held.takeN 8 (v := ?_) hC rfl (by kernel_rfl) (by kernel_rfl) (by kernel_rfl) rfl (fun _ _ _ h => h) rfl ?_ ?_; rotate_left; · (intro W hW; have hW2 : W.cell? ⟨p, 0, none⟩ = some (.slice A1 ln c1) := hW; go_simp <;> with_reducible rfl)
          try simp only [Act.put, List.setIfInBounds_toArray, List.set_cons_zero, List.set_cons_succ]
          refine Held.takeN 9 (v := ?_) hC rfl (by kernel_rfl) (by kernel_rfl) (by kernel_rfl) rfl (fun _ _ _ h => h) rfl ?_ ?_; rotate_left; · (intro W hW; have hW2 : W.cell? ⟨p, 0, none⟩ = some (.slice A1 ln c1) := hW; go_simp <;> with_reducible rfl)
          try simp only [Act.put, List.setIfInBounds_toArray, List.set_cons_zero, List.set_cons_succ]
          refine Held.takeN 10 (v := ?_) hC rfl (by kernel_rfl) (by kernel_rfl) (by kernel_rfl) rfl (fun _ _ _ h => h) rfl ?_ ?_; rotate_left; · (intro W hW; have hW2 : W.cell? ⟨p, 0, none⟩ = some (.slice A1 ln c1) := hW; go_simp <;> with_reducible rfl)
          try simp only [Act.put, List.setIfInBounds_toArray, List.set_cons_zero, List.set_cons_succ]
          refine Held.takeN 11 (v := ?_) hC rfl (by kernel_rfl) (by kernel_rfl) (by kernel_rfl) rfl (fun _ _ _ h => h) rfl ?_ ?_; rotate_left; · (intro W hW; have hW2 : W.cell? ⟨p, 0, none⟩ = some (.slice A1 ln c1) := hW; go_simp <;> with_reducible rfl)
          try simp only [Act.put, List.setIfInBounds_toArray, List.set_cons_zero, List.set_cons_succ]
          refine Held.takeN 12 (v := ?_) hC rfl (by kernel_rfl) (by kernel_rfl) (by kernel_rfl) rfl (fun _ _ _ h => h) rfl ?_ ?_; rotate_left; · (intro W hW; have hW2 : W.cell? ⟨p, 0, none⟩ = some (.slice A1 ln c1) := hW; go_simp <;> with_reducible rfl)
          try simp only [Act.put, List.setIfInBounds_toArray, List.set_cons_zero, List.set_cons_succ]
          refine Held.takeN 13 (v := ?_) hC rfl (by kernel_rfl) (by kernel_rfl) (by kernel_rfl) rfl (fun _ _ _ h => h) rfl ?_ ?_; rotate_left; · (intro W hW; have hW2 : W.cell? ⟨p, 0, none⟩ = some (.slice A1 ln c1) := hW; go_simp <;> with_reducible rfl)
          try simp only [Act.put, List.setIfInBounds_toArray, List.set_cons_zero, List.set_cons_succ]
          refine Held.takeN 14 (v := ?_) hC rfl (by kernel_rfl) (by kernel_rfl) (by kernel_rfl) rfl (fun _ _ _ h => h) rfl ?_ ?_; rotate_left; · (intro W hW; have hW2 : W.cell? ⟨p, 0, none⟩ = some (.slice A1 ln c1) := hW; go_simp <;> with_reducible rfl)
          try simp only [Act.put, List.setIfInBounds_toArray, List.set_cons_zero, List.set_cons_succ]
          refine Held.takeN 16 (v := ?_) hC rfl (by kernel_rfl) (by kernel_rfl) (by kernel_rfl) rfl (fun _ _ _ h => h) rfl ?_ ?_; rotate_left; · (intro W hW; have hW2 : W.cell? ⟨p, 0, none⟩ = some (.slice A1 ln c1) := hW; go_simp <;> with_reducible rfl)
          try simp only [Act.put, List.setIfInBounds_toArray, List.set_cons_zero, List.set_cons_succ]
          refine Held.takeN 17 (v := ?_) hC rfl (by kernel_rfl) (by kernel_rfl) (by kernel_rfl) rfl (fun _ _ _ h => h) rfl ?_ ?_; rotate_left; · (intro W hW; have hW2 : W.cell? ⟨p, 0, none⟩ = some (.slice A1 ln c1) := hW; go_simp <;> with_reducible rfl)
          try simp only [Act.put, List.setIfInBounds_toArray, List.set_cons_zero, List.set_cons_succ]
          refine Held.takeN 18 (v := ?_) hC rfl (by kernel_rfl) (by kernel_rfl) (by kernel_rfl) rfl (fun _ _ _ h => h) rfl ?_ ?_; rotate_left; · (intro W hW; have hW2 : W.cell? ⟨p, 0, none⟩ = some (.slice A1 ln c1) := hW; go_simp <;> with_reducible rfl)
          try simp only [Act.put, List.setIfInBounds_toArray, List.set_cons_zero, List.set_cons_succ]
          refine Held.takeN 19 (v := ?_) hC rfl (by kernel_rfl) (by kernel_rfl) (by kernel_rfl) rfl (fun _ _ _ h => h) rfl ?_ ?_; rotate_left; · (intro W hW; have hW2 : W.cell? ⟨p, 0, none⟩ = some (.slice A1 ln c1) := hW; go_simp <;> with_reducible rfl)
          try simp only [Act.put, List.setIfInBounds_toArray, List.set_cons_zero, List.set_cons_succ]
          refine Held.takeN 20 (v := ?_) hC rfl (by kernel_rfl) (by kernel_rfl) (by kernel_rfl) rfl (fun _ _ _ h => h) rfl ?_ ?_; rotate_left; · (intro W hW; have hW2 : W.cell? ⟨p, 0, none⟩ = some (.slice A1 ln c1) := hW; go_simp <;> with_reducible rfl)
          try simp only [Act.put, List.setIfInBounds_toArray, List.set_cons_zero, List.set_cons_succ]
          refine Held.onlyG 15 (by kernel_rfl) rfl rfl ?_
          intro K hK
          go_simp
          refine (HLL.out _ HB0.out).mono ?_
          rintro e u1 ⟨rfl, hb, hq⟩
          have HB1 := Lib.hid hb
          refine hK.out _ _ (fun _ => FK.out _ hb) ?_
          clear hK K
          try simp only [Act.put, List.setIfInBounds_toArray, List.set_cons_zero, List.set_cons_succ]
          have hC : (fun V : World => V.cell? ⟨p, 0, none⟩ = some (.slice A1 ln c1)) u1 := FK.out _ HB1.out
          clear hb hq
          refine Held.takeN 21 (v := ?_) hC rfl (by kernel_rfl) (by kernel_rfl) (by kernel_rfl) rfl (fun _ _ _ h => h) rfl ?_ ?_; rotate_left; · (intro W hW; have hW2 : W.cell? ⟨p, 0, none⟩ = some (.slice A1 ln c1) := hW; go_simp <;> with_reducible rfl)
          try simp only [Act.put, List.setIfInBounds_toArray, List.set_cons_zero, List.set_cons_succ]
          refine Held.takeN 22 (v := ?_) hC rfl (by kernel_rfl) (by kernel_rfl) (by kernel_rfl) rfl (fun _ _ _ h => h) rfl ?_ ?_; rotate_left; · (intro W hW; have hW2 : W.cell? ⟨p, 0, none⟩ = some (.slice A1 ln c1) := hW; go_simp <;> with_reducible rfl)
          try simp only [Act.put, List.setIfInBounds_toArray, List.set_cons_zero, List.set_cons_succ]
          refine Held.takeN 23 (v := ?_) hC rfl (by kernel_rfl) (by kernel_rfl) (by kernel_rfl) rfl (fun _ _ _ h => h) rfl ?_ ?_; rotate_left; · (intro W hW; have hW2 : W.cell? ⟨p, 0, none⟩ = some (.slice A1 ln c1) := hW; go_simp <;> with_reducible rfl)
          try simp only [Act.put, List.setIfInBounds_toArray, List.set_cons_zero, List.set_cons_succ]
          refine Held.takeN 24 (v := ?_) hC rfl (by kernel_rfl) (by kernel_rfl) (by kernel_rfl) rfl (fun _ _ _ h => h) rfl ?_ ?_; rotate_left; · (intro W hW; have hW2 : W.cell? ⟨p, 0, none⟩ = some (.slice A1 ln c1) := hW; go_simp <;> with_reducible rfl)
          try simp only [Act.put, List.setIfInBounds_toArray, List.set_cons_zero, List.set_cons_succ]
          refine Held.takeN 25 (v := ?_) hC rfl (by kernel_rfl) (by kernel_rfl) (by kernel_rfl) rfl (fun _ _ _ h => h) rfl ?_ ?_; rotate_left; · (intro W hW; have hW2 : W.cell? ⟨p, 0, none⟩ = some (.slice A1 ln c1) := hW; go_simp <;> with_reducible rfl)
          try simp only [Act.put, List.setIfInBounds_toArray, List.set_cons_zero, List.set_cons_succ]
          refine Held.takeN 27 (v := ?_) hC rfl (by kernel_rfl) (by kernel_rfl) (by kernel_rfl) rfl (fun _ _ _ h => h) rfl ?_ ?_; rotate_left; · (intro W hW; have hW2 : W.cell? ⟨p, 0, none⟩ = some (.slice A1 ln c1) := hW; go_simp <;> with_reducible rfl)
          try simp only [Act.put, List.setIfInBounds_toArray, List.set_cons_zero, List.set_cons_succ]
          refine Held.takeN 28 (v := ?_) hC rfl (by kernel_rfl) (by kernel_rfl) (by kernel_rfl) rfl (fun _ _ _ h => h) rfl ?_ ?_; rotate_left; · (intro W hW; have hW2 : W.cell? ⟨p, 0, none⟩ = some (.slice A1 ln c1) := hW; go_simp <;> with_reducible rfl)
          try simp only [Act.put, List.setIfInBounds_toArray, List.set_cons_zero, List.set_cons_succ]
          refine Held.onlyG 26 (by kernel_rfl) rfl rfl ?_
          intro K hK
          go_simp
          refine (HI1.out _ HB1.out).mono ?_
          rintro e u2 ⟨B1, e1, rfl, r1, hb, hq⟩
          have HB2 := Lib.hid hb
          refine hK.out _ _ (fun _ => FK.out _ hb) ?_
          clear hK K
          try simp only [Act.put, List.setIfInBounds_toArray, List.set_cons_zero, List.set_cons_succ]
          have hC : (fun V : World => V.cell? ⟨p, 0, none⟩ = some (.slice A1 ln c1)) u2 := FK.out _ HB2.out
          clear hb hq
          have R1 := Lib.hid r1
          clear r1
          refine Held.onlyG 29 (by kernel_rfl) rfl rfl ?_
          intro K hK
          go_simp
          refine (HI2.out _ HB2.out).mono ?_
          rintro e u3 ⟨B2, e2, rfl, r2, hb, hq⟩
          have HB3 := Lib.hid hb
          have R1 := Lib.hid (R1.out.below hq)
          refine hK.out _ _ (fun _ => FK.out _ hb) ?_
          clear hK K
          try simp only [Act.put, List.setIfInBounds_toArray, List.set_cons_zero, List.set_cons_succ]
          have hC : (fun V : World => V.cell? ⟨p, 0, none⟩ = some (.slice A1 ln c1)) u3 := FK.out _ HB3.out
          clear hb hq
          have R2 := Lib.hid r2
          clear r2
          refine Held.onlyG 30 (by kernel_rfl) rfl rfl ?_
          intro K hK
          go_simp
          refine (l_same R1.out R2.out HB3.out).mono ?_
          rintro e u4 ⟨rfl, hb, hq⟩
          have HB4 := Lib.hid hb
          refine hK.out _ _ (fun _ => FK.out _ hb) ?_
          clear hK K
          try simp only [Act.put, List.setIfInBounds_toArray, List.set_cons_zero, List.set_cons_succ]
          have hC : (fun V : World => V.cell? ⟨p, 0, none⟩ = some (.slice A1 ln c1)) u4 := FK.out _ HB4.out
          clear hb hq
          refine Held.takeN 31 (v := ?_) hC rfl (by kernel_rfl) (by kernel_rfl) (by kernel_rfl) rfl (fun _ _ _ h => h) rfl ?_ ?_; rotate_left; · (intro W hW; have hW2 : W.cell? ⟨p, 0, none⟩ = some (.slice A1 ln c1) := hW; go_simp <;> with_reducible rfl)
          try simp only [Act.put, List.setIfInBounds_toArray, List.set_cons_zero, List.set_cons_succ]
          refine Held.takeN 32 (v := ?_) hC rfl (by kernel_rfl) (by kernel_rfl) (by kernel_rfl) rfl (fun _ _ _ h => h) rfl ?_ ?_; rotate_left; · (intro W hW; have hW2 : W.cell? ⟨p, 0, none⟩ = some (.slice A1 ln c1) := hW; go_simp <;> with_reducible rfl)
          try simp only [Act.put, List.setIfInBounds_toArray, List.set_cons_zero, List.set_cons_succ]
          refine Held.takeN 33 (v := ?_) hC rfl (by kernel_rfl) (by kernel_rfl) (by kernel_rfl) rfl (fun _ _ _ h => h) rfl ?_ ?_; rotate_left; · (intro W hW; have hW2 : W.cell? ⟨p, 0, none⟩ = some (.slice A1 ln c1) := hW; go_simp <;> with_reducible rfl)
          try simp only [Act.put, List.setIfInBounds_toArray, List.set_cons_zero, List.set_cons_succ]
          refine Held.takeN 34 (v := ?_) hC rfl (by kernel_rfl) (by kernel_rfl) (by kernel_rfl) rfl (fun _ _ _ h => h) rfl ?_ ?_; rotate_left; · (intro W hW; have hW2 : W.cell? ⟨p, 0, none⟩ = some (.slice A1 ln c1) := hW; go_simp <;> with_reducible rfl)
          try simp only [Act.put, List.setIfInBounds_toArray, List.set_cons_zero, List.set_cons_succ]
          refine Held.takeN 35 (v := ?_) hC rfl (by kernel_rfl) (by kernel_rfl) (by kernel_rfl) rfl (fun _ _ _ h => h) rfl ?_ ?_; rotate_left; · (intro W hW; have hW2 : W.cell? ⟨p, 0, none⟩ = some (.slice A1 ln c1) := hW; go_simp <;> with_reducible rfl)
          try simp only [Act.put, List.setIfInBounds_toArray, List.set_cons_zero, List.set_cons_succ]
          refine Held.takeN 37 (v := ?_) hC rfl (by kernel_rfl) (by kernel_rfl) (by kernel_rfl) rfl (fun _ _ _ h => h) rfl ?_ ?_; rotate_left; · (intro W hW; have hW2 : W.cell? ⟨p, 0, none⟩ = some (.slice A1 ln c1) := hW; go_simp <;> with_reducible rfl)
          try simp only [Act.put, List.setIfInBounds_toArray, List.set_cons_zero, List.set_cons_succ]
          refine Held.takeN 38 (v := ?_) hC rfl (by kernel_rfl) (by kernel_rfl) (by kernel_rfl) rfl (fun _ _ _ h => h) rfl ?_ ?_; rotate_left; · (intro W hW; have hW2 : W.cell? ⟨p, 0, none⟩ = some (.slice A1 ln c1) := hW; go_simp <;> with_reducible rfl)
          try simp only [Act.put, List.setIfInBounds_toArray, List.set_cons_zero, List.set_cons_succ]
          refine Held.onlyG 36 (by kernel_rfl) rfl rfl ?_
          intro K hK
          go_simp
          refine (HU1.out _ HB4.out).mono ?_
          rintro e u5 ⟨B3, e3, rfl, r3, hb, hq⟩
          have HB5 := Lib.hid hb
          refine hK.out _ _ (fun _ => FK.out _ hb) ?_
          clear hK K
          try simp only [Act.put, List.setIfInBounds_toArray, List.set_cons_zero, List.set_cons_succ]
          have hC : (fun V : World => V.cell? ⟨p, 0, none⟩ = some (.slice A1 ln c1)) u5 := FK.out _ HB5.out
          clear hb hq
          have R3 := Lib.hid r3
          clear r3
          refine Held.onlyG 39 (by kernel_rfl) rfl rfl ?_
          intro K hK
          go_simp
          refine (HU2.out _ HB5.out).mono ?_
          rintro e u6 ⟨B4, e4, rfl, r4, hb, hq⟩
          have HB6 := Lib.hid hb
          have R3 := Lib.hid (R3.out.below hq)
          refine hK.out _ _ (fun _ => FK.out _ hb) ?_
          clear hK K
          try simp only [Act.put, List.setIfInBounds_toArray, List.set_cons_zero, List.set_cons_succ]
          have hC : (fun V : World => V.cell? ⟨p, 0, none⟩ = some (.slice A1 ln c1)) u6 := FK.out _ HB6.out
          clear hb hq
          have R4 := Lib.hid r4
          clear r4
          refine Held.onlyG 40 (by kernel_rfl) rfl rfl ?_
          intro K hK
          go_simp
          refine (l_same R3.out R4.out HB6.out).mono ?_
          rintro e u7 ⟨rfl, hb, hq⟩
          have HB7 := Lib.hid hb
          refine hK.out _ _ (fun _ => FK.out _ hb) ?_
          clear hK K
          try simp only [Act.put, List.setIfInBounds_toArray, List.set_cons_zero, List.set_cons_succ]
          have hC : (fun V : World => V.cell? ⟨p, 0, none⟩ = some (.slice A1 ln c1)) u7 := FK.out _ HB7.out
          clear hb hq
          refine Held.takeN 41 (v := ?_) hC rfl (by kernel_rfl) (by kernel_rfl) (by kernel_rfl) rfl (fun _ _ _ h => h) rfl ?_ ?_; rotate_left; · (intro W hW; have hW2 : W.cell? ⟨p, 0, none⟩ = some (.slice A1 ln c1) := hW; go_simp <;> with_reducible rfl)
          try simp only [Act.put, List.setIfInBounds_toArray, List.set_cons_zero, List.set_cons_succ]
          refine Held.takeN 42 (v := ?_) hC rfl (by kernel_rfl) (by kernel_rfl) (by kernel_rfl) rfl (fun _ _ _ h => h) rfl ?_ ?_; rotate_left; · (intro W hW; have hW2 : W.cell? ⟨p, 0, none⟩ = some (.slice A1 ln c1) := hW; go_simp <;> with_reducible rfl)
          try simp only [Act.put, List.setIfInBounds_toArray, List.set_cons_zero, List.set_cons_succ]
          refine Held.done (by kernel_rfl) ?_ _
          go_wp2_with fail
          go_meet
          exact ⟨rfl, HB7⟩
        case rest => as_aux_lemma =>
          obtain ⟨rfl, HB9⟩ := hcut
          have SF := Lib.hid (S7.out.next HB9.out)
          clear S7 HSE HA HI1 HI2 HU1 HU2 HLL FK HB0 hVV hEE hBB hNN HB9
          go_wp2
          go_loopw [21] (fun u wr => ∃ z : Int, -1 ≤ z ∧ z ≤ (ln : Int) + 1 ∧ u = .int .i64 z ∧ Hid (Sep (fun _ => False) w wr [rt p L2 n, ob I.O (.pointer (some a)) (L2, n)])) (fun u _ => ((ln : Int) + 1 - intOf u).toNat)
          case atStart => exact ⟨-1, by omega, by omega, rfl, SF⟩
          case round =>
            obtain ⟨z, z0, z1, rfl, ST⟩ := hrel
            clear SF
            obtain ⟨A3, c3, hs3⟩ := rt_seen ST.out
            have k0 := hs3.k0
            have hl200 : L2.length ≤ 200 := hs3.len
            rw [HLN.out] at k0 hl200
            clear hs3
            by_cases hzn : z ≤ (ln : Int)
            · have hz64 : Hid (In64 z) := ⟨by omega, by omega⟩
              have dz : decide (z ≤ (ln : Int)) = true := decide_eq_true hzn
              obtain ⟨tt, htt⟩ : ∃ t, getT L2 z = t := ⟨_, rfl⟩
              obtain ⟨bz, hbz⟩ : ∃ b, getB L2 z = b := ⟨_, rfl⟩
              have HTT := Lib.hid htt
              have HBZ := Lib.hid hbz
              clear htt hbz
              obtain ⟨X, hx⟩ : ∃ X, tkA tt = X := ⟨_, rfl⟩
              have HX := Lib.hid hx
              clear hx
              go_wp2_with fail
              refine (t_get ST.out 1 rfl z hz64.out (t := tt) (b := bz) HTT.out HBZ.out).mono ?_
              rintro e w12 ⟨rfl, h12, _⟩
              have G12 := Lib.hid h12
              clear h12 ST k0
              have zr := zero_t
              have sX : (Try.prog.info? 53).map (·.size) = some (tkA tt).size := by rw [tkA_size]; exact size_t
              have oX := tkA_one tt
              have sz : 0 + (tkA tt).size ≤ (tkA zeroT).size := by rw [tkA_size, tkA_size]; omega
              have HB : Hid ((w12.alloc (.cells (tkA zeroT) 53)).heap[w12.heap.size]? = some (.cells (tkA zeroT) 53 (0, 0))) := (G12.out.new _).blk_at 0 rfl
              have SV : Hid (Sep (fun _ => False) w (setCells (w12.alloc (.cells (tkA zeroT) 53)) w12.heap.size 0 (tkA tt).toList) (blk w12.heap.size (.cells (tkA tt) 53) :: [rt p L2 n, ob I.O (.pointer (some a)) (L2, n)])) := by
                have h2 := Sep.whole (tkA tt).toList 0 (G12.out.new (.cells (tkA zeroT) 53)) 0 rfl
                rw [tkA_over _ _ (tkA_size _)] at h2
                exact h2
              generalize tkA zeroT = Z at *
              rw [HX.out] at sX oX sz SV ⊢
              go_wp2_with (first | (refine wl_allocT rfl 53 rfl zr ?_; simp only [Act.put, List.setIfInBounds_toArray, List.set_cons_zero, List.set_cons_succ]) | (refine wl_storeAt rfl 53 (.tmp 22) (.tmp 189) rfl rfl rfl HB.out sz sX oX ?_; simp only [Act.put]))
              obtain ⟨v12, hv⟩ : ∃ v, setCells (w12.alloc (.cells Z 53)) w12.heap.size 0 X.toList = v := ⟨_, rfl⟩
              rw [hv] at SV
              (try rw [hv])
              have S12 := Lib.hid SV.out
              obtain ⟨g1, hg⟩ : ∃ g, w12.heap.size = g := ⟨_, rfl⟩
              rw [hg] at S12
              (try rw [hg])
              clear hv hg SV HB zr oX sz sX
              (try clear Z)
              clear G12
              refine (getR S12.out.tail z).mono ?_
              rw [HTT.out, HBZ.out]
              rintro e w13 ⟨rfl, hb13⟩
              have G13 := Lib.hid (S12.out.next hb13)
              clear hb13 S12
              have zr := zero_r
              have sX : (Try.prog.info? 57).map (·.size) = some (tkA tt).size := by rw [tkA_size]; exact size_r
              have oX := tkA_one tt
              have sz : 0 + (tkA tt).size ≤ (tkA zeroT).size := by rw [tkA_size, tkA_size]; omega
              have HB : Hid ((w13.alloc (.cells (tkA zeroT) 57)).heap[w13.heap.size]? = some (.cells (tkA zeroT) 57 (0, 0))) := (G13.out.new _).blk_at 0 rfl
              have SV : Hid (Sep (fun _ => False) w (setCells (w13.alloc (.cells (tkA zeroT) 57)) w13.heap.size 0 (tkA tt).toList) (blk w13.heap.size (.cells (tkA tt) 57) :: [blk g1 (.cells X 53), rt p L2 n, ob I.O (.pointer (some a)) (L2, n)])) := by
                have h2 := Sep.whole (tkA tt).toList 0 (G13.out.new (.cells (tkA zeroT) 57)) 0 rfl
                rw [tkA_over _ _ (tkA_size _)] at h2
                exact h2
              generalize tkA zeroT = Z at *
              rw [HX.out] at sX oX sz SV ⊢
              go_upto_region 37 with (first | (refine wl_allocT rfl 57 rfl zr ?_; simp only [Act.put, List.setIfInBounds_toArray, List.set_cons_zero, List.set_cons_succ]) | (refine wl_storeAt rfl 57 (.tmp 24) (.tmp 195) rfl rfl rfl HB.out sz sX oX ?_; simp only [Act.put]))
              obtain ⟨v13, hv⟩ : ∃ v, setCells (w13.alloc (.cells Z 57)) w13.heap.size 0 X.toList = v := ⟨_, rfl⟩
              rw [hv] at SV
              (try rw [hv])
              have S13 := Lib.hid SV.out
              obtain ⟨g2, hg⟩ : ∃ g, w13.heap.size = g := ⟨_, rfl⟩
              rw [hg] at S13
              (try rw [hg])
              clear hv hg SV HB zr oX sz sX
              (try clear Z)
              clear G13
              have SR : Hid (Sep (fun _ => False) w v13 [blk g2 (.cells X 57), blk g1 (.cells X 53), rt p L2 n, ob I.O (.pointer (some a)) (L2, n)]) := S13.out
              have sT : (Try.prog.info? 53).map (·.size) = some X.size := by rw [← HX.out, tkA_size]; exact size_t
              have sR : (Try.prog.info? 57).map (·.size) = some X.size := by rw [← HX.out, tkA_size]; exact size_r
              have HOW : Hid (∀ V, Calls Try.prog 24 #[.agg X] V fun e w' => e = .returned (.agg X) ∧ Below V.heap.size V w') := fun V => by rw [← HX.out]; exact own_t tt V
              have hnq : ∀ V, (binOp .neq 57 (.agg X) (.agg X)).run Try.prog V = .ok (.bool false) V := fun V => by
                have h1 := run_neq_tkR V tt tt
                rw [HX.out, decide_eq_true rfl] at h1
                exact h1
              have hgu := rkGuard
              have hbb : (bz != bz) = false := by simp
              clear S13
              go_cut [205] (fun s205 wx => s205 = .bool false ∧ Hid (Sep (fun _ => False) w wx [rt p L2 n, ob I.O (.pointer (some a)) (L2, n)]))
              case first => as_aux_lemma =>
                have SD := Lib.hid SR.out.drew
                refine Held.begin_ (fun V : World => V.heap[g1]? = some (.cells X 53 (0, 0)) ∧ V.heap[g2]? = some (.cells X 57 (0, 0))) 99 (by kernel_rfl) ?_
                have hC : (fun V : World => V.heap[g1]? = some (.cells X 53 (0, 0)) ∧ V.heap[g2]? = some (.cells X 57 (0, 0))) v13.drew := ⟨SD.out.blk_at 1 rfl, SD.out.blk_at 0 rfl⟩
                refine Held.takeN 0 (v := .agg X) hC rfl (by kernel_rfl) (by kernel_rfl) (by kernel_rfl) rfl (fun _ _ _ h => h) rfl (fun W hW => exec_block 53 (.tmp 22) rfl rfl hW.1 Try.underlying53 rfl sT) ?_
                try simp only [Act.put, List.setIfInBounds_toArray, List.set_cons_zero, List.set_cons_succ]
                refine Held.takeN 2 (v := .agg X) hC rfl (by kernel_rfl) (by kernel_rfl) (by kernel_rfl) rfl (fun _ _ _ h => h) rfl (fun W hW => exec_block 57 (.tmp 24) rfl rfl hW.2 Try.underlying57 rfl sR) ?_
                try simp only [Act.put, List.setIfInBounds_toArray, List.set_cons_zero, List.set_cons_succ]
                clear hC
                refine Held.onlyG 1 (by kernel_rfl) rfl rfl ?_
                intro K hK
                go_simp
                refine (HOW.out _).mono ?_
                rintro e v14 ⟨rfl, hb⟩
                have S14 := Lib.hid (SD.out.next hb)
                clear hb
                refine hK.out _ _ (fun _ => ⟨S14.out.blk_at 1 rfl, S14.out.blk_at 0 rfl⟩) ?_
                clear hK K
                try simp only [Act.put, List.setIfInBounds_toArray, List.set_cons_zero, List.set_cons_succ]
                have hC : (fun V : World => V.heap[g1]? = some (.cells X 53 (0, 0)) ∧ V.heap[g2]? = some (.cells X 57 (0, 0))) v14 := ⟨S14.out.blk_at 1 rfl, S14.out.blk_at 0 rfl⟩
                refine Held.takeN 3 (v := ?_) hC rfl (by kernel_rfl) (by kernel_rfl) (by kernel_rfl) rfl (fun _ _ _ h => h) rfl ?_ ?_; rotate_left; · (intro W hW; clear hW; go_simp <;> with_reducible rfl)
                try simp only [Act.put, List.setIfInBounds_toArray, List.set_cons_zero, List.set_cons_succ]
                refine Held.takeN 4 (v := ?_) hC rfl (by kernel_rfl) (by kernel_rfl) (by kernel_rfl) rfl (fun _ _ _ h => h) rfl ?_ ?_; rotate_left; · (intro W hW; clear hW; go_simp <;> with_reducible rfl)
                try simp only [Act.put, List.setIfInBounds_toArray, List.set_cons_zero, List.set_cons_succ]
                refine Held.takeN 5 (v := ?_) hC rfl (by kernel_rfl) (by kernel_rfl) (by kernel_rfl) rfl (fun _ _ _ h => h) rfl ?_ ?_; rotate_left; · (intro W hW; clear hW; go_simp <;> with_reducible rfl)
                try simp only [Act.put, List.setIfInBounds_toArray, List.set_cons_zero, List.set_cons_succ]
                refine Held.takeN 6 (v := ?_) hC rfl (by kernel_rfl) (by kernel_rfl) (by kernel_rfl) rfl (fun _ _ _ h => h) rfl ?_ ?_; rotate_left; · (intro W hW; clear hW; go_simp <;> with_reducible rfl)
                try simp only [Act.put, List.setIfInBounds_toArray, List.set_cons_zero, List.set_cons_succ]
                refine Held.takeN 7 (v := ?_) hC rfl (by kernel_rfl) (by kernel_rfl) (by kernel_rfl) rfl (fun _ _ _ h => h) rfl ?_ ?_; rotate_left; · (intro W hW; clear hW; go_simp <;> with_reducible rfl)
                try simp only [Act.put, List.setIfInBounds_toArray, List.set_cons_zero, List.set_cons_succ]
                refine Held.takeN 8 (v := ?_) hC rfl (by kernel_rfl) (by kernel_rfl) (by kernel_rfl) rfl (fun _ _ _ h => h) rfl ?_ ?_; rotate_left; · (intro W hW; clear hW; go_simp <;> with_reducible rfl)
                try simp only [Act.put, List.setIfInBounds_toArray, List.set_cons_zero, List.set_cons_succ]
                refine Held.done (by kernel_rfl) ?_ _
                go_wp2_with fail
                go_meet
                exact ⟨rfl, S14.out.tail.tail⟩
              case rest =>
                obtain ⟨rfl, ST⟩ := hcut
                clear SR HOW hnq hgu hbb sT sR
                go_wp2
                go_roundw
                case rel => exact ⟨z + 1, by omega, by omega, by go_num, ST⟩
                case measure => simp [intOf]; omega
            · have SF2 : Hid (∃ L : List Tk, Sep (fun _ => False) w wr [rt p L n, ob I.O (.pointer (some a)) (L, n)]) := ⟨L2, ST.out⟩
              have dz : decide (z ≤ (ln : Int)) = false := decide_eq_false hzn
              clear ST
              go_wp2
              go_roundw
              case rel => exact ⟨j + 1, by omega, by go_num, SF2⟩
              case measure => simp [intOf]; omega
    · have HB := Lib.hid SL.out.old
      go_wp2
      go_ret
      exact ⟨rfl, HB.out⟩
theorem does_walk (I : Tb) (n : Int) (A : Option Addr) (len cap : Nat) (y1 y2 : Int) (zs : List AcT) (w : World) (hn : In64 n) (hy1 : In64 y1) (hy2 : In64 y2) (hlen : len ≤ 9223372036854775807) (hz : ZsIn w A len cap zs) :
    Calls Try.prog 3 #[.int .i64 n, .slice A len cap, .int .i64 y1, .int .i64 y2] w fun e w' => e = .returned (.bool true) ∧ Below w.heap.size w w' := by
  by_cases hno : 1 ≤ n ∧ n ≤ 30 ∧ len ≤ 100
  · exact does_main I n y1 y2 A len cap zs w hz hno.1 hno.2.1 hno.2.2 hy1 hy2
  · exact does_easy I n y1 y2 A len cap w hn hlen hno
end Go.Proofs.Ythdipkdolgcmgaa.TaskI
