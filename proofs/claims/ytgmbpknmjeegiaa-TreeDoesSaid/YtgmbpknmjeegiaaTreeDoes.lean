/-
  The walk of the law TreeDoes over any package that meets 'Tr': it returns true and leaves old memory as it was. Conditions: none but 'Tr'.
-/
import Derived.Test.YtgmbpknmjeegiaaTreeReaches
import Derived.Deep.RegionHeld3
import Derived.Deep.DeepCutAuto
import Derived.Deep.CutBlock
namespace Go.Proofs.Ytgmbpknmjeegiaa.TreeI
open Go.ChangeShapes Go.WideShapes Go.ChangeAt Go.RowKit Mem TreeP RefTree Hand

section
variable {I : Tr} {wq W : World} {v : Value} {F : Nat → Prop} {L : List Nd} {M : Int} {p : Nat} {G : Nat → Prop}
theorem l_over (hA : I.A wq v F L M) (hb : Below wq.heap.size wq W) (n : Int) (hn : In64 n) {o : Int} (ho : overT L n = o) : Calls Try.prog 13 #[v, .int .i64 n] W fun e w' => e = .returned (.int .i64 o) ∧ Below wq.heap.size wq w' := by
  subst ho
  exact (I.over (I.keep hA hb.size fun k hk _ => hb.block k hk) n hn).mono fun _ _ ⟨he, h'⟩ => ⟨he, hb.trans (h'.mono hb.size)⟩
theorem l_cut (hA : I.A wq v F L M) (hb : Below wq.heap.size wq W) (n : Int) (hn : In64 n) {c : Bool} (hc : cutT L n = c) : Calls Try.prog 15 #[v, .int .i64 n] W fun e w' => e = .returned (.bool c) ∧ Below wq.heap.size wq w' := by
  subst hc
  exact (I.cut (I.keep hA hb.size fun k hk _ => hb.block k hk) n hn).mono fun _ _ ⟨he, h'⟩ => ⟨he, hb.trans (h'.mono hb.size)⟩
theorem l_told {f : FuncId} {args : Array Value} {l : List Int} (hb : Below wq.heap.size wq W) (h : Calls Try.prog f args W fun e wn => ∃ u, e = .returned u ∧ Told W wn F u l) : Calls Try.prog f args W fun e w' => ∃ A c, e = .returned (.slice A l.length c) ∧ Rd w' (fun _ => True) (.slice A l.length c) l ∧ Below W.heap.size W w' ∧ Below wq.heap.size wq w' := by
  refine h.mono ?_
  rintro e w' ⟨u, rfl, hr, h', _⟩
  obtain ⟨A, c, rfl⟩ : ∃ A c, u = .slice A l.length c := by obtain ⟨A, c, e, _⟩ := hr; exact ⟨A, c, e⟩
  exact ⟨A, c, rfl, hr.mono fun _ _ _ => trivial, h', hb.trans (h'.mono hb.size)⟩
theorem l_ref {f : FuncId} {args : Array Value} {l : List Int} (hb : Below wq.heap.size wq W) (h : Calls Try.prog f args W fun e wn => ∃ u, e = .returned u ∧ Rd wn (fun k => W.heap.size ≤ k) u l ∧ Below W.heap.size W wn) : Calls Try.prog f args W fun e w' => ∃ A c, e = .returned (.slice A l.length c) ∧ Rd w' (fun _ => True) (.slice A l.length c) l ∧ Below W.heap.size W w' ∧ Below wq.heap.size wq w' := by
  refine h.mono ?_
  rintro e w' ⟨u, rfl, hr, h'⟩
  obtain ⟨A, c, rfl⟩ : ∃ A c, u = .slice A l.length c := by obtain ⟨A, c, e, _⟩ := hr; exact ⟨A, c, e⟩
  exact ⟨A, c, rfl, hr.mono fun _ _ _ => trivial, h', hb.trans (h'.mono hb.size)⟩
theorem l_kids (hA : I.A wq v F L M) (hb : Below wq.heap.size wq W) (n : Int) (hn : In64 n) {l : List Int} (hl : kidsT L n = l) : Calls Try.prog 18 #[v, .int .i64 n] W fun e w' => ∃ A c, e = .returned (.slice A l.length c) ∧ Rd w' (fun _ => True) (.slice A l.length c) l ∧ Below W.heap.size W w' ∧ Below wq.heap.size wq w' := by
  subst hl; exact l_told hb (I.kids (I.keep hA hb.size fun k hk _ => hb.block k hk) n hn)
theorem l_reach (hA : I.A wq v F L M) (hb : Below wq.heap.size wq W) (n : Int) (hn : In64 n) {l : List Int} (hl : reachT L n = l) : Calls Try.prog 20 #[v, .int .i64 n] W fun e w' => ∃ A c, e = .returned (.slice A l.length c) ∧ Rd w' (fun _ => True) (.slice A l.length c) l ∧ Below W.heap.size W w' ∧ Below wq.heap.size wq w' := by
  subst hl; exact l_told hb (I.reach (I.keep hA hb.size fun k hk _ => hb.block k hk) n hn)
theorem l_chain (hA : I.A wq v F L M) (hb : Below wq.heap.size wq W) (n : Int) (hn : In64 n) {l : List Int} (hl : chainT L n = l) : Calls Try.prog 22 #[v, .int .i64 n] W fun e w' => ∃ A c, e = .returned (.slice A l.length c) ∧ Rd w' (fun _ => True) (.slice A l.length c) l ∧ Below W.heap.size W w' ∧ Below wq.heap.size wq w' := by
  subst hl; exact l_told hb (I.chain (I.keep hA hb.size fun k hk _ => hb.block k hk) n hn)
theorem l_path (hA : I.A wq v F L M) (hb : Below wq.heap.size wq W) (n : Int) (hn : In64 n) {l : List Int} (hl : pathT L n = l) : Calls Try.prog 24 #[v, .int .i64 n] W fun e w' => ∃ A c, e = .returned (.slice A l.length c) ∧ Rd w' (fun _ => True) (.slice A l.length c) l ∧ Below W.heap.size W w' ∧ Below wq.heap.size wq w' := by
  subst hl; exact l_told hb (I.path (I.keep hA hb.size fun k hk _ => hb.block k hk) n hn)
theorem r_over (hR : RT wq G p L M) (hb : Below wq.heap.size wq W) (n : Int) {o : Int} (ho : overT L n = o) : Calls Try.prog 14 #[.pointer (some ⟨p, 0, none⟩), .int .i64 n] W fun e w' => e = .returned (.int .i64 o) ∧ Below wq.heap.size wq w' := by
  subst ho; exact (over_any (hR.below hb) n).mono fun _ _ ⟨he, h'⟩ => ⟨he, by subst h'; exact hb⟩
theorem r_there (hR : RT wq G p L M) (hb : Below wq.heap.size wq W) (n : Int) {o : Bool} (ho : there L n = o) : Calls Try.prog 16 #[.pointer (some ⟨p, 0, none⟩), .int .i64 n] W fun e w' => e = .returned (.bool o) ∧ Below wq.heap.size wq w' := by
  subst ho; exact (there_any (hR.below hb) n).mono fun _ _ ⟨he, h'⟩ => ⟨he, by subst h'; exact hb⟩
theorem r_kids (hR : RT wq G p L M) (hb : Below wq.heap.size wq W) (n : Int) {l : List Int} (hl : kidsT L n = l) : Calls Try.prog 19 #[.pointer (some ⟨p, 0, none⟩), .int .i64 n] W fun e w' => ∃ A c, e = .returned (.slice A l.length c) ∧ Rd w' (fun _ => True) (.slice A l.length c) l ∧ Below W.heap.size W w' ∧ Below wq.heap.size wq w' := by
  subst hl; exact l_ref hb (kids_any (hR.below hb) n)
theorem r_reach (hR : RT wq G p L M) (hw : Wf L) (hb : Below wq.heap.size wq W) (n : Int) {l : List Int} (hl : reachT L n = l) : Calls Try.prog 21 #[.pointer (some ⟨p, 0, none⟩), .int .i64 n] W fun e w' => ∃ A c, e = .returned (.slice A l.length c) ∧ Rd w' (fun _ => True) (.slice A l.length c) l ∧ Below W.heap.size W w' ∧ Below wq.heap.size wq w' := by
  subst hl
  by_cases h0 : 0 ≤ n
  · exact l_ref hb (reach_any hw (L.length - n).toNat n W (hR.below hb) h0 (by omega))
  · exact l_ref hb (reach_out (hR.below hb) n (by rw [Bool.eq_false_iff]; intro h; exact h0 (there_iff.1 h).1))
theorem r_chain (hR : RT wq G p L M) (hw : Wf L) (hb : Below wq.heap.size wq W) (n : Int) {l : List Int} (hl : chainT L n = l) : Calls Try.prog 23 #[.pointer (some ⟨p, 0, none⟩), .int .i64 n] W fun e w' => ∃ A c, e = .returned (.slice A l.length c) ∧ Rd w' (fun _ => True) (.slice A l.length c) l ∧ Below W.heap.size W w' ∧ Below wq.heap.size wq w' := by
  subst hl; exact l_ref hb (chain_any (hR.below hb) hw n)
theorem r_path (hR : RT wq G p L M) (hw : Wf L) (hb : Below wq.heap.size wq W) (n : Int) {l : List Int} (hl : pathT L n = l) : Calls Try.prog 25 #[.pointer (some ⟨p, 0, none⟩), .int .i64 n] W fun e w' => ∃ A c, e = .returned (.slice A l.length c) ∧ Rd w' (fun _ => True) (.slice A l.length c) l ∧ Below W.heap.size W w' ∧ Below wq.heap.size wq w' := by
  subst hl; exact l_ref hb (path_any (hR.below hb) hw n)
theorem l_same {u u' : Value} {l : List Int} (hu : Rd W (fun _ => True) u l) (hu' : Rd W (fun _ => True) u' l) (hb : Below wq.heap.size wq W) :
    Calls Try.prog 17 #[u, u'] W fun e w' => e = .returned (.bool true) ∧ Below wq.heap.size wq w' := by
  refine (SameI.same_any hu hu').mono ?_
  rintro e w' ⟨rfl, n, rfl⟩
  exact ⟨by simp, below_drewN hb n⟩
end

set_option maxHeartbeats 4000000 in
set_option maxRecDepth 100000 in
theorem does_easy (I : Tr) (n : Int) (A : Option Addr) (len cap : Nat) (w : World) (hn : In64 n) (_hlen : len ≤ 9223372036854775807) (hno : ¬ (1 ≤ n ∧ n ≤ 40 ∧ len ≤ 40)) :
    Calls Try.prog 3 #[.int .i64 n, .slice A len cap] w fun e w' => e = .returned (.bool true) ∧ Below w.heap.size w w' := by
  have HN := Lib.hid hn
  clear hn
  rcases (by omega : ((40 < n ∧ n ≤ 200) ∨ (n ≤ 40 ∧ 40 < len) ∨ (200 < n ∧ 40 < len)) ∨ (n < 1 ∧ len ≤ 40) ∨ (200 < n ∧ len ≤ 40)) with (⟨h1, h2⟩ | ⟨h1, h2⟩ | ⟨h1, h2⟩) | ⟨h1, h2⟩ | ⟨h1, h2⟩
  all_goals
    clear hno
    go_enter Try.func3, Try.ntmps3
    go_wp2_with fail
    refine (awake_any I _).mono ?_
    rintro e w1 ⟨rfl, hb1⟩
    have HB := Lib.hid hb1
    clear hb1
    go_wp2_with fail
    first
    | (go_ret; exact ⟨rfl, HB.out⟩)
    | (refine (I.new_no n _ HN.out (by omega)).mono ?_
       rintro e w2 ⟨rfl, hb2⟩
       have HB2 : Hid (Below w.heap.size w w2) := HB.out.trans (hb2.mono HB.out.size)
       clear hb2
       go_wp2_with fail
       refine (RefTree.new_no n _ (by omega)).mono ?_
       rintro e w3 ⟨rfl, rfl⟩
       go_wp2
       go_ret
       exact ⟨rfl, HB2.out⟩)

set_option maxHeartbeats 8000000 in
set_option maxRecDepth 100000 in
theorem does_main (I : Tr) (n : Int) (A : Option Addr) (len cap : Nat) (zs : List (Bool × Bool × Int)) (w : World) (h1 : 1 ≤ n) (h2 : n ≤ 40) (h40 : len ≤ 40)
    (hz : len ≤ 1000000 → zs.length = len ∧ RdL actE w (fun b => b < w.heap.size) (.slice A len cap) zs ∧ ∀ z ∈ zs, In64 z.2.2) :
    Calls Try.prog 3 #[.int .i64 n, .slice A len cap] w fun e w' => e = .returned (.bool true) ∧ Below w.heap.size w w' := by
  obtain ⟨hzl, hzr, hzo⟩ := hz (by omega)
  have HZL := Lib.hid hzl
  have HZR := Lib.hid hzr
  have HZO := Lib.hid hzo
  clear hzl hzr hzo hz
  go_enter Try.func3, Try.ntmps3
  go_wp2_with fail
  refine (awake_any I _).mono ?_
  rintro e w1 ⟨rfl, hb1⟩
  have S1 := Lib.hid ((Sep.nil (fun _ => False) w).next hb1)
  clear hb1
  go_wp2_with fail
  refine (t_new S1.out I n (by omega) (by omega)).mono ?_
  rintro e w2 ⟨a, rfl, h2'⟩
  have S2 := Lib.hid h2'
  clear h2' S1
  go_wp2_with fail
  refine (r_new S2.out n (by omega) (by omega)).mono ?_
  rintro e w3 ⟨p, rfl, h3⟩
  have S3 := Lib.hid h3
  clear h3 S2
  go_wp2
  go_loopw [53] (fun u wr => ∃ j : Nat, j ≤ len ∧ u = .int .i64 j ∧ Hid (∃ L, Sep (fun _ => False) w wr [rt p L n, tr I (.pointer (some a)) L n])) (fun u _ => len - (intOf u).toNat)
  case atStart => exact ⟨0, Nat.zero_le _, rfl, _, S3.out⟩
  case round =>
    obtain ⟨j, hj, rfl, HS⟩ := hrel
    obtain ⟨L, hS⟩ := HS.out
    have SL := Lib.hid hS
    have hok := t_ok hS 1 rfl
    have hlL : L.length ≤ 40 := by have := hok.len; omega
    clear HS hS S3
    by_cases hlt : j < len
    · have hx : zs[j]? = some (zs[j]'(by rw [HZL.out]; exact hlt)) := List.getElem?_eq_getElem _
      generalize zs[j]'(by rw [HZL.out]; exact hlt) = z at hx
      have HE := Lib.hid (HZO.out z (List.mem_of_getElem? hx))
      obtain ⟨bb, off, rfl, _, hbb, c0, c1, c2⟩ := act_cells HZR.out hx
      have hb := SL.out.old
      have q0 := (hb.cell (p := ⟨bb, off + j * 3, none⟩) hbb).trans c0
      have q1 := (hb.cell (p := ⟨bb, off + j * 3 + 1, none⟩) hbb).trans c1
      have q2 := (hb.cell (p := ⟨bb, off + j * 3 + 2, none⟩) hbb).trans c2
      obtain ⟨r, c, o⟩ := z
      have S4 := Lib.hid (SL.out.new (.cells #[.bool r, .bool c, .int .i64 o] 32))
      clear hx c0 c1 c2 hb SL hok
      obtain ⟨V, hV⟩ : ∃ V, doV L n r o = V := ⟨_, rfl⟩
      obtain ⟨E, hE⟩ : ∃ E, doE L n r o = E := ⟨_, rfl⟩
      obtain ⟨L2, hL⟩ : ∃ L2, doL L n r o c = L2 := ⟨_, rfl⟩
      have KV := Lib.hid hV
      have KE := Lib.hid hE
      have KL := Lib.hid hL
      clear hV hE hL
      go_wp2_with fail
      refine (t_do S4.out 2 rfl r c o HE.out KV.out KE.out KL.out).mono ?_
      rintro e w5 ⟨rfl, h5⟩
      have S5 := Lib.hid h5
      have a0 := (cell_block (h5.blk_at 0 rfl) 0).trans rfl
      have a1 := (cell_block (h5.blk_at 0 rfl) 1).trans rfl
      have a2 := (cell_block (h5.blk_at 0 rfl) 2).trans rfl
      have hlt5 : wr.heap.size < w5.heap.size := lt_of_block (h5.blk_at 0 rfl)
      clear h5 S4 q0 q1 q2
      have hVV : (V != V) = false := by simp
      have hEE : (E != E) = false := by simp
      cases r
      all_goals
        go_wp2_with fail
        first
        | refine (r_add S5.out 1 rfl (by omega) o c KV.out KE.out KL.out).mono ?_
        | refine (r_put S5.out 1 rfl (by omega) (-1) false KV.out KE.out KL.out).mono ?_
        rintro e w6 ⟨rfl, h6⟩
        have S6 := Lib.hid h6
        obtain ⟨F6, hR6⟩ := r_rt h6 1 rfl
        obtain ⟨A6, c6, k6, _⟩ := hR6.head
        clear h6 S5 a0 a1 a2 hlt5
        go_wp2
        go_quiet ((go_at_call 12; exact quiet_len S6.out 2 rfl _ rfl))
        go_wp2
        go_roundw
        case rel => exact ⟨j + 1, by omega, by go_num, ⟨L2, S6.out.tail.drewN _⟩⟩
        case measure => simp [intOf]; omega
    · have HW := Lib.hid hok.wf
      obtain ⟨FA, hA⟩ := SL.out.get 1 rfl
      obtain ⟨FR, hR⟩ := r_rt SL.out 0 rfl
      obtain ⟨Aq, cq, x0, _, _, _, _⟩ := hR.head
      have hpl := hR.lt
      have HA : Hid (I.A wr (.pointer (some a)) FA L n) := hA
      have HR := Lib.hid hR
      have HB0 := Lib.hid SL.out.old
      clear hA hR hok SL
      go_wp2
      generalize wr = wq at *
      go_loopw [15] (fun t wr => ∃ q : Int, -1 ≤ q ∧ q ≤ L.length + 1 ∧ t = .int .i64 q ∧ Hid (Below wq.heap.size wq wr)) (fun t _ => ((L.length : Int) + 1 - intOf t).toNat)
      case atStart => exact ⟨-1, by omega, by omega, rfl, Below.refl _ _⟩
      case round =>
        obtain ⟨q, hq0, hq1, rfl, HB6⟩ := hrel
        have y0 := (HB6.out.cell (p := ⟨p, 0, none⟩) hpl).trans x0
        by_cases hqn : q ≤ (L.length : Int)
        · have hqi : Hid (In64 q) := ⟨by omega, by omega⟩
          obtain ⟨O, hO⟩ : ∃ O, overT L q = O := ⟨_, rfl⟩
          obtain ⟨C, hC⟩ : ∃ C, cutT L q = C := ⟨_, rfl⟩
          obtain ⟨T, hT⟩ : ∃ T, there L q = T := ⟨_, rfl⟩
          obtain ⟨lk, hlk⟩ : ∃ l, kidsT L q = l := ⟨_, rfl⟩
          obtain ⟨lr, hlr⟩ : ∃ l, reachT L q = l := ⟨_, rfl⟩
          obtain ⟨lc, hlc⟩ : ∃ l, chainT L q = l := ⟨_, rfl⟩
          obtain ⟨lp, hlp⟩ : ∃ l, pathT L q = l := ⟨_, rfl⟩
          have HO := Lib.hid hO
          have HC := Lib.hid hC
          have HT := Lib.hid hT
          have HK := Lib.hid hlk
          have HX := Lib.hid hlr
          have HY := Lib.hid hlc
          have HZ := Lib.hid hlp
          have hOO : (O != O) = false := by simp
          have hCC : (C != C) = false := by simp
          clear hO hC hT hlk hlr hlc hlp
          go_upto_region 25 with (fail)
          go_cut [172] (fun s172 wx => s172 = .bool false ∧ Hid (Below wq.heap.size wq wx))
          case first => as_aux_lemma =>
            have HB : Hid (Below wq.heap.size wq wr) := HB6.out
            simp only [List.append_eq, List.cons_append, List.nil_append]
            cases T with
            | false =>
              have FK : Hid (∀ Q, Below wq.heap.size wq Q → (Q.cell? ⟨p, 0, none⟩ = some (.slice Aq L.length cq) ∧ True)) := fun Q hb => ⟨(hb.cell (p := ⟨p, 0, none⟩) hpl).trans x0, trivial⟩
              have hC0 : C = false := by rw [← HC.out]; unfold cutT; rw [HT.out]; rfl
              subst hC0
              obtain ⟨k0, k1⟩ := FK.out _ HB.out
              clear y0 x0
              go_wp2_with fail
              refine (l_over HA.out HB.out q hqi.out HO.out).mono ?_
              rintro e w11 ⟨rfl, hb11⟩
              have HB := Lib.hid hb11; obtain ⟨k0, k1⟩ := FK.out _ hb11; clear hb11
              go_wp2_with fail
              refine (r_over HR.out HB.out q HO.out).mono ?_
              rintro e w11 ⟨rfl, hb11⟩
              have HB := Lib.hid hb11; obtain ⟨k0, k1⟩ := FK.out _ hb11; clear hb11
              go_wp2_with fail
              refine (l_cut HA.out HB.out q hqi.out HC.out).mono ?_
              rintro e w11 ⟨rfl, hb11⟩
              have HB := Lib.hid hb11; obtain ⟨k0, k1⟩ := FK.out _ hb11; clear hb11
              go_wp2_with fail
              refine (r_there HR.out HB.out q HT.out).mono ?_
              rintro e w11 ⟨rfl, hb11⟩
              have HB := Lib.hid hb11; obtain ⟨k0, k1⟩ := FK.out _ hb11; clear hb11
              go_wp2_with fail
              refine (l_kids HA.out HB.out q hqi.out HK.out).mono ?_
              rintro e w11 ⟨A1, c1, rfl, r11, b11, hb11⟩
              have R1 := Lib.hid r11; clear r11 b11; have HB := Lib.hid hb11; obtain ⟨k0, k1⟩ := FK.out _ hb11; clear hb11
              go_wp2_with fail
              refine (r_kids HR.out HB.out q HK.out).mono ?_
              rintro e w11 ⟨A2, c2, rfl, r11, b11, hb11⟩
              have R3 := Lib.hid (rd_below R1.out b11); have R2 := Lib.hid r11; clear r11 b11; have HB := Lib.hid hb11; obtain ⟨k0, k1⟩ := FK.out _ hb11; clear hb11
              go_wp2_with fail
              refine (l_same R3.out R2.out HB.out).mono ?_
              rintro e w11 ⟨rfl, hb11⟩
              have HB := Lib.hid hb11; obtain ⟨k0, k1⟩ := FK.out _ hb11; clear hb11
              go_wp2_with fail
              refine (l_reach HA.out HB.out q hqi.out HX.out).mono ?_
              rintro e w11 ⟨A1, c1, rfl, r11, b11, hb11⟩
              have R1 := Lib.hid r11; clear r11 b11; have HB := Lib.hid hb11; obtain ⟨k0, k1⟩ := FK.out _ hb11; clear hb11
              go_wp2_with fail
              refine (r_reach HR.out HW.out HB.out q HX.out).mono ?_
              rintro e w11 ⟨A2, c2, rfl, r11, b11, hb11⟩
              have R3 := Lib.hid (rd_below R1.out b11); have R2 := Lib.hid r11; clear r11 b11; have HB := Lib.hid hb11; obtain ⟨k0, k1⟩ := FK.out _ hb11; clear hb11
              go_wp2_with fail
              refine (l_same R3.out R2.out HB.out).mono ?_
              rintro e w11 ⟨rfl, hb11⟩
              have HB := Lib.hid hb11; obtain ⟨k0, k1⟩ := FK.out _ hb11; clear hb11
              go_wp2_with fail
              refine (l_chain HA.out HB.out q hqi.out HY.out).mono ?_
              rintro e w11 ⟨A1, c1, rfl, r11, b11, hb11⟩
              have R1 := Lib.hid r11; clear r11 b11; have HB := Lib.hid hb11; obtain ⟨k0, k1⟩ := FK.out _ hb11; clear hb11
              go_wp2_with fail
              refine (r_chain HR.out HW.out HB.out q HY.out).mono ?_
              rintro e w11 ⟨A2, c2, rfl, r11, b11, hb11⟩
              have R3 := Lib.hid (rd_below R1.out b11); have R2 := Lib.hid r11; clear r11 b11; have HB := Lib.hid hb11; obtain ⟨k0, k1⟩ := FK.out _ hb11; clear hb11
              go_wp2_with fail
              refine (l_same R3.out R2.out HB.out).mono ?_
              rintro e w11 ⟨rfl, hb11⟩
              have HB := Lib.hid hb11; obtain ⟨k0, k1⟩ := FK.out _ hb11; clear hb11
              go_wp2_with fail
              refine (l_path HA.out HB.out q hqi.out HZ.out).mono ?_
              rintro e w11 ⟨A1, c1, rfl, r11, b11, hb11⟩
              have R1 := Lib.hid r11; clear r11 b11; have HB := Lib.hid hb11; obtain ⟨k0, k1⟩ := FK.out _ hb11; clear hb11
              go_wp2_with fail
              refine (r_path HR.out HW.out HB.out q HZ.out).mono ?_
              rintro e w11 ⟨A2, c2, rfl, r11, b11, hb11⟩
              have R3 := Lib.hid (rd_below R1.out b11); have R2 := Lib.hid r11; clear r11 b11; have HB := Lib.hid hb11; obtain ⟨k0, k1⟩ := FK.out _ hb11; clear hb11
              go_wp2_with fail
              refine (l_same R3.out R2.out HB.out).mono ?_
              rintro e w11 ⟨rfl, hb11⟩
              have HB := Lib.hid hb11; obtain ⟨k0, k1⟩ := FK.out _ hb11; clear hb11
              go_wp2_with fail
              go_meet
              exact ⟨rfl, HB⟩
            | true =>
              obtain ⟨i, rfl, hi⟩ := there_nat HT.out
              obtain ⟨bq, oq, cc, z0, _, z1⟩ := HR.out.node (nd_at hi)
              have hzl : bq < wq.heap.size := World.block_lt_of_cell? wq ⟨bq, oq + i * 2 + 1, none⟩ z1
              have hCc : (nd L (i : Nat)).cut = C := by rw [← HC.out]; unfold cutT; rw [HT.out]; rfl
              rw [hCc] at z1
              have FK : Hid (∀ Q, Below wq.heap.size wq Q → (Q.cell? ⟨p, 0, none⟩ = some (.slice (some ⟨bq, oq, none⟩) L.length cc) ∧ Q.cell? ⟨bq, oq + i * 2 + 1, none⟩ = some (.bool C))) := fun Q hb => ⟨(hb.cell (p := ⟨p, 0, none⟩) hpl).trans z0, (hb.cell (p := ⟨bq, oq + i * 2 + 1, none⟩) hzl).trans z1⟩
              have b0 : (0 : Int) ≤ (i : Int) := by omega
              have b1 : (i : Int) < (L.length : Int) := by omega
              obtain ⟨k0, k1⟩ := FK.out _ HB.out
              clear y0 hCc z0 z1 x0
              go_wp2_with fail
              refine (l_over HA.out HB.out (i : Int) hqi.out HO.out).mono ?_
              rintro e w11 ⟨rfl, hb11⟩
              have HB := Lib.hid hb11; obtain ⟨k0, k1⟩ := FK.out _ hb11; clear hb11
              go_wp2_with fail
              refine (r_over HR.out HB.out (i : Int) HO.out).mono ?_
              rintro e w11 ⟨rfl, hb11⟩
              have HB := Lib.hid hb11; obtain ⟨k0, k1⟩ := FK.out _ hb11; clear hb11
              go_wp2_with fail
              refine (l_cut HA.out HB.out (i : Int) hqi.out HC.out).mono ?_
              rintro e w11 ⟨rfl, hb11⟩
              have HB := Lib.hid hb11; obtain ⟨k0, k1⟩ := FK.out _ hb11; clear hb11
              go_wp2_with fail
              refine (r_there HR.out HB.out (i : Int) HT.out).mono ?_
              rintro e w11 ⟨rfl, hb11⟩
              have HB := Lib.hid hb11; obtain ⟨k0, k1⟩ := FK.out _ hb11; clear hb11
              go_wp2_with fail
              refine (l_kids HA.out HB.out (i : Int) hqi.out HK.out).mono ?_
              rintro e w11 ⟨A1, c1, rfl, r11, b11, hb11⟩
              have R1 := Lib.hid r11; clear r11 b11; have HB := Lib.hid hb11; obtain ⟨k0, k1⟩ := FK.out _ hb11; clear hb11
              go_wp2_with fail
              refine (r_kids HR.out HB.out (i : Int) HK.out).mono ?_
              rintro e w11 ⟨A2, c2, rfl, r11, b11, hb11⟩
              have R3 := Lib.hid (rd_below R1.out b11); have R2 := Lib.hid r11; clear r11 b11; have HB := Lib.hid hb11; obtain ⟨k0, k1⟩ := FK.out _ hb11; clear hb11
              go_wp2_with fail
              refine (l_same R3.out R2.out HB.out).mono ?_
              rintro e w11 ⟨rfl, hb11⟩
              have HB := Lib.hid hb11; obtain ⟨k0, k1⟩ := FK.out _ hb11; clear hb11
              go_wp2_with fail
              refine (l_reach HA.out HB.out (i : Int) hqi.out HX.out).mono ?_
              rintro e w11 ⟨A1, c1, rfl, r11, b11, hb11⟩
              have R1 := Lib.hid r11; clear r11 b11; have HB := Lib.hid hb11; obtain ⟨k0, k1⟩ := FK.out _ hb11; clear hb11
              go_wp2_with fail
              refine (r_reach HR.out HW.out HB.out (i : Int) HX.out).mono ?_
              rintro e w11 ⟨A2, c2, rfl, r11, b11, hb11⟩
              have R3 := Lib.hid (rd_below R1.out b11); have R2 := Lib.hid r11; clear r11 b11; have HB := Lib.hid hb11; obtain ⟨k0, k1⟩ := FK.out _ hb11; clear hb11
              go_wp2_with fail
              refine (l_same R3.out R2.out HB.out).mono ?_
              rintro e w11 ⟨rfl, hb11⟩
              have HB := Lib.hid hb11; obtain ⟨k0, k1⟩ := FK.out _ hb11; clear hb11
              go_wp2_with fail
              refine (l_chain HA.out HB.out (i : Int) hqi.out HY.out).mono ?_
              rintro e w11 ⟨A1, c1, rfl, r11, b11, hb11⟩
              have R1 := Lib.hid r11; clear r11 b11; have HB := Lib.hid hb11; obtain ⟨k0, k1⟩ := FK.out _ hb11; clear hb11
              go_wp2_with fail
              refine (r_chain HR.out HW.out HB.out (i : Int) HY.out).mono ?_
              rintro e w11 ⟨A2, c2, rfl, r11, b11, hb11⟩
              have R3 := Lib.hid (rd_below R1.out b11); have R2 := Lib.hid r11; clear r11 b11; have HB := Lib.hid hb11; obtain ⟨k0, k1⟩ := FK.out _ hb11; clear hb11
              go_wp2_with fail
              refine (l_same R3.out R2.out HB.out).mono ?_
              rintro e w11 ⟨rfl, hb11⟩
              have HB := Lib.hid hb11; obtain ⟨k0, k1⟩ := FK.out _ hb11; clear hb11
              go_wp2_with fail
              refine (l_path HA.out HB.out (i : Int) hqi.out HZ.out).mono ?_
              rintro e w11 ⟨A1, c1, rfl, r11, b11, hb11⟩
              have R1 := Lib.hid r11; clear r11 b11; have HB := Lib.hid hb11; obtain ⟨k0, k1⟩ := FK.out _ hb11; clear hb11
              go_wp2_with fail
              refine (r_path HR.out HW.out HB.out (i : Int) HZ.out).mono ?_
              rintro e w11 ⟨A2, c2, rfl, r11, b11, hb11⟩
              have R3 := Lib.hid (rd_below R1.out b11); have R2 := Lib.hid r11; clear r11 b11; have HB := Lib.hid hb11; obtain ⟨k0, k1⟩ := FK.out _ hb11; clear hb11
              go_wp2_with fail
              refine (l_same R3.out R2.out HB.out).mono ?_
              rintro e w11 ⟨rfl, hb11⟩
              have HB := Lib.hid hb11; obtain ⟨k0, k1⟩ := FK.out _ hb11; clear hb11
              go_wp2_with fail
              go_meet
              exact ⟨rfl, HB⟩
          case rest => as_aux_lemma =>
            obtain ⟨rfl, HB1⟩ := hcut
            go_wp2
            go_roundw
            case rel => exact ⟨q + 1, by omega, by omega, by go_num, HB1⟩
            case measure => simp [intOf]; omega
        · go_wp2
          go_ret
          exact ⟨rfl, HB0.out.trans (HB6.out.mono HB0.out.size)⟩

theorem does_walk (I : Tr) (n : Int) (A : Option Addr) (len cap : Nat) (zs : List (Bool × Bool × Int)) (w : World) (hn : In64 n) (hlen : len ≤ 9223372036854775807)
    (hz : len ≤ 1000000 → zs.length = len ∧ RdL actE w (fun b => b < w.heap.size) (.slice A len cap) zs ∧ ∀ z ∈ zs, In64 z.2.2) :
    Calls Try.prog 3 #[.int .i64 n, .slice A len cap] w fun e w' => e = .returned (.bool true) ∧ Below w.heap.size w w' := by
  by_cases hno : 1 ≤ n ∧ n ≤ 40 ∧ len ≤ 40
  · exact does_main I n A len cap zs w hno.1 hno.2.1 hno.2.2 hz
  · exact does_easy I n A len cap w hn hlen hno
end Go.Proofs.Ytgmbpknmjeegiaa.TreeI
