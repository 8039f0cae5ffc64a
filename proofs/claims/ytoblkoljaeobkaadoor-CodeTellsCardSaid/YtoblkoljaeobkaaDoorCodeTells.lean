/-
  The walk of the law CodeTells over any package that meets 'Co': it returns true and leaves old memory as it was. Conditions: none but 'Co'.
-/
import Derived.Test.YtoblkoljaeobkaaDoorCodeLonger
namespace Go.Proofs.YtoblkoljaeobkaaDoor.CodeI
open Go.ChangeShapes Go.WideShapes Go.ChangeAt Go.RowKit Mem MutP CodeP Hand RefCode

theorem in_blk0 {w wk : World} {Rs : List Res} {g : Nat} {x : In} (h : Sep (fun _ => False) w wk (blk g (.cells #[.int .i64 x.o, .int .i64 x.a, .int .i64 x.b, .int .i64 x.n] 23) :: Rs)) :
    wk.cell? ⟨g, 0, none⟩ = some (.int .i64 x.o) ∧ wk.cell? ⟨g, 1, none⟩ = some (.int .i64 x.a) ∧ wk.cell? ⟨g, 2, none⟩ = some (.int .i64 x.b) ∧ wk.cell? ⟨g, 3, none⟩ = some (.int .i64 x.n) := in_blk h 0 rfl
theorem to_back {w wk : World} {B : Nat → Prop} {R S : Res} {Rs : List Res} (h : Sep B w wk (R :: S :: Rs)) : Sep B w wk (S :: R :: Rs) := h.swap
theorem rn_form {w wk : World} {Rs : List Res} (h : Sep (fun _ => False) w wk Rs) (op : Int) {v : Value} (hv : formV op = v) : Calls Tryd.prog 13 #[.int .i64 op] wk fun e wn => e = .returned v ∧ Sep (fun _ => False) w wn Rs := by subst hv; exact r_form h op
theorem rn_right {w wk : World} {Rs : List Res} (h : Sep (fun _ => False) w wk Rs) (x : In) (k : Int) {r : Bool} (hr : rightB x k = r) : Calls Tryd.prog 15 #[.agg #[.int .i64 x.o, .int .i64 x.a, .int .i64 x.b, .int .i64 x.n], .int .i64 k] wk fun e wn => e = .returned (.bool r) ∧ Sep (fun _ => False) w wn Rs := by subst hr; exact r_right h x k
theorem rn_may {w wk : World} {Rs : List Res} {A : Option Addr} {n c : Nat} {l : List In} (h : Sep (fun _ => False) w wk Rs) (i : Nat) (hi : Rs[i]? = some (told inE (.slice A n c) l)) {r : Bool} (hr : mayB l = r) : Calls Tryd.prog 17 #[.slice A n c] wk fun e wn => e = .returned (.bool r) ∧ Sep (fun _ => False) w wn Rs := by subst hr; exact r_may h i hi
theorem rn_bytes {w wk : World} {Rs : List Res} {A : Option Addr} {n c : Nat} {l : List In} (h : Sep (fun _ => False) w wk Rs) (i : Nat) (hi : Rs[i]? = some (told inE (.slice A n c) l)) (hl : ∀ x ∈ l, InIn x) {E : Int} {R : List Int} {k : Nat} (hE : bytesE l = E) (hR : bytesR l = R) (hk : R.length = k) : Calls Tryd.prog 8 #[.slice A n c] wk fun e wn => ∃ A' c', e = .returned (.tuple #[.slice A' k c', .int .i64 E]) ∧ Sep (fun _ => False) w wn (told byE (.slice A' k c') R :: Rs) := by subst hE hR hk; exact r_bytes h i hi hl
theorem ra_read {w wk : World} {Rs : List Res} {G : Nat → Prop} {A : Option Addr} {n c : Nat} {b : List Int} (h : Sep (fun _ => False) w wk Rs) (hr : RdL byE wk G (.slice A n c) b) (hc : n ≤ c) (hl : ∀ x ∈ b, Byte x) {E N : Int} {R : List In} {k : Nat} (hE : readE b = E) (hN : readN b = N) (hR : readR b = R) (hk : R.length = k) : Calls Tryd.prog 11 #[.slice A n c] wk fun e wn => ∃ A' c', e = .returned (.tuple #[.slice A' k c', .int .i64 N, .int .i64 E]) ∧ Sep (fun _ => False) w wn (told inE (.slice A' k c') R :: Rs) := by
  subst hE hN hR hk
  obtain rfl := len_of hr
  refine (read_r hr hl hc).mono ?_
  rintro e wn ⟨v, rfl, hs, _⟩
  obtain ⟨A', c', rfl⟩ := hs.1.form
  exact ⟨A', c', rfl, SaysL.sep h hs⟩
theorem readR_len (b : List Int) : (readR b).length ≤ 24 := by
  unfold readR
  split
  · rename_i h
    rcases read_errs b with ⟨e, _⟩ | ⟨e, _⟩ | ⟨e, _⟩ | ⟨e, _⟩ | ⟨_, _, h1, _⟩
    · omega
    · omega
    · omega
    · omega
    · unfold progL
      rw [readL_len]
      omega
  · exact Nat.zero_le _

set_option maxRecDepth 100000 in
set_option maxHeartbeats 4000000 in
theorem tells_walk {w : World} (I : Co w) (op : Int) (x : In) (kk : Int) (A0 A1 A2 : Option Addr) (n0 c0 n1 c1 n2 c2 : Nat) (l m : List In) (b : List Int) (ho : In64 op) (hx : InIn x) (hk : In64 kk) (h0 : LsIn w A0 n0 c0 l) (h1 : LsIn w A1 n1 c1 m) (h2 : BsIn w A2 n2 c2 b) :
    Calls Tryd.prog 3 #[.int .i64 op, .agg #[.int .i64 x.o, .int .i64 x.a, .int .i64 x.b, .int .i64 x.n], .int .i64 kk, .slice A0 n0 c0, .slice A1 n1 c1, .slice A2 n2 c2] w fun e w' => e = .returned (.bool true) ∧ Below w.heap.size w w' := by
  have H0 := Lib.hid h0
  have H1 := Lib.hid h1
  have H2 := Lib.hid h2
  have HO := Lib.hid ho
  have HX := Lib.hid hx
  have HK := Lib.hid hk
  have S0 := Lib.hid ((Sep.nil (fun _ => False) w).new (.cells #[.int .i64 x.o, .int .i64 x.a, .int .i64 x.b, .int .i64 x.n] 23))
  clear h0 h1 h2 ho hx hk
  rcases (by omega : 60 < n0 ∨ (n0 ≤ 60 ∧ 60 < n1) ∨ (n0 ≤ 60 ∧ n1 ≤ 60 ∧ 1000 < n2) ∨ (n0 ≤ 60 ∧ n1 ≤ 60 ∧ n2 ≤ 1000)) with x0 | ⟨x0, x1⟩ | ⟨x0, x1, x2⟩ | ⟨x0, x1, x2⟩
  · have e0 : decide ((n0 : Int) > 60) = true := decide_eq_true (by omega)
    go_enter Tryd.func3, Tryd.ntmps3
    go_wp2_with fail
    refine (awake_any I _ S0.out.old).mono ?_
    rintro e w1 ⟨rfl, hb1⟩
    have S1 := Lib.hid (S0.out.next hb1)
    clear hb1 S0
    go_wp2
    go_ret
    exact ⟨rfl, S1.out.old⟩
  · have e0 : decide ((n0 : Int) > 60) = false := decide_eq_false (by omega)
    have e1 : decide ((n1 : Int) > 60) = true := decide_eq_true (by omega)
    go_enter Tryd.func3, Tryd.ntmps3
    go_wp2_with fail
    refine (awake_any I _ S0.out.old).mono ?_
    rintro e w1 ⟨rfl, hb1⟩
    have S1 := Lib.hid (S0.out.next hb1)
    clear hb1 S0
    go_wp2
    go_ret
    exact ⟨rfl, S1.out.old⟩
  · have e0 : decide ((n0 : Int) > 60) = false := decide_eq_false (by omega)
    have e1 : decide ((n1 : Int) > 60) = false := decide_eq_false (by omega)
    have e2 : decide ((n2 : Int) > 1000) = true := decide_eq_true (by omega)
    go_enter Tryd.func3, Tryd.ntmps3
    go_wp2_with fail
    refine (awake_any I _ S0.out.old).mono ?_
    rintro e w1 ⟨rfl, hb1⟩
    have S1 := Lib.hid (S0.out.next hb1)
    clear hb1 S0
    go_wp2
    go_ret
    exact ⟨rfl, S1.out.old⟩
  · have e0 : decide ((n0 : Int) > 60) = false := decide_eq_false (by omega)
    have e1 : decide ((n1 : Int) > 60) = false := decide_eq_false (by omega)
    have e2 : decide ((n2 : Int) > 1000) = false := decide_eq_false (by omega)
    obtain ⟨f0, g0⟩ := H0.out
    obtain ⟨f1, g1⟩ := H1.out
    obtain ⟨f2, g2⟩ := H2.out
    obtain ⟨l0, r0, i0⟩ := g0 (by omega)
    obtain ⟨l1, r1, i1⟩ := g1 (by omega)
    obtain ⟨l2, r2, i2⟩ := g2 (by omega)
    have R0 := Lib.hid r0
    have R1 := Lib.hid r1
    have R2 := Lib.hid r2
    have I0 := Lib.hid i0
    have I1 := Lib.hid i1
    have I2 := Lib.hid i2
    have L0 := Lib.hid l0
    have L1 := Lib.hid l1
    have L2 := Lib.hid l2
    clear g0 g1 g2 l0 l1 l2 r0 r1 r2 i0 i1 i2 H0 H1 H2
    obtain ⟨bE, hbE⟩ : ∃ e, bytesE l = e := ⟨_, rfl⟩
    obtain ⟨bR, hbR⟩ : ∃ e, bytesR l = e := ⟨_, rfl⟩
    obtain ⟨bn, hbn⟩ : ∃ e, bR.length = e := ⟨_, rfl⟩
    obtain ⟨rE, hrE⟩ : ∃ e, readE b = e := ⟨_, rfl⟩
    obtain ⟨rN, hrN⟩ : ∃ e, readN b = e := ⟨_, rfl⟩
    obtain ⟨rR, hrR⟩ : ∃ e, readR b = e := ⟨_, rfl⟩
    obtain ⟨rn, hrn⟩ : ∃ e, rR.length = e := ⟨_, rfl⟩
    obtain ⟨fc, hfc⟩ : ∃ e, (⟨(formL op).toArray⟩ : ByteArray) = e := ⟨_, rfl⟩
    obtain ⟨br, hbr⟩ : ∃ e, rightB x kk = e := ⟨_, rfl⟩
    obtain ⟨bm, hbm⟩ : ∃ e, mayB l = e := ⟨_, rfl⟩
    obtain ⟨bs, hbs⟩ : ∃ e, decide (l = m) = e := ⟨_, rfl⟩
    have HbE := Lib.hid hbE
    have HbR := Lib.hid hbR
    have Hbn := Lib.hid hbn
    have HrE := Lib.hid hrE
    have HrN := Lib.hid hrN
    have HrR := Lib.hid hrR
    have Hrn := Lib.hid hrn
    have Hfc : Hid (formV op = .string fc) := by show _ = _; unfold formV; rw [hfc]
    have Hbr := Lib.hid hbr
    have Hbm := Lib.hid hbm
    have Hbs := Lib.hid hbs
    have hrl : rR.length ≤ 24 := by rw [← hrR]; exact readR_len b
    have HRL := Lib.hid hrl
    have q1 : (br == br) = true := by simp
    have q2 : (bm == bm) = true := by simp
    have q3 : (bs == bs) = true := by simp
    have q4 : (bE == bE) = true := by simp
    have q5 : (rE == rE) = true := by simp
    have q6 : (rN == rN) = true := by simp
    have q7 : (fc.toList == fc.toList) = true := by simp
    clear hbE hbR hbn hrE hrN hrR hrn hfc hbr hbm hbs hrl
    go_enter Tryd.func3, Tryd.ntmps3
    go_wp2_with fail
    refine (awake_any I _ S0.out.old).mono ?_
    rintro e w1 ⟨rfl, hb1⟩
    obtain ⟨g, hg⟩ : ∃ g, w.heap.size = g := ⟨_, rfl⟩
    have S1 := Lib.hid (S0.out.next hb1)
    rw [hg] at S1 ⊢
    clear hb1 S0 hg
    go_wp2_with fail
    refine (a_bytes I S1.out R0.out f0 I0.out HbE.out HbR.out Hbn.out).mono ?_
    rintro e w2 ⟨A3, c3, _, rfl, h2⟩
    have S2 : Hid (Sep (fun _ => False) w w2 [blk g (.cells #[.int .i64 x.o, .int .i64 x.a, .int .i64 x.b, .int .i64 x.n] 23), told byE (.slice A3 bn c3) bR]) := h2.swap
    clear h2 S1
    go_wp2_with fail
    refine (a_own S2.out R0.out (by rw [L0.out]; omega)).mono ?_
    rintro e w3 ⟨A4, c4, rfl, h3⟩
    have S3 : Hid (Sep (fun _ => False) w w3 [told inE (.slice A4 n0 c4) l, blk g (.cells #[.int .i64 x.o, .int .i64 x.a, .int .i64 x.b, .int .i64 x.n] 23), told byE (.slice A3 bn c3) bR]) := h3
    clear h3 S2
    go_wp2_with fail
    refine (rn_bytes S3.out 0 rfl I0.out HbE.out HbR.out Hbn.out).mono ?_
    rintro e w4 ⟨A5, c5, rfl, h4⟩
    have S4 : Hid (Sep (fun _ => False) w w4 [blk g (.cells #[.int .i64 x.o, .int .i64 x.a, .int .i64 x.b, .int .i64 x.n] 23), told byE (.slice A5 bn c5) bR, told byE (.slice A3 bn c3) bR]) := (h4.sub (.cons_cons _ (.cons _ (List.Sublist.refl _)))).swap
    clear h4 S3
    go_wp2_with fail
    refine (a_read I S4.out (R2.out.below S4.out.old) f2 I2.out HrE.out HrN.out HrR.out Hrn.out).mono ?_
    rintro e w5 ⟨A6, c6, _, rfl, h5⟩
    have S5 : Hid (Sep (fun _ => False) w w5 [blk g (.cells #[.int .i64 x.o, .int .i64 x.a, .int .i64 x.b, .int .i64 x.n] 23), told inE (.slice A6 rn c6) rR, told byE (.slice A5 bn c5) bR, told byE (.slice A3 bn c3) bR]) := h5.swap
    clear h5 S4
    go_wp2_with fail
    refine (ra_read S5.out (R2.out.below S5.out.old) f2 I2.out HrE.out HrN.out HrR.out Hrn.out).mono ?_
    rintro e w6 ⟨A7, c7, rfl, h6⟩
    have S6 : Hid (Sep (fun _ => False) w w6 [blk g (.cells #[.int .i64 x.o, .int .i64 x.a, .int .i64 x.b, .int .i64 x.n] 23), told inE (.slice A7 rn c7) rR, told inE (.slice A6 rn c6) rR, told byE (.slice A5 bn c5) bR, told byE (.slice A3 bn c3) bR]) := h6.swap
    clear h6 S5
    go_upto_region 9 with (fail)
    have SD : Hid (Sep (fun _ => False) w w6.drew [blk g (.cells #[.int .i64 x.o, .int .i64 x.a, .int .i64 x.b, .int .i64 x.n] 23), told inE (.slice A7 rn c7) rR, told inE (.slice A6 rn c6) rR, told byE (.slice A5 bn c5) bR, told byE (.slice A3 bn c3) bR]) := S6.out.drew
    clear S6
    refine Held.begin_ (fun V : World => V.cell? ⟨g, 0, none⟩ = some (.int .i64 x.o) ∧ V.cell? ⟨g, 1, none⟩ = some (.int .i64 x.a) ∧ V.cell? ⟨g, 2, none⟩ = some (.int .i64 x.b) ∧ V.cell? ⟨g, 3, none⟩ = some (.int .i64 x.n)) 59 (by kernel_rfl) ?_
    have hC : (fun V : World => V.cell? ⟨g, 0, none⟩ = some (.int .i64 x.o) ∧ V.cell? ⟨g, 1, none⟩ = some (.int .i64 x.a) ∧ V.cell? ⟨g, 2, none⟩ = some (.int .i64 x.b) ∧ V.cell? ⟨g, 3, none⟩ = some (.int .i64 x.n)) w6.drew := in_blk0 SD.out
    refine Held.takeG 0 (v := ?_) hC rfl (by kernel_rfl) (by kernel_rfl) (by kernel_rfl) (by kernel_rfl) (fun _ _ _ h => h) rfl ?_ ?_; rotate_left; · (intro W hW; obtain ⟨k0, k1, k2, k3⟩ := hW; go_simp <;> with_reducible rfl)
    try simp only [Act.put, List.setIfInBounds_toArray, List.set_cons_zero, List.set_cons_succ]
    refine Held.takeG 2 (v := ?_) hC rfl (by kernel_rfl) (by kernel_rfl) (by kernel_rfl) (by kernel_rfl) (fun _ _ _ h => h) rfl ?_ ?_; rotate_left; · (intro W hW; obtain ⟨k0, k1, k2, k3⟩ := hW; go_simp <;> with_reducible rfl)
    try simp only [Act.put, List.setIfInBounds_toArray, List.set_cons_zero, List.set_cons_succ]
    refine Held.onlyG 1 (by kernel_rfl) rfl rfl ?_
    intro K hK
    go_simp
    refine (n_form I SD.out op HO.out Hfc.out).mono ?_
    rintro e SAw ⟨rfl, SAh⟩
    have SA : Hid (Sep (fun _ => False) w SAw [blk g (.cells #[.int .i64 x.o, .int .i64 x.a, .int .i64 x.b, .int .i64 x.n] 23), told inE (.slice A7 rn c7) rR, told inE (.slice A6 rn c6) rR, told byE (.slice A5 bn c5) bR, told byE (.slice A3 bn c3) bR]) := SAh
    clear SAh
    refine hK.out _ _ (fun _ => in_blk0 SA.out) ?_
    clear hK K
    try simp only [Act.put, List.setIfInBounds_toArray, List.set_cons_zero, List.set_cons_succ]
    have hC : (fun V : World => V.cell? ⟨g, 0, none⟩ = some (.int .i64 x.o) ∧ V.cell? ⟨g, 1, none⟩ = some (.int .i64 x.a) ∧ V.cell? ⟨g, 2, none⟩ = some (.int .i64 x.b) ∧ V.cell? ⟨g, 3, none⟩ = some (.int .i64 x.n)) SAw := in_blk0 SA.out
    refine Held.onlyG 3 (by kernel_rfl) rfl rfl ?_
    intro K hK
    go_simp
    refine (rn_form SA.out op Hfc.out).mono ?_
    rintro e SBw ⟨rfl, SBh⟩
    have SB : Hid (Sep (fun _ => False) w SBw [blk g (.cells #[.int .i64 x.o, .int .i64 x.a, .int .i64 x.b, .int .i64 x.n] 23), told inE (.slice A7 rn c7) rR, told inE (.slice A6 rn c6) rR, told byE (.slice A5 bn c5) bR, told byE (.slice A3 bn c3) bR]) := SBh
    clear SBh
    refine hK.out _ _ (fun _ => in_blk0 SB.out) ?_
    clear hK K
    try simp only [Act.put, List.setIfInBounds_toArray, List.set_cons_zero, List.set_cons_succ]
    have hC : (fun V : World => V.cell? ⟨g, 0, none⟩ = some (.int .i64 x.o) ∧ V.cell? ⟨g, 1, none⟩ = some (.int .i64 x.a) ∧ V.cell? ⟨g, 2, none⟩ = some (.int .i64 x.b) ∧ V.cell? ⟨g, 3, none⟩ = some (.int .i64 x.n)) SBw := in_blk0 SB.out
    refine Held.takeG 4 (v := ?_) hC rfl (by kernel_rfl) (by kernel_rfl) (by kernel_rfl) (by kernel_rfl) (fun _ _ _ h => h) rfl ?_ ?_; rotate_left; · (intro W hW; obtain ⟨k0, k1, k2, k3⟩ := hW; go_simp <;> with_reducible rfl)
    try simp only [Act.put, List.setIfInBounds_toArray, List.set_cons_zero, List.set_cons_succ]
    refine Held.takeG 5 (v := ?_) hC rfl (by kernel_rfl) (by kernel_rfl) (by kernel_rfl) (by kernel_rfl) (fun _ _ _ h => h) rfl ?_ ?_; rotate_left; · (intro W hW; obtain ⟨k0, k1, k2, k3⟩ := hW; go_simp <;> with_reducible rfl)
    try simp only [Act.put, List.setIfInBounds_toArray, List.set_cons_zero, List.set_cons_succ]
    refine Held.takeG 6 (v := ?_) hC rfl (by kernel_rfl) (by kernel_rfl) (by kernel_rfl) (by kernel_rfl) (fun _ _ _ h => h) rfl ?_ ?_; rotate_left; · (intro W hW; obtain ⟨k0, k1, k2, k3⟩ := hW; go_simp <;> with_reducible rfl)
    try simp only [Act.put, List.setIfInBounds_toArray, List.set_cons_zero, List.set_cons_succ]
    refine Held.takeG 7 (v := ?_) hC rfl (by kernel_rfl) (by kernel_rfl) (by kernel_rfl) (by kernel_rfl) (fun _ _ _ h => h) rfl ?_ ?_; rotate_left; · (intro W hW; obtain ⟨k0, k1, k2, k3⟩ := hW; go_simp <;> with_reducible rfl)
    try simp only [Act.put, List.setIfInBounds_toArray, List.set_cons_zero, List.set_cons_succ]
    refine Held.takeG 9 (v := ?_) hC rfl (by kernel_rfl) (by kernel_rfl) (by kernel_rfl) (by kernel_rfl) (fun _ _ _ h => h) rfl ?_ ?_; rotate_left; · (intro W hW; obtain ⟨k0, k1, k2, k3⟩ := hW; go_simp <;> with_reducible rfl)
    try simp only [Act.put, List.setIfInBounds_toArray, List.set_cons_zero, List.set_cons_succ]
    refine Held.takeG 10 (v := ?_) hC rfl (by kernel_rfl) (by kernel_rfl) (by kernel_rfl) (by kernel_rfl) (fun _ _ _ h => h) rfl ?_ ?_; rotate_left; · (intro W hW; obtain ⟨k0, k1, k2, k3⟩ := hW; go_simp <;> with_reducible rfl)
    try simp only [Act.put, List.setIfInBounds_toArray, List.set_cons_zero, List.set_cons_succ]
    refine Held.onlyG 8 (by kernel_rfl) rfl rfl ?_
    intro K hK
    go_simp
    refine (a_right I SB.out x kk HX.out HK.out Hbr.out).mono ?_
    rintro e SCw ⟨rfl, SCh⟩
    have SC : Hid (Sep (fun _ => False) w SCw [blk g (.cells #[.int .i64 x.o, .int .i64 x.a, .int .i64 x.b, .int .i64 x.n] 23), told inE (.slice A7 rn c7) rR, told inE (.slice A6 rn c6) rR, told byE (.slice A5 bn c5) bR, told byE (.slice A3 bn c3) bR]) := SCh
    clear SCh
    refine hK.out _ _ (fun _ => in_blk0 SC.out) ?_
    clear hK K
    try simp only [Act.put, List.setIfInBounds_toArray, List.set_cons_zero, List.set_cons_succ]
    have hC : (fun V : World => V.cell? ⟨g, 0, none⟩ = some (.int .i64 x.o) ∧ V.cell? ⟨g, 1, none⟩ = some (.int .i64 x.a) ∧ V.cell? ⟨g, 2, none⟩ = some (.int .i64 x.b) ∧ V.cell? ⟨g, 3, none⟩ = some (.int .i64 x.n)) SCw := in_blk0 SC.out
    refine Held.onlyG 11 (by kernel_rfl) rfl rfl ?_
    intro K hK
    go_simp
    refine (rn_right SC.out x kk Hbr.out).mono ?_
    rintro e SEw ⟨rfl, SEh⟩
    have SE : Hid (Sep (fun _ => False) w SEw [blk g (.cells #[.int .i64 x.o, .int .i64 x.a, .int .i64 x.b, .int .i64 x.n] 23), told inE (.slice A7 rn c7) rR, told inE (.slice A6 rn c6) rR, told byE (.slice A5 bn c5) bR, told byE (.slice A3 bn c3) bR]) := SEh
    clear SEh
    refine hK.out _ _ (fun _ => in_blk0 SE.out) ?_
    clear hK K
    try simp only [Act.put, List.setIfInBounds_toArray, List.set_cons_zero, List.set_cons_succ]
    have hC : (fun V : World => V.cell? ⟨g, 0, none⟩ = some (.int .i64 x.o) ∧ V.cell? ⟨g, 1, none⟩ = some (.int .i64 x.a) ∧ V.cell? ⟨g, 2, none⟩ = some (.int .i64 x.b) ∧ V.cell? ⟨g, 3, none⟩ = some (.int .i64 x.n)) SEw := in_blk0 SE.out
    refine Held.takeG 12 (v := ?_) hC rfl (by kernel_rfl) (by kernel_rfl) (by kernel_rfl) (by kernel_rfl) (fun _ _ _ h => h) rfl ?_ ?_; rotate_left; · (intro W hW; obtain ⟨k0, k1, k2, k3⟩ := hW; go_simp <;> with_reducible rfl)
    try simp only [Act.put, List.setIfInBounds_toArray, List.set_cons_zero, List.set_cons_succ]
    refine Held.takeG 13 (v := ?_) hC rfl (by kernel_rfl) (by kernel_rfl) (by kernel_rfl) (by kernel_rfl) (fun _ _ _ h => h) rfl ?_ ?_; rotate_left; · (intro W hW; obtain ⟨k0, k1, k2, k3⟩ := hW; go_simp <;> with_reducible rfl)
    try simp only [Act.put, List.setIfInBounds_toArray, List.set_cons_zero, List.set_cons_succ]
    refine Held.takeG 14 (v := ?_) hC rfl (by kernel_rfl) (by kernel_rfl) (by kernel_rfl) (by kernel_rfl) (fun _ _ _ h => h) rfl ?_ ?_; rotate_left; · (intro W hW; obtain ⟨k0, k1, k2, k3⟩ := hW; go_simp <;> with_reducible rfl)
    try simp only [Act.put, List.setIfInBounds_toArray, List.set_cons_zero, List.set_cons_succ]
    refine Held.takeG 15 (v := ?_) hC rfl (by kernel_rfl) (by kernel_rfl) (by kernel_rfl) (by kernel_rfl) (fun _ _ _ h => h) rfl ?_ ?_; rotate_left; · (intro W hW; obtain ⟨k0, k1, k2, k3⟩ := hW; go_simp <;> with_reducible rfl)
    try simp only [Act.put, List.setIfInBounds_toArray, List.set_cons_zero, List.set_cons_succ]
    refine Held.takeG 17 (v := ?_) hC rfl (by kernel_rfl) (by kernel_rfl) (by kernel_rfl) (by kernel_rfl) (fun _ _ _ h => h) rfl ?_ ?_; rotate_left; · (intro W hW; obtain ⟨k0, k1, k2, k3⟩ := hW; go_simp <;> with_reducible rfl)
    try simp only [Act.put, List.setIfInBounds_toArray, List.set_cons_zero, List.set_cons_succ]
    refine Held.onlyG 16 (by kernel_rfl) rfl rfl ?_
    intro K hK
    go_simp
    refine (a_may I SE.out R0.out f0 I0.out Hbm.out).mono ?_
    rintro e SFw ⟨rfl, SFh⟩
    have SF : Hid (Sep (fun _ => False) w SFw [blk g (.cells #[.int .i64 x.o, .int .i64 x.a, .int .i64 x.b, .int .i64 x.n] 23), told inE (.slice A7 rn c7) rR, told inE (.slice A6 rn c6) rR, told byE (.slice A5 bn c5) bR, told byE (.slice A3 bn c3) bR]) := SFh
    clear SFh
    refine hK.out _ _ (fun _ => in_blk0 SF.out) ?_
    clear hK K
    try simp only [Act.put, List.setIfInBounds_toArray, List.set_cons_zero, List.set_cons_succ]
    have hC : (fun V : World => V.cell? ⟨g, 0, none⟩ = some (.int .i64 x.o) ∧ V.cell? ⟨g, 1, none⟩ = some (.int .i64 x.a) ∧ V.cell? ⟨g, 2, none⟩ = some (.int .i64 x.b) ∧ V.cell? ⟨g, 3, none⟩ = some (.int .i64 x.n)) SFw := in_blk0 SF.out
    refine Held.onlyG 18 (by kernel_rfl) rfl rfl ?_
    intro K hK
    go_simp
    refine (a_own SF.out R0.out (by rw [L0.out]; omega)).mono ?_
    rintro e SGw ⟨A8, c8, rfl, SGh⟩
    have SG : Hid (Sep (fun _ => False) w SGw [blk g (.cells #[.int .i64 x.o, .int .i64 x.a, .int .i64 x.b, .int .i64 x.n] 23), told inE (.slice A8 n0 c8) l, told inE (.slice A7 rn c7) rR, told inE (.slice A6 rn c6) rR, told byE (.slice A5 bn c5) bR, told byE (.slice A3 bn c3) bR]) := SGh.swap
    clear SGh
    refine hK.out _ _ (fun _ => in_blk0 SG.out) ?_
    clear hK K
    try simp only [Act.put, List.setIfInBounds_toArray, List.set_cons_zero, List.set_cons_succ]
    have hC : (fun V : World => V.cell? ⟨g, 0, none⟩ = some (.int .i64 x.o) ∧ V.cell? ⟨g, 1, none⟩ = some (.int .i64 x.a) ∧ V.cell? ⟨g, 2, none⟩ = some (.int .i64 x.b) ∧ V.cell? ⟨g, 3, none⟩ = some (.int .i64 x.n)) SGw := in_blk0 SG.out
    refine Held.onlyG 19 (by kernel_rfl) rfl rfl ?_
    intro K hK
    go_simp
    refine (rn_may SG.out 1 rfl Hbm.out).mono ?_
    rintro e SHw ⟨rfl, SHh⟩
    have SH : Hid (Sep (fun _ => False) w SHw [blk g (.cells #[.int .i64 x.o, .int .i64 x.a, .int .i64 x.b, .int .i64 x.n] 23), told inE (.slice A8 n0 c8) l, told inE (.slice A7 rn c7) rR, told inE (.slice A6 rn c6) rR, told byE (.slice A5 bn c5) bR, told byE (.slice A3 bn c3) bR]) := SHh
    clear SHh
    refine hK.out _ _ (fun _ => in_blk0 SH.out) ?_
    clear hK K
    try simp only [Act.put, List.setIfInBounds_toArray, List.set_cons_zero, List.set_cons_succ]
    have hC : (fun V : World => V.cell? ⟨g, 0, none⟩ = some (.int .i64 x.o) ∧ V.cell? ⟨g, 1, none⟩ = some (.int .i64 x.a) ∧ V.cell? ⟨g, 2, none⟩ = some (.int .i64 x.b) ∧ V.cell? ⟨g, 3, none⟩ = some (.int .i64 x.n)) SHw := in_blk0 SH.out
    refine Held.takeG 20 (v := ?_) hC rfl (by kernel_rfl) (by kernel_rfl) (by kernel_rfl) (by kernel_rfl) (fun _ _ _ h => h) rfl ?_ ?_; rotate_left; · (intro W hW; obtain ⟨k0, k1, k2, k3⟩ := hW; go_simp <;> with_reducible rfl)
    try simp only [Act.put, List.setIfInBounds_toArray, List.set_cons_zero, List.set_cons_succ]
    refine Held.takeG 21 (v := ?_) hC rfl (by kernel_rfl) (by kernel_rfl) (by kernel_rfl) (by kernel_rfl) (fun _ _ _ h => h) rfl ?_ ?_; rotate_left; · (intro W hW; obtain ⟨k0, k1, k2, k3⟩ := hW; go_simp <;> with_reducible rfl)
    try simp only [Act.put, List.setIfInBounds_toArray, List.set_cons_zero, List.set_cons_succ]
    refine Held.takeG 22 (v := ?_) hC rfl (by kernel_rfl) (by kernel_rfl) (by kernel_rfl) (by kernel_rfl) (fun _ _ _ h => h) rfl ?_ ?_; rotate_left; · (intro W hW; obtain ⟨k0, k1, k2, k3⟩ := hW; go_simp <;> with_reducible rfl)
    try simp only [Act.put, List.setIfInBounds_toArray, List.set_cons_zero, List.set_cons_succ]
    refine Held.takeG 23 (v := ?_) hC rfl (by kernel_rfl) (by kernel_rfl) (by kernel_rfl) (by kernel_rfl) (fun _ _ _ h => h) rfl ?_ ?_; rotate_left; · (intro W hW; obtain ⟨k0, k1, k2, k3⟩ := hW; go_simp <;> with_reducible rfl)
    try simp only [Act.put, List.setIfInBounds_toArray, List.set_cons_zero, List.set_cons_succ]
    refine Held.takeG 24 (v := ?_) hC rfl (by kernel_rfl) (by kernel_rfl) (by kernel_rfl) (by kernel_rfl) (fun _ _ _ h => h) rfl ?_ ?_; rotate_left; · (intro W hW; obtain ⟨k0, k1, k2, k3⟩ := hW; go_simp <;> with_reducible rfl)
    try simp only [Act.put, List.setIfInBounds_toArray, List.set_cons_zero, List.set_cons_succ]
    refine Held.onlyG 25 (by kernel_rfl) rfl rfl ?_
    intro K hK
    go_simp
    refine (rn_sameB SH.out 5 4 rfl rfl (r := true) (decide_eq_true rfl)).mono ?_
    rintro e SIw ⟨rfl, SIh⟩
    have SI : Hid (Sep (fun _ => False) w SIw [blk g (.cells #[.int .i64 x.o, .int .i64 x.a, .int .i64 x.b, .int .i64 x.n] 23), told inE (.slice A8 n0 c8) l, told inE (.slice A7 rn c7) rR, told inE (.slice A6 rn c6) rR, told byE (.slice A5 bn c5) bR, told byE (.slice A3 bn c3) bR]) := SIh
    clear SIh
    refine hK.out _ _ (fun _ => in_blk0 SI.out) ?_
    clear hK K
    try simp only [Act.put, List.setIfInBounds_toArray, List.set_cons_zero, List.set_cons_succ]
    have hC : (fun V : World => V.cell? ⟨g, 0, none⟩ = some (.int .i64 x.o) ∧ V.cell? ⟨g, 1, none⟩ = some (.int .i64 x.a) ∧ V.cell? ⟨g, 2, none⟩ = some (.int .i64 x.b) ∧ V.cell? ⟨g, 3, none⟩ = some (.int .i64 x.n)) SIw := in_blk0 SI.out
    refine Held.takeG 26 (v := ?_) hC rfl (by kernel_rfl) (by kernel_rfl) (by kernel_rfl) (by kernel_rfl) (fun _ _ _ h => h) rfl ?_ ?_; rotate_left; · (intro W hW; obtain ⟨k0, k1, k2, k3⟩ := hW; go_simp <;> with_reducible rfl)
    try simp only [Act.put, List.setIfInBounds_toArray, List.set_cons_zero, List.set_cons_succ]
    refine Held.takeG 27 (v := ?_) hC rfl (by kernel_rfl) (by kernel_rfl) (by kernel_rfl) (by kernel_rfl) (fun _ _ _ h => h) rfl ?_ ?_; rotate_left; · (intro W hW; obtain ⟨k0, k1, k2, k3⟩ := hW; go_simp <;> with_reducible rfl)
    try simp only [Act.put, List.setIfInBounds_toArray, List.set_cons_zero, List.set_cons_succ]
    refine Held.takeG 28 (v := ?_) hC rfl (by kernel_rfl) (by kernel_rfl) (by kernel_rfl) (by kernel_rfl) (fun _ _ _ h => h) rfl ?_ ?_; rotate_left; · (intro W hW; obtain ⟨k0, k1, k2, k3⟩ := hW; go_simp <;> with_reducible rfl)
    try simp only [Act.put, List.setIfInBounds_toArray, List.set_cons_zero, List.set_cons_succ]
    refine Held.takeG 29 (v := ?_) hC rfl (by kernel_rfl) (by kernel_rfl) (by kernel_rfl) (by kernel_rfl) (fun _ _ _ h => h) rfl ?_ ?_; rotate_left; · (intro W hW; obtain ⟨k0, k1, k2, k3⟩ := hW; go_simp <;> with_reducible rfl)
    try simp only [Act.put, List.setIfInBounds_toArray, List.set_cons_zero, List.set_cons_succ]
    refine Held.takeG 30 (v := ?_) hC rfl (by kernel_rfl) (by kernel_rfl) (by kernel_rfl) (by kernel_rfl) (fun _ _ _ h => h) rfl ?_ ?_; rotate_left; · (intro W hW; obtain ⟨k0, k1, k2, k3⟩ := hW; go_simp <;> with_reducible rfl)
    try simp only [Act.put, List.setIfInBounds_toArray, List.set_cons_zero, List.set_cons_succ]
    refine Held.takeG 31 (v := ?_) hC rfl (by kernel_rfl) (by kernel_rfl) (by kernel_rfl) (by kernel_rfl) (fun _ _ _ h => h) rfl ?_ ?_; rotate_left; · (intro W hW; obtain ⟨k0, k1, k2, k3⟩ := hW; go_simp <;> with_reducible rfl)
    try simp only [Act.put, List.setIfInBounds_toArray, List.set_cons_zero, List.set_cons_succ]
    refine Held.takeG 32 (v := ?_) hC rfl (by kernel_rfl) (by kernel_rfl) (by kernel_rfl) (by kernel_rfl) (fun _ _ _ h => h) rfl ?_ ?_; rotate_left; · (intro W hW; obtain ⟨k0, k1, k2, k3⟩ := hW; go_simp <;> with_reducible rfl)
    try simp only [Act.put, List.setIfInBounds_toArray, List.set_cons_zero, List.set_cons_succ]
    refine Held.takeG 33 (v := ?_) hC rfl (by kernel_rfl) (by kernel_rfl) (by kernel_rfl) (by kernel_rfl) (fun _ _ _ h => h) rfl ?_ ?_; rotate_left; · (intro W hW; obtain ⟨k0, k1, k2, k3⟩ := hW; go_simp <;> with_reducible rfl)
    try simp only [Act.put, List.setIfInBounds_toArray, List.set_cons_zero, List.set_cons_succ]
    refine Held.takeG 35 (v := ?_) hC rfl (by kernel_rfl) (by kernel_rfl) (by kernel_rfl) (by kernel_rfl) (fun _ _ _ h => h) rfl ?_ ?_; rotate_left; · (intro W hW; obtain ⟨k0, k1, k2, k3⟩ := hW; go_simp <;> with_reducible rfl)
    try simp only [Act.put, List.setIfInBounds_toArray, List.set_cons_zero, List.set_cons_succ]
    refine Held.onlyG 34 (by kernel_rfl) rfl rfl ?_
    intro K hK
    go_simp
    refine (n_own SI.out 3 rfl (by have := HRL.out; omega) Hrn.out).mono ?_
    rintro e SJw ⟨A9, c9, rfl, SJh⟩
    have SJ : Hid (Sep (fun _ => False) w SJw [blk g (.cells #[.int .i64 x.o, .int .i64 x.a, .int .i64 x.b, .int .i64 x.n] 23), told inE (.slice A9 rn c9) rR, told inE (.slice A8 n0 c8) l, told inE (.slice A7 rn c7) rR, told inE (.slice A6 rn c6) rR, told byE (.slice A5 bn c5) bR, told byE (.slice A3 bn c3) bR]) := SJh.swap
    clear SJh
    refine hK.out _ _ (fun _ => in_blk0 SJ.out) ?_
    clear hK K
    try simp only [Act.put, List.setIfInBounds_toArray, List.set_cons_zero, List.set_cons_succ]
    have hC : (fun V : World => V.cell? ⟨g, 0, none⟩ = some (.int .i64 x.o) ∧ V.cell? ⟨g, 1, none⟩ = some (.int .i64 x.a) ∧ V.cell? ⟨g, 2, none⟩ = some (.int .i64 x.b) ∧ V.cell? ⟨g, 3, none⟩ = some (.int .i64 x.n)) SJw := in_blk0 SJ.out
    refine Held.onlyG 36 (by kernel_rfl) rfl rfl ?_
    intro K hK
    go_simp
    refine (rn_same SJ.out 1 3 rfl rfl (r := true) (decide_eq_true rfl)).mono ?_
    rintro e SKw ⟨rfl, SKh⟩
    have SK : Hid (Sep (fun _ => False) w SKw [blk g (.cells #[.int .i64 x.o, .int .i64 x.a, .int .i64 x.b, .int .i64 x.n] 23), told inE (.slice A9 rn c9) rR, told inE (.slice A8 n0 c8) l, told inE (.slice A7 rn c7) rR, told inE (.slice A6 rn c6) rR, told byE (.slice A5 bn c5) bR, told byE (.slice A3 bn c3) bR]) := SKh
    clear SKh
    refine hK.out _ _ (fun _ => in_blk0 SK.out) ?_
    clear hK K
    try simp only [Act.put, List.setIfInBounds_toArray, List.set_cons_zero, List.set_cons_succ]
    have hC : (fun V : World => V.cell? ⟨g, 0, none⟩ = some (.int .i64 x.o) ∧ V.cell? ⟨g, 1, none⟩ = some (.int .i64 x.a) ∧ V.cell? ⟨g, 2, none⟩ = some (.int .i64 x.b) ∧ V.cell? ⟨g, 3, none⟩ = some (.int .i64 x.n)) SKw := in_blk0 SK.out
    refine Held.takeG 37 (v := ?_) hC rfl (by kernel_rfl) (by kernel_rfl) (by kernel_rfl) (by kernel_rfl) (fun _ _ _ h => h) rfl ?_ ?_; rotate_left; · (intro W hW; obtain ⟨k0, k1, k2, k3⟩ := hW; go_simp <;> with_reducible rfl)
    try simp only [Act.put, List.setIfInBounds_toArray, List.set_cons_zero, List.set_cons_succ]
    refine Held.takeG 38 (v := ?_) hC rfl (by kernel_rfl) (by kernel_rfl) (by kernel_rfl) (by kernel_rfl) (fun _ _ _ h => h) rfl ?_ ?_; rotate_left; · (intro W hW; obtain ⟨k0, k1, k2, k3⟩ := hW; go_simp <;> with_reducible rfl)
    try simp only [Act.put, List.setIfInBounds_toArray, List.set_cons_zero, List.set_cons_succ]
    refine Held.takeG 39 (v := ?_) hC rfl (by kernel_rfl) (by kernel_rfl) (by kernel_rfl) (by kernel_rfl) (fun _ _ _ h => h) rfl ?_ ?_; rotate_left; · (intro W hW; obtain ⟨k0, k1, k2, k3⟩ := hW; go_simp <;> with_reducible rfl)
    try simp only [Act.put, List.setIfInBounds_toArray, List.set_cons_zero, List.set_cons_succ]
    refine Held.takeG 40 (v := ?_) hC rfl (by kernel_rfl) (by kernel_rfl) (by kernel_rfl) (by kernel_rfl) (fun _ _ _ h => h) rfl ?_ ?_; rotate_left; · (intro W hW; obtain ⟨k0, k1, k2, k3⟩ := hW; go_simp <;> with_reducible rfl)
    try simp only [Act.put, List.setIfInBounds_toArray, List.set_cons_zero, List.set_cons_succ]
    refine Held.takeG 41 (v := ?_) hC rfl (by kernel_rfl) (by kernel_rfl) (by kernel_rfl) (by kernel_rfl) (fun _ _ _ h => h) rfl ?_ ?_; rotate_left; · (intro W hW; obtain ⟨k0, k1, k2, k3⟩ := hW; go_simp <;> with_reducible rfl)
    try simp only [Act.put, List.setIfInBounds_toArray, List.set_cons_zero, List.set_cons_succ]
    refine Held.takeG 42 (v := ?_) hC rfl (by kernel_rfl) (by kernel_rfl) (by kernel_rfl) (by kernel_rfl) (fun _ _ _ h => h) rfl ?_ ?_; rotate_left; · (intro W hW; obtain ⟨k0, k1, k2, k3⟩ := hW; go_simp <;> with_reducible rfl)
    try simp only [Act.put, List.setIfInBounds_toArray, List.set_cons_zero, List.set_cons_succ]
    refine Held.takeG 43 (v := ?_) hC rfl (by kernel_rfl) (by kernel_rfl) (by kernel_rfl) (by kernel_rfl) (fun _ _ _ h => h) rfl ?_ ?_; rotate_left; · (intro W hW; obtain ⟨k0, k1, k2, k3⟩ := hW; go_simp <;> with_reducible rfl)
    try simp only [Act.put, List.setIfInBounds_toArray, List.set_cons_zero, List.set_cons_succ]
    refine Held.takeG 44 (v := ?_) hC rfl (by kernel_rfl) (by kernel_rfl) (by kernel_rfl) (by kernel_rfl) (fun _ _ _ h => h) rfl ?_ ?_; rotate_left; · (intro W hW; obtain ⟨k0, k1, k2, k3⟩ := hW; go_simp <;> with_reducible rfl)
    try simp only [Act.put, List.setIfInBounds_toArray, List.set_cons_zero, List.set_cons_succ]
    refine Held.takeG 45 (v := ?_) hC rfl (by kernel_rfl) (by kernel_rfl) (by kernel_rfl) (by kernel_rfl) (fun _ _ _ h => h) rfl ?_ ?_; rotate_left; · (intro W hW; obtain ⟨k0, k1, k2, k3⟩ := hW; go_simp <;> with_reducible rfl)
    try simp only [Act.put, List.setIfInBounds_toArray, List.set_cons_zero, List.set_cons_succ]
    refine Held.takeG 46 (v := ?_) hC rfl (by kernel_rfl) (by kernel_rfl) (by kernel_rfl) (by kernel_rfl) (fun _ _ _ h => h) rfl ?_ ?_; rotate_left; · (intro W hW; obtain ⟨k0, k1, k2, k3⟩ := hW; go_simp <;> with_reducible rfl)
    try simp only [Act.put, List.setIfInBounds_toArray, List.set_cons_zero, List.set_cons_succ]
    refine Held.takeG 47 (v := ?_) hC rfl (by kernel_rfl) (by kernel_rfl) (by kernel_rfl) (by kernel_rfl) (fun _ _ _ h => h) rfl ?_ ?_; rotate_left; · (intro W hW; obtain ⟨k0, k1, k2, k3⟩ := hW; go_simp <;> with_reducible rfl)
    try simp only [Act.put, List.setIfInBounds_toArray, List.set_cons_zero, List.set_cons_succ]
    refine Held.takeG 48 (v := ?_) hC rfl (by kernel_rfl) (by kernel_rfl) (by kernel_rfl) (by kernel_rfl) (fun _ _ _ h => h) rfl ?_ ?_; rotate_left; · (intro W hW; obtain ⟨k0, k1, k2, k3⟩ := hW; go_simp <;> with_reducible rfl)
    try simp only [Act.put, List.setIfInBounds_toArray, List.set_cons_zero, List.set_cons_succ]
    refine Held.takeG 49 (v := ?_) hC rfl (by kernel_rfl) (by kernel_rfl) (by kernel_rfl) (by kernel_rfl) (fun _ _ _ h => h) rfl ?_ ?_; rotate_left; · (intro W hW; obtain ⟨k0, k1, k2, k3⟩ := hW; go_simp <;> with_reducible rfl)
    try simp only [Act.put, List.setIfInBounds_toArray, List.set_cons_zero, List.set_cons_succ]
    refine Held.takeG 50 (v := ?_) hC rfl (by kernel_rfl) (by kernel_rfl) (by kernel_rfl) (by kernel_rfl) (fun _ _ _ h => h) rfl ?_ ?_; rotate_left; · (intro W hW; obtain ⟨k0, k1, k2, k3⟩ := hW; go_simp <;> with_reducible rfl)
    try simp only [Act.put, List.setIfInBounds_toArray, List.set_cons_zero, List.set_cons_succ]
    refine Held.takeG 52 (v := ?_) hC rfl (by kernel_rfl) (by kernel_rfl) (by kernel_rfl) (by kernel_rfl) (fun _ _ _ h => h) rfl ?_ ?_; rotate_left; · (intro W hW; obtain ⟨k0, k1, k2, k3⟩ := hW; go_simp <;> with_reducible rfl)
    try simp only [Act.put, List.setIfInBounds_toArray, List.set_cons_zero, List.set_cons_succ]
    refine Held.takeG 54 (v := ?_) hC rfl (by kernel_rfl) (by kernel_rfl) (by kernel_rfl) (by kernel_rfl) (fun _ _ _ h => h) rfl ?_ ?_; rotate_left; · (intro W hW; obtain ⟨k0, k1, k2, k3⟩ := hW; go_simp <;> with_reducible rfl)
    try simp only [Act.put, List.setIfInBounds_toArray, List.set_cons_zero, List.set_cons_succ]
    refine Held.onlyG 51 (by kernel_rfl) rfl rfl ?_
    intro K hK
    go_simp
    refine (a_same I SK.out R0.out f0 R1.out f1 I0.out I1.out Hbs.out).mono ?_
    rintro e SLw ⟨rfl, SLh⟩
    have SL : Hid (Sep (fun _ => False) w SLw [blk g (.cells #[.int .i64 x.o, .int .i64 x.a, .int .i64 x.b, .int .i64 x.n] 23), told inE (.slice A9 rn c9) rR, told inE (.slice A8 n0 c8) l, told inE (.slice A7 rn c7) rR, told inE (.slice A6 rn c6) rR, told byE (.slice A5 bn c5) bR, told byE (.slice A3 bn c3) bR]) := SLh
    clear SLh
    refine hK.out _ _ (fun _ => in_blk0 SL.out) ?_
    clear hK K
    try simp only [Act.put, List.setIfInBounds_toArray, List.set_cons_zero, List.set_cons_succ]
    have hC : (fun V : World => V.cell? ⟨g, 0, none⟩ = some (.int .i64 x.o) ∧ V.cell? ⟨g, 1, none⟩ = some (.int .i64 x.a) ∧ V.cell? ⟨g, 2, none⟩ = some (.int .i64 x.b) ∧ V.cell? ⟨g, 3, none⟩ = some (.int .i64 x.n)) SLw := in_blk0 SL.out
    refine Held.onlyG 53 (by kernel_rfl) rfl rfl ?_
    intro K hK
    go_simp
    refine (a_own SL.out R0.out (by rw [L0.out]; omega)).mono ?_
    rintro e SMw ⟨A10, c10, rfl, SMh⟩
    have SM : Hid (Sep (fun _ => False) w SMw [blk g (.cells #[.int .i64 x.o, .int .i64 x.a, .int .i64 x.b, .int .i64 x.n] 23), told inE (.slice A10 n0 c10) l, told inE (.slice A9 rn c9) rR, told inE (.slice A8 n0 c8) l, told inE (.slice A7 rn c7) rR, told inE (.slice A6 rn c6) rR, told byE (.slice A5 bn c5) bR, told byE (.slice A3 bn c3) bR]) := SMh.swap
    clear SMh
    refine hK.out _ _ (fun _ => in_blk0 SM.out) ?_
    clear hK K
    try simp only [Act.put, List.setIfInBounds_toArray, List.set_cons_zero, List.set_cons_succ]
    have hC : (fun V : World => V.cell? ⟨g, 0, none⟩ = some (.int .i64 x.o) ∧ V.cell? ⟨g, 1, none⟩ = some (.int .i64 x.a) ∧ V.cell? ⟨g, 2, none⟩ = some (.int .i64 x.b) ∧ V.cell? ⟨g, 3, none⟩ = some (.int .i64 x.n)) SMw := in_blk0 SM.out
    refine Held.onlyG 55 (by kernel_rfl) rfl rfl ?_
    intro K hK
    go_simp
    refine (a_own SM.out R1.out (by rw [L1.out]; omega)).mono ?_
    rintro e SNw ⟨A11, c11, rfl, SNh⟩
    have SN : Hid (Sep (fun _ => False) w SNw [blk g (.cells #[.int .i64 x.o, .int .i64 x.a, .int .i64 x.b, .int .i64 x.n] 23), told inE (.slice A11 n1 c11) m, told inE (.slice A10 n0 c10) l, told inE (.slice A9 rn c9) rR, told inE (.slice A8 n0 c8) l, told inE (.slice A7 rn c7) rR, told inE (.slice A6 rn c6) rR, told byE (.slice A5 bn c5) bR, told byE (.slice A3 bn c3) bR]) := SNh.swap
    clear SNh
    refine hK.out _ _ (fun _ => in_blk0 SN.out) ?_
    clear hK K
    try simp only [Act.put, List.setIfInBounds_toArray, List.set_cons_zero, List.set_cons_succ]
    have hC : (fun V : World => V.cell? ⟨g, 0, none⟩ = some (.int .i64 x.o) ∧ V.cell? ⟨g, 1, none⟩ = some (.int .i64 x.a) ∧ V.cell? ⟨g, 2, none⟩ = some (.int .i64 x.b) ∧ V.cell? ⟨g, 3, none⟩ = some (.int .i64 x.n)) SNw := in_blk0 SN.out
    refine Held.onlyG 56 (by kernel_rfl) rfl rfl ?_
    intro K hK
    go_simp
    refine (rn_same SN.out 2 1 rfl rfl Hbs.out).mono ?_
    rintro e SOw ⟨rfl, SOh⟩
    have SO : Hid (Sep (fun _ => False) w SOw [blk g (.cells #[.int .i64 x.o, .int .i64 x.a, .int .i64 x.b, .int .i64 x.n] 23), told inE (.slice A11 n1 c11) m, told inE (.slice A10 n0 c10) l, told inE (.slice A9 rn c9) rR, told inE (.slice A8 n0 c8) l, told inE (.slice A7 rn c7) rR, told inE (.slice A6 rn c6) rR, told byE (.slice A5 bn c5) bR, told byE (.slice A3 bn c3) bR]) := SOh
    clear SOh
    refine hK.out _ _ (fun _ => in_blk0 SO.out) ?_
    clear hK K
    try simp only [Act.put, List.setIfInBounds_toArray, List.set_cons_zero, List.set_cons_succ]
    have hC : (fun V : World => V.cell? ⟨g, 0, none⟩ = some (.int .i64 x.o) ∧ V.cell? ⟨g, 1, none⟩ = some (.int .i64 x.a) ∧ V.cell? ⟨g, 2, none⟩ = some (.int .i64 x.b) ∧ V.cell? ⟨g, 3, none⟩ = some (.int .i64 x.n)) SOw := in_blk0 SO.out
    refine Held.takeG 57 (v := ?_) hC rfl (by kernel_rfl) (by kernel_rfl) (by kernel_rfl) (by kernel_rfl) (fun _ _ _ h => h) rfl ?_ ?_; rotate_left; · (intro W hW; obtain ⟨k0, k1, k2, k3⟩ := hW; go_simp <;> with_reducible rfl)
    try simp only [Act.put, List.setIfInBounds_toArray, List.set_cons_zero, List.set_cons_succ]
    refine Held.takeG 58 (v := ?_) hC rfl (by kernel_rfl) (by kernel_rfl) (by kernel_rfl) (by kernel_rfl) (fun _ _ _ h => h) rfl ?_ ?_; rotate_left; · (intro W hW; obtain ⟨k0, k1, k2, k3⟩ := hW; go_simp <;> with_reducible rfl)
    try simp only [Act.put, List.setIfInBounds_toArray, List.set_cons_zero, List.set_cons_succ]
    refine Held.only 59 (by kernel_rfl) rfl ?_
    intro K hK
    go_simp
    refine hK.out _ _ (fun h => absurd rfl h) ?_
    clear hK K
    try simp only [Act.put]
    refine Held.done (by kernel_rfl) ?_ _
    go_wp2_with fail
    go_ret
    exact ⟨rfl, SO.out.old⟩
end Go.Proofs.YtoblkoljaeobkaaDoor.CodeI
