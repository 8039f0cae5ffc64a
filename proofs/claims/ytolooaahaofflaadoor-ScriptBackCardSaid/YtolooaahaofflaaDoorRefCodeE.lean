/-
  Contracts of the functions of package countermandref16 (the document's answer for layer 16), fifth part: Bytes. Condition: what the slices read as.
-/
import Derived.Test.YtolooaahaofflaaDoorRefCodeD
import Derived.Test.YtolooaahaofflaaDoorHeld
namespace Go.Proofs.YtolooaahaofflaaDoor.RefCode
open Go.ChangeShapes Go.WideShapes Go.ChangeAt Go.RowKit Mem MutP CodeP Hand

/-- 'append', of a slice of one's own, as one operation. -/
theorem wp_appC {α : Type} {E : Enc α} {B : Nat → Prop} {w wk : World} {Rs : List Res} {P : Program} {o : Oper} {a : Act} {K : Act → World → Prop} {Q : Exit → Act → World → Prop} {xs ys : List α} {v sv : Value} {G : Nat → Prop} (s x : Operand) {t e : TypeId} (he : Elem E P t e)
    (ho : o.op = .call { callee := .builtin .append, args := #[s, x], argTypes := #[t, t] }) (hs : a.eval s = v) (hx : a.eval x = sv) (h : Sep B w wk Rs) (i : Nat) (hi : Rs[i]? = some (grow E e v xs)) (hr : RdL E wk G sv ys) (hlen : xs.length + ys.length ≤ 1000000)
    (hK : ∀ A c wn l, Hid (l = xs ++ ys) → Sep B w wn (Rs.set i (grow E e (.slice A l.length c) l)) → K (a.put o.dst (.slice A l.length c)) wn) : o.wp P a wk K Q :=
  wp_appL s x he ho hs hx (h.own i hi) hr hlen (Nat.zero_le _) fun v' w' h2 h3 h4 => by
    obtain ⟨A, c, rfl⟩ := h2.form
    exact hK A c w' _ rfl (h.grown i hi h2 h3 h4)
theorem results_tmp2c {fn : Func} {t u : Tmp} (h : fn.results = #[.tmp t, .tmp u]) (tmps : Array Value) (P : Program) (w : World) :
    (results fn tmps).run P w = .ok (.tuple #[tmps.getD t undef, tmps.getD u undef]) w := by
  simp [results, h]
theorem body_snoc (l : List In) (x : In) : bodyL (l ++ [x]) = bodyL l ++ insL x := by unfold bodyL; rw [List.flatMap_append]; simp
theorem lit_growC {α : Type} {E : Enc α} {B : Nat → Prop} {w wk : World} {Rs : List Res} (h : Sep B w wk Rs) (e : TypeId) (x : α) {cs : Array Value} (hc : cs.toList = E.cells x) : Sep B w (wk.alloc (.cells cs e)) (grow E e (.slice (some ⟨wk.heap.size, 0, none⟩) 1 1) [x] :: Rs) :=
  h.add (new_below0 wk _) (R := grow E e _ [x]) ⟨OwnL.lit1 wk 0 e x hc (Nat.zero_le _), rfl⟩ fun k hk => by simp [Value.ownBlock] at hk; omega
/-- A slice at hand that is to be told at the end. -/
theorem says_grow {α : Type} {E : Enc α} {w wk : World} {e : TypeId} {v : Value} {l : List α} (h : Sep (fun _ => False) w wk [grow E e v l]) (hl : l.length ≤ 1000000) : SaysL E w wk v l := by
  obtain ⟨F, ⟨h1, rfl⟩, hF, _⟩ := h.upd 0 rfl
  exact ⟨h1.rd hl fun k hk => (hF k hk).resolve_left id, h.old⟩
/-- A slice's length is no more than its capacity. -/
def FitsV (v : Value) : Prop := ∀ A n c, v = .slice A n c → n ≤ c
theorem fits_nil : FitsV (.slice none 0 0) := fun A n c e => by injection e with _ e2 e3; omega
theorem fits_grow {α : Type} {E : Enc α} {w wk : World} {B : Nat → Prop} {Rs : List Res} {e : TypeId} {v : Value} {l : List α} (h : Sep B w wk (grow E e v l :: Rs)) : FitsV v := fits_ownL (h.own 0 rfl)
theorem says_nil {α : Type} (E : Enc α) {w wk : World} (h : Below w.heap.size w wk) : SaysL E w wk (.slice none 0 0) [] := ⟨RdL.nil _ _ _ _, h⟩

set_option maxRecDepth 100000 in
set_option maxHeartbeats 1000000 in
theorem bytes_r {w : World} {G : Nat → Prop} {A : Option Addr} {c : Nat} {l : List In} (h : RdL inE w G (.slice A l.length c) l) (hin : ∀ x ∈ l, InIn x) :
    Calls Tryd.prog 25 #[.slice A l.length c] w fun e w' => ∃ u, e = .returned (.tuple #[u, .int .i64 (bytesE l)]) ∧ SaysL byE w w' u (bytesR l) ∧ FitsV u := by
  have HC := Lib.hid (may_c h)
  have HR := Lib.hid h
  have HI := Lib.hid hin
  clear h hin
  obtain ⟨n, hn⟩ : ∃ n, l.length = n := ⟨_, rfl⟩
  have HN := Lib.hid hn
  rw [hn] at HC HR ⊢
  clear hn
  cases hm : mayB l with
  | false =>
    rw [hm] at HC
    have HE : Hid (bytesE l = 1 ∧ bytesR l = []) := by show _ ∧ _; unfold bytesE bytesR; rw [hm]; exact ⟨rfl, rfl⟩
    clear hm
    go_enter Tryd.func25, Tryd.ntmps25
    go_wp2_with fail
    refine HC.out.mono ?_
    rintro e w1 ⟨rfl, h1⟩
    have HB := Lib.hid h1
    clear h1
    go_wp2
    (try simp only [Exit.inBlock, Exit.then])
    refine bodyPost_ret (results_tmp2c rfl _ _ _) rfl ?_
    refine ⟨_, by rw [HE.out.1]; rfl, ?_⟩
    rw [HE.out.2]
    exact ⟨says_nil byE HB.out, fits_nil⟩
  | true =>
    rw [hm] at HC
    have HE : Hid (bytesE l = 0 ∧ bytesR l = bytesL l) := by show _ ∧ _; unfold bytesE bytesR; rw [hm]; exact ⟨rfl, rfl⟩
    obtain ⟨hr, n1, n24⟩ := may_iff.1 hm
    have HA := Lib.hid hr
    rw [HN.out] at n1 n24
    clear hm hr
    go_enter Tryd.func25, Tryd.ntmps25
    go_wp2_with fail
    refine HC.out.mono ?_
    rintro e w1 ⟨rfl, h1⟩
    have HB1 := Lib.hid h1
    clear h1 HC
    have S0 : Hid (Sep (fun _ => False) w (w1.alloc (.cells #[.int .u8 (n : Int)] 5)) [grow byE 5 (.slice (some ⟨w1.heap.size, 0, none⟩) 1 1) [(n : Int)]]) := lit_growC ((Sep.nil (fun _ => False) w).next HB1.out) 5 (n : Int) (cs := #[.int .u8 (n : Int)]) rfl
    go_wp2
    go_loopw [4, 5] (fun u v wr => ∃ i : Nat, i ≤ n ∧ v = .int .i64 (i : Int) ∧ Hid (∃ A c, u = .slice A (1 + 11 * i) c ∧ Sep (fun _ => False) w wr [grow byE 5 (.slice A (1 + 11 * i) c) ((n : Int) :: bodyL (l.take i))])) (fun _ v _ => n - (intOf v).toNat)
    case atStart => exact ⟨0, Nat.zero_le _, rfl, _, _, rfl, S0.out⟩
    case round =>
      obtain ⟨i, hi, rfl, HH⟩ := hrel
      obtain ⟨A1, c1, rfl, h1⟩ := HH.out
      have S1 := Lib.hid h1
      clear h1 HH
      have HB : Hid (Below w.heap.size w wr) := S1.out.old
      rcases (by omega : i = n ∨ i < n) with hlt | hlt
      · have HF : Hid ((n : Int) :: bodyL (l.take i) = bytesL l) := by
          show _ = _
          rw [List.take_of_length_le (by rw [HN.out]; omega)]
          unfold bytesL
          rw [HN.out]
        have d0 : decide ((i : Int) < (n : Int)) = false := decide_eq_false (by omega)
        have d1 : decide (i < n) = false := decide_eq_false (by omega)
        go_wp2
        (try simp only [Exit.inBlock, Exit.then])
        refine bodyPost_ret (results_tmp2c rfl _ _ _) rfl ?_
        refine ⟨_, by rw [HE.out.1]; rfl, ?_⟩
        rw [HE.out.2]
        have h2 := S1.out
        rw [HF.out] at h2
        exact ⟨says_grow h2 (by rw [bytes_len, HN.out]; omega), fits_grow h2⟩
      · obtain ⟨x, hx⟩ : ∃ x, l[i]? = some x := ⟨_, List.getElem?_eq_getElem (by rw [HN.out]; exact hlt)⟩
        have hxm := List.mem_of_getElem? hx
        obtain ⟨⟨o0, o1⟩, ⟨a0, a1⟩, b0, b1⟩ := right_small (HA.out x hxm)
        have HXN : Hid (In64 x.n) := (HI.out x hxm).2.2.2
        have HT : Hid (l.take (i + 1) = l.take i ++ [x]) := take_snocI l i x hx
        obtain ⟨b, off, rfl, hb, c0, c1, c2, c3⟩ := in_at HR.out hx
        have HCL : Hid (∀ V : World, Below w.heap.size w V → V.cell? ⟨b, off + i * 4, none⟩ = some (.int .i64 x.o) ∧ V.cell? ⟨b, off + i * 4 + 1, none⟩ = some (.int .i64 x.a) ∧ V.cell? ⟨b, off + i * 4 + 2, none⟩ = some (.int .i64 x.b)) := fun V hV =>
          ⟨(hV.cell hb).trans c0, (hV.cell hb).trans c1, (hV.cell hb).trans c2⟩
        have HC3 : Hid (∀ V : World, Below w.heap.size w V → V.cell? ⟨b, off + i * 4 + 3, none⟩ = some (.int .i64 x.n)) := fun V hV => (hV.cell hb).trans c3
        have i0 : (0 : Int) ≤ (i : Int) := by omega
        have i1 : (i : Int) < (n : Int) := by omega
        have d0 : decide ((i : Int) < (n : Int)) = true := decide_eq_true (by omega)
        have d1 : decide (i < n) = true := decide_eq_true (by omega)
        have wo : IntKind.u8.wrap x.o = x.o := by simp [IntKind.wrap, IntKind.bits, IntKind.signed]; omega
        have wa : IntKind.u8.wrap x.a = x.a := by simp [IntKind.wrap, IntKind.bits, IntKind.signed]; omega
        have wb : IntKind.u8.wrap x.b = x.b := by simp [IntKind.wrap, IntKind.bits, IntKind.signed]; omega
        clear hx hxm c0 c1 c2 c3 hb
        go_upto_region 7 with (fail)
        have S2 : Hid (Sep (fun _ => False) w wr.drew [grow byE 5 (.slice A1 (1 + 11 * i) c1) ((n : Int) :: bodyL (l.take i))]) := S1.out.drew
        refine Held.begin_ (fun V : World => V.cell? ⟨b, off + i * 4, none⟩ = some (.int .i64 x.o) ∧ V.cell? ⟨b, off + i * 4 + 1, none⟩ = some (.int .i64 x.a) ∧ V.cell? ⟨b, off + i * 4 + 2, none⟩ = some (.int .i64 x.b)) 21 (by kernel_rfl) ?_
        have hC : (fun V : World => V.cell? ⟨b, off + i * 4, none⟩ = some (.int .i64 x.o) ∧ V.cell? ⟨b, off + i * 4 + 1, none⟩ = some (.int .i64 x.a) ∧ V.cell? ⟨b, off + i * 4 + 2, none⟩ = some (.int .i64 x.b)) wr.drew := HCL.out _ S2.out.old
        refine Held.take 0 (v := ?_) hC rfl (by kernel_rfl) (by kernel_rfl) (by kernel_rfl) (by kernel_rfl) (fun _ _ _ h => h) ?_ ?_; rotate_left; · (intro W hW; obtain ⟨k0, k1, k2⟩ := hW; go_simp <;> with_reducible rfl)
        try simp only [Act.put, List.setIfInBounds_toArray, List.set_cons_zero, List.set_cons_succ]
        refine Held.take 1 (v := ?_) hC rfl (by kernel_rfl) (by kernel_rfl) (by kernel_rfl) (by kernel_rfl) (fun _ _ _ h => h) ?_ ?_; rotate_left; · (intro W hW; obtain ⟨k0, k1, k2⟩ := hW; go_simp <;> with_reducible rfl)
        try simp only [Act.put, List.setIfInBounds_toArray, List.set_cons_zero, List.set_cons_succ]
        refine Held.take 2 (v := ?_) hC rfl (by kernel_rfl) (by kernel_rfl) (by kernel_rfl) (by kernel_rfl) (fun _ _ _ h => h) ?_ ?_; rotate_left; · (intro W hW; obtain ⟨k0, k1, k2⟩ := hW; go_simp <;> with_reducible rfl)
        try simp only [Act.put, List.setIfInBounds_toArray, List.set_cons_zero, List.set_cons_succ]
        refine Held.take 3 (v := ?_) hC rfl (by kernel_rfl) (by kernel_rfl) (by kernel_rfl) (by kernel_rfl) (fun _ _ _ h => h) ?_ ?_; rotate_left; · (intro W hW; obtain ⟨k0, k1, k2⟩ := hW; go_simp <;> with_reducible rfl)
        try simp only [Act.put, List.setIfInBounds_toArray, List.set_cons_zero, List.set_cons_succ]
        refine Held.take 4 (v := ?_) hC rfl (by kernel_rfl) (by kernel_rfl) (by kernel_rfl) (by kernel_rfl) (fun _ _ _ h => h) ?_ ?_; rotate_left; · (intro W hW; obtain ⟨k0, k1, k2⟩ := hW; go_simp <;> with_reducible rfl)
        try simp only [Act.put, List.setIfInBounds_toArray, List.set_cons_zero, List.set_cons_succ]
        refine Held.take 5 (v := ?_) hC rfl (by kernel_rfl) (by kernel_rfl) (by kernel_rfl) (by kernel_rfl) (fun _ _ _ h => h) ?_ ?_; rotate_left; · (intro W hW; obtain ⟨k0, k1, k2⟩ := hW; go_simp <;> with_reducible rfl)
        try simp only [Act.put, List.setIfInBounds_toArray, List.set_cons_zero, List.set_cons_succ]
        refine Held.take 6 (v := ?_) hC rfl (by kernel_rfl) (by kernel_rfl) (by kernel_rfl) (by kernel_rfl) (fun _ _ _ h => h) ?_ ?_; rotate_left; · (intro W hW; obtain ⟨k0, k1, k2⟩ := hW; go_simp <;> with_reducible rfl)
        try simp only [Act.put, List.setIfInBounds_toArray, List.set_cons_zero, List.set_cons_succ]
        refine Held.take 7 (v := ?_) hC rfl (by kernel_rfl) (by kernel_rfl) (by kernel_rfl) (by kernel_rfl) (fun _ _ _ h => h) ?_ ?_; rotate_left; · (intro W hW; obtain ⟨k0, k1, k2⟩ := hW; go_simp <;> with_reducible rfl)
        try simp only [Act.put, List.setIfInBounds_toArray, List.set_cons_zero, List.set_cons_succ]
        refine Held.take 8 (v := ?_) hC rfl (by kernel_rfl) (by kernel_rfl) (by kernel_rfl) (by kernel_rfl) (fun _ _ _ h => h) ?_ ?_; rotate_left; · (intro W hW; obtain ⟨k0, k1, k2⟩ := hW; go_simp <;> with_reducible rfl)
        try simp only [Act.put, List.setIfInBounds_toArray, List.set_cons_zero, List.set_cons_succ]
        refine Held.take 9 (v := ?_) hC rfl (by kernel_rfl) (by kernel_rfl) (by kernel_rfl) (by kernel_rfl) (fun _ _ _ h => h) ?_ ?_; rotate_left; · (intro W hW; obtain ⟨k0, k1, k2⟩ := hW; go_simp <;> with_reducible rfl)
        try simp only [Act.put, List.setIfInBounds_toArray, List.set_cons_zero, List.set_cons_succ]
        refine Held.take 10 (v := ?_) hC rfl (by kernel_rfl) (by kernel_rfl) (by kernel_rfl) (by kernel_rfl) (fun _ _ _ h => h) ?_ ?_; rotate_left; · (intro W hW; obtain ⟨k0, k1, k2⟩ := hW; go_simp <;> with_reducible rfl)
        try simp only [Act.put, List.setIfInBounds_toArray, List.set_cons_zero, List.set_cons_succ]
        refine Held.take 11 (v := ?_) hC rfl (by kernel_rfl) (by kernel_rfl) (by kernel_rfl) (by kernel_rfl) (fun _ _ _ h => h) ?_ ?_; rotate_left; · (intro W hW; obtain ⟨k0, k1, k2⟩ := hW; go_simp <;> with_reducible rfl)
        try simp only [Act.put, List.setIfInBounds_toArray, List.set_cons_zero, List.set_cons_succ]
        refine Held.take 12 (v := ?_) hC rfl (by kernel_rfl) (by kernel_rfl) (by kernel_rfl) (by kernel_rfl) (fun _ _ _ h => h) ?_ ?_; rotate_left; · (intro W hW; obtain ⟨k0, k1, k2⟩ := hW; go_simp <;> with_reducible rfl)
        try simp only [Act.put, List.setIfInBounds_toArray, List.set_cons_zero, List.set_cons_succ]
        refine Held.take 13 (v := ?_) hC rfl (by kernel_rfl) (by kernel_rfl) (by kernel_rfl) (by kernel_rfl) (fun _ _ _ h => h) ?_ ?_; rotate_left; · (intro W hW; obtain ⟨k0, k1, k2⟩ := hW; go_simp <;> with_reducible rfl)
        try simp only [Act.put, List.setIfInBounds_toArray, List.set_cons_zero, List.set_cons_succ]
        refine Held.take 14 (v := ?_) hC rfl (by kernel_rfl) (by kernel_rfl) (by kernel_rfl) (by kernel_rfl) (fun _ _ _ h => h) ?_ ?_; rotate_left; · (intro W hW; obtain ⟨k0, k1, k2⟩ := hW; go_simp <;> with_reducible rfl)
        try simp only [Act.put, List.setIfInBounds_toArray, List.set_cons_zero, List.set_cons_succ]
        refine Held.take 15 (v := ?_) hC rfl (by kernel_rfl) (by kernel_rfl) (by kernel_rfl) (by kernel_rfl) (fun _ _ _ h => h) ?_ ?_; rotate_left; · (intro W hW; obtain ⟨k0, k1, k2⟩ := hW; go_simp <;> with_reducible rfl)
        try simp only [Act.put, List.setIfInBounds_toArray, List.set_cons_zero, List.set_cons_succ]
        refine Held.take 16 (v := ?_) hC rfl (by kernel_rfl) (by kernel_rfl) (by kernel_rfl) (by kernel_rfl) (fun _ _ _ h => h) ?_ ?_; rotate_left; · (intro W hW; obtain ⟨k0, k1, k2⟩ := hW; go_simp <;> with_reducible rfl)
        try simp only [Act.put, List.setIfInBounds_toArray, List.set_cons_zero, List.set_cons_succ]
        refine Held.take 17 (v := ?_) hC rfl (by kernel_rfl) (by kernel_rfl) (by kernel_rfl) (by kernel_rfl) (fun _ _ _ h => h) ?_ ?_; rotate_left; · (intro W hW; obtain ⟨k0, k1, k2⟩ := hW; go_simp <;> with_reducible rfl)
        try simp only [Act.put, List.setIfInBounds_toArray, List.set_cons_zero, List.set_cons_succ]
        refine Held.take 18 (v := ?_) hC rfl (by kernel_rfl) (by kernel_rfl) (by kernel_rfl) (by kernel_rfl) (fun _ _ _ h => h) ?_ ?_; rotate_left; · (intro W hW; obtain ⟨k0, k1, k2⟩ := hW; go_simp <;> with_reducible rfl)
        try simp only [Act.put, List.setIfInBounds_toArray, List.set_cons_zero, List.set_cons_succ]
        clear hC
        generalize wr.drew = w0 at *
        refine Held.only 19 (by kernel_rfl) rfl ?_
        intro K hK
        go_simp
        have S3 : Hid (Sep (fun _ => False) w (w0.alloc (.cells #[.int .u8 x.o, .int .u8 x.a, .int .u8 x.b] 5)) [told byE (.slice (some ⟨w0.heap.size, 0, none⟩) 3 3) [x.o, x.a, x.b], grow byE 5 (.slice A1 (1 + 11 * i) c1) ((n : Int) :: bodyL (l.take i))]) := S2.out.lit_told 5 [x.o, x.a, x.b] (cs := #[.int .u8 x.o, .int .u8 x.a, .int .u8 x.b]) rfl (by simp) rfl
        refine hK.out _ _ (fun _ => HCL.out _ S3.out.old) ?_
        clear hK K
        try simp only [Act.put, List.setIfInBounds_toArray, List.set_cons_zero, List.set_cons_succ]
        refine Held.only 20 (by kernel_rfl) rfl ?_
        intro K hK
        have hbl : (bodyL (l.take i)).length ≤ 300 := by rw [body_len, List.length_take]; omega
        refine wp_appC (.tmp 19) (.tmp 38) byElem rfl rfl rfl S3.out 1 rfl (S3.out.rdL 0 rfl) (by simp; omega) ?_
        intro A4 c4 w4 l4 HL4 h4
        have S4 : Hid (Sep (fun _ => False) w w4 [told byE (.slice (some ⟨w0.heap.size, 0, none⟩) 3 3) [x.o, x.a, x.b], grow byE 5 (.slice A4 l4.length c4) l4]) := h4
        clear h4
        refine hK.out _ _ (fun _ => HCL.out _ S4.out.old) ?_
        clear hK K
        try simp only [Act.put, List.setIfInBounds_toArray, List.set_cons_zero, List.set_cons_succ]
        have S5 : Hid (Sep (fun _ => False) w w4 [grow byE 5 (.slice A4 l4.length c4) l4]) := S4.out.tail
        have hl4 : l4.length ≤ 1000 := by rw [HL4.out]; simp; omega
        clear hbl S4 S3 S2 S1
        refine Held.only 21 (by kernel_rfl) rfl ?_
        intro K hK
        go_simp
        refine hK.out _ _ (fun h => absurd rfl h) ?_
        clear hK K
        try simp only [Act.put]
        refine Held.done (by kernel_rfl) ?_ _
        have q3 := HC3.out _ S5.out.old
        go_wp2_with fail
        refine (eight_c S5.out x.n HXN.out).mono ?_
        rintro e w5 ⟨g, rfl, h5⟩
        have S6 : Hid (Sep (fun _ => False) w w5 [told byE (.slice (some ⟨g, 0, none⟩) 8 8) (eightL x.n), grow byE 5 (.slice A4 l4.length c4) l4]) := grow_told h5 (by rw [eight_len]; omega)
        clear h5 q3
        go_wp2_with (at_builtin; refine wpList_appS rfl _ _ byElem rfl rfl rfl S6.out 1 rfl (S6.out.rdL 0 rfl) (by rw [eight_len]; omega) ?_)
        intro A7 c7 w7 l7 HL7 h7
        have S7 : Hid (Sep (fun _ => False) w w7 [told byE (.slice (some ⟨g, 0, none⟩) 8 8) (eightL x.n), grow byE 5 (.slice A7 l7.length c7) l7]) := h7
        have HL8 : Hid (l7 = (n : Int) :: bodyL (l.take (i + 1))) := by
          show _ = _
          rw [HL7.out, HL4.out, HT.out, body_snoc]
          unfold insL
          simp
        have S8 : Hid (∃ A c, Value.slice A7 l7.length c7 = .slice A (1 + 11 * (i + 1)) c ∧ Sep (fun _ => False) w w7 [grow byE 5 (.slice A (1 + 11 * (i + 1)) c) ((n : Int) :: bodyL (l.take (i + 1)))]) := by
          have e : l7.length = 1 + 11 * (i + 1) := by rw [HL8.out, List.length_cons, body_len, List.length_take, HN.out, Nat.min_eq_left (by omega)]; omega
          have h8 := S7.out.tail
          rw [e, HL8.out] at h8
          exact ⟨A7, c7, by rw [e], h8⟩
        clear h7 S7 S6
        go_wp2
        go_roundw
        case rel => exact ⟨i + 1, by omega, by go_num, S8⟩
        case measure => simp [intOf]; omega
end Go.Proofs.YtolooaahaofflaaDoor.RefCode
