/-
  The walk of the law CtxDoes over any package that meets 'Cx': it returns true and leaves old memory as it was. Conditions: none but 'Cx'.
-/
import Derived.Test.YtidkppjhmgehoaaCtxM
import Derived.Deep.RegionHeld3
import Derived.Deep.DeepCutAuto
import Derived.Deep.CutBlock
namespace Go.Proofs.Ytidkppjhmgehoaa.CtxI
open Go.ChangeShapes Go.WideShapes Go.ChangeAt Go.RowKit Mem TreeP RefTree CtxP Hand TreeI RefCtx

/-- An act, as it lies in a slice. -/
structure Ac where
  d : Int
  n : Int
  a : Int
  b : Int
  now : Int
def acE : Enc Ac := ⟨5, fun x => [.int .i64 x.d, .int .i64 x.n, .int .i64 x.a, .int .i64 x.b, .int .i64 x.now], fun _ => rfl, by intro a u hu; simp at hu; rcases hu with rfl | rfl | rfl | rfl | rfl <;> rfl, by omega⟩
theorem ac_cells {w : World} {G : Nat → Prop} {A : Option Addr} {n c : Nat} {L : List Ac} (h : RdL acE w G (.slice A n c) L) {i : Nat} {x : Ac} (hi : L[i]? = some x) :
    ∃ b off, A = some ⟨b, off, none⟩ ∧ b < w.heap.size ∧ w.cell? ⟨b, off + i * 5, none⟩ = some (.int .i64 x.d) ∧ w.cell? ⟨b, off + i * 5 + 1, none⟩ = some (.int .i64 x.n) ∧ w.cell? ⟨b, off + i * 5 + 2, none⟩ = some (.int .i64 x.a) ∧ w.cell? ⟨b, off + i * 5 + 3, none⟩ = some (.int .i64 x.b) ∧ w.cell? ⟨b, off + i * 5 + 4, none⟩ = some (.int .i64 x.now) := by
  obtain ⟨b, off, hA, _, hb, hc⟩ := h.at_ hi
  exact ⟨b, off, hA, hb, hc 0 _ rfl, hc 1 _ rfl, hc 2 _ rfl, hc 3 _ rfl, hc 4 _ rfl⟩
def AcIn (x : Ac) : Prop := In64 x.n ∧ In64 x.a ∧ In64 x.b ∧ In64 x.now

section
variable {I : Cx} {wq W : World} {v : Value} {F : Nat → Prop} {T : List Nd} {X : List Cn} {M : Int} {p : Nat}
theorem l_q (hA : I.A wq v F T X M) (hb : Below wq.heap.size wq W) {f : FuncId} {args : Array Value} {e0 : Ending} (hc : ∀ w, I.A w v F T X M → Calls Try.prog f args w fun e w' => e = e0 ∧ Below w.heap.size w w') : Calls Try.prog f args W fun e w' => e = e0 ∧ Below wq.heap.size wq w' :=
  (hc W (I.keep hA hb.size fun k hk _ => hb.block k hk)).mono fun _ _ ⟨he, h'⟩ => ⟨he, hb.trans (h'.mono hb.size)⟩
theorem l_x (hR : (rx p T X M).holds wq F) (hb : Below wq.heap.size wq W) : (rx p T X M).holds W F := (rx p T X M).keep hR hb.size fun k hk _ => hb.block k hk
theorem l_r (hb : Below wq.heap.size wq W) {f : FuncId} {args : Array Value} {e0 : Ending} (hc : Calls Try.prog f args W fun e w' => e = e0 ∧ Below W.heap.size W w') : Calls Try.prog f args W fun e w' => e = e0 ∧ Below wq.heap.size wq w' :=
  hc.mono fun _ _ ⟨he, h'⟩ => ⟨he, hb.trans (h'.mono hb.size)⟩
theorem l_rnext (hR : (rx p T X M).holds wq F) (hb : Below wq.heap.size wq W) : Calls Try.prog 15 #[.pointer (some ⟨p, 0, none⟩)] W fun e w' => e = .returned (.int .i64 (nextX X)) ∧ Below wq.heap.size wq w' :=
  (next_any (l_x hR hb)).mono fun _ _ ⟨he, d, hd⟩ => ⟨he, by rw [hd]; exact below_drewN hb d⟩
theorem l_err (hA : I.A wq v F T X M) (hb : Below wq.heap.size wq W) (q : Int) (hq : In64 q) {g : Cn} (hg : getX T X q = g) : Calls Try.prog 21 #[v, .int .i64 q] W fun e w' => e = .returned (.int .i64 g.e) ∧ Below wq.heap.size wq w' := by subst hg; exact l_q hA hb fun _ h => I.err h q hq
theorem l_cause (hA : I.A wq v F T X M) (hb : Below wq.heap.size wq W) (q : Int) (hq : In64 q) {g : Cn} (hg : getX T X q = g) : Calls Try.prog 22 #[v, .int .i64 q] W fun e w' => e = .returned (.int .i64 g.cause) ∧ Below wq.heap.size wq w' := by subst hg; exact l_q hA hb fun _ h => I.cause h q hq
theorem l_done (hA : I.A wq v F T X M) (hb : Below wq.heap.size wq W) (q : Int) (hq : In64 q) {g : Cn} (hg : getX T X q = g) {b : Bool} (hb' : decide (g.e ≠ 0) = b) : Calls Try.prog 23 #[v, .int .i64 q] W fun e w' => e = .returned (.bool b) ∧ Below wq.heap.size wq w' := by subst hg hb'; exact l_q hA hb fun _ h => I.done h q hq
theorem l_same {u u' : Value} {l : List Int} (hu : Rd wq (fun _ => True) u l) (hu' : Rd wq (fun _ => True) u' l) (hb : Below wq.heap.size wq W) :
    Calls Try.prog 12 #[u, u'] W fun e w' => e = .returned (.bool true) ∧ Below wq.heap.size wq w' := by
  refine (SameI.same_any (hu.below hb) (hu'.below hb)).mono ?_
  rintro e w' ⟨rfl, n, rfl⟩
  exact ⟨by simp, below_drewN hb n⟩
end

set_option maxHeartbeats 4000000 in
set_option maxRecDepth 100000 in
theorem does_easy (I : Cx) (n : Int) (A : Option Addr) (len cap : Nat) (key : Int) (w : World) (hn : In64 n) (_hlen : len ≤ 9223372036854775807) (hno : ¬ (1 ≤ n ∧ n ≤ 40 ∧ len ≤ 60)) :
    Calls Try.prog 3 #[.int .i64 n, .slice A len cap, .int .i64 key] w fun e w' => e = .returned (.bool true) ∧ Below w.heap.size w w' := by
  have HN := Lib.hid hn
  clear hn
  rcases (by omega : ((40 < n ∧ n ≤ 200) ∨ (n ≤ 40 ∧ 60 < len) ∨ (200 < n ∧ 60 < len)) ∨ (n < 1 ∧ len ≤ 60) ∨ (200 < n ∧ len ≤ 60)) with (⟨h1, h2⟩ | ⟨h1, h2⟩ | ⟨h1, h2⟩) | ⟨h1, h2⟩ | ⟨h1, h2⟩
  all_goals
    clear hno
    go_enter Try.func3, Try.ntmps3
    go_wp2_with fail
    refine (awake_any I _).mono ?_
    rintro e w1 ⟨rfl, hb1⟩
    have HB := Lib.hid hb1
    clear hb1
    go_wp2_with fail
    first
    | (go_ret; exact ⟨rfl, HB.out⟩)
    | (refine (I.new_no n _ HN.out (by omega)).mono ?_
       rintro e w2 ⟨rfl, hb2⟩
       have HB2 : Hid (Below w.heap.size w w2) := HB.out.trans (hb2.mono HB.out.size)
       clear hb2
       go_wp2_with fail
       refine (new6_no n _ (by omega)).mono ?_
       rintro e w3 ⟨rfl, rfl⟩
       go_wp2
       go_ret
       exact ⟨rfl, HB2.out⟩)

set_option maxHeartbeats 8000000 in
set_option maxRecDepth 100000 in
theorem does_main (I : Cx) (n : Int) (A : Option Addr) (len cap : Nat) (zs : List Ac) (key : Int) (w : World) (h1 : 1 ≤ n) (h2 : n ≤ 40) (h60 : len ≤ 60) (hkey : In64 key)
    (hz : len ≤ 1000000 → zs.length = len ∧ RdL acE w (fun b => b < w.heap.size) (.slice A len cap) zs ∧ ∀ z ∈ zs, AcIn z) :
    Calls Try.prog 3 #[.int .i64 n, .slice A len cap, .int .i64 key] w fun e w' => e = .returned (.bool true) ∧ Below w.heap.size w w' := by
  obtain ⟨hzl, hzr, hzo⟩ := hz (by omega)
  have HZL := Lib.hid hzl
  have HZR := Lib.hid hzr
  have HZO := Lib.hid hzo
  have HKEY := Lib.hid hkey
  clear hzl hzr hzo hz hkey
  go_enter Try.func3, Try.ntmps3
  go_wp2_with fail
  refine (awake_any I _).mono ?_
  rintro e w1 ⟨rfl, hb1⟩
  have S1 := Lib.hid ((Sep.nil (fun _ => False) w).next hb1)
  clear hb1
  go_wp2_with fail
  refine (x_new S1.out I n (by omega) (by omega)).mono ?_
  rintro e w2 ⟨a, rfl, h2'⟩
  have S2 := Lib.hid h2'
  clear h2' S1
  go_wp2_with fail
  refine (new6_s S2.out n (by omega) (by omega)).mono ?_
  rintro e w3 ⟨p, rfl, h3⟩
  have S3 := Lib.hid h3
  clear h3 S2
  go_wp2
  go_loopw [66, 19, 20, 21, 22, 23, 24, 25, 26, 27, 28] (fun u _ _ _ _ _ _ _ _ _ _ wr => ∃ j : Nat, j ≤ len ∧ u = .int .i64 j ∧ Hid (∃ (T : List Nd) (X : List Cn), Sep (fun _ => False) w wr [rx p T X n, cx I (.pointer (some a)) T X n])) (fun u _ _ _ _ _ _ _ _ _ _ _ => len - (intOf u).toNat)
  case atStart => exact ⟨0, Nat.zero_le _, rfl, _, _, S3.out⟩
  case round =>
    obtain ⟨j, hj, rfl, HS⟩ := hrel
    obtain ⟨T, X, hS⟩ := HS.out
    have SL := Lib.hid hS
    clear HS hS S3
    by_cases hlt : j < len
    · have hx : zs[j]? = some (zs[j]'(by rw [HZL.out]; exact hlt)) := List.getElem?_eq_getElem _
      generalize zs[j]'(by rw [HZL.out]; exact hlt) = z at hx
      have HE := Lib.hid (HZO.out z (List.mem_of_getElem? hx))
      obtain ⟨bb, off, rfl, hbb, c0, c1, c2, c3, c4⟩ := ac_cells HZR.out hx
      have hb := SL.out.old
      have q0 := (hb.cell (p := ⟨bb, off + j * 5, none⟩) hbb).trans c0
      have q1 := (hb.cell (p := ⟨bb, off + j * 5 + 1, none⟩) hbb).trans c1
      have q2 := (hb.cell (p := ⟨bb, off + j * 5 + 2, none⟩) hbb).trans c2
      have q3 := (hb.cell (p := ⟨bb, off + j * 5 + 3, none⟩) hbb).trans c3
      have q4 := (hb.cell (p := ⟨bb, off + j * 5 + 4, none⟩) hbb).trans c4
      obtain ⟨d, m, aa, ab, now⟩ := z
      have S4 := Lib.hid (SL.out.new (.cells #[.int .i64 d, .int .i64 m, .int .i64 aa, .int .i64 ab, .int .i64 now] 32))
      clear hx c0 c1 c2 c3 c4 hb SL
      obtain ⟨V, hV⟩ : ∃ V, actV T n d m = V := ⟨_, rfl⟩
      obtain ⟨E, hE⟩ : ∃ E, actE T n d m = E := ⟨_, rfl⟩
      obtain ⟨T2, hT⟩ : ∃ T2, actT T n d m = T2 := ⟨_, rfl⟩
      obtain ⟨X2, hX⟩ : ∃ X2, actX T X n d m aa ab now = X2 := ⟨_, rfl⟩
      obtain ⟨O, hO⟩ : ∃ O, actO T X d m now = O := ⟨_, rfl⟩
      have KV := Lib.hid hV
      have KE := Lib.hid hE
      have KT := Lib.hid hT
      have KX := Lib.hid hX
      have KO := Lib.hid hO
      clear hV hE hT hX hO
      go_wp2_with fail
      refine (x_do S4.out 2 rfl d m aa ab now HE.out.1 HE.out.2.1 HE.out.2.2.1 HE.out.2.2.2).mono ?_
      rintro e w5 ⟨A5, c5, rfl, h5⟩
      rw [KV.out, KE.out, KO.out]
      rw [KO.out, KT.out, KX.out] at h5
      have S5 := Lib.hid (h5.perm (show List.Perm [_, _, _, _] _ from ((List.Perm.swap _ _ _).trans ((List.Perm.swap _ _ _).cons _)).trans (List.Perm.swap _ _ _)))
      have a0 := (cell_block (S5.out.blk_at 1 rfl) 0).trans rfl
      have a1 := (cell_block (S5.out.blk_at 1 rfl) 1).trans rfl
      have a2 := (cell_block (S5.out.blk_at 1 rfl) 2).trans rfl
      have a3 := (cell_block (S5.out.blk_at 1 rfl) 3).trans rfl
      have a4 := (cell_block (S5.out.blk_at 1 rfl) 4).trans rfl
      have hlt5 : wr.heap.size < w5.heap.size := lt_of_block (S5.out.blk_at 1 rfl)
      clear h5 S4 q0 q1 q2 q3 q4
      go_wp2_with fail
      refine (y_own S5.out d m aa ab now).mono ?_
      rintro e w6 ⟨A6, c6, rfl, h6⟩
      rw [KV.out, KE.out, KO.out]
      rw [KO.out, KT.out, KX.out] at h6
      have S6 := Lib.hid h6
      clear h6 S5 a0 a1 a2 a3 a4 hlt5
      obtain ⟨FA, hA⟩ := S6.out.get 4 rfl
      obtain ⟨FR, hR⟩ := S6.out.get 1 rfl
      obtain ⟨qt, Aq, cq, Gq, hs⟩ := rx_sees hR
      have x1 := hs.c1
      have hpl := hs.lt
      have hTX := hs.len
      have hXl : X2.length ≤ 40 := by have := hs.ok.len; omega
      have HA : Hid (I.A w6 (.pointer (some a)) FA T2 X2 n) := hA
      have HR := Lib.hid hR
      have R5 := Lib.hid (S6.out.rd 3 rfl)
      have R6 := Lib.hid (S6.out.rd 0 rfl)
      have hVV : (V != V) = false := by simp
      have hEE : (E != E) = false := by simp
      have hNN : (nextX X2 != nextX X2) = false := by simp
      have hLL : ((T2.length : Int) != (X2.length : Int)) = false := by rw [hTX]; simp
      have FK : Hid (∀ Q, Below w6.heap.size w6 Q → Q.cell? ⟨p, 1, none⟩ = some (.slice Aq X2.length cq)) := fun Q hb => (hb.cell (p := ⟨p, 1, none⟩) hpl).trans x1
      have HB : Hid (Below w6.heap.size w6 w6.drew) := (Below.refl _ _).drew
      clear hA hR hs hTX
      go_upto_region 16 with (fail)
      go_cut [114] (fun s114 wx => s114 = .bool false ∧ Hid (Below w6.heap.size w6 wx))
      case first => as_aux_lemma =>
        have k1 := FK.out _ HB.out
        go_region_held3 (fun Q => Q.cell? ⟨p, 1, none⟩ = some (.slice Aq X2.length cq)) (go_keep)
          (first
            | (go_at_call 12; (with_reducible refine (l_same R5.out R6.out HB.out).mono ?_); rintro e w11 ⟨rfl, hb11⟩; have HB := Lib.hid hb11; have k1 := FK.out _ hb11; clear hb11)
            | (go_at_call 13; (with_reducible refine (l_q HA.out HB.out (fun _ h => I.len h)).mono ?_); rintro e w11 ⟨rfl, hb11⟩; have HB := Lib.hid hb11; have k1 := FK.out _ hb11; clear hb11)
            | (go_at_call 14; (with_reducible refine (l_q HA.out HB.out (fun _ h => I.next h)).mono ?_); rintro e w11 ⟨rfl, hb11⟩; have HB := Lib.hid hb11; have k1 := FK.out _ hb11; clear hb11)
            | (go_at_call 15; (with_reducible refine (l_rnext HR.out HB.out).mono ?_); rintro e w11 ⟨rfl, hb11⟩; have HB := Lib.hid hb11; have k1 := FK.out _ hb11; clear hb11))
        go_wp2_with fail
        go_meet
        exact ⟨rfl, HB⟩
      case rest => as_aux_lemma =>
        obtain ⟨rfl, HB1⟩ := hcut
        clear HB
        go_wp2
        go_loopw [19, 20, 21, 22, 23, 24, 25, 26, 27, 28] (fun t _ _ _ _ _ _ _ _ _ wr => ∃ q : Int, -1 ≤ q ∧ q ≤ X2.length + 1 ∧ t = .int .i64 q ∧ Hid (Below w6.heap.size w6 wr)) (fun t _ _ _ _ _ _ _ _ _ _ => ((X2.length : Int) + 1 - intOf t).toNat)
        case atStart => exact ⟨-1, by omega, by omega, rfl, HB1⟩
        case round => as_aux_lemma =>
          obtain ⟨q, hq0, hq1, rfl, HB6⟩ := hrel
          have y1 := FK.out _ HB6.out
          clear HB1
          by_cases hqn : q ≤ (X2.length : Int)
          · obtain ⟨G, hG⟩ : ∃ G, getX T2 X2 q = G := ⟨_, rfl⟩
            obtain ⟨DL, hDL⟩ : ∃ DL, dlX T2 X2 q = DL := ⟨_, rfl⟩
            obtain ⟨VL, hVL⟩ : ∃ VL, valX T2 X2 q key = VL := ⟨_, rfl⟩
            obtain ⟨ge, hge⟩ : ∃ ge, (G.e != 0) = ge := ⟨_, rfl⟩
            have HG := Lib.hid hG
            have HDL := Lib.hid hDL
            have HVL := Lib.hid hVL
            have HDN : Hid (decide (G.e ≠ 0) = ge) := by show _ = _; rw [← hge]; by_cases h0 : G.e = 0 <;> simp [h0]
            have hqi : Hid (In64 q) := ⟨by omega, by omega⟩
            obtain ⟨D1, D2⟩ := DL
            obtain ⟨V1, V2⟩ := VL
            have z1 : (G.e != G.e) = false := by simp
            have z2 : (G.cause != G.cause) = false := by simp
            have z3 : (ge != ge) = false := by simp
            have z4 : (D1 != D1) = false := by simp
            have z5 : (D2 != D2) = false := by simp
            have z6 : (V1 != V1) = false := by simp
            have z7 : (V2 != V2) = false := by simp
            clear hG hDL hVL
            go_wp2_with fail
            refine (RefCtx.get_any (l_x HR.out HB6.out) q).mono ?_
            rintro e w14 ⟨rfl, hb14⟩
            rw [HG.out]
            simp only [Cn.val]
            have HB7 : Hid (Below w6.heap.size w6 (w14.alloc (.cells #[.int .i64 G.e, .int .i64 G.cause, .bool G.has, .int .i64 G.at_, .int .i64 G.why, .bool G.named, .int .i64 G.key, .int .i64 G.value] 45))) := (HB6.out.trans (hb14.mono HB6.out.size)).alloc (Nat.le_trans HB6.out.size hb14.size) _
            have hz14 := heap_alloc_new w14 (.cells #[.int .i64 G.e, .int .i64 G.cause, .bool G.has, .int .i64 G.at_, .int .i64 G.why, .bool G.named, .int .i64 G.key, .int .i64 G.value] 45)
            have HZ14 := Lib.hid hz14
            have HA7 := Lib.hid (I.keep HA.out HB7.out.size fun k hk _ => HB7.out.block k hk)
            have HR7 := Lib.hid (l_x HR.out HB7.out)
            have HBX : Hid (w14.heap.size < (w14.alloc (.cells #[.int .i64 G.e, .int .i64 G.cause, .bool G.has, .int .i64 G.at_, .int .i64 G.why, .bool G.named, .int .i64 G.key, .int .i64 G.value] 45)).heap.size) := by show _ < _; simp
            clear hb14 y1 hz14
            go_wp2_with fail
            generalize (w14.alloc (.cells #[.int .i64 G.e, .int .i64 G.cause, .bool G.has, .int .i64 G.at_, .int .i64 G.why, .bool G.named, .int .i64 G.key, .int .i64 G.value] 45)) = w7 at *
            generalize w14.heap.size = bx at *
            have FG : Hid (∀ Q, Below w7.heap.size w7 Q → (Q.cell? ⟨bx, 0, none⟩ = some (.int .i64 G.e) ∧ Q.cell? ⟨bx, 1, none⟩ = some (.int .i64 G.cause))) := fun Q hb => ⟨(hb.cell (p := ⟨bx, 0, none⟩) HBX.out).trans ((cell_block HZ14.out 0).trans rfl), (hb.cell (p := ⟨bx, 1, none⟩) HBX.out).trans ((cell_block HZ14.out 1).trans rfl)⟩
            refine (l_q HA7.out (Below.refl _ _) (fun _ h => I.deadline h q hqi.out)).mono ?_
            rintro e w15 ⟨rfl, hb15⟩
            rw [HDL.out]
            have HB := Lib.hid hb15
            clear hb15
            go_wp2_with fail
            refine (l_r HB.out (deadline_any (l_x HR7.out HB.out) q)).mono ?_
            rintro e w16 ⟨rfl, hb16⟩
            rw [HDL.out]
            clear HB
            have HB := Lib.hid hb16
            clear hb16
            go_wp2_with fail
            refine (l_q HA7.out HB.out (fun _ h => I.value h q key hqi.out HKEY.out)).mono ?_
            rintro e w17 ⟨rfl, hb17⟩
            rw [HVL.out]
            clear HB
            have HB := Lib.hid hb17
            clear hb17
            go_wp2_with fail
            refine (l_r HB.out (value_any (l_x HR7.out HB.out) q key)).mono ?_
            rintro e w18 ⟨rfl, hb18⟩
            rw [HVL.out]
            clear HB
            have HB0 := Lib.hid hb18
            clear hb18
            go_upto_region 26 with (fail)
            go_cut [195] (fun s195 wx => s195 = .bool false ∧ Hid (Below w7.heap.size w7 wx))
            case first => as_aux_lemma =>
              have HB : Hid (Below w7.heap.size w7 w18.drew) := HB0.out.drew
              obtain ⟨g0, g1⟩ := FG.out _ HB.out
              go_region_held3 (fun Q => Q.cell? ⟨bx, 0, none⟩ = some (.int .i64 G.e) ∧ Q.cell? ⟨bx, 1, none⟩ = some (.int .i64 G.cause)) (go_keep)
                (first
                | (go_at_call 21; (with_reducible refine (l_err HA7.out HB.out q hqi.out HG.out).mono ?_); rintro e w11 ⟨rfl, hb11⟩; have HB := Lib.hid hb11; obtain ⟨g0, g1⟩ := FG.out _ hb11; clear hb11)
                | (go_at_call 22; (with_reducible refine (l_cause HA7.out HB.out q hqi.out HG.out).mono ?_); rintro e w11 ⟨rfl, hb11⟩; have HB := Lib.hid hb11; obtain ⟨g0, g1⟩ := FG.out _ hb11; clear hb11)
                | (go_at_call 23; (with_reducible refine (l_done HA7.out HB.out q hqi.out HG.out HDN.out).mono ?_); rintro e w11 ⟨rfl, hb11⟩; have HB := Lib.hid hb11; obtain ⟨g0, g1⟩ := FG.out _ hb11; clear hb11))
              go_wp2_with fail
              go_meet
              exact ⟨rfl, HB⟩
            case rest => as_aux_lemma =>
              obtain ⟨rfl, HB9⟩ := hcut
              have HBF : Hid (Below w6.heap.size w6 wc) := HB7.out.trans (HB9.out.mono HB7.out.size)
              go_wp2
              go_roundw
              case rel => exact ⟨q + 1, by omega, by omega, by go_num, HBF⟩
              case measure => simp [intOf]; omega
          · have SF : Hid (∃ (T : List Nd) (X : List Cn), Sep (fun _ => False) w wr [rx p T X n, cx I (.pointer (some a)) T X n]) := ⟨T2, X2, (S6.out.next HB6.out).sub (.cons _ (.cons_cons _ (.cons _ (.cons _ (List.Sublist.refl _)))))⟩
            go_wp2
            go_roundw
            case rel => exact ⟨j + 1, by omega, by go_num, SF⟩
            case measure => simp [intOf]; omega
    · have HB := Lib.hid SL.out.old
      go_wp2
      go_ret
      exact ⟨rfl, HB.out⟩

theorem does_walk (I : Cx) (n : Int) (A : Option Addr) (len cap : Nat) (zs : List Ac) (key : Int) (w : World) (hn : In64 n) (hlen : len ≤ 9223372036854775807) (hkey : In64 key)
    (hz : len ≤ 1000000 → zs.length = len ∧ RdL acE w (fun b => b < w.heap.size) (.slice A len cap) zs ∧ ∀ z ∈ zs, AcIn z) :
    Calls Try.prog 3 #[.int .i64 n, .slice A len cap, .int .i64 key] w fun e w' => e = .returned (.bool true) ∧ Below w.heap.size w w' := by
  by_cases hno : 1 ≤ n ∧ n ≤ 40 ∧ len ≤ 60
  · exact does_main I n A len cap zs key w hno.1 hno.2.1 hno.2.2 hkey hz
  · exact does_easy I n A len cap key w hn hlen hno
end Go.Proofs.Ytidkppjhmgehoaa.CtxI
