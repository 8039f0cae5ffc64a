/-
  Package sema, as it landed, third part: what is given, and that the package meets what the laws of layer 13 ask of it: 'theSg'. No condition.
-/
import Derived.Test.YtaplikopapnlpaaSemaB
import Derived.Deep.RegionHeld3
namespace Go.Proofs.Ytaplikopapnlpaa.SemaA
open Go.ChangeShapes Go.WideShapes Go.ChangeAt Go.RowKit Mem MutP SemaP Hand RefMut Arena FitsC

/-- Who comes first, if somebody does. -/
def topW : List Int → Int
  | [] => -1
  | x :: _ => x
theorem topW_nil : topW [] = -1 := rfl
theorem topW_cons (x : Int) (l : List Int) : topW (x :: l) = x := rfl
theorem topW_is (l : List Int) : l.headD (-1) = topW l := by cases l <;> rfl
section
variable {B : Nat → Prop} {w wk : World} {Rs : List Res} {p mb : Nat} {va : Value} {s : St}
/-- Who comes first is given, and no more waits. -/
theorem Ok.step {H C : Int} {x : Int} {W D : List Int} {g : Int → Int} {N : Int} (h : SemaP.Ok ⟨H, C, x :: W, D, g, N⟩) (hf : H + g x ≤ C) : SemaP.Ok ⟨H + g x, C, W, D, g, N⟩ ∧ dropS ⟨H + g x, C, x :: W, D, g, N⟩ x = ⟨H + g x, C, W, D, g, N⟩ ∧ SemaP.Ok ⟨H + g x, C, x :: W, D, g, N⟩ := by
  have h0 := h.h0
  have hg := h.gw x (List.mem_cons_self ..)
  have hn := h.once
  have hn' : (x :: (W ++ D)).Nodup := hn
  have hxn := (List.nodup_cons.1 hn').1
  have hO : SemaP.Ok ⟨H + g x, C, x :: W, D, g, N⟩ := ⟨h.n0, h.n1, by show 0 ≤ H + g x; have h0 : 0 ≤ H := h0; have := hg.1; simp only at this; omega, hf, h.c1, h.ws, h.ds, h.once, h.gw, h.gd⟩
  have hd : dropS ⟨H + g x, C, x :: W, D, g, N⟩ x = ⟨H + g x, C, W, D, g, N⟩ := by
    unfold dropS
    have e1 : withoutL (x :: W) x = W := by
      unfold withoutL
      rw [List.filter_cons, if_neg (by simp)]
      exact without_id fun hm => hxn (List.mem_append.2 (.inl hm))
    have e2 : withoutL D x = D := without_id fun hm => hxn (List.mem_append.2 (.inr hm))
    simp only [e1, e2]
  have h2 := hO.drop x
  rw [hd] at h2
  exact ⟨h2, hd, hO⟩

set_option maxRecDepth 100000 in
set_option maxHeartbeats 2000000 in
theorem give_s (h : Sep B w wk (oa p va mb s ++ Rs)) (hok : SemaP.Ok s) :
    Calls Try.prog 36 #[.pointer (some ⟨p, 0, none⟩)] wk fun e wn => ∃ A c, e = .returned (.slice A (outS s).length c) ∧ Sep B w wn (nums (.slice A (outS s).length c) (outS s) :: (oa p va mb (givS s) ++ Rs)) := by
  obtain ⟨a, rfl⟩ := oa_ptr h
  have hlen := hok.len
  obtain ⟨H, C, W, D, g, N⟩ := s
  have hg1 : outS ⟨H, C, W, D, g, N⟩ = givL C g H W := rfl
  have hg2 : givS ⟨H, C, W, D, g, N⟩ = ⟨givH C g H W, C, givW C g H W, D, g, N⟩ := rfl
  rw [hg1, hg2]
  obtain ⟨GL, hGL⟩ : ∃ GL, givL C g H W = GL := ⟨_, rfl⟩
  obtain ⟨GH, hGH⟩ : ∃ GH, givH C g H W = GH := ⟨_, rfl⟩
  obtain ⟨GW, hGW⟩ : ∃ GW, givW C g H W = GW := ⟨_, rfl⟩
  have HG : Hid (givL C g H W = GL ∧ givH C g H W = GH ∧ givW C g H W = GW) := ⟨hGL, hGH, hGW⟩
  rw [hGL, hGH, hGW]
  have HO := Lib.hid hok
  have HFI := Lib.hid (a_first h 1 rfl 0)
  rw [two_first, topW_is] at HFI
  have S0 := Lib.hid h
  obtain ⟨_, _, c2, _⟩ := oa_c h
  simp only at hlen HFI
  have hl1 : W.length ≤ 1000 := by omega
  clear hGL hGH hGW hg1 hg2 h hok hlen
  go_enter Try.func36, Try.ntmps36
  go_wp2_with fail
  refine HFI.out.mono ?_
  rintro e w1 ⟨rfl, k, rfl⟩
  have S1 : Hid (Sep B w (wk.drewN k) (oa p (.pointer (some a)) mb ⟨H, C, W, D, g, N⟩ ++ (grow intE 3 (.slice none 0 0) [] :: Rs))) := ((S0.out.drewN k).growN0 intE 3).perm (by exact (List.perm_middle (l₁ := oa p (.pointer (some a)) mb ⟨H, C, W, D, g, N⟩) (l₂ := Rs)).symm)
  clear HFI S0 c2
  go_wp2
  go_loopg [3, 4] W.length (fun k v u wr => ∃ (L : List Int) (Ao : Option Addr) (co : Nat) (H1 : Int) (W1 : List Int), v = .slice Ao L.length co ∧ u = .int .i64 (topW W1) ∧ Hid (k = W1.length ∧ L.length + W1.length = W.length) ∧ Hid (L ++ givL C g H1 W1 = GL ∧ givH C g H1 W1 = GH ∧ givW C g H1 W1 = GW) ∧ Hid (SemaP.Ok ⟨H1, C, W1, D, g, N⟩) ∧ Hid (Sep B w wr (oa p (.pointer (some a)) mb ⟨H1, C, W1, D, g, N⟩ ++ (grow intE 3 (.slice Ao L.length co) L :: Rs))))
  case atStart => exact ⟨[], none, 0, H, W, rfl, rfl, ⟨rfl, by simp⟩, by rw [List.nil_append]; exact HG.out, HO.out, S1.out⟩
  case round =>
    obtain ⟨L, Ao, co, H1, W1, rfl, rfl, HL, HE, HK1, SL⟩ := hrel
    clear S1 HG HO
    have hLW := HL.out.2
    cases W1 with
    | nil =>
      have HF : Hid (Sep B w wr (nums (.slice Ao L.length co) L :: (oa p (.pointer (some a)) mb ⟨H1, C, [], D, g, N⟩ ++ Rs))) := grow_nums (SL.out.perm (by exact List.perm_middle)) (by omega)
      have HE2 : Hid (L = GL ∧ H1 = GH ∧ [] = GW) := by
        obtain ⟨e1, e2, e3⟩ := HE.out
        exact ⟨by rw [← e1]; exact (List.append_nil L).symm, e2, e3⟩
      clear SL HE HL HK1
      simp only [topW_nil]
      go_wp2
      go_ret
      obtain ⟨rfl, rfl, rfl⟩ := HE2.out
      exact ⟨_, _, rfl, HF.out⟩
    | cons x W1 =>
      have hk := HK1.out
      have hx := hk.gw x (List.mem_cons_self ..)
      have hxw := hk.ws x (List.mem_cons_self ..)
      have hN := hk.n1
      have h0 := hk.h0
      have hC := hk.h1
      have hC2 := hk.c1
      simp only at hx hxw hN h0 hC hC2
      have HT : Hid (In64 x) := ⟨by omega, by omega⟩
      have hgx : (wantF ⟨H1, C, x :: W1, D, g, N⟩ x).getD 0 = g x := by
        rw [(wantF_get _ x).1]
        unfold wantN
        rw [if_pos (waits_iff.2 (.inl (List.mem_cons_self ..)))]
      have HLK : Hid (∀ k, (Instr.lookup 61 (.map (some mb)) (.int .i64 x) false).run Try.prog (wr.drewN k) = .ok (.int .i64 (g x)) (wr.drewN k)) := fun k => by
        have := mapf_look (SL.out.drewN k) 2 rfl HT.out
        rw [hgx] at this
        exact this
      have hlk := HLK.out 0
      have K : Hid (∀ k, (wr.drewN k).cell? ⟨p, 1, none⟩ = some (.int .i64 H1) ∧ (wr.drewN k).cell? ⟨p, 3, none⟩ = some (.map (some mb)) ∧ (wr.drewN k).frozen? ⟨p, 1, none⟩ = false) := fun k => ⟨(cell_block ((SL.out.drewN k).blk_at 0 rfl) 1).trans rfl, (cell_block ((SL.out.drewN k).blk_at 0 rfl) 3).trans rfl, frozen_block ((SL.out.drewN k).blk_at 0 rfl) 1⟩
      obtain ⟨_, k3, _⟩ := K.out 0
      have hlk : (Instr.lookup 61 (.map (some mb)) (.int .i64 x) false).run Try.prog wr = .ok (.int .i64 (g x)) wr := hlk
      have k3 : wr.cell? ⟨p, 3, none⟩ = some (.map (some mb)) := k3
      have hne : (x != -1) = true := by simp; omega
      have HFT := Lib.hid (fits_s SL.out hk (g x) ⟨by omega, by omega⟩)
      by_cases hf : H1 + g x ≤ C
      · have hfv : fitsv H1 (g x) C = true := fits_yes ⟨h0, hx.1, hf⟩
        simp only [hfv] at HFT
        obtain ⟨hk2, hdr, hk3⟩ := Ok.step hk hf
        have HK2 := Lib.hid hk2
        have HK3 := Lib.hid hk3
        have HDR := Lib.hid hdr
        obtain ⟨z, hz⟩ : ∃ z, z = H1 + g x := ⟨_, rfl⟩
        have hw1 : IntKind.i64.wrap (H1 + g x) = z := by rw [hz]; exact IntWalk.i64_in _ (by omega)
        have HE2 : Hid ((L ++ [x]) ++ givL C g z W1 = GL ∧ givH C g z W1 = GH ∧ givW C g z W1 = GW) := by
          obtain ⟨e1, e2, e3⟩ := HE.out
          obtain ⟨g1, g2, g3⟩ := giv_cons (l := W1) hf
          rw [hz]
          exact ⟨by rw [List.append_assoc, ← e1, g1]; rfl, by rw [← e2, g2], by rw [← e3, g3]⟩
        rw [← hz] at HK2 HK3 HDR
        have HS2 : Hid (∀ k, Sep B w ((wr.drewN k).setCell ⟨p, 1, none⟩ (.int .i64 z)) (oa p (.pointer (some a)) mb ⟨z, C, x :: W1, D, g, N⟩ ++ (grow intE 3 (.slice Ao L.length co) L :: Rs))) := fun k => (SL.out.drewN k).set 0 rfl 1 (.int .i64 z)
        have hln : L.length + [x].length ≤ 1000000 := by simp only [List.length_cons] at hLW; show L.length + 1 ≤ _; omega
        have HLL : Hid (gk = W1.length + 1 ∧ (L ++ [x]).length + W1.length = W.length) := by
          obtain ⟨e1, e2⟩ := HL.out
          rw [List.length_cons] at e1 e2
          exact ⟨e1, by rw [List.length_append]; show L.length + 1 + W1.length = _; omega⟩
        clear HE hf hfv hk hk2 hdr hk3 hgx hx hxw hN h0 hC hC2 hz hLW HL HK1 SL
        simp only [topW_cons]
        generalize g x = y at hlk HLK HFT hw1
        go_wp2_with fail
        refine HFT.out.mono ?_
        rintro e w2 ⟨rfl, k, rfl⟩
        obtain ⟨k1, k3', f1⟩ := K.out (k + 1)
        have hlk2 := HLK.out (k + 1)
        go_wp2
        go_region
        go_wp2_with fail
        refine (drop_s (HS2.out _) HK3.out x HT.out (.inl (List.mem_cons_self ..))).mono ?_
        rintro e w3 ⟨rfl, h3⟩
        rw [HDR.out] at h3
        have S3 := Lib.hid (Sep.next h3 (new_below0 w3 (.cells #[.int .i64 x] 3)))
        have HX1 : Hid (RdL intE (w3.alloc (.cells #[.int .i64 x] 3)) (fun _ => True) (.slice (some ⟨w3.heap.size, 0, none⟩) 1 1) [x]) := RdL.lit1 (E := intE) w3 3 x (cs := #[.int .i64 x]) rfl (fun _ => True) trivial
        clear h3 HS2 HFT HLK K hlk hlk2 k1 k3 k3' f1
        go_wp2_with (at_builtin; refine wpList_appS rfl _ _ intElemL rfl rfl rfl S3.out 3 rfl HX1.out hln ?_; intro A3 c3 w4 l3 HL3 h4; have k2 := (cell_block (Sep.blk_at h4 0 rfl) 2).trans rfl)
        obtain rfl : l3 = L ++ [x] := HL3.out
        have S4 : Hid (Sep B w w4 (oa p (.pointer (some a)) mb ⟨z, C, W1, D, g, N⟩ ++ (grow intE 3 (.slice A3 (L ++ [x]).length c3) (L ++ [x]) :: Rs))) := h4
        have HFS := Lib.hid (a_first S4.out 1 rfl 0)
        rw [two_first, topW_is] at HFS
        clear h4 S3 HX1
        refine HFS.out.mono ?_
        rintro e w5 ⟨rfl, k', rfl⟩
        have S5 := Lib.hid (S4.out.drewN k')
        clear S4 HFS k2
        go_wp2
        go_roundg (W1.length)
        case measure => have := HLL.out.1; omega
        case rel => exact ⟨L ++ [x], A3, c3, z, W1, by rw [List.length_append]; rfl, rfl, ⟨rfl, HLL.out.2⟩, HE2.out, HK2.out, S5.out⟩
      · have hfv : fitsv H1 (g x) C = false := fits_no (.inr (by omega))
        simp only [hfv] at HFT
        have HE2 : Hid (L = GL ∧ H1 = GH ∧ x :: W1 = GW) := by
          obtain ⟨e1, e2, e3⟩ := HE.out
          obtain ⟨g1, g2, g3⟩ := giv_stop (C := C) (H := H1) (g := g) (l := x :: W1) fun x' l' e => by injection e with e _; subst e; omega
          rw [g1] at e1
          rw [g2] at e2
          rw [g3] at e3
          exact ⟨by rw [← e1]; exact (List.append_nil L).symm, e2, e3⟩
        have HF : Hid (∀ n, Sep B w (wr.drewN n) (nums (.slice Ao L.length co) L :: (oa p (.pointer (some a)) mb ⟨H1, C, x :: W1, D, g, N⟩ ++ Rs))) := fun n => (grow_nums (SL.out.perm (by exact List.perm_middle)) (by omega)).drewN n
        clear HE hf hfv hk hgx hx hxw hN h0 hC hC2 hLW HL HK1 SL HLK K HT
        simp only [topW_cons]
        generalize g x = y at hlk HFT
        go_wp2_with fail
        refine HFT.out.mono ?_
        rintro e w2 ⟨rfl, k, rfl⟩
        go_wp2
        go_ret
        obtain ⟨rfl, rfl, rfl⟩ := HE2.out
        exact ⟨_, _, rfl, HF.out _⟩

set_option maxRecDepth 100000 in
theorem release_s (h : Sep B w wk (oa p va mb s ++ Rs)) (hok : SemaP.Ok s) (n : Int) :
    Calls Try.prog 24 #[.pointer (some ⟨p, 0, none⟩), .int .i64 n] wk fun e wn => ∃ A c, e = .returned (.tuple #[.slice A (relL s n).length c, .int .i64 (relE s n)]) ∧ Sep B w wn (nums (.slice A (relL s n).length c) (relL s n) :: (oa p va mb (relS s n) ++ Rs)) := by
  obtain ⟨_, c1, _, _⟩ := oa_c h
  have f1 := frozen_block (h.blk_at 0 rfl) 1
  have h0 := hok.h0
  have h1 := hok.h1
  have h2 := hok.c1
  have HR := Lib.hid (rel_errs s n)
  have S0 := Lib.hid h
  have HO := Lib.hid hok
  have HL : Hid ((relE s n ≠ 0 → relL s n = [] ∧ relS s n = s) ∧ (relE s n = 0 → relL s n = outS (backS s n) ∧ relS s n = givS (backS s n))) := by
    unfold relL relS
    exact ⟨fun h => by rw [if_neg h, if_neg h]; exact ⟨rfl, rfl⟩, fun h => by rw [if_pos h, if_pos h]; exact ⟨rfl, rfl⟩⟩
  have HB : Hid (relE s n = 0 → SemaP.Ok (backS s n)) := fun h => (hok.back h).1
  obtain ⟨E, hE⟩ : ∃ E, relE s n = E := ⟨_, rfl⟩
  obtain ⟨L2, hL2⟩ : ∃ L2, relL s n = L2 := ⟨_, rfl⟩
  obtain ⟨S2, hS2⟩ : ∃ S2, relS s n = S2 := ⟨_, rfl⟩
  simp only [hE, hL2, hS2] at HR HL HB ⊢
  clear hE hL2 hS2 h hok
  rcases HR.out with ⟨hE, g1⟩ | ⟨hE, g1, g2⟩ | ⟨rfl, g1, g2⟩
  · obtain ⟨hl, hs⟩ := HL.out.1 (by omega)
    have HS := Lib.hid S0.out.nil_nums
    rw [hl, hs, hE]
    clear HL HR HB hl hs S0 h0 h1
    generalize s.H = H at *
    go_enter Try.func24, Try.ntmps24
    go_wp2
    go_ret2
    exact ⟨_, _, rfl, HS.out⟩
  · obtain ⟨hl, hs⟩ := HL.out.1 (by omega)
    have HS := Lib.hid S0.out.nil_nums
    rw [hl, hs, hE]
    clear HL HR HB hl hs S0 h0 h1
    generalize s.H = H at *
    go_enter Try.func24, Try.ntmps24
    go_wp2
    go_ret2
    exact ⟨_, _, rfl, HS.out⟩
  · obtain ⟨rfl, rfl⟩ := HL.out.2 rfl
    obtain ⟨z, hz⟩ : ∃ z, z = s.H - n := ⟨_, rfl⟩
    have hw1 : IntKind.i64.wrap (s.H - n) = z := by rw [hz]; exact IntWalk.i64_in _ (by omega)
    have HG : Hid (Calls Try.prog 36 #[.pointer (some ⟨p, 0, none⟩)] (wk.setCell ⟨p, 1, none⟩ (.int .i64 z)) fun e wn => ∃ A c, e = .returned (.slice A (outS (backS s n)).length c) ∧ Sep B w wn (nums (.slice A (outS (backS s n)).length c) (outS (backS s n)) :: (oa p va mb (givS (backS s n)) ++ Rs))) := by
      have h1 : Sep B w (wk.setCell ⟨p, 1, none⟩ (.int .i64 z)) (oa p va mb (backS s n) ++ Rs) := by
        rw [hz]
        exact S0.out.set 0 rfl 1 (.int .i64 (s.H - n))
      exact give_s h1 (HB.out rfl)
    clear HL HR HB S0 HO hz h0 h1
    generalize outS (backS s n) = L at *
    generalize givS (backS s n) = S2 at *
    generalize s.H = H at *
    go_enter Try.func24, Try.ntmps24
    go_wp2_with fail
    refine HG.out.mono ?_
    rintro e w1 ⟨A, c, rfl, h1⟩
    have H1 := Lib.hid h1
    clear h1 HG
    go_wp2
    go_ret2
    exact ⟨_, _, rfl, H1.out⟩

set_option maxRecDepth 100000 in
theorem leave_s (h : Sep B w wk (oa p va mb s ++ Rs)) (hok : SemaP.Ok s) (t : Int) (ht : In64 t) :
    Calls Try.prog 25 #[.pointer (some ⟨p, 0, none⟩), .int .i64 t] wk fun e wn => ∃ A c, e = .returned (.tuple #[.slice A (lvL s t).length c, .bool (SemaP.waitsB s t)]) ∧ Sep B w wn (nums (.slice A (lvL s t).length c) (lvL s t) :: (oa p va mb (lvS s t) ++ Rs)) := by
  have HW := Lib.hid (waits_s h t ht)
  have S0 := Lib.hid h
  have HL : Hid ((SemaP.waitsB s t = false → lvL s t = [] ∧ lvS s t = s) ∧ (SemaP.waitsB s t = true → lvL s t = outS (dropS s t) ∧ lvS s t = givS (dropS s t))) := by
    unfold lvL lvS
    exact ⟨fun h => by rw [if_neg (by rw [h]; simp), if_neg (by rw [h]; simp)]; exact ⟨rfl, rfl⟩, fun h => by rw [if_pos h, if_pos h]; exact ⟨rfl, rfl⟩⟩
  have HD : Hid (SemaP.waitsB s t = true → Calls Try.prog 38 #[.pointer (some ⟨p, 0, none⟩), .int .i64 t] wk fun e wn => e = .returned (.tuple #[]) ∧ Sep B w wn (oa p va mb (dropS s t) ++ Rs)) := fun hb => drop_s h hok t ht (waits_iff.1 hb)
  have HO := Lib.hid (hok.drop t)
  obtain ⟨Bo, hBo⟩ : ∃ Bo, SemaP.waitsB s t = Bo := ⟨_, rfl⟩
  obtain ⟨L2, hL2⟩ : ∃ L2, lvL s t = L2 := ⟨_, rfl⟩
  obtain ⟨S2, hS2⟩ : ∃ S2, lvS s t = S2 := ⟨_, rfl⟩
  simp only [hBo, hL2, hS2] at HW HL HD ⊢
  clear hBo hL2 hS2 h hok ht
  cases Bo with
  | false =>
    obtain ⟨hl, hs⟩ := HL.out.1 rfl
    have HS := Lib.hid S0.out.nil_nums
    rw [hl, hs]
    clear HL HD HO S0 hl hs
    go_enter Try.func25, Try.ntmps25
    go_wp2_with fail
    refine HW.out.mono ?_
    rintro e w1 ⟨rfl, rfl⟩
    go_wp2
    go_ret2
    exact ⟨_, _, rfl, HS.out⟩
  | true =>
    obtain ⟨rfl, rfl⟩ := HL.out.2 rfl
    have HG : Hid (∀ w2, Sep B w w2 (oa p va mb (dropS s t) ++ Rs) → Calls Try.prog 36 #[.pointer (some ⟨p, 0, none⟩)] w2 fun e wn => ∃ A c, e = .returned (.slice A (outS (dropS s t)).length c) ∧ Sep B w wn (nums (.slice A (outS (dropS s t)).length c) (outS (dropS s t)) :: (oa p va mb (givS (dropS s t)) ++ Rs))) := fun w2 h2 => give_s h2 HO.out
    have HD2 : Hid (Calls Try.prog 38 #[.pointer (some ⟨p, 0, none⟩), .int .i64 t] wk fun e wn => e = .returned (.tuple #[]) ∧ Sep B w wn (oa p va mb (dropS s t) ++ Rs)) := HD.out (by trivial)
    clear HL S0 HD HO
    generalize outS (dropS s t) = L at *
    generalize givS (dropS s t) = S2 at *
    generalize dropS s t = S1 at *
    go_enter Try.func25, Try.ntmps25
    go_wp2_with fail
    refine HW.out.mono ?_
    rintro e w1 ⟨rfl, rfl⟩
    go_wp2_with fail
    refine HD2.out.mono ?_
    rintro e w2 ⟨rfl, h2⟩
    have H2 := Lib.hid h2
    clear h2 HD2 HW
    go_wp2_with fail
    refine (HG.out _ H2.out).mono ?_
    rintro e w3 ⟨A, c, rfl, h3⟩
    have H3 := Lib.hid h3
    clear h3 HG
    go_wp2
    go_ret2
    exact ⟨_, _, rfl, H3.out⟩

theorem says_at {v : Value} {L : List (List Int)} {N : Int} (h : Sep B w wk Rs) (i : Nat) (hi : Rs[i]? = some (ob aren v (L, N))) (k : Int) {l : List Int} (hl : RefRing.listL L k = l) (Q : World) (hb : Below wk.heap.size wk Q) :
    Calls Try.prog 31 #[v, .int .i64 k] Q fun e wn => ∃ u, e = .returned u ∧ Rd wn (fun b => wk.heap.size ≤ b) u l ∧ Below Q.heap.size Q wn := by
  subst hl
  refine (a_says (h.next hb) i hi k).mono ?_
  rintro e wn ⟨u, rfl, hr, hb'⟩
  exact ⟨u, rfl, hr.mono fun b _ hk => Nat.le_trans hb.size hk, hb'⟩
set_option maxRecDepth 100000 in
theorem waiting_s (h : Sep B w wk (oa p va mb s ++ Rs)) :
    Calls Try.prog 14 #[.pointer (some ⟨p, 0, none⟩)] wk fun e wn => ∃ u u', e = .returned (.tuple #[u, u']) ∧ Says2 wk wn u u' s.W s.D := by
  have k0 := (cell_block (h.blk_at 0 rfl) 2).trans rfl
  have hg : p < wk.heap.size := lt_of_block (h.blk_at 0 rfl)
  obtain ⟨l0, l1⟩ := two_list (W := s.W) (D := s.D)
  have H0 := Lib.hid (says_at h 1 rfl 0 l0)
  have H1 := Lib.hid (says_at h 1 rfl 1 l1)
  obtain ⟨a, rfl⟩ := oa_ptr h
  have HB : Hid (Below wk.heap.size wk wk.drew) := (Below.refl _ _).drew
  have HK : Hid (∀ Q, Below wk.heap.size wk Q → Q.cell? ⟨p, 2, none⟩ = some (.pointer (some a))) := fun Q hb => (hb.cell (p := ⟨p, 2, none⟩) hg).trans k0
  clear h l0 l1 hg
  go_enter Try.func14, Try.ntmps14
  go_upto_region 1 with (fail)
  go_region_held3 (fun Q => Q.cell? ⟨p, 2, none⟩ = some (.pointer (some a))) (go_keep)
    (first
      | (go_at_call 31; (with_reducible refine (H0.out _ HB.out).mono ?_); rintro e w11 ⟨u0, rfl, r0, hb11⟩; have R0 := Lib.hid r0; have k0 := HK.out _ (HB.out.trans (hb11.mono HB.out.size)); have HB := Lib.hid (HB.out.trans (hb11.mono HB.out.size)); (first | (have R1 := Lib.hid (R1.out.below hb11)) | skip); clear r0 hb11)
      | (go_at_call 31; (with_reducible refine (H1.out _ HB.out).mono ?_); rintro e w11 ⟨u1, rfl, r1, hb11⟩; have R1 := Lib.hid r1; have k0 := HK.out _ (HB.out.trans (hb11.mono HB.out.size)); have HB := Lib.hid (HB.out.trans (hb11.mono HB.out.size)); (first | (have R0 := Lib.hid (R0.out.below hb11)) | skip); clear r1 hb11))
  all_goals
    go_wp2_with fail
    go_ret2
    exact ⟨_, _, rfl, R0.out, R1.out, HB.out⟩
end

theorem new_no_c (n c : Int) (w : World) (h : n < 1 ∨ 1000 < n ∨ c < 0) : Calls Try.prog 8 #[.int .i64 n, .int .i64 c] w fun e w' => e = .returned (.tuple #[.pointer none, .int .i64 1]) ∧ Below w.heap.size w w' := by
  by_cases hc : c < 0
  · clear h
    go_enter Try.func8, Try.ntmps8
    go_wp2
    go_ret2
    exact ⟨rfl, Below.refl _ _⟩
  · have HA := Lib.hid (RingN.new_no 2 n w (by omega))
    have d0 : decide (c < 0) = false := decide_eq_false hc
    clear h hc
    go_enter Try.func8, Try.ntmps8
    go_wp2_with fail
    refine HA.out.mono ?_
    rintro e w1 ⟨rfl, h1⟩
    have H1 := Lib.hid h1
    clear h1 HA
    go_wp2
    go_ret2
    exact ⟨rfl, H1.out⟩
theorem new_yes_c {B : Nat → Prop} {w wk : World} {Rs : List Res} (h : Sep B w wk Rs) (n c : Int) (h1 : 1 ≤ n) (h2 : n ≤ 1000) (h3 : 0 ≤ c) : Calls Try.prog 8 #[.int .i64 n, .int .i64 c] wk fun e wn => ∃ p va mb, e = .returned (.tuple #[.pointer (some ⟨p, 0, none⟩), .int .i64 0]) ∧ Sep B w wn (oa p va mb (newS c n) ++ Rs) := by
  have HA := Lib.hid (a_new h 2 n (by omega) (by omega) h1 h2)
  have d0 : decide (c < 0) = false := decide_eq_false (by omega)
  clear h h3
  go_enter Try.func8, Try.ntmps8
  go_wp2_with fail
  refine HA.out.mono ?_
  rintro e w1 ⟨a, rfl, h1⟩
  have H2 : Hid (Sep B w ((w1.alloc (.map #[] 0)).alloc (.cells #[.int .i64 c, .int .i64 0, .pointer (some a), .map (some w1.heap.size)] 63)) (oa (w1.heap.size + 1) (.pointer (some a)) w1.heap.size (newS c n) ++ Rs)) := by
    have h2 := (mapf_new h1).new (.cells #[.int .i64 c, .int .i64 0, .pointer (some a), .map (some w1.heap.size)] 63)
    rw [show (w1.alloc (.map #[] 0)).heap.size = w1.heap.size + 1 by simp] at h2
    exact h2.perm (by exact (List.Perm.swap ..).cons _)
  have hmm := @run_makeMap Try.prog
  clear h1 HA
  go_wp2
  go_ret2
  exact ⟨_, _, _, rfl, H2.out⟩

/-- A semaphore behind a pointer, in blocks of F. -/
def OA : Ob St where
  A w v F s := Fine s ∧ ∃ p va mb, v = .pointer (some ⟨p, 0, none⟩) ∧ (pack (oa p va mb s)).holds w F
  ptr := fun ⟨_, _, _, _, e, _⟩ => ⟨_, e⟩
  keep := fun ⟨o, p, va, mb, e, h⟩ hs hk => ⟨o, p, va, mb, e, (pack (oa p va mb _)).keep h hs hk⟩
  lt := fun ⟨_, p, va, mb, _, h⟩ => (pack (oa p va mb _)).lt h
section
variable {w wn : World} {F : Nat → Prop} {p mb : Nat} {va : Value} {s : St}
theorem oa_sep (h : (pack (oa p va mb s)).holds w F) : Sep F w w (oa p va mb s ++ []) := (Sep.of h).unpack
theorem oa_stays (hok : Fine s) (h : Sep F w wn (oa p va mb s ++ [])) : Stays (ob OA (.pointer (some ⟨p, 0, none⟩)) s) F w wn := by
  obtain ⟨F', hR, ho, hF⟩ := h.packed.left 0 rfl
  exact ⟨F', ⟨hok, p, va, mb, rfl, hR⟩, ho, hF⟩
theorem oa_tells {u : Value} {l : List Int} (hok : Fine s) (h : Sep F w wn (nums u l :: (oa p va mb s ++ []))) : Tells (ob OA (.pointer (some ⟨p, 0, none⟩)) s) F w wn u l := by
  have h1 : Sep F w wn (oa p va mb s ++ [nums u l]) := h.perm (by rw [List.append_nil]; exact List.perm_append_comm (l₁ := [_]))
  obtain ⟨ho, F1, F2, ha, hb, s1, s2, d⟩ := h1.packed.swap
  obtain ⟨F3, F4, hc, hd, s3, s4, e⟩ := hb
  exact ⟨F3, F1, ⟨hok, p, va, mb, rfl, hc⟩, ha.1, ho, fun k hk => s2 k (s3 k hk), s1, fun k a b => d k a (s3 k b)⟩
end

/-- Package sema, as the laws ask for it. -/
def theSg : SemaI.Sg where
  O := OA
  ok := fun h => h.1
  new_no := fun n c w _ _ h => new_no_c n c w h
  new_yes := fun n c w h1 h2 h3 h4 => by
    refine (new_yes_c (Sep.nil (fun _ => False) w) n c h1 h2 h3).mono ?_
    rintro e wn ⟨p, va, mb, rfl, hs⟩
    have hb := hs.old
    obtain ⟨_, F1, _, h5, _, s1, _, _⟩ := hs.packed
    exact ⟨_, F1, rfl, ⟨Fine.new h1 h2 h3 h4, p, va, mb, rfl, h5⟩, hb, fun k hk => (s1 k hk).resolve_left id⟩
  acquire := fun {w v F s} h t n ht hn => by
    obtain ⟨hok, p, va, mb, rfl, h⟩ := h
    refine (acquire_s (oa_sep h) hok.1 t n ht hn).mono ?_
    rintro e wn ⟨rfl, hs⟩
    exact ⟨rfl, oa_stays (hok.ask t n hn true) hs⟩
  tries := fun {w v F s} h t n ht hn => by
    obtain ⟨hok, p, va, mb, rfl, h⟩ := h
    refine (try_s (oa_sep h) hok.1 t n ht hn).mono ?_
    rintro e wn ⟨rfl, hs⟩
    exact ⟨rfl, oa_stays (hok.ask t n hn false) hs⟩
  release := fun {w v F s} h n _ => by
    obtain ⟨hok, p, va, mb, rfl, h⟩ := h
    refine (release_s (oa_sep h) hok.1 n).mono ?_
    rintro e wn ⟨A, c, rfl, hs⟩
    exact ⟨_, rfl, oa_tells (hok.rel n) hs⟩
  leave := fun {w v F s} h t ht => by
    obtain ⟨hok, p, va, mb, rfl, h⟩ := h
    refine (leave_s (oa_sep h) hok.1 t ht).mono ?_
    rintro e wn ⟨A, c, rfl, hs⟩
    exact ⟨_, rfl, oa_tells (hok.leave t) hs⟩
  held := fun {w v F s} h => by
    obtain ⟨hok, p, va, mb, rfl, h⟩ := h
    refine (held_s (oa_sep h)).mono ?_
    rintro e wn ⟨rfl, rfl⟩
    exact ⟨rfl, Below.refl _ _⟩
  cap := fun {w v F s} h => by
    obtain ⟨hok, p, va, mb, rfl, h⟩ := h
    refine (cap_s (oa_sep h)).mono ?_
    rintro e wn ⟨rfl, rfl⟩
    exact ⟨rfl, Below.refl _ _⟩
  waiting := fun {w v F s} h => by
    obtain ⟨hok, p, va, mb, rfl, h⟩ := h
    exact waiting_s (oa_sep h)
  wants := fun {w v F s} h t ht => by
    obtain ⟨hok, p, va, mb, rfl, h⟩ := h
    refine (wants_s (oa_sep h) t ht).mono ?_
    rintro e wn ⟨rfl, rfl⟩
    exact ⟨rfl, Below.refl _ _⟩
end Go.Proofs.Ytaplikopapnlpaa.SemaA
