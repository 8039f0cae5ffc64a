/-
  Contracts of the functions of package countermandref13 (the document's answer for layer 13), second part: Wants, Give. Condition: the semaphore is at hand.
-/
import Derived.Test.YtaplikopapnlpaaRefSema
import Derived.Test.YtaplikopapnlpaaRow
namespace Go.Proofs.Ytaplikopapnlpaa.RefSema
open Go.ChangeShapes Go.WideShapes Go.ChangeAt Go.RowKit Mem MutP SemaP Hand RefMut FitsC

/-- The cells of the semaphore. -/
structure Cs (w : World) (p : Nat) (H C : Int) (W D : List Int) (N : Int) (A1 : Option Addr) (c1 : Nat) (A2 : Option Addr) (c2 : Nat) (A3 : Option Addr) (c3 : Nat) (A4 : Option Addr) (c4 : Nat) : Prop where
  x0 : w.cell? ⟨p, 0, none⟩ = some (.int .i64 H)
  x1 : w.cell? ⟨p, 1, none⟩ = some (.int .i64 C)
  x2 : w.cell? ⟨p, 2, none⟩ = some (.slice A1 W.length c1)
  x3 : w.cell? ⟨p, 3, none⟩ = some (.slice A2 D.length c2)
  x4 : w.cell? ⟨p, 4, none⟩ = some (.slice A3 W.length c3)
  x5 : w.cell? ⟨p, 5, none⟩ = some (.slice A4 D.length c4)
  x6 : w.cell? ⟨p, 6, none⟩ = some (.int .i64 N)
  fr : ∀ j, w.frozen? ⟨p, j, none⟩ = false
  lt : p < w.heap.size
section
variable {B : Nat → Prop} {w wk : World} {Rs : List Res} {p : Nat} {H C : Int} {W D : List Int} {g : Int → Int} {N : Int} {A1 : Option Addr} {c1 : Nat} {A2 : Option Addr} {c2 : Nat} {A3 : Option Addr} {c3 : Nat} {A4 : Option Addr} {c4 : Nat}
theorem cells_of {cs : Array Value} {w : World} {p : Nat} (hb : w.heap[p]? = some (.cells cs 48 (0, 0))) (e : cs = #[.int .i64 H, .int .i64 C, .slice A1 W.length c1, .slice A2 D.length c2, .slice A3 W.length c3, .slice A4 D.length c4, .int .i64 N]) : Cs w p H C W D N A1 c1 A2 c2 A3 c3 A4 c4 := by
  subst e
  exact ⟨(cell_block hb 0).trans rfl, (cell_block hb 1).trans rfl, (cell_block hb 2).trans rfl, (cell_block hb 3).trans rfl, (cell_block hb 4).trans rfl, (cell_block hb 5).trans rfl, (cell_block hb 6).trans rfl, frozen_block hb, lt_of_block hb⟩
theorem rgo_cs (h : Sep B w wk (rgo p H C W D g N A1 c1 A2 c2 A3 c3 A4 c4 ++ Rs)) : Cs wk p H C W D N A1 c1 A2 c2 A3 c3 A4 c4 := cells_of (h.blk_at 0 rfl) rfl

set_option maxRecDepth 100000 in
set_option maxHeartbeats 1000000 in
theorem wants_o (h : Sep B w wk (rgo p H C W D g N A1 c1 A2 c2 A3 c3 A4 c4 ++ Rs)) (t : Int) (hl : W.length + D.length ≤ 1000) :
    Calls Try.prog 19 #[.pointer (some ⟨p, 0, none⟩), .int .i64 t] wk fun e wn => e = .returned (.tuple #[.int .i64 (if (inL W t || inL D t) = true then g t else 0), .bool (inL W t || inL D t)]) ∧ wk = wn := by
  obtain ⟨_, _, x2, x3, x4, x5, _, _, _⟩ := rgo_cs h
  have HW := Lib.hid (h.rd 1 rfl)
  have HD := Lib.hid (h.rd 2 rfl)
  have HWN := Lib.hid (h.rd 3 rfl)
  have HDN := Lib.hid (h.rd 4 rfl)
  have HIW : Hid (t ∈ W → (inL W t || inL D t) = true) := fun hm => by rw [in_iff.2 hm]; rfl
  have HID : Hid (t ∈ D → (inL W t || inL D t) = true) := fun hm => by rw [in_iff.2 hm, Bool.or_true]
  have HNO : Hid (t ∉ W → t ∉ D → (inL W t || inL D t) = false) := fun h1 h2 => by
    have e1 : inL W t = false := by unfold inL; exact decide_eq_false h1
    have e2 : inL D t = false := by unfold inL; exact decide_eq_false h2
    rw [e1, e2]; rfl
  clear h
  generalize (inL W t || inL D t) = bo at *
  go_enter Try.func19, Try.ntmps19
  go_wp2
  go_loopw [6] (fun u wr => ∃ i : Nat, i ≤ W.length ∧ u = .int .i64 i ∧ Hid (t ∉ W.take i) ∧ wr = wk) (fun u _ => W.length - (intOf u).toNat)
  case atStart => exact ⟨0, Nat.zero_le _, rfl, by show t ∉ _; simp, rfl⟩
  case round =>
    obtain ⟨i, hi, rfl, HN, rfl⟩ := hrel
    by_cases hlt : i < W.length
    · obtain ⟨b, off, rfl, _, q0, hg⟩ := rd_at HW.out hlt
      obtain ⟨b', off', rfl, _, q1, _⟩ := rd_at HWN.out (i := i) (by rw [List.length_map]; exact hlt)
      rw [map_getD g hlt] at q1
      have HTk : Hid (W.take (i + 1) = W.take i ++ [W.getD i 0]) := by show _ = _; rw [List.take_add_one, hg]; rfl
      have HG := Lib.hid hg
      have i0 : (0 : Int) ≤ (i : Int) := by omega
      have i1 : (i : Int) < (W.length : Int) := by omega
      clear hg
      generalize W.getD i 0 = x at *
      by_cases hx : x = t
      · subst hx
        have hb := HIW.out (List.mem_of_getElem? HG.out)
        subst hb
        go_wp2
        go_ret2
        exact ⟨rfl, rfl⟩
      · have e1 : (x == t) = false := by simpa using hx
        have HN2 : Hid (t ∉ W.take (i + 1)) := by
          show t ∉ _
          rw [HTk.out]
          intro hm
          rcases List.mem_append.1 hm with hm | hm
          · exact HN.out hm
          · rw [List.mem_singleton] at hm; exact hx hm.symm
        clear hx
        go_wp2
        go_roundw
        case rel => exact ⟨i + 1, by omega, by go_num, HN2, trivial⟩
        case measure => simp [intOf]; omega
    · have HNW : Hid (t ∉ W) := by
        have := HN.out
        rw [List.take_of_length_le (by omega)] at this
        exact this
      clear HN
      go_wp2
      go_loopw [7] (fun u wr2 => ∃ i : Nat, i ≤ D.length ∧ u = .int .i64 i ∧ Hid (t ∉ D.take i) ∧ wr2 = wr) (fun u _ => D.length - (intOf u).toNat)
      case atStart => exact ⟨0, Nat.zero_le _, rfl, by show t ∉ _; simp, rfl⟩
      case round =>
        obtain ⟨i, hi, rfl, HN, rfl⟩ := hrel
        by_cases hlt : i < D.length
        · obtain ⟨b, off, rfl, _, q0, hg⟩ := rd_at HD.out hlt
          obtain ⟨b', off', rfl, _, q1, _⟩ := rd_at HDN.out (i := i) (by rw [List.length_map]; exact hlt)
          rw [map_getD g hlt] at q1
          have HTk : Hid (D.take (i + 1) = D.take i ++ [D.getD i 0]) := by show _ = _; rw [List.take_add_one, hg]; rfl
          have HG := Lib.hid hg
          have i0 : (0 : Int) ≤ (i : Int) := by omega
          have i1 : (i : Int) < (D.length : Int) := by omega
          clear hg
          generalize D.getD i 0 = x at *
          by_cases hx : x = t
          · subst hx
            have hb := HID.out (List.mem_of_getElem? HG.out)
            subst hb
            go_wp2
            go_ret2
            exact ⟨rfl, rfl⟩
          · have e1 : (x == t) = false := by simpa using hx
            have HN2 : Hid (t ∉ D.take (i + 1)) := by
              show t ∉ _
              rw [HTk.out]
              intro hm
              rcases List.mem_append.1 hm with hm | hm
              · exact HN.out hm
              · rw [List.mem_singleton] at hm; exact hx hm.symm
            clear hx
            go_wp2
            go_roundw
            case rel => exact ⟨i + 1, by omega, by go_num, HN2, trivial⟩
            case measure => simp [intOf]; omega
        · have hb : bo = false := HNO.out HNW.out (by
            have := HN.out
            rw [List.take_of_length_le (by omega)] at this
            exact this)
          subst hb
          go_wp2
          go_ret2
          exact ⟨rfl, rfl⟩

set_option maxRecDepth 100000 in
set_option maxHeartbeats 2000000 in
theorem give_o (h : Sep B w wk (rgo p H C W D g N A1 c1 A2 c2 A3 c3 A4 c4 ++ Rs)) (f1 : W.length ≤ c1) (f3 : W.length ≤ c3) (h0 : 0 ≤ H) (h1 : H ≤ C) (hC : C ≤ 9223372036854775807) (hg : ∀ x ∈ W, 0 ≤ g x ∧ g x ≤ C) (hl : W.length ≤ 1000) :
    Calls Try.prog 29 #[.pointer (some ⟨p, 0, none⟩)] wk fun e wn => ∃ A c A1' c1' A3' c3', e = .returned (.slice A (givL C g H W).length c) ∧ Sep B w wn (nums (.slice A (givL C g H W).length c) (givL C g H W) :: (rgo p (givH C g H W) C (givW C g H W) D g N A1' c1' A2 c2 A3' c3' A4 c4 ++ Rs)) ∧ (givW C g H W).length ≤ c1' ∧ (givW C g H W).length ≤ c3' := by
  have S0 := Lib.hid (h.grow0 intE 3)
  clear h
  obtain ⟨GL, hGL⟩ : ∃ GL, givL C g H W = GL := ⟨_, rfl⟩
  obtain ⟨GH, hGH⟩ : ∃ GH, givH C g H W = GH := ⟨_, rfl⟩
  obtain ⟨GW, hGW⟩ : ∃ GW, givW C g H W = GW := ⟨_, rfl⟩
  have HG : Hid (givL C g H W = GL ∧ givH C g H W = GH ∧ givW C g H W = GW) := ⟨hGL, hGH, hGW⟩
  have HK : Hid (0 ≤ H ∧ H ≤ C ∧ (∀ x ∈ W, 0 ≤ g x ∧ g x ≤ C) ∧ W.length ≤ c1 ∧ W.length ≤ c3) := ⟨h0, h1, hg, f1, f3⟩
  rw [hGL, hGH, hGW]
  clear hGL hGH hGW h0 h1 hg f1 f3
  go_enter Try.func29, Try.ntmps29
  go_wp2
  go_loopg [3] W.length (fun k v wr => ∃ (L : List Int) (Ao : Option Addr) (co : Nat) (H1 : Int) (W1 : List Int) (B1 : Option Addr) (d1 : Nat) (B3 : Option Addr) (d3 : Nat), v = .slice Ao L.length co ∧ Hid (k = W1.length ∧ L.length + W1.length = W.length) ∧ Hid (L ++ givL C g H1 W1 = GL ∧ givH C g H1 W1 = GH ∧ givW C g H1 W1 = GW) ∧ Hid (0 ≤ H1 ∧ H1 ≤ C ∧ (∀ x ∈ W1, 0 ≤ g x ∧ g x ≤ C) ∧ W1.length ≤ d1 ∧ W1.length ≤ d3) ∧ Hid (Sep B w wr (grow intE 3 (.slice Ao L.length co) L :: (rgo p H1 C W1 D g N B1 d1 A2 c2 B3 d3 A4 c4 ++ Rs))))
  case atStart => exact ⟨[], _, _, H, W, A1, c1, A3, c3, rfl, ⟨rfl, by simp⟩, by rw [List.nil_append]; exact HG.out, HK.out, S0.out⟩
  case round =>
    obtain ⟨L, Ao, co, H1, W1, B1, d1, B3, d3, rfl, HL, HE, HK1, SL⟩ := hrel
    clear S0 HG HK
    obtain ⟨x0, x1, x2, _, x4, _, _, fr, hpl⟩ := cells_of (SL.out.blk_at 1 rfl) rfl
    obtain ⟨H0, H1C, hgs, hd1, hd3⟩ := HK1.out
    have hLW := HL.out.2
    cases W1 with
    | nil =>
      have HF : Hid (∀ n, Sep B w (wr.drewN n) (nums (.slice Ao L.length co) L :: (rgo p H1 C [] D g N B1 d1 A2 c2 B3 d3 A4 c4 ++ Rs))) := fun n => (grow_nums SL.out (by omega)).drewN n
      have HE2 : Hid (L = GL ∧ H1 = GH ∧ [] = GW) := by
        obtain ⟨e1, e2, e3⟩ := HE.out
        exact ⟨by rw [← e1]; exact (List.append_nil L).symm, e2, e3⟩
      clear hgs SL HE HL HK1
      simp only [List.length_nil] at *
      go_wp2
      go_quiet (fail)
      go_wp2
      go_ret
      obtain ⟨rfl, rfl, rfl⟩ := HE2.out
      exact ⟨_, _, _, _, _, _, rfl, HF.out _, Nat.zero_le _, Nat.zero_le _⟩
    | cons x W1 =>
      have hx := hgs x (List.mem_cons_self ..)
      have HGS : Hid (∀ y ∈ W1, 0 ≤ g y ∧ g y ≤ C) := fun y hy => hgs y (List.mem_cons_of_mem _ hy)
      obtain ⟨b1, o1, rfl, hb1, hl1, q1⟩ := Sep.head_at SL.out.tail 0 rfl
      obtain ⟨b3, o3, rfl, hb3, hl3, q3⟩ := Sep.head_at (x := g x) (W := W1.map g) SL.out.tail 2 rfl
      by_cases hf : H1 + g x ≤ C
      · have HFI : Hid (∀ v, Calls Try.prog 28 #[.int .i64 H1, .int .i64 (g x), .int .i64 C] v fun e w' => e = .returned (.bool true) ∧ v = w') := fun v => rfits_is ⟨by omega, by omega⟩ ⟨by omega, by omega⟩ ⟨by omega, by omega⟩ (fits_yes ⟨H0, hx.1, hf⟩)
        obtain ⟨z, hz⟩ : ∃ z, z = H1 + g x := ⟨_, rfl⟩
        have hw1 : IntKind.i64.wrap (H1 + g x) = z := by rw [hz]; exact IntWalk.i64_in _ (by omega)
        have HE2 : Hid ((L ++ [x]) ++ givL C g z W1 = GL ∧ givH C g z W1 = GH ∧ givW C g z W1 = GW) := by
          obtain ⟨e1, e2, e3⟩ := HE.out
          obtain ⟨g1, g2, g3⟩ := giv_cons (l := W1) hf
          rw [hz]
          exact ⟨by rw [List.append_assoc, ← e1, g1]; rfl, by rw [← e2, g2], by rw [← e3, g3]⟩
        have HZ : Hid (0 ≤ z ∧ z ≤ C) := ⟨by omega, by omega⟩
        simp only [List.length_cons] at hd1 hd3 hLW x2 x4
        obtain ⟨B1', hB1, hr1, hr1'⟩ := run_next und1 size1 (some ⟨b1, o1, none⟩) W1.length d1 hd1
        obtain ⟨B3', hB3, hr3, hr3'⟩ := run_next und2 size2 (some ⟨b3, o3, none⟩) W1.length d3 hd3
        have HB1 := Lib.hid hB1
        have HB3 := Lib.hid hB3
        clear hz HE hf hgs hx hB1 hB3 H0 H1C
        have d0 : decide (((W1.length + 1 : Nat) : Int) > 0) = true := decide_eq_true (by omega)
        have i1 : (0 : Int) < ((W1.length + 1 : Nat) : Int) := by omega
        have HX : Hid (∀ n, RdL intE (((wr.drewN n).setCell ⟨p, 0, none⟩ (.int .i64 z)).alloc (.cells #[.int .i64 x] 3)) (fun _ => True) (.slice (some ⟨wr.heap.size, 0, none⟩) 1 1) [x]) := fun n => by
          have h1 := RdL.lit1 (E := intE) ((wr.drewN n).setCell ⟨p, 0, none⟩ (.int .i64 z)) 3 x (cs := #[.int .i64 x]) rfl (fun _ => True) trivial
          rw [show ((wr.drewN n).setCell ⟨p, 0, none⟩ (.int .i64 z)).heap.size = wr.heap.size by simp [World.setCell, World.drewN]] at h1
          exact h1
        have HS1 : Hid (∀ n, Sep B w ((wr.drewN n).setCell ⟨p, 0, none⟩ (.int .i64 z)) (grow intE 3 (.slice Ao L.length co) L :: blk p (.cells #[.int .i64 z, .int .i64 C, .slice (some ⟨b1, o1, none⟩) (W1.length + 1) d1, .slice A2 D.length c2, .slice (some ⟨b3, o3, none⟩) (W1.length + 1) d3, .slice A4 D.length c4, .int .i64 N] 48) :: nums (.slice (some ⟨b1, o1, none⟩) (W1.length + 1) d1) (x :: W1) :: nums (.slice A2 D.length c2) D :: nums (.slice (some ⟨b3, o3, none⟩) (W1.length + 1) d3) ((x :: W1).map g) :: nums (.slice A4 D.length c4) (D.map g) :: Rs)) := fun n => (SL.out.drewN n).set 1 rfl 0 (.int .i64 z)
        have hk2 : ∀ v : World, v.heap[p]? = some (.cells #[.int .i64 z, .int .i64 C, .slice (some ⟨b1, o1, none⟩) (W1.length + 1) d1, .slice A2 D.length c2, .slice (some ⟨b3, o3, none⟩) (W1.length + 1) d3, .slice A4 D.length c4, .int .i64 N] 48 (0, 0)) → v.cell? ⟨p, 2, none⟩ = some (.slice (some ⟨b1, o1, none⟩) (W1.length + 1) d1) := fun v hv => (cell_block hv 2).trans rfl
        have hk4 : ∀ v : World, v.heap[p]? = some (.cells #[.int .i64 z, .int .i64 C, .slice (some ⟨b1, o1, none⟩) (W1.length + 1) d1, .slice A2 D.length c2, .slice (some ⟨b3, o3, none⟩) (W1.length + 1) d3, .slice A4 D.length c4, .int .i64 N] 48 (0, 0)) → v.cell? ⟨p, 4, none⟩ = some (.slice (some ⟨b3, o3, none⟩) (W1.length + 1) d3) := fun v hv => (cell_block hv 4).trans rfl
        have HFIN : Hid (∀ (v : World) (A : Option Addr) (c : Nat) (l : List Int), Sep B w v (grow intE 3 (.slice A l.length c) l :: blk p (.cells #[.int .i64 z, .int .i64 C, .slice (some ⟨b1, o1, none⟩) (W1.length + 1) d1, .slice A2 D.length c2, .slice (some ⟨b3, o3, none⟩) (W1.length + 1) d3, .slice A4 D.length c4, .int .i64 N] 48) :: nums (.slice (some ⟨b1, o1, none⟩) (W1.length + 1) d1) (x :: W1) :: nums (.slice A2 D.length c2) D :: nums (.slice (some ⟨b3, o3, none⟩) (W1.length + 1) d3) ((x :: W1).map g) :: nums (.slice A4 D.length c4) (D.map g) :: Rs) → Sep B w ((v.setCell ⟨p, 2, none⟩ (.slice B1' W1.length (d1 - 1))).setCell ⟨p, 4, none⟩ (.slice B3' W1.length (d3 - 1))) (grow intE 3 (.slice A l.length c) l :: (rgo p z C W1 D g N B1' (d1 - 1) A2 c2 B3' (d3 - 1) A4 c4 ++ Rs))) := fun v A c l hv => by
          have h1 := (hv.set 1 rfl 2 (.slice B1' W1.length (d1 - 1))).set 1 rfl 4 (.slice B3' W1.length (d3 - 1))
          have h2 := h1.next_at 2 (A' := B1') (c' := d1 - 1) rfl HB1.out
          have h3 := h2.next_at 4 (A := some ⟨b3, o3, none⟩) (A' := B3') (c' := d3 - 1) (x := g x) (W := W1.map g) rfl (by rw [List.length_map]; exact HB3.out)
          rw [List.length_map] at h3
          exact h3
        have hln : L.length + [x].length ≤ 1000000 := by show L.length + 1 ≤ _; omega
        clear HB1 HB3
        generalize g x = y at q3 HFI hw1
        go_wp2
        go_quiet ((go_at_call 28; exact RingI.quiet_left (HFI.out _)))
        go_wp2
        go_region
        go_wp2_with (at_builtin; refine wpList_appS rfl _ _ intElemL rfl rfl rfl ((HS1.out _).next (new_below0 _ _)) 0 rfl (HX.out _) hln ?_; intro A3 c3' w3 l3 HL3 h3; have k2 := hk2 w3 (Sep.blk_at h3 1 rfl); have k4 := hk4 w3 (Sep.blk_at h3 1 rfl); have f2 := frozen_block (Sep.blk_at h3 1 rfl) 2; have f4 := frozen_block (Sep.blk_at h3 1 rfl) 4; have S3 := Lib.hid h3; clear h3)
        have hl3 : l3 = L ++ [x] := HL3.out
        subst hl3
        go_wp2
        go_roundg (W1.length)
        case measure => have := HL.out.1; simp at this; omega
        case rel => exact ⟨L ++ [x], A3, c3', z, W1, B1', d1 - 1, B3', d3 - 1, by rw [List.length_append]; rfl, ⟨rfl, by have := HL.out.2; simp at this ⊢; omega⟩, HE2.out, ⟨HZ.out.1, HZ.out.2, HGS.out, by omega, by omega⟩, HFIN.out w3 A3 c3' _ S3.out⟩
      · have HFI : Hid (∀ v, Calls Try.prog 28 #[.int .i64 H1, .int .i64 (g x), .int .i64 C] v fun e w' => e = .returned (.bool false) ∧ v = w') := fun v => rfits_is ⟨by omega, by omega⟩ ⟨by omega, by omega⟩ ⟨by omega, by omega⟩ (fits_no (.inr (by omega)))
        have HE2 : Hid (L = GL ∧ H1 = GH ∧ x :: W1 = GW) := by
          obtain ⟨e1, e2, e3⟩ := HE.out
          obtain ⟨g1, g2, g3⟩ := giv_stop (C := C) (H := H1) (g := g) (l := x :: W1) fun x' l' e => by injection e with e _; subst e; omega
          rw [g1] at e1
          rw [g2] at e2
          rw [g3] at e3
          exact ⟨by rw [← e1]; exact (List.append_nil L).symm, e2, e3⟩
        have HF : Hid (∀ n, Sep B w (wr.drewN n) (nums (.slice Ao L.length co) L :: (rgo p H1 C (x :: W1) D g N (some ⟨b1, o1, none⟩) d1 A2 c2 (some ⟨b3, o3, none⟩) d3 A4 c4 ++ Rs))) := fun n => (grow_nums SL.out (by omega)).drewN n
        have HD1 : Hid ((x :: W1).length ≤ d1 ∧ (x :: W1).length ≤ d3) := ⟨hd1, hd3⟩
        have i1 : (0 : Int) < ((W1.length + 1 : Nat) : Int) := by omega
        have i2 : ((W1.length + 1 : Nat) : Int) > 0 := by omega
        have d0 : decide (((W1.length + 1 : Nat) : Int) > 0) = true := decide_eq_true i2
        simp only [List.length_cons] at x2 x4
        clear HE hf hgs hx H0 H1C SL HL HK1 HGS hLW hd1 hd3 i2
        generalize g x = y at *
        go_wp2
        go_quiet ((go_at_call 28; exact RingI.quiet_left (HFI.out _)))
        go_wp2
        go_ret
        obtain ⟨rfl, rfl, rfl⟩ := HE2.out
        exact ⟨_, _, _, _, _, _, rfl, HF.out _, HD1.out.1, HD1.out.2⟩
end
end Go.Proofs.Ytaplikopapnlpaa.RefSema
