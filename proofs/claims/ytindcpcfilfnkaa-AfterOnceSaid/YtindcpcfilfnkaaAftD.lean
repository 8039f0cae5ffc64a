/-
  Contracts of the functions of package after, as it landed, second part: leave, Stop. Condition: the list is at hand.
-/
import Derived.Test.YtindcpcfilfnkaaAftC
namespace Go.Proofs.Ytindcpcfilfnkaa.AftC
open Go.ChangeShapes Go.WideShapes Go.ChangeAt Go.RowKit Mem AfterP Hand RefAfter

section
variable {B : Nat → Prop} {w wk : World} {Rs : List Res} {p b n : Nat} {M : Int} {f : Int → Value} {L : List Rg}
/-- The cells of a registration at hand. -/
theorem row_cells {A : Option Addr} {c m : Nat} {X : List Rg} {W : Int → List Int} (hs : Sep B w wk (lst p M (.slice A m c) b n f X W ++ Rs)) {k : Nat} (hk : k < X.length) :
    m = X.length ∧ ∃ bb, A = some ⟨bb, 0, none⟩ ∧ wk.cell? ⟨bb, k * 3, none⟩ = some (.int .i64 (rg X k).on) ∧ wk.cell? ⟨bb, k * 3 + 2, none⟩ = some (.int .i64 (rg X k).st) ∧ ∀ j, wk.frozen? ⟨bb, j, none⟩ = false := by
  obtain ⟨bb, cc, e, _, hc, hf⟩ := hs.elem 1 rfl (rg_at hk)
  injection e with e1 e2 e3
  exact ⟨e2, bb, e1, hc 0 _ rfl, hc 2 _ rfl, hf⟩

set_option maxRecDepth 100000 in
set_option maxHeartbeats 2000000 in
/-- leave(k): it isn't among those any more that wait for what it waited for. -/
theorem leave_s {A : Option Addr} {c m : Nat} {X : List Rg} {W : Int → List Int} (h : Sep B w wk (lst p M (.slice A m c) b n f X W ++ Rs)) {k i : Nat} (hk : k < X.length) {d : Int} (hd : (rg X k).on = d) (hon : In64 d) (hi : (W d)[i]? = some (k : Int)) (hn : (k : Int) ∉ (W d).take i) (hl : (W d).length ≤ 200) (hn6 : n < 1000000) :
    Calls Try.prog 25 #[.pointer (some ⟨p, 0, none⟩), .int .i64 k] wk fun e wn => e = .returned (.tuple #[]) ∧ ∃ f', Sep B w wn (lst p M (.slice A m c) b n f' X (fun x => if x = d then (W d).eraseIdx i else W x) ++ Rs) := by
  obtain ⟨rfl, bb, rfl, c0, _, _⟩ := row_cells h hk
  have k1 := (cell_block (h.blk_at 0 rfl) 1).trans rfl
  have k2 := (cell_block (h.blk_at 0 rfl) 2).trans rfl
  have S1 := Lib.hid (lst_take h d)
  have hlk := sm_look h 2 rfl hon
  rw [hd] at c0
  have hil : i < (W d).length := (List.getElem?_eq_some_iff.1 hi).1
  obtain ⟨Ao, co, hfo⟩ := (S1.out.own 3 rfl).form
  have HFO := Lib.hid hfo
  have HON := Lib.hid hon
  have HEN : Hid ((W d).length ≠ 0) := by show ¬ _; omega
  have HEI : Hid (((W d).eraseIdx i).length = (W d).length - 1) := by show _ = _; rw [List.length_eraseIdx, if_pos hil]
  have HRD : Hid (Rd wk (fun _ => True) (.slice Ao (W d).length co) (W d)) := by
    have h1 := rd_of ((S1.out.own 3 rfl).rd (G := fun _ => True) (by omega) fun _ _ => trivial)
    rw [hfo] at h1
    exact h1
  have S2 := S1.out
  rw [hfo] at S2 hlk
  obtain ⟨j, hj⟩ : ∃ j : Nat, j = i + 1 := ⟨_, rfl⟩
  obtain ⟨q, hq⟩ : ∃ q : Nat, q + 1 = (W d).length := ⟨(W d).length - 1, by omega⟩
  have HIX := Lib.hid (index_c HRD.out (k : Int) hi hn)
  have HDE := Lib.hid (delete_s S2 (i := 3) rfl (by omega) i j q hil hj hq)
  have hj1 : (i : Int) + 1 = (j : Int) := by omega
  have hz0 : (0 : Int) ≤ (k : Int) := by omega
  have hz1 : (k : Int) < (X.length : Int) := by omega
  have hi200 : (i : Int) < 200 := by omega
  have hjw : IntKind.i64.wrap (j : Int) = j := IntWalk.i64_in _ (by omega)
  have HLE : Hid (((W d).eraseIdx i).length = q) := by show _ = _; rw [HEI.out]; omega
  clear h S1 hi hn hon hd hfo hil HRD S2 hj hq HEI
  generalize (W d).length = nw at *
  generalize (W d).eraseIdx i = wd at *
  go_enter Try.func25, Try.ntmps25
  go_wp2_with fail
  refine HIX.out.mono ?_
  rintro e w1 ⟨rfl, rfl⟩
  go_wp2_with fail
  refine HDE.out.mono ?_
  rintro e w2 ⟨rfl, h2⟩
  have S3 : Hid (Sep B w w2 (blk p (.cells #[.int .i64 M, .slice (some ⟨bb, 0, none⟩) X.length c, .map (some b)] 60) :: grow rgE 54 (.slice (some ⟨bb, 0, none⟩) X.length c) X :: sm b n f :: grow intE 3 (.slice Ao q co) wd :: fam (fun x => x ≠ d) f W :: Rs)) := h2
  have k2 := (cell_block (h2.blk_at 0 rfl) 2).trans rfl
  clear h2 HIX HDE hlk c0 k1
  by_cases hq0 : q = 0
  · subst hq0
    have HW0 : Hid (wd = []) := List.eq_nil_of_length_eq_zero HLE.out
    go_wp2_with (at_delete; refine wp_sdel rfl _ _ rfl rfl rfl S3.out 2 rfl HON.out ?_)
    intro w3 h3
    have HFIN : Hid (Sep B w w3 (lst p M (.slice (some ⟨bb, 0, none⟩) X.length c) b n (upd f d vN) X (fun x => if x = d then wd else W x) ++ Rs)) :=
      (lst_out h3 rfl (by rw [if_pos rfl]; exact HW0.out) fun x hx => by rw [if_neg hx]).tail
    clear h3 S3 k2
    go_wp2
    (try simp only [Exit.inBlock, Exit.then])
    refine bodyPost_ret (results_none rfl _ _ _) rfl ?_
    exact ⟨rfl, _, HFIN.out⟩
  · have hq1 : ((q : Int) == 0) = false := by rw [beq_eq_false_iff_ne]; omega
    have HNV : Hid (f d ≠ vN) := by show ¬ _; rw [HFO.out]; unfold vN; intro e; injection e with _ e2 _; exact HEN.out e2
    clear hq0
    go_wp2_with (at_mapUpdate; refine wp_sput rfl _ _ _ rfl rfl rfl rfl S3.out 2 rfl HON.out (.inr ⟨rfl, HNV.out⟩) hn6 ?_)
    intro w3 h3
    have HFIN : Hid (Sep B w w3 (lst p M (.slice (some ⟨bb, 0, none⟩) X.length c) b n (upd f d (.slice Ao q co)) X (fun x => if x = d then wd else W x) ++ Rs)) :=
      lst_put h3 rfl (by rw [if_pos rfl]) fun x hx => by rw [if_neg hx]
    clear h3 S3 k2
    go_wp2
    go_end0
    exact ⟨rfl, _, HFIN.out⟩

set_option maxRecDepth 100000 in
set_option maxHeartbeats 2000000 in
/-- Stop(n). -/
theorem stopL_s (h : Sep B w wk (la p L M :: Rs)) (n : Int) (hn : In64 n) :
    Calls Try.prog 20 #[.pointer (some ⟨p, 0, none⟩), .int .i64 n] wk fun e wn => e = .returned (.bool (stopB L n)) ∧ Sep B w wn (la p (stopL L n) M :: Rs) := by
  obtain ⟨A, c, b, f, hs, hok⟩ := la_open h
  have HOK := Lib.hid (hok.stop n)
  have hl := hok.len
  have hm := hok.m1
  have k1 := (cell_block (hs.blk_at 0 rfl) 1).trans rfl
  have hl200 : L.length ≤ 200 := by omega
  by_cases ht : 0 ≤ n ∧ n < L.length
  · obtain ⟨k, rfl⟩ : ∃ k : Nat, n = k := ⟨n.toNat, by omega⟩
    have hk : k < L.length := by omega
    have hth : thereR L (k : Nat) = true := thereR_iff.2 (by omega)
    obtain ⟨_, bb, rfl, c0, c2, cf⟩ := row_cells hs hk
    have e1 : decide ((k : Int) < 0) = false := by simp
    have e2 : decide ((L.length : Int) ≤ (k : Int)) = false := by simp; omega
    have z0 : (0 : Int) ≤ (k : Int) := by omega
    have z1 : (k : Int) < (L.length : Int) := by omega
    by_cases hst : (rg L (k : Nat)).st = 1
    · have HE : Hid (stopB L (k : Nat) = true ∧ stopL L (k : Nat) = L.set k { rg L (k : Nat) with st := 3 }) := by
        have : stopB L (k : Nat) = true := by unfold stopB; rw [hth, hst]; rfl
        refine ⟨this, ?_⟩
        unfold stopL
        rw [if_pos this]
        rfl
      have HON : Hid (In64 (rg L (k : Nat)).on) := (hok.ins _ (List.mem_of_getElem? (rg_at hk))).1
      have hmem : (k : Int) ∈ waitsL L (rg L (k : Nat)).on := mem_waits.2 ⟨hth, rfl, hst⟩
      obtain ⟨i, hi, hni⟩ := first_place (waits_sorted L _) hmem
      have HI := Lib.hid hi
      have HNI : Hid ((k : Int) ∉ (waitsL L (rg L (k : Nat)).on).take i) := hni
      have S1 : Hid (Sep B w (wk.setCell ⟨bb, k * 3 + 2, none⟩ (.int .i64 3)) (lst p M (.slice (some ⟨bb, 0, none⟩) L.length c) b L.length f (L.set k { rg L (k : Nat) with st := 3 }) (waitsL L) ++ Rs)) :=
        hs.setc 1 rfl (x' := { rg L (k : Nat) with st := 3 }) (j := 2) (u := .int .i64 3) (rg_at hk) (by show 2 < 3; omega) rfl
      have hf2 := cf (k * 3 + 2)
      have hkl : k < (L.set k { rg L (k : Nat) with st := 3 }).length := by rw [List.length_set]; exact hk
      have hrg : (rg (L.set k { rg L (k : Nat) with st := 3 }) k).on = (rg L (k : Nat)).on := by rw [rg_set L hk, if_pos rfl]
      have HWL : Hid ((waitsL L (rg L (k : Nat)).on).length ≤ 200) := Nat.le_trans (waits_len L _) hl200
      have HLV := Lib.hid (leave_s S1.out hkl hrg HON.out HI.out HNI.out HWL.out (by omega))
      have HWS : Hid ((fun x => if x = (rg L (k : Nat)).on then (waitsL L (rg L (k : Nat)).on).eraseIdx i else waitsL L x) = waitsL (stopL L (k : Nat)) ∧ L.length ≤ (stopL L (k : Nat)).length) := ⟨by
        funext x
        exact (waits_stop L HI.out x).symm, by rw [HE.out.2, List.length_set]; exact Nat.le_refl _⟩
      rw [← HE.out.2] at HLV
      rw [HE.out.1]
      rw [hst] at c2
      clear h hs hok hmem hi hni ht hst cf hkl hrg hth HI HNI HWL c0
      go_enter Try.func20, Try.ntmps20
      go_wp2_with fail
      refine HLV.out.mono ?_
      rintro e w2 ⟨rfl, f', h2⟩
      rw [HWS.out.1] at h2
      have HFIN := Lib.hid (la_close h2 HWS.out.2 HOK.out)
      clear h2 HLV S1 k1 c2 hf2
      go_wp2
      go_ret
      exact ⟨rfl, HFIN.out⟩
    · have HE : Hid (stopB L (k : Nat) = false ∧ stopL L (k : Nat) = L) := by
        have : stopB L (k : Nat) = false := by unfold stopB; rw [hth, Bool.true_and]; exact decide_eq_false hst
        refine ⟨this, ?_⟩
        unfold stopL
        rw [if_neg (by rw [this]; exact Bool.false_ne_true)]
      have e3 : ((rg L (k : Nat)).st != 1) = true := by simpa using hst
      have HH := Lib.hid h
      rw [HE.out.1, HE.out.2]
      clear h hs hok ht hst cf hth c0
      generalize (rg L (k : Nat)).st = st at *
      go_enter Try.func20, Try.ntmps20
      go_wp2
      go_ret
      exact ⟨rfl, HH.out⟩
  · have HE : Hid (stopB L n = false ∧ stopL L n = L) := by
      have h1 : thereR L n = false := by rw [Bool.eq_false_iff]; intro e; exact ht (thereR_iff.1 e)
      have : stopB L n = false := by unfold stopB; rw [h1]; rfl
      refine ⟨this, ?_⟩
      unfold stopL
      rw [if_neg (by rw [this]; exact Bool.false_ne_true)]
    have HH := Lib.hid h
    rw [HE.out.1, HE.out.2]
    clear h hs hok
    rcases (by omega : n < 0 ∨ (0 ≤ n ∧ (L.length : Int) ≤ n)) with h0 | ⟨h0, h1⟩
    all_goals
      clear ht
      go_enter Try.func20, Try.ntmps20
      go_wp2
      go_ret
      exact ⟨rfl, HH.out⟩
end
end Go.Proofs.Ytindcpcfilfnkaa.AftC
