/-
  Package team, as it landed, third part: what ends; and that the package meets what the laws of layer 14 ask of it: 'theTm'. No condition.
-/
import Derived.Test.YtkgmcifianhogaaTeamB
import Derived.Deep.RegionHeld3
namespace Go.Proofs.Ytkgmcifianhogaa.TeamA
open Go.ChangeShapes Go.WideShapes Go.ChangeAt Go.RowKit Mem MutP TeamP Hand RefMut Arena

def nextS (s : St) : St := match s.C with
  | [] => s
  | _ :: l => { s with A := s.A + 1, C := l }
def outW (s : St) : List Int := if s.A = 0 then s.W else []
def allS (s : St) : St := if s.A = 0 then { s with W := [] } else s
section
variable {B : Nat → Prop} {w wk : World} {Rs : List Res} {g : Nat} {va : Value} {s : St}
set_option maxRecDepth 100000 in
theorem keep_s (h : Sep B w wk (oa g va s ++ Rs)) (k : Int) :
    Calls Try.prog 35 #[.pointer (some ⟨g, 0, none⟩), .int .i64 k] wk fun e wn => e = .returned (.bool (decide (k ≠ 0 ∧ s.E = 0))) ∧ Sep B w wn (oa g va { s with E := errOf s k } ++ Rs) := by
  have HEC := Lib.hid (RefTeam.err_cases s k)
  have H0 := Lib.hid h
  obtain ⟨_, _, c2, _⟩ := oa_c h
  obtain ⟨_, _, f2⟩ := oa_f h
  clear h
  obtain ⟨f, hf⟩ : ∃ f, decide (k ≠ 0 ∧ s.E = 0) = f := ⟨_, rfl⟩
  obtain ⟨E', hE'⟩ : ∃ E', errOf s k = E' := ⟨_, rfl⟩
  simp only [hf, hE'] at HEC ⊢
  clear hf hE'
  rcases HEC.out with ⟨h2, h3, rfl, rfl⟩ | ⟨h2, h3, rfl, rfl⟩ | ⟨rfl, rfl, rfl⟩
  · have e1 : (E' == 0) = false := by simpa using h2
    rw [h3] at c2
    have HS : Hid (Sep B w (wk.setCell ⟨g, 2, none⟩ (.int .i64 E')) (oa g va { s with E := E' } ++ Rs)) := H0.out.set 0 rfl 2 (.int .i64 E')
    clear HEC h2 h3 H0
    go_enter Try.func35, Try.ntmps35
    go_wp2
    go_ret
    exact ⟨rfl, HS.out⟩
  · have e1 : (k == 0) = false := by simpa using h2
    have e2 : (s.E != 0) = true := by simpa using h3
    have HS : Hid (Sep B w wk (oa g va { s with E := s.E } ++ Rs)) := H0.out
    clear HEC h2 h3 H0
    obtain ⟨y, hy⟩ : ∃ y, y = s.E := ⟨_, rfl⟩
    rw [← hy] at c2 e2
    clear hy
    go_enter Try.func35, Try.ntmps35
    go_wp2
    go_ret
    exact ⟨rfl, HS.out⟩
  · have HS : Hid (Sep B w wk (oa g va { s with E := s.E } ++ Rs)) := H0.out
    clear HEC H0
    obtain ⟨y, hy⟩ : ∃ y, y = s.E := ⟨_, rfl⟩
    rw [← hy] at c2
    clear hy
    go_enter Try.func35, Try.ntmps35
    go_wp2
    go_ret
    exact ⟨rfl, HS.out⟩

set_option maxRecDepth 100000 in
theorem begin_s (h : Sep B w wk (oa g va s ++ Rs)) (hn : (s.C ++ s.W).Nodup) (hc : ∀ x ∈ s.C, 0 ≤ x) (hw : ∀ x ∈ s.W, 0 ≤ x) (a0 : 0 ≤ s.A) (a1 : s.A ≤ 1000000) :
    Calls Try.prog 36 #[.pointer (some ⟨g, 0, none⟩)] wk fun e wn => e = .returned (.int .i64 (topC s.C)) ∧ Sep B w wn (oa g va (nextS s) ++ Rs) := by
  obtain ⟨_, _, _, c3⟩ := oa_c h
  have hT := a_take h 1 rfl 0
  rw [two_first, topC_is] at hT
  obtain ⟨a, rfl⟩ := oa_ptr h
  obtain ⟨L, A, E, C, W, N⟩ := s
  simp only at hn hc hw a0 a1 hT ⊢
  cases C with
  | nil =>
    have hno : (-1 : Int) ∉ W := fun hm => by have := hw _ hm; omega
    have hin : RefRing.inL [[], W] (-1) = -1 := Rows4.in_none fun l hl => by
      simp only [List.mem_cons, List.not_mem_nil, or_false] at hl
      rcases hl with rfl | rfl
      · simp
      · exact hno
    have hdr : RefRing.dropL [[], W] (-1) = [[], W] := by
      rw [two_drop hn, TeamP.without_id hno]
      rfl
    rw [topC_nil, hin, hdr] at hT
    have HT : Hid (Calls Try.prog 45 #[.pointer (some a), .int .i64 0] wk fun e wn => e = .returned (.tuple #[.int .i64 (-1), .bool false]) ∧ Sep B w wn (oa g (.pointer (some a)) ⟨L, A, E, [], W, N⟩ ++ Rs)) := hT
    rw [topC_nil]
    clear h hT hno hin hdr hn hc hw
    go_enter Try.func36, Try.ntmps36
    go_wp2_with fail
    refine HT.out.mono ?_
    rintro e w1 ⟨rfl, h1⟩
    have H1 := Lib.hid h1
    clear h1 HT
    go_wp2
    go_ret
    exact ⟨rfl, H1.out⟩
  | cons x l =>
    have hx0 := hc x (List.mem_cons_self ..)
    have hn' : (x :: (l ++ W)).Nodup := hn
    have hxn := (List.nodup_cons.1 hn').1
    have hin : decide (0 ≤ RefRing.inL [x :: l, W] x) = true := by
      rw [Rows4.in_at (L := [x :: l, W]) (x := x) (by rw [flat2]; exact hn) (i := 0) (by simp) (List.mem_cons_self ..)]
      rfl
    have hdr : RefRing.dropL [x :: l, W] x = [l, W] := by
      rw [two_drop hn, TeamP.without_id (W := W) fun hm => hxn (List.mem_append.2 (.inr hm))]
      have e1 : withoutL (x :: l) x = l := by
        unfold withoutL
        rw [List.filter_cons, if_neg (by simp)]
        exact TeamP.without_id fun hm => hxn (List.mem_append.2 (.inl hm))
      rw [e1]
    rw [topC_cons, hin, hdr] at hT
    have HT : Hid (Calls Try.prog 45 #[.pointer (some a), .int .i64 0] wk fun e wn => e = .returned (.tuple #[.int .i64 x, .bool true]) ∧ Sep B w wn (oa g (.pointer (some a)) ⟨L, A, E, l, W, N⟩ ++ Rs)) := hT
    rw [topC_cons]
    obtain ⟨z, hz⟩ : ∃ z, z = A + 1 := ⟨_, rfl⟩
    have hw1 : IntKind.i64.wrap (A + 1) = z := by rw [hz]; exact IntWalk.i64_in _ (by omega)
    have HN : Hid (nextS ⟨L, A, E, x :: l, W, N⟩ = ⟨L, z, E, l, W, N⟩) := by show _ = _; rw [hz]; rfl
    clear h hT hx0 hn' hxn hin hdr hn hc hw hz
    go_enter Try.func36, Try.ntmps36
    go_wp2_with fail
    refine HT.out.mono ?_
    rintro e w1 ⟨rfl, h1⟩
    obtain ⟨_, c1, _, _⟩ := oa_c h1
    obtain ⟨_, f1, _⟩ := oa_f h1
    have HS : Hid (Sep B w (w1.setCell ⟨g, 1, none⟩ (.int .i64 z)) (oa g (.pointer (some a)) ⟨L, z, E, l, W, N⟩ ++ Rs)) := h1.set 0 rfl 1 (.int .i64 z)
    have c1 : w1.cell? ⟨g, 1, none⟩ = some (.int .i64 A) := c1
    clear h1 HT c3
    go_wp2
    go_ret
    rw [HN.out]
    exact ⟨rfl, HS.out⟩

theorem drop_one (h : Sep B w wk (oa g va s ++ Rs)) {x : Int} {l : List Int} (hs : s.W = x :: l) (hn : (s.C ++ s.W).Nodup) :
    Calls Try.prog 38 #[va, .int .i64 x] wk fun e wn => (∃ b, e = .returned (.bool b)) ∧ Sep B w wn (oa g va { s with W := l } ++ Rs) := by
  have hd := a_drop h 1 rfl x
  rw [two_drop hn] at hd
  obtain ⟨L, A, E, C, W, N⟩ := s
  simp only at hs hn hd ⊢
  subst hs
  have h1 := List.nodup_append.1 hn
  have hxc : x ∉ C := fun hm => h1.2.2 x hm x (List.mem_cons_self ..) rfl
  have hxl : x ∉ l := (List.nodup_cons.1 h1.2.1).1
  have e1 : withoutL (x :: l) x = l := by
    unfold withoutL
    rw [List.filter_cons, if_neg (by simp)]
    exact TeamP.without_id hxl
  rw [TeamP.without_id hxc, e1] at hd
  refine hd.mono ?_
  rintro e wn ⟨rfl, h2⟩
  exact ⟨⟨_, rfl⟩, h2⟩

set_option maxRecDepth 100000 in
set_option maxHeartbeats 1000000 in
theorem takeW_s (h : Sep B w wk (oa g va s ++ Rs)) (hn : (s.C ++ s.W).Nodup) (hl : s.W.length ≤ 1000) :
    Calls Try.prog 37 #[.pointer (some ⟨g, 0, none⟩)] wk fun e wn => ∃ A c, e = .returned (.slice A (outW s).length c) ∧ Sep B w wn (nums (.slice A (outW s).length c) (outW s) :: (oa g va (allS s) ++ Rs)) := by
  have HD := Lib.hid (idle_s h rfl)
  obtain ⟨_, _, _, c3⟩ := oa_c h
  have HL := Lib.hid (a_list h 1 rfl 1)
  rw [two_list.2] at HL
  obtain ⟨a, rfl⟩ := oa_ptr h
  have H0 := Lib.hid h
  have HN := Lib.hid hn
  clear h hn
  by_cases hA : s.A = 0
  · have e1 : (s.A == 0) = true := by simpa using hA
    have HO : Hid (outW s = s.W ∧ allS s = { s with W := [] }) := by
      show _ ∧ _
      unfold outW allS
      rw [if_pos hA, if_pos hA]
      exact ⟨rfl, rfl⟩
    rw [e1] at HD
    clear hA e1
    obtain ⟨W, hW⟩ : ∃ W, W = s.W := ⟨_, rfl⟩
    have HW := Lib.hid hW
    simp only [← hW] at HO HL hl
    clear hW
    go_enter Try.func37, Try.ntmps37
    go_wp2_with fail
    refine HD.out.mono ?_
    rintro e w1 ⟨rfl, rfl⟩
    go_wp2_with fail
    refine HL.out.mono ?_
    rintro e w1 ⟨A, c, rfl, h1, _⟩
    have H1 : Hid (Sep B w w1 (nums (.slice A W.length c) W :: (oa g (.pointer (some a)) { s with W := W } ++ Rs))) := by
      show Sep B w w1 _
      rw [HW.out]
      rw [HW.out] at h1
      exact h1
    clear h1 HD HL H0 c3
    go_wp2
    go_loopw [16] (fun u wr => ∃ j : Nat, j ≤ W.length ∧ u = .int .i64 j ∧ Hid (Sep B w wr (nums (.slice A W.length c) W :: (oa g (.pointer (some a)) { s with W := W.drop j } ++ Rs)))) (fun u _ => W.length - (intOf u).toNat)
    case atStart => exact ⟨0, Nat.zero_le _, rfl, H1.out⟩
    case round =>
      obtain ⟨j, hj, rfl, HS⟩ := hrel
      clear H1
      by_cases hlt : j < W.length
      · obtain ⟨b, off, rfl, _, q0, hg⟩ := rd_at (HS.out.rd 0 rfl) hlt
        have hdj : W.drop j = W.getD j 0 :: W.drop (j + 1) := by
          rw [List.drop_eq_getElem_cons hlt, List.getD_eq_getElem?_getD, List.getElem?_eq_getElem hlt]
          rfl
        have hnd : (s.C ++ W.drop j).Nodup := by
          have h1 := HN.out
          rw [← HW.out] at h1
          exact h1.sublist ((List.drop_sublist j W).append_left _)
        have c3 : wr.cell? ⟨g, 3, none⟩ = some (.pointer (some a)) := (cell_block (HS.out.blk_at 1 rfl) 3).trans rfl
        have hpm := HS.out.perm (by exact (List.perm_append_comm (l₁ := [_]) (l₂ := [_, _])).append_right Rs)
        have HDR := Lib.hid (drop_one (s := { s with W := W.drop j }) hpm hdj hnd)
        clear HS hg hdj hnd hpm
        generalize W.getD j 0 = x at *
        go_wp2_with fail
        refine HDR.out.mono ?_
        rintro e w3 ⟨⟨bo, rfl⟩, h3⟩
        have H3 : Hid (Sep B w w3 (nums (.slice (some ⟨b, off, none⟩) W.length c) W :: (oa g (.pointer (some a)) { s with W := W.drop (j + 1) } ++ Rs))) := h3.perm (by exact (List.perm_append_comm (l₁ := [_, _]) (l₂ := [_])).append_right Rs)
        clear h3 HDR
        go_wp2
        go_roundw
        case rel => exact ⟨j + 1, by omega, by go_num, H3.out⟩
        case measure => simp [intOf]; omega
      · have HF : Hid (Sep B w wr (nums (.slice A W.length c) W :: (oa g (.pointer (some a)) { s with W := [] } ++ Rs))) := by
          have h1 := HS.out
          rw [List.drop_of_length_le (by omega)] at h1
          exact h1
        clear HS
        go_wp2
        go_ret
        rw [HO.out.1, HO.out.2]
        exact ⟨_, _, rfl, HF.out⟩
  · have e1 : (s.A == 0) = false := by simpa using hA
    have HO : Hid (outW s = [] ∧ allS s = s) := by
      show _ ∧ _
      unfold outW allS
      rw [if_neg hA, if_neg hA]
      exact ⟨rfl, rfl⟩
    rw [e1] at HD
    have HS := Lib.hid H0.out.nil_nums
    clear hA e1 HL H0
    go_enter Try.func37, Try.ntmps37
    go_wp2_with fail
    refine HD.out.mono ?_
    rintro e w1 ⟨rfl, rfl⟩
    go_wp2
    go_ret
    rw [HO.out.1, HO.out.2]
    exact ⟨none, 0, rfl, HS.out⟩
end
end Go.Proofs.Ytkgmcifianhogaa.TeamA
