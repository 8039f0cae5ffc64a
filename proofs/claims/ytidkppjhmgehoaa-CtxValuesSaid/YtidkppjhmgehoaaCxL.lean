/-
  Contracts of the functions of package ctx, as it landed, eleventh part: new contexts of each kind, and a new arena. Condition: the arena is at hand, and 'Inv' holds.
-/
import Derived.Test.YtidkppjhmgehoaaCxK
namespace Go.Proofs.Ytidkppjhmgehoaa.CxC
open Go.ChangeShapes Go.WideShapes Go.ChangeAt Go.RowKit Mem TreeP CtxP Hand TreeC CtxI RefCtx

theorem newC_same (X : List Cn) (over : Int) (cut : Bool) (x : Cn) : (newC X over cut x).has = x.has ∧ (newC X over cut x).at_ = x.at_ ∧ (newC X over cut x).why = x.why := by
  unfold newC
  split <;> exact ⟨rfl, rfl, rfl⟩
theorem with_plain {T : List Nd} {X : List Cn} {M over : Int} {cut : Bool} {x : Cn} (now : Int) (hx : x.has = false) : withX T X M over cut x now = addX T X M over cut x := by
  unfold withX addX
  by_cases h : addE T M over = 0
  · rw [if_pos h, if_pos h, if_neg]
    unfold lateC
    rw [(newC_same X over cut x).1, hx]
    simp
  · rw [if_neg h, if_neg h]

section
variable {B : Nat → Prop} {w wk : World} {Rs : List Res} {p : Nat} {T : List Nd} {X : List Cn} {M : Int}
theorem withCancel_s (h : Sep B w wk (ca p T X M :: Rs)) (hI : Inv T X) (over : Int) :
    Calls Try.prog 26 #[.pointer (some ⟨p, 0, none⟩), .int .i64 over] wk fun r wn => r = .returned (.tuple #[.int .i64 (addV T M over), .int .i64 (addE T M over)]) ∧ Sep B w wn (ca p (addL T M over false) (withX T X M over false zeroCn 0) M :: Rs) := by
  have HA : Hid (Calls Try.prog 59 #[.pointer (some ⟨p, 0, none⟩), .int .i64 over, .bool false, .agg #[.bool false, .int .i64 0, .int .i64 0, .int .i64 0, .bool false, .int .i64 0, .int .i64 0, .int .i64 0, .int .i64 0]] wk fun r wn => r = .returned (.tuple #[.int .i64 (addV T M over), .int .i64 (addE T M over)]) ∧ Sep B w wn (ca p (addL T M over false) (addX T X M over false zeroCn) M :: Rs)) := add_s h hI over false zeroCn ⟨rfl, rfl⟩
  rw [with_plain 0 rfl]
  clear h hI
  go_enter Try.func26, Try.ntmps26
  go_wp2_with fail
  refine HA.out.mono ?_
  rintro r w1 ⟨rfl, h1⟩
  have H1 := Lib.hid h1
  clear h1 HA
  go_wp2
  go_ret2
  exact ⟨rfl, H1.out⟩
theorem withoutCancel_s (h : Sep B w wk (ca p T X M :: Rs)) (hI : Inv T X) (over : Int) :
    Calls Try.prog 28 #[.pointer (some ⟨p, 0, none⟩), .int .i64 over] wk fun r wn => r = .returned (.tuple #[.int .i64 (addV T M over), .int .i64 (addE T M over)]) ∧ Sep B w wn (ca p (addL T M over true) (withX T X M over true zeroCn 0) M :: Rs) := by
  have HA : Hid (Calls Try.prog 59 #[.pointer (some ⟨p, 0, none⟩), .int .i64 over, .bool true, .agg #[.bool false, .int .i64 0, .int .i64 0, .int .i64 0, .bool false, .int .i64 0, .int .i64 0, .int .i64 0, .int .i64 0]] wk fun r wn => r = .returned (.tuple #[.int .i64 (addV T M over), .int .i64 (addE T M over)]) ∧ Sep B w wn (ca p (addL T M over true) (addX T X M over true zeroCn) M :: Rs)) := add_s h hI over true zeroCn ⟨rfl, rfl⟩
  rw [with_plain 0 rfl]
  clear h hI
  go_enter Try.func28, Try.ntmps28
  go_wp2_with fail
  refine HA.out.mono ?_
  rintro r w1 ⟨rfl, h1⟩
  have H1 := Lib.hid h1
  clear h1 HA
  go_wp2
  go_ret2
  exact ⟨rfl, H1.out⟩
theorem withValue_s (h : Sep B w wk (ca p T X M :: Rs)) (hI : Inv T X) (over key value : Int) :
    Calls Try.prog 27 #[.pointer (some ⟨p, 0, none⟩), .int .i64 over, .int .i64 key, .int .i64 value] wk fun r wn => r = .returned (.tuple #[.int .i64 (addV T M over), .int .i64 (addE T M over)]) ∧ Sep B w wn (ca p (addL T M over false) (withX T X M over false (namedX key value) 0) M :: Rs) := by
  have HA : Hid (Calls Try.prog 59 #[.pointer (some ⟨p, 0, none⟩), .int .i64 over, .bool false, .agg #[.bool false, .int .i64 0, .int .i64 0, .int .i64 0, .bool true, .int .i64 key, .int .i64 value, .int .i64 0, .int .i64 0]] wk fun r wn => r = .returned (.tuple #[.int .i64 (addV T M over), .int .i64 (addE T M over)]) ∧ Sep B w wn (ca p (addL T M over false) (addX T X M over false (namedX key value)) M :: Rs)) := add_s h hI over false (namedX key value) ⟨rfl, rfl⟩
  rw [with_plain 0 rfl]
  clear h hI
  go_enter Try.func27, Try.ntmps27
  go_wp2_with fail
  refine HA.out.mono ?_
  rintro r w1 ⟨rfl, h1⟩
  have H1 := Lib.hid h1
  clear h1 HA
  go_wp2
  go_ret2
  exact ⟨rfl, H1.out⟩

/-- One whose deadline has come, is ended by it, unless it is done. -/
theorem with_late {over at_ why now : Int} (hI : Inv T X) (hE : addE T M over = 0) :
    withX T X M over false (lateX at_ why) now = if at_ ≤ now then markL (addX T X M over false (lateX at_ why)) (reachT (addL T M over false) T.length) 11 (cz 11 why) else addX T X M over false (lateX at_ why) := by
  have hA : addX T X M over false (lateX at_ why) = X ++ [newC X over false (lateX at_ why)] := if_pos hE
  have hc := newC_same X over false (lateX at_ why)
  obtain ⟨hth, hTL, _⟩ := add_yes false hE
  have hI2 : Inv (T ++ [⟨over, false⟩]) (X ++ [newC X over false (lateX at_ why)]) := inv_app hI ⟨rfl, rfl⟩ hth
  unfold withX
  rw [if_pos hE, hA]
  generalize newC X over false (lateX at_ why) = y at *
  obtain ⟨h1, h2, h3⟩ := hc
  change y.has = true at h1
  change y.at_ = at_ at h2
  change y.why = why at h3
  by_cases ha : at_ ≤ now
  · rw [if_pos ha]
    by_cases he : y.e = 0
    · rw [if_pos (by unfold lateC; rw [h1, h2, he]; simpa using ha)]
      unfold endX
      rw [h3]
    · rw [if_neg (by unfold lateC; simp [he])]
      rw [mark_none]
      intro k hk _
      rw [hTL] at hk
      have hk0 : there (T ++ [⟨over, false⟩]) (T.length : Nat) = true := by rw [there_iff]; simp; omega
      have hk1 := reach_there hI2.wf hk
      refine hI2.down k (T.length : Nat) ((reach_iff hI2.wf hk0 hk1.1).1 hk) ?_
      rw [hI.len, cn_new]
      exact he
  · rw [if_neg ha, if_neg]
    unfold lateC
    rw [h2]
    simp [ha]

set_option maxRecDepth 100000 in
theorem withDeadline_s (h : Sep B w wk (ca p T X M :: Rs)) (hI : Inv T X) (over at_ why now : Int) :
    Calls Try.prog 30 #[.pointer (some ⟨p, 0, none⟩), .int .i64 over, .int .i64 at_, .int .i64 why, .int .i64 now] wk fun r wn => r = .returned (.tuple #[.int .i64 (addV T M over), .int .i64 (addE T M over)]) ∧ Sep B w wn (ca p (addL T M over false) (withX T X M over false (lateX at_ why) now) M :: Rs) := by
  have HEB := Lib.hid (endBy_c 11 why wk)
  have HL : Hid (addE T M over = 0 → withX T X M over false (lateX at_ why) now = if at_ ≤ now then markL (addX T X M over false (lateX at_ why)) (reachT (addL T M over false) T.length) 11 (cz 11 why) else addX T X M over false (lateX at_ why)) := fun hE => with_late hI hE
  have HNO : Hid (addE T M over ≠ 0 → withX T X M over false (lateX at_ why) now = addX T X M over false (lateX at_ why)) := fun hE => by unfold withX addX; rw [if_neg hE, if_neg hE]
  have HAV : Hid (addE T M over = 0 → addV T M over = T.length) := fun hE => by
    obtain ⟨h1, _, h3⟩ := add_yes false hE
    unfold addV putV
    rw [if_pos h1, if_pos h3]
  have H := Lib.hid h
  have HI := Lib.hid hI
  clear h hI
  unfold endV at HEB
  go_enter Try.func30, Try.ntmps30
  go_wp2_with fail
  refine HEB.out.mono ?_
  rintro r w1 ⟨rfl, hb⟩
  have S1 := Lib.hid ((H.out.next hb).new (.cells #[.bool true, .int .i64 at_, .int .i64 11, .int .i64 (cz 11 why)] 72))
  have HX : Hid (xVal (lateX at_ why) = .agg #[.bool true, .int .i64 at_, .int .i64 11, .int .i64 (cz 11 why), .bool false, .int .i64 0, .int .i64 0, .int .i64 0, .int .i64 0]) := rfl
  clear hb H HEB
  generalize hz : cz 11 why = z at *
  have HADD := Lib.hid (add_s S1.out.swap HI.out over false (lateX at_ why) ⟨rfl, rfl⟩)
  rw [HX.out] at HADD
  clear S1 HX
  go_wp2_with fail
  refine HADD.out.mono ?_
  rintro r w2 ⟨rfl, h2⟩
  have hb2 := h2.blk_at 1 rfl
  have c0 : w2.cell? ⟨w1.heap.size, 0, none⟩ = some (.bool true) := (cell_block hb2 0).trans rfl
  have c1 : w2.cell? ⟨w1.heap.size, 1, none⟩ = some (.int .i64 at_) := (cell_block hb2 1).trans rfl
  have c2 : w2.cell? ⟨w1.heap.size, 2, none⟩ = some (.int .i64 11) := (cell_block hb2 2).trans rfl
  have c3 : w2.cell? ⟨w1.heap.size, 3, none⟩ = some (.int .i64 z) := (cell_block hb2 3).trans rfl
  have S2 := Lib.hid h2
  clear h2 hb2 HADD
  by_cases hE : addE T M over = 0
  · have HE := Lib.hid hE
    have HL2 := Lib.hid (HL.out hE)
    have HAV2 := Lib.hid (HAV.out hE)
    have HCM := Lib.hid (came_c true at_ 11 z now w2)
    unfold dlV at HCM
    rw [hE, HAV2.out]
    clear HL HNO HAV hE
    by_cases ha : at_ ≤ now
    · have hd : (true && decide (at_ ≤ now)) = true := by simpa using ha
      rw [hd] at HCM
      have HL3 : Hid (withX T X M over false (lateX at_ why) now = markL (addX T X M over false (lateX at_ why)) (reachT (addL T M over false) T.length) 11 z) := by show _ = _; rw [HL2.out, if_pos ha, ]
      clear HL2 ha hd hz
      go_wp2_with fail
      refine HCM.out.mono ?_
      rintro r w3 ⟨rfl, hb⟩
      have HEA := Lib.hid (endAll_s (S2.out.next hb) (T.length : Nat) 11 z)
      have hb2 := (S2.out.next hb).blk_at 1 rfl
      have d2 : w3.cell? ⟨w1.heap.size, 2, none⟩ = some (.int .i64 11) := (cell_block hb2 2).trans rfl
      have d3 : w3.cell? ⟨w1.heap.size, 2 + 1, none⟩ = some (.int .i64 z) := (cell_block hb2 3).trans rfl
      unfold putF endV at HEA
      clear hb HCM c0 c1 c2 c3 hb2 S2
      go_wp2_with fail
      refine HEA.out.mono ?_
      rintro r w4 ⟨A, cc, rfl, h4⟩
      have S4 := Lib.hid (h4.tail.swap.tail)
      clear h4 HEA d2 d3
      go_wp2
      go_ret2
      rw [HL3.out, HE.out, HAV2.out]
      exact ⟨rfl, S4.out⟩
    · have hd : (true && decide (at_ ≤ now)) = false := by simpa using ha
      rw [hd] at HCM
      have HL3 : Hid (withX T X M over false (lateX at_ why) now = addX T X M over false (lateX at_ why)) := by show _ = _; rw [HL2.out, if_neg ha]
      clear HL2 ha hd hz
      go_wp2_with fail
      refine HCM.out.mono ?_
      rintro r w3 ⟨rfl, hb⟩
      have S3 := Lib.hid ((S2.out.next hb).swap.tail)
      clear hb HCM c0 c1 c2 c3 S2
      go_wp2
      go_ret2
      rw [HL3.out, HE.out, HAV2.out]
      exact ⟨rfl, S3.out⟩
  · have HN := Lib.hid (HNO.out hE)
    have e1 : (addE T M over == 0) = false := by simpa using hE
    clear HL HNO HAV hE hz
    go_wp2
    go_ret2
    rw [HN.out]
    exact ⟨rfl, S2.out.swap.tail⟩
end

theorem newA_no (n : Int) (w : World) (h : n < 1 ∨ 200 < n) : Calls Try.prog 8 #[.int .i64 n] w fun e w' => e = .returned (.tuple #[.pointer none, .int .i64 1]) ∧ Below w.heap.size w w' := by
  have HN := Lib.hid (TreeC.new_no n w h)
  clear h
  go_enter Try.func8, Try.ntmps8
  go_wp2_with fail
  refine HN.out.mono ?_
  rintro e w1 ⟨rfl, hb⟩
  have HB := Lib.hid hb
  clear hb
  go_wp2
  go_ret2
  exact ⟨rfl, HB.out⟩
theorem newA_yes {B : Nat → Prop} {w wk : World} {Rs : List Res} (h : Sep B w wk Rs) (n : Int) (h1 : 1 ≤ n) (h2 : n ≤ 200) :
    Calls Try.prog 8 #[.int .i64 n] wk fun e wn => ∃ p, e = .returned (.tuple #[.pointer (some ⟨p, 0, none⟩), .int .i64 0]) ∧ Sep B w wn (ca p root1 [zeroCn] n :: Rs) := by
  have HP : Hid (putL [] n ⟨-1, false⟩ = root1) := by show _ = _; unfold putL; rw [if_pos (by show (0 : Int) < n; omega)]; rfl
  have HOK : Hid (TreeP.Ok root1 n) := by rw [← HP.out]; exact (TreeP.Ok.new h1 h2).root
  have HN := Lib.hid (TreeC.new_yes n wk h1 h2)
  have S0 := Lib.hid h
  clear h
  go_enter Try.func8, Try.ntmps8
  go_wp2_with fail
  refine HN.out.mono ?_
  rintro e w1 ⟨v, F, rfl, ha, hb, hf⟩
  obtain ⟨q, rfl, _⟩ := TA.view ha
  have S1 := Lib.hid (S0.out.add hb (R := tt q [] n) ha hf)
  clear ha hb hf S0 HN
  have HR := Lib.hid (S1.out.to 0 rfl (R' := tt q (putL [] n ⟨-1, false⟩) n) fun _ hA => root_c hA)
  go_wp2_with fail
  refine HR.out.mono ?_
  rintro e w2 ⟨rfl, hs⟩
  have S2 : Hid (Sep B w w2 (tt q root1 n :: Rs)) := by show Sep _ _ _ _; rw [← HP.out]; exact hs
  clear hs S1 HR
  go_wp2
  go_ret2
  have ho : OwnL xE (w2.alloc (.cells #[.bool false, .int .i64 0, .int .i64 0, .int .i64 0, .bool false, .int .i64 0, .int .i64 0, .int .i64 0, .int .i64 0] 76)) 0 76 (.slice (some ⟨w2.heap.size, 0, none⟩) 1 1) [zeroCn] := OwnL.lit1 (E := xE) w2 0 _ zeroCn rfl (Nat.zero_le _)
  have S3 := (S2.out.add (new_below0 w2 _) (R := grow xE 76 (.slice (some ⟨w2.heap.size, 0, none⟩) 1 1) [zeroCn]) ⟨ho, rfl⟩ fun k hk => by simp [Value.ownBlock] at hk; omega).new (.cells #[.pointer (some ⟨q, 0, none⟩), .slice (some ⟨w2.heap.size, 0, none⟩) 1 1] 79)
  rw [World.size_alloc] at S3
  have S4 := S3.perm (show List.Perm (_ :: _ :: _ :: Rs) _ from (List.Perm.swap _ _ _).cons _)
  exact ⟨_, rfl, ca_close S4 rfl HOK.out⟩
end Go.Proofs.Ytidkppjhmgehoaa.CxC
