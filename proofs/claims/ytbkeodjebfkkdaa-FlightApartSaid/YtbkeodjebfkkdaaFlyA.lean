/-
  Package flight, as it landed, over its two maps and its arena of a row for each task, first part: what only reads. No condition.
-/
import Derived.Test.YtbkeodjebfkkdaaFlyP
import Derived.Test.YtbkeodjebfkkdaaArena
import Derived.Test.YtbkeodjebfkkdaaMapK
import Derived.Test.YtbkeodjebfkkdaaFlightI
import Derived.Test.YtbkeodjebfkkdaaHeldB
namespace Go.Proofs.Ytbkeodjebfkkdaa.FlyC
open Go.ChangeShapes Go.WideShapes Go.ChangeAt Go.RowKit Mem MutP FlightP Hand RefMut Arena

/-- A flight: its own block, its two maps, its arena of rows. -/
def fog (p : Nat) (va : Value) (ml n1 : Nat) (m1 : Int → Option Int) (mk n2 : Nat) (m2 : Int → Option Int) (L : List (List Int)) (N : Int) : List Res := [blk p (.cells #[.map (some ml), .map (some mk), va] 66 (0, 0)), MapK.mapf ml n1 m1, mapf mk n2 m2, ob aren va (L, N)]
def fo (p : Nat) (va : Value) (ml mk : Nat) (s : St) : List Res := fog p va ml (nL s) (leadF s) mk s.L.length (keyF s) (rowsF s) s.N

section
variable {B : Nat → Prop} {w wk : World} {Rs : List Res} {p ml mk n1 n2 : Nat} {va : Value} {s : St} {m1 m2 : Int → Option Int} {L : List (List Int)} {N : Int}
theorem fo_ptr (h : Sep B w wk (fog p va ml n1 m1 mk n2 m2 L N ++ Rs)) : ∃ a, va = .pointer (some a) := ob_ptr (O := aren) h 3 rfl
theorem fo_c (h : Sep B w wk (fog p va ml n1 m1 mk n2 m2 L N ++ Rs)) : wk.cell? ⟨p, 0, none⟩ = some (.map (some ml)) ∧ wk.cell? ⟨p, 1, none⟩ = some (.map (some mk)) ∧ wk.cell? ⟨p, 2, none⟩ = some va :=
  ⟨(cell_block (h.blk_at 0 rfl) 0).trans rfl, (cell_block (h.blk_at 0 rfl) 1).trans rfl, (cell_block (h.blk_at 0 rfl) 2).trans rfl⟩

set_option maxRecDepth 100000 in
theorem leader_s (h : Sep B w wk (fo p va ml mk s ++ Rs)) (k : Int) (hk : In64 k) :
    Calls Try.prog 16 #[.pointer (some ⟨p, 0, none⟩), .int .i64 k] wk fun e wn => e = .returned (.int .i64 (leaderK s.L k)) ∧ wk = wn := by
  obtain ⟨c0, _, _⟩ := fo_c h
  have hlk0 := MapK.mapf_ok h 1 rfl hk
  cases hany : anyK s.L k with
  | true =>
    have he : leadF s k = some (leaderK s.L k) := by unfold leadF; rw [if_pos hany]
    rw [he] at hlk0
    have hlk : (Instr.lookup 54 (.map (some ml)) (.int .i64 k) true).run Try.prog wk = .ok (.tuple #[.int .i64 (leaderK s.L k), .bool true]) wk := hlk0
    clear h hany he hlk0
    generalize leaderK s.L k = v at *
    go_enter Try.func16, Try.ntmps16
    go_wp2
    go_ret
    exact ⟨rfl, rfl⟩
  | false =>
    have he : leadF s k = none := by unfold leadF; rw [if_neg (by rw [hany]; simp)]
    rw [he] at hlk0
    rw [leader_no hany]
    have hlk : (Instr.lookup 54 (.map (some ml)) (.int .i64 k) true).run Try.prog wk = .ok (.tuple #[.int .i64 0, .bool false]) wk := hlk0
    clear h hany he hlk0
    go_enter Try.func16, Try.ntmps16
    go_wp2
    go_ret
    exact ⟨rfl, rfl⟩
set_option maxRecDepth 100000 in
theorem leads_s (h : Sep B w wk (fo p va ml mk s ++ Rs)) (t : Int) (ht : In64 t) :
    Calls Try.prog 17 #[.pointer (some ⟨p, 0, none⟩), .int .i64 t] wk fun e wn => e = .returned (.tuple #[.int .i64 (leadsK s.L t), .bool (leadsB s.L t)]) ∧ wk = wn := by
  obtain ⟨_, c1, _⟩ := fo_c h
  have hlk := mapf_ok h 2 rfl ht
  rw [(keyF_get s t).1, (keyF_get s t).2] at hlk
  clear h
  generalize leadsK s.L t = v at *
  generalize leadsB s.L t = bo at *
  go_enter Try.func17, Try.ntmps17
  go_wp2
  go_ret2
  exact ⟨rfl, rfl⟩
set_option maxRecDepth 100000 in
theorem joins_s (h : Sep B w wk (fo p va ml mk s ++ Rs)) (hok : FlightP.Ok s) (t : Int) :
    Calls Try.prog 19 #[.pointer (some ⟨p, 0, none⟩), .int .i64 t] wk fun e wn => e = .returned (.int .i64 (joinsT s.L t)) ∧ wk = wn := by
  obtain ⟨_, _, c2⟩ := fo_c h
  have HA := Lib.hid (a_in h 3 rfl t)
  rw [hok.rows_in] at HA
  obtain ⟨a, rfl⟩ := fo_ptr h
  clear h hok
  generalize joinsT s.L t = v at *
  go_enter Try.func19, Try.ntmps19
  go_wp2_with fail
  refine HA.out.mono ?_
  rintro e w1 ⟨rfl, rfl⟩
  go_wp2
  go_ret
  exact ⟨rfl, rfl⟩
set_option maxRecDepth 100000 in
theorem joined_g (h : Sep B w wk (fog p va ml n1 m1 mk n2 m2 L N ++ Rs)) (t : Int) :
    Calls Try.prog 21 #[.pointer (some ⟨p, 0, none⟩), .int .i64 t] wk fun e wn => ∃ u, e = .returned u ∧ Says wk wn u (RefRing.listL L t) := by
  obtain ⟨_, _, c2⟩ := fo_c h
  have HA := Lib.hid (a_says h 3 rfl t)
  obtain ⟨a, rfl⟩ := fo_ptr h
  clear h
  generalize RefRing.listL L t = l at *
  go_enter Try.func21, Try.ntmps21
  go_wp2_with fail
  refine HA.out.mono ?_
  rintro e w1 ⟨u, rfl, hs⟩
  obtain ⟨A, c, rfl⟩ := rd_form hs.1
  have HS := Lib.hid hs
  clear hs
  go_wp2
  go_ret
  exact ⟨_, rfl, HS.out⟩
set_option maxRecDepth 100000 in
theorem has_s (h : Sep B w wk (fog p va ml n1 m1 mk n2 m2 L N ++ Rs)) (t : Int) :
    Calls Try.prog 33 #[.pointer (some ⟨p, 0, none⟩), .int .i64 t] wk fun e wn => e = .returned (.bool (nameM N t)) ∧ wk = wn := by
  obtain ⟨_, _, c2⟩ := fo_c h
  have HA := Lib.hid (a_nodes h 3 rfl)
  obtain ⟨a, rfl⟩ := fo_ptr h
  clear h
  rcases (by omega : t < 0 ∨ (0 ≤ t ∧ t < N) ∨ (0 ≤ t ∧ N ≤ t)) with h1 | ⟨h1, h2⟩ | ⟨h1, h2⟩
  · have HE : Hid (nameM N t = false) := by show _ = _; unfold nameM; exact decide_eq_false (by omega)
    have d0 : decide (t ≥ 0) = false := by simp; omega
    go_enter Try.func33, Try.ntmps33
    go_wp2
    go_ret
    exact ⟨ret_bool HE.out.symm, rfl⟩
  · have HE : Hid (nameM N t = true) := name_iff.2 ⟨h1, h2⟩
    go_enter Try.func33, Try.ntmps33
    go_wp2_with fail
    refine HA.out.mono ?_
    rintro e w1 ⟨rfl, rfl⟩
    go_wp2
    go_ret
    exact ⟨ret_bool HE.out.symm, rfl⟩
  · have HE : Hid (nameM N t = false) := by show _ = _; unfold nameM; exact decide_eq_false (by omega)
    have d1 : decide (t < N) = false := by simp; omega
    go_enter Try.func33, Try.ntmps33
    go_wp2_with fail
    refine HA.out.mono ?_
    rintro e w1 ⟨rfl, rfl⟩
    go_wp2
    go_ret
    exact ⟨ret_bool HE.out.symm, rfl⟩
set_option maxRecDepth 100000 in
theorem may_s (h : Sep B w wk (fo p va ml mk s ++ Rs)) (hok : FlightP.Ok s) (t : Int) (ht : In64 t) :
    Calls Try.prog 31 #[.pointer (some ⟨p, 0, none⟩), .int .i64 t] wk fun e wn => e = .returned (.int .i64 (doE s t)) ∧ wk = wn := by
  have HN := Lib.hid (has_s h t)
  have HJ := Lib.hid (joins_s h hok t)
  have HL := Lib.hid (leads_s h t ht)
  have HE := Lib.hid (do_errs s t)
  have HF := RefFlight.do_facts hok t
  have F1 := Lib.hid HF.1
  have F2 := Lib.hid HF.2.1
  clear h ht hok HF
  generalize doE s t = E at *
  generalize leadsK s.L t = lk at *
  rcases HE.out with ⟨rfl, e1⟩ | ⟨rfl, e1, e2⟩ | ⟨rfl, e1, e2, e3⟩ | ⟨rfl, e1, e2, e3⟩
  · rw [e1] at HN
    clear HE HJ HL F1 F2 e1
    go_enter Try.func31, Try.ntmps31
    go_wp2_with fail
    refine HN.out.mono ?_
    rintro e w1 ⟨rfl, rfl⟩
    go_wp2
    go_ret
    exact ⟨rfl, rfl⟩
  · rw [e1] at HN
    have hj := F1.out e2
    have e4 : (joinsT s.L t != -1) = true := by simp; omega
    clear HE HL F1 F2 e1 e2 hj
    generalize joinsT s.L t = jv at *
    go_enter Try.func31, Try.ntmps31
    go_wp2_with fail
    refine HN.out.mono ?_
    rintro e w1 ⟨rfl, rfl⟩
    go_wp2_with fail
    refine HJ.out.mono ?_
    rintro e w1 ⟨rfl, rfl⟩
    go_wp2
    go_ret
    exact ⟨rfl, rfl⟩
  all_goals
    rw [e1] at HN
    rw [F2.out e2] at HJ
    rw [e3] at HL
    clear HE F1 F2 e1 e2 e3
    go_enter Try.func31, Try.ntmps31
    go_wp2_with fail
    refine HN.out.mono ?_
    rintro e w1 ⟨rfl, rfl⟩
    go_wp2_with fail
    refine HJ.out.mono ?_
    rintro e w1 ⟨rfl, rfl⟩
    go_wp2_with fail
    refine HL.out.mono ?_
    rintro e w1 ⟨rfl, rfl⟩
    go_wp2
    go_ret
    exact ⟨rfl, rfl⟩
end
end Go.Proofs.Ytbkeodjebfkkdaa.FlyC
