/-
  Package flight, as it landed, second part: Do, Forget, Leave. No condition.
-/
import Derived.Test.YtbkeodjebfkkdaaFlyA
namespace Go.Proofs.Ytbkeodjebfkkdaa.FlyC
open Go.ChangeShapes Go.WideShapes Go.ChangeAt Go.RowKit Mem MutP FlightP Hand RefMut Arena

section
variable {B : Nat → Prop} {w wk : World} {Rs : List Res} {p ml mk n1 n2 : Nat} {va : Value} {s : St} {m1 m2 : Int → Option Int} {L : List (List Int)} {N : Int}
theorem nL_le (hok : FlightP.Ok s) : nL s ≤ 1000 ∧ s.L.length ≤ 1000 := by
  have h1 := RefFlight.len_L hok
  exact ⟨Nat.le_trans (List.length_filter_le _ _) h1, h1⟩
theorem fo_new (p : Nat) (va : Value) (ml mk : Nat) {s : St} {t k : Int} (hk : anyK s.L k = false) (hl : leadsB s.L t = false) : fo p va ml mk { s with L := s.L ++ [⟨t, k, false, []⟩] } = fog p va ml (nL s + 1) (updM (leadF s) k (some t)) mk (s.L.length + 1) (updM (keyF s) t (some k)) (rowsF s) s.N := by
  unfold fo
  rw [new_lead hk, new_key hl, Ok.new_nL, rows_same (s := s) (s' := { s with L := s.L ++ [⟨t, k, false, []⟩] }) rfl (new_joined hl)]
  show fog _ _ _ _ _ _ (s.L ++ [_]).length _ _ _ = _
  rw [List.length_append]
  rfl
theorem fo_join (p : Nat) (va : Value) (ml mk : Nat) (s : St) (t k : Int) : fo p va ml mk { s with L := s.L.map (joinC k t) } = fog p va ml (nL s) (leadF s) mk s.L.length (keyF s) (rowsF { s with L := s.L.map (joinC k t) }) s.N := by
  unfold fo
  rw [join_lead, join_key, join_nL]
  show fog _ _ _ _ _ _ (s.L.map _).length _ _ _ = _
  rw [List.length_map]
theorem fo_lv (p : Nat) (va : Value) (ml mk : Nat) (s : St) (t : Int) : fo p va ml mk (lvS s t) = fog p va ml (nL s) (leadF s) mk s.L.length (keyF s) (rowsF (lvS s t)) s.N := by
  unfold fo
  rw [lv_lead, lv_key, lv_nL]
  show fog _ _ _ _ _ _ (s.L.map _).length _ _ _ = _
  rw [List.length_map]
  rfl
theorem fo_fg (p : Nat) (va : Value) (ml mk : Nat) (s : St) (k : Int) : fo p va ml mk (fgS s k) = fog p va ml (nL (fgS s k)) (updM (leadF s) k none) mk s.L.length (keyF s) (rowsF s) s.N := by
  unfold fo
  rw [fg_lead, fg_key, rows_same (s := s) (s' := fgS s k) rfl (fg_joined s k)]
  show fog _ _ _ _ _ _ (s.L.map _).length _ _ _ = _
  rw [List.length_map]
  rfl
/-- A map is no other thing. -/
theorem p_ne (h : Sep B w wk (fog p va ml n1 m1 mk n2 m2 L N ++ Rs)) : p ≠ ml ∧ p ≠ mk := by
  have h0 := h.blk_at 0 rfl
  obtain ⟨_, ⟨es, _, h1, _⟩, _⟩ := MapK.mapf_at h 1 rfl
  obtain ⟨_, ⟨es2, _, h2, _⟩, _⟩ := mapf_at h 2 rfl
  constructor
  · rintro rfl
    rw [h0] at h1
    cases h1
  · rintro rfl
    rw [h0] at h2
    cases h2

set_option maxRecDepth 100000 in
set_option maxHeartbeats 1000000 in
theorem doit_new (h : Sep B w wk (fo p va ml mk s ++ Rs)) (hok : FlightP.Ok s) (t k : Int) (ht : In64 t) (hk : In64 k) (h0 : doE s t = 0) (hl : leadsB s.L t = false) (hany : anyK s.L k = false) :
    Calls Try.prog 24 #[.pointer (some ⟨p, 0, none⟩), .int .i64 t, .int .i64 k] wk fun e wn => e = .returned (.tuple #[.int .i64 t, .int .i64 0]) ∧ Sep B w wn (fo p va ml mk { s with L := s.L ++ [⟨t, k, false, []⟩] } ++ Rs) := by
  obtain ⟨c0, c1, c2⟩ := fo_c h
  have HM := Lib.hid (may_s h hok t ht)
  rw [h0] at HM
  have hlk0 := MapK.mapf_ok h 1 rfl hk
  have he : leadF s k = none := by unfold leadF; rw [if_neg (by rw [hany]; simp)]
  have he2 : keyF s t = none := by unfold keyF; rw [if_neg (by rw [hl]; simp)]
  rw [he] at hlk0
  have hlk : (Instr.lookup 54 (.map (some ml)) (.int .i64 k) true).run Try.prog wk = .ok (.tuple #[.int .i64 0, .bool false]) wk := hlk0
  obtain ⟨hn1, hn2⟩ := nL_le hok
  have hd : Sep B w wk.drew (fo p va ml mk s ++ Rs) := h.drew
  obtain ⟨np1, np2⟩ := p_ne hd
  obtain ⟨st1, w1, r1, s1, f1⟩ := MapK.mapf_entry hd 1 rfl hk he (by omega)
  obtain ⟨w2, r2, h2⟩ := f1 t ht
  obtain ⟨st3, w3, r3, s3, f3⟩ := mapf_entry h2 2 rfl ht he2 (by omega)
  obtain ⟨w4, r4, h4⟩ := f3 k hk
  have H4 : Hid (Sep B w w4 (fo p va ml mk { s with L := s.L ++ [⟨t, k, false, []⟩] } ++ Rs)) := by
    show Sep _ _ _ _
    rw [fo_new p va ml mk hany hl]
    exact h4
  have k0 : wk.drew.cell? ⟨p, 0, none⟩ = some (.map (some ml)) := c0
  have k1 : wk.drew.cell? ⟨p, 1, none⟩ = some (.map (some mk)) := c1
  have HC1 : Hid (w1.cell? ⟨p, 0, none⟩ = some (.map (some ml)) ∧ w1.cell? ⟨p, 1, none⟩ = some (.map (some mk))) := ⟨(s1 ⟨p, 0, none⟩ np1).trans k0, (s1 ⟨p, 1, none⟩ np1).trans k1⟩
  have HC2 : Hid (w2.cell? ⟨p, 0, none⟩ = some (.map (some ml)) ∧ w2.cell? ⟨p, 1, none⟩ = some (.map (some mk))) := ⟨(cell_block (Sep.blk_at h2 0 rfl) 0).trans rfl, (cell_block (Sep.blk_at h2 0 rfl) 1).trans rfl⟩
  have HC3 : Hid (w3.cell? ⟨p, 0, none⟩ = some (.map (some ml)) ∧ w3.cell? ⟨p, 1, none⟩ = some (.map (some mk))) := ⟨(s3 ⟨p, 0, none⟩ np2).trans HC2.out.1, (s3 ⟨p, 1, none⟩ np2).trans HC2.out.2⟩
  have e1 : goInt st1 = .int .i64 (st1 : Int) := rfl
  clear h hd h2 h4 hlk0 he he2 h0 hl hany s1 s3 f1 f3 hok np1 np2
  go_enter Try.func24, Try.ntmps24
  go_wp2_with fail
  refine HM.out.mono ?_
  rintro e w0 ⟨rfl, rfl⟩
  go_wp2
  clear HM hlk c0 c1 c2
  refine HeldB.begin_ (fun V : World => V.cell? ⟨p, 0, none⟩ = some (.map (some ml)) ∧ V.cell? ⟨p, 1, none⟩ = some (.map (some mk))) 17 (by kernel_rfl) ?_
  have hC : (fun V : World => V.cell? ⟨p, 0, none⟩ = some (.map (some ml)) ∧ V.cell? ⟨p, 1, none⟩ = some (.map (some mk))) wk.drew := ⟨k0, k1⟩
  refine HeldB.take 0 (v := ?_) hC rfl (by kernel_rfl) (by kernel_rfl) (by kernel_rfl) (by kernel_rfl) (fun _ _ _ h => h) ?_ ?_; rotate_left; · (intro W hW; obtain ⟨k0, k1⟩ := hW; go_simp <;> with_reducible rfl)
  try simp only [Act.put, List.setIfInBounds_toArray, List.set_cons_zero, List.set_cons_succ]
  refine HeldB.take 1 (v := ?_) hC rfl (by kernel_rfl) (by kernel_rfl) (by kernel_rfl) (by kernel_rfl) (fun _ _ _ h => h) ?_ ?_; rotate_left; · (intro W hW; obtain ⟨k0, k1⟩ := hW; go_simp <;> with_reducible rfl)
  try simp only [Act.put, List.setIfInBounds_toArray, List.set_cons_zero, List.set_cons_succ]
  refine HeldB.take 2 (v := ?_) hC rfl (by kernel_rfl) (by kernel_rfl) (by kernel_rfl) (by kernel_rfl) (fun _ _ _ h => h) ?_ ?_; rotate_left; · (intro W hW; obtain ⟨k0, k1⟩ := hW; go_simp <;> with_reducible rfl)
  try simp only [Act.put, List.setIfInBounds_toArray, List.set_cons_zero, List.set_cons_succ]
  refine HeldB.take 3 (v := ?_) hC rfl (by kernel_rfl) (by kernel_rfl) (by kernel_rfl) (by kernel_rfl) (fun _ _ _ h => h) ?_ ?_; rotate_left; · (intro W hW; obtain ⟨k0, k1⟩ := hW; go_simp <;> with_reducible rfl)
  try simp only [Act.put, List.setIfInBounds_toArray, List.set_cons_zero, List.set_cons_succ]
  refine HeldB.take 4 (v := ?_) hC rfl (by kernel_rfl) (by kernel_rfl) (by kernel_rfl) (by kernel_rfl) (fun _ _ _ h => h) ?_ ?_; rotate_left; · (intro W hW; obtain ⟨k0, k1⟩ := hW; go_simp <;> with_reducible rfl)
  try simp only [Act.put, List.setIfInBounds_toArray, List.set_cons_zero, List.set_cons_succ]
  refine HeldB.take 5 (v := ?_) hC rfl (by kernel_rfl) (by kernel_rfl) (by kernel_rfl) (by kernel_rfl) (fun _ _ _ h => h) ?_ ?_; rotate_left; · (intro W hW; obtain ⟨k0, k1⟩ := hW; go_simp <;> with_reducible rfl)
  try simp only [Act.put, List.setIfInBounds_toArray, List.set_cons_zero, List.set_cons_succ]
  refine HeldB.take 6 (v := ?_) hC rfl (by kernel_rfl) (by kernel_rfl) (by kernel_rfl) (by kernel_rfl) (fun _ _ _ h => h) ?_ ?_; rotate_left; · (intro W hW; obtain ⟨k0, k1⟩ := hW; go_simp <;> with_reducible rfl)
  try simp only [Act.put, List.setIfInBounds_toArray, List.set_cons_zero, List.set_cons_succ]
  refine HeldB.take 7 (v := ?_) hC rfl (by kernel_rfl) (by kernel_rfl) (by kernel_rfl) (by kernel_rfl) (fun _ _ _ h => h) ?_ ?_; rotate_left; · (intro W hW; obtain ⟨k0, k1⟩ := hW; go_simp <;> with_reducible rfl)
  try simp only [Act.put, List.setIfInBounds_toArray, List.set_cons_zero, List.set_cons_succ]
  refine HeldB.take 8 (v := ?_) hC rfl (by kernel_rfl) (by kernel_rfl) (by kernel_rfl) (by kernel_rfl) (fun _ _ _ h => h) ?_ ?_; rotate_left; · (intro W hW; obtain ⟨k0, k1⟩ := hW; go_simp <;> with_reducible rfl)
  try simp only [Act.put, List.setIfInBounds_toArray, List.set_cons_zero, List.set_cons_succ]
  refine HeldB.quiet 9 (v := ?_) (fun _ => hC) rfl (by kernel_rfl) (by kernel_rfl) (by kernel_rfl) (by kernel_rfl) (fun _ _ _ h => h) ?_ ?_; rotate_left; · (intro W; go_simp <;> with_reducible rfl)
  try simp only [Act.put, List.setIfInBounds_toArray, List.set_cons_zero, List.set_cons_succ]
  refine HeldB.quiet 10 (v := ?_) (fun _ => hC) rfl (by kernel_rfl) (by kernel_rfl) (by kernel_rfl) (by kernel_rfl) (fun _ _ _ h => h) ?_ ?_; rotate_left; · (intro W; go_simp <;> with_reducible rfl)
  try simp only [Act.put, List.setIfInBounds_toArray, List.set_cons_zero, List.set_cons_succ]
  refine HeldB.quiet 11 (v := ?_) (fun _ => hC) rfl (by kernel_rfl) (by kernel_rfl) (by kernel_rfl) (by kernel_rfl) (fun _ _ _ h => h) ?_ ?_; rotate_left; · (intro W; go_simp <;> with_reducible rfl)
  try simp only [Act.put, List.setIfInBounds_toArray, List.set_cons_zero, List.set_cons_succ]
  clear hC k0 k1
  refine HeldB.only 12 (by kernel_rfl) rfl ?_
  intro K hK
  go_simp
  refine hK.out _ _ (fun _ => HC1.out) ?_
  clear hK K
  try simp only [Act.put, List.setIfInBounds_toArray, List.set_cons_zero, List.set_cons_succ]
  refine HeldB.only 13 (by kernel_rfl) rfl ?_
  intro K hK
  go_simp
  refine hK.out _ _ (fun _ => HC1.out) ?_
  clear hK K
  try simp only [Act.put, List.setIfInBounds_toArray, List.set_cons_zero, List.set_cons_succ]
  refine HeldB.only 14 (by kernel_rfl) rfl ?_
  intro K hK
  go_simp
  refine hK.out _ _ (fun _ => HC2.out) ?_
  clear hK K
  try simp only [Act.put, List.setIfInBounds_toArray, List.set_cons_zero, List.set_cons_succ]
  refine HeldB.only 15 (by kernel_rfl) rfl ?_
  intro K hK
  go_simp
  refine hK.out _ _ (fun _ => HC3.out) ?_
  clear hK K
  try simp only [Act.put, List.setIfInBounds_toArray, List.set_cons_zero, List.set_cons_succ]
  refine HeldB.only 16 (by kernel_rfl) rfl ?_
  intro K hK
  go_simp
  refine hK.out _ _ (fun _ => HC3.out) ?_
  clear hK K
  try simp only [Act.put, List.setIfInBounds_toArray, List.set_cons_zero, List.set_cons_succ]
  refine HeldB.only 17 (by kernel_rfl) rfl ?_
  intro K hK
  go_simp
  refine hK.out _ _ (fun h => absurd h (by decide)) ?_
  clear hK K
  try simp only [Act.put, List.setIfInBounds_toArray, List.set_cons_zero, List.set_cons_succ]
  refine HeldB.done (by kernel_rfl) ?_ _
  go_wp2
  go_ret2
  exact ⟨rfl, H4.out⟩

set_option maxRecDepth 100000 in
theorem doit_s (h : Sep B w wk (fo p va ml mk s ++ Rs)) (hok : FlightP.Ok s) (t k : Int) (ht : In64 t) (hk : In64 k) :
    Calls Try.prog 24 #[.pointer (some ⟨p, 0, none⟩), .int .i64 t, .int .i64 k] wk fun e wn => e = .returned (.tuple #[.int .i64 (doV s t k), .int .i64 (doE s t)]) ∧ Sep B w wn (fo p va ml mk (doS s t k) ++ Rs) := by
  by_cases h0 : doE s t = 0
  · have hl : leadsB s.L t = false := by
      rcases do_errs s t with ⟨e, _⟩ | ⟨e, _⟩ | ⟨e, _⟩ | ⟨_, _, _, h3⟩
      · omega
      · omega
      · omega
      · exact h3
    cases hany : anyK s.L k with
    | false =>
      rw [(new_eq h0 hany).1, (new_eq h0 hany).2, h0]
      exact doit_new h hok t k ht hk h0 hl hany
    | true =>
      rw [(join_eq h0 hany).1, (join_eq h0 hany).2]
      obtain ⟨c0, c1, c2⟩ := fo_c h
      have HM := Lib.hid (may_s h hok t ht)
      have hlk0 := MapK.mapf_ok h 1 rfl hk
      have he : leadF s k = some (leaderK s.L k) := by unfold leadF; rw [if_pos hany]
      rw [he] at hlk0
      have hlk : (Instr.lookup 54 (.map (some ml)) (.int .i64 k) true).run Try.prog wk = .ok (.tuple #[.int .i64 (leaderK s.L k), .bool true]) wk := hlk0
      have hp := a_put h 3 rfl (leaderK s.L k) t
      rw [(hok.rows_put hany h0).1, (hok.rows_put hany h0).2] at hp
      have HP : Hid (Calls Try.prog 32 #[va, .int .i64 (leaderK s.L k), .int .i64 t] wk fun e wn => e = .returned (.int .i64 0) ∧ Sep B w wn (fo p va ml mk { s with L := s.L.map (joinC k t) } ++ Rs)) := by
        show Calls _ _ _ _ _
        rw [fo_join]
        exact hp
      obtain ⟨a, rfl⟩ := fo_ptr h
      rw [h0] at HM ⊢
      clear h hp hlk0 he hany hok h0 hl
      generalize leaderK s.L k = v at *
      go_enter Try.func24, Try.ntmps24
      go_wp2_with fail
      refine HM.out.mono ?_
      rintro e w0 ⟨rfl, rfl⟩
      go_wp2_with fail
      refine HP.out.mono ?_
      rintro e w1 ⟨rfl, h1⟩
      have H1 := Lib.hid h1
      clear h1 HP HM
      go_wp2
      go_ret2
      exact ⟨rfl, H1.out⟩
  · have hS : doS s t k = s ∧ doV s t k = -1 := by unfold doS doV; rw [if_neg h0, if_neg h0]; exact ⟨rfl, rfl⟩
    rw [hS.1, hS.2]
    have HM := Lib.hid (may_s h hok t ht)
    have H := Lib.hid h
    have e1 : (doE s t != 0) = true := by simpa using h0
    clear h hok h0 hS
    generalize doE s t = E at *
    go_enter Try.func24, Try.ntmps24
    go_wp2_with fail
    refine HM.out.mono ?_
    rintro e w0 ⟨rfl, rfl⟩
    go_wp2
    go_ret2
    exact ⟨rfl, H.out⟩

set_option maxRecDepth 100000 in
theorem forget_s (h : Sep B w wk (fo p va ml mk s ++ Rs)) (hok : FlightP.Ok s) (k : Int) (hk : In64 k) :
    Calls Try.prog 25 #[.pointer (some ⟨p, 0, none⟩), .int .i64 k] wk fun e wn => e = .returned (.bool (anyK s.L k)) ∧ Sep B w wn (fo p va ml mk (fgS s k) ++ Rs) := by
  obtain ⟨c0, c1, c2⟩ := fo_c h
  have hlk0 := MapK.mapf_ok h 1 rfl hk
  have HK := Lib.hid hk
  cases hany : anyK s.L k with
  | true =>
    have he : leadF s k = some (leaderK s.L k) := by unfold leadF; rw [if_pos hany]
    rw [he] at hlk0
    have hlk : (Instr.lookup 54 (.map (some ml)) (.int .i64 k) true).run Try.prog wk = .ok (.tuple #[.int .i64 (leaderK s.L k), .bool true]) wk := hlk0
    have hn := hok.fg_nL hany
    have h' : Sep B w wk (fog p va ml (nL (fgS s k) + 1) (leadF s) mk s.L.length (keyF s) (rowsF s) s.N ++ Rs) := by rw [← hn]; exact h
    have HD := Lib.hid h'
    have HIS : Hid ((leadF s k).isSome = true) := by show _ = _; rw [he]; rfl
    have HF := Lib.hid (fo_fg p va ml mk s k)
    clear h h' hlk0 he hany hok hn hk
    generalize leaderK s.L k = v at *
    go_enter Try.func25, Try.ntmps25
    go_wp2_with (at_delete; refine MapK.wp_mdel rfl _ _ rfl rfl rfl HD.out 1 rfl HK.out HIS.out ?_)
    intro w2 h2
    have H2 : Hid (Sep B w w2 (fo p va ml mk (fgS s k) ++ Rs)) := by
      show Sep _ _ _ _
      rw [HF.out]
      exact h2
    clear h2 HD hlk c0 c1 c2
    go_wp2
    go_ret
    exact ⟨rfl, H2.out⟩
  | false =>
    have he : leadF s k = none := by unfold leadF; rw [if_neg (by rw [hany]; simp)]
    rw [he] at hlk0
    have hlk : (Instr.lookup 54 (.map (some ml)) (.int .i64 k) true).run Try.prog wk = .ok (.tuple #[.int .i64 0, .bool false]) wk := hlk0
    have HD := Lib.hid h
    have hF := fo_fg p va ml mk s k
    have hg := gone_no hany
    rw [hg] at hF ⊢
    have HF := Lib.hid hF
    clear h hlk0 he hany hok hk hF hg
    go_enter Try.func25, Try.ntmps25
    go_wp2_with (at_delete; refine MapK.wp_many rfl _ _ rfl rfl rfl HD.out 1 rfl HK.out ?_)
    intro w2 h2
    have H2 : Hid (Sep B w w2 (fo p va ml mk s ++ Rs)) := by
      show Sep _ _ _ _
      rw [HF.out]
      exact h2
    clear h2 HD hlk c0 c1 c2
    go_wp2
    go_ret
    exact ⟨rfl, H2.out⟩

/-- Drop, of one who joins, in whatever state the maps are. -/
theorem drop_g (h : Sep B w wk (fog p va ml n1 m1 mk n2 m2 (rowsF s) s.N ++ Rs)) (hok : FlightP.Ok s) (t : Int) :
    Calls Try.prog 35 #[va, .int .i64 t] wk fun e wn => e = .returned (.bool (waitsJ s.L t)) ∧ Sep B w wn (fog p va ml n1 m1 mk n2 m2 (rowsF (lvS s t)) s.N ++ Rs) := by
  have hd := a_drop h 3 rfl t
  have hb : decide (0 ≤ RefRing.inL (rowsF s) t) = waitsJ s.L t := by
    have HF := RefFlight.do_facts hok t
    rw [hok.rows_in]
    cases hw : waitsJ s.L t with
    | true => exact decide_eq_true (HF.1 hw)
    | false => rw [HF.2.1 hw]; rfl
  rw [hok.rows_drop, hb] at hd
  exact hd
set_option maxRecDepth 100000 in
theorem leave_s (h : Sep B w wk (fo p va ml mk s ++ Rs)) (hok : FlightP.Ok s) (t : Int) :
    Calls Try.prog 27 #[.pointer (some ⟨p, 0, none⟩), .int .i64 t] wk fun e wn => e = .returned (.bool (waitsJ s.L t)) ∧ Sep B w wn (fo p va ml mk (lvS s t) ++ Rs) := by
  obtain ⟨_, _, c2⟩ := fo_c h
  have hd := drop_g h hok t
  rw [fo_lv]
  have HD := Lib.hid hd
  obtain ⟨a, rfl⟩ := fo_ptr h
  clear h hd hok
  generalize waitsJ s.L t = bo at *
  go_enter Try.func27, Try.ntmps27
  go_wp2_with fail
  refine HD.out.mono ?_
  rintro e w1 ⟨rfl, h1⟩
  have H1 := Lib.hid h1
  clear h1 HD
  go_wp2
  go_ret
  exact ⟨rfl, H1.out⟩
end
end Go.Proofs.Ytbkeodjebfkkdaa.FlyC
