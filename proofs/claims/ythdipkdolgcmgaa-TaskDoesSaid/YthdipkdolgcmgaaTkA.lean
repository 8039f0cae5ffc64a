/-
  Package task, as it landed, first part: the table at hand, the small functions that only read, and where a task lies. No condition.
-/
import Derived.Test.YthdipkdolgcmgaaTaskM
import Derived.Lib.SliceRun
namespace Go.Proofs.Ythdipkdolgcmgaa.TkA
open Go.ChangeShapes Go.WideShapes Go.ChangeAt Go.RowKit Mem MutP TaskP Hand RefTask TaskI

theorem tkElemT : Elem tkE Try.prog 66 53 := elem_of (z := .agg #[.int .i64 0, .int .i64 0, .int .i64 0, .int .i64 0, .int .i64 0, .int .i64 0, .int .i64 0, .int .i64 0, .int .i64 0, .int .i64 0, .int .i64 0, .int .i64 0, .int .i64 0, .int .i64 0, .int .i64 0, .int .i64 0, .int .i64 0]) (bytes := 136) Try.underlying66 (by kernel_rfl) rfl (by omega)

/-- The table behind the pointer to block p. -/
def ta (p : Nat) (L : List Tk) (N : Int) (u : Value) : List Res :=
  [blk p (.cells #[.int .i64 N, u] 68), grow tkE 53 u L]
/-- A table that can be read. -/
structure Sees (wk : World) (p : Nat) (A : Option Addr) (c : Nat) (L : List Tk) : Prop where
  k1 : wk.cell? ⟨p, 1, none⟩ = some (.slice A L.length c)
  rd : RdL tkE wk (fun _ => True) (.slice A L.length c) L
  len : L.length ≤ 200
  lt : p < wk.heap.size

section
variable {B : Nat → Prop} {w wk wn : World} {Rs : List Res} {p : Nat} {L : List Tk} {N : Int}
theorem Sees.below {A : Option Addr} {c : Nat} (h : Sees wk p A c L) (hb : Below wk.heap.size wk wn) : Sees wn p A c L :=
  ⟨(hb.cell (p := ⟨p, 1, none⟩) h.lt).trans h.k1, h.rd.below hb, h.len, Nat.lt_of_lt_of_le h.lt hb.size⟩
theorem ta_form {u : Value} (h : Sep B w wk (ta p L N u ++ Rs)) : ∃ A c, u = .slice A L.length c := (h.own 1 rfl).form
theorem ta_sees {A : Option Addr} {n c : Nat} (hok : TaskP.Ok L N) (h : Sep B w wk (ta p L N (.slice A n c) ++ Rs)) : Sees wk p A c L := by
  obtain ⟨A', c', e⟩ := ta_form h
  obtain rfl : n = L.length := by injection e
  have h1 := hok.len
  have h2 := hok.n1
  exact ⟨(cell_block (h.blk_at 0 rfl) 1).trans rfl, (h.own 1 rfl).rd (by omega) fun _ _ => trivial, by omega, lt_of_block (h.blk_at 0 rfl)⟩

/-- The results of a call that tells one struct. -/
theorem results_one {fn : Func} {p : Tmp} {ty : TypeId} (h : fn.results = #[.cell p ty]) (tmps : Array Value) (P : Program) (w : World) {b : Nat} {cs : Array Value} {d : TypeDesc} (hp : tmps.getD p undef = .pointer (some ⟨b, 0, none⟩))
    (hc : ∀ j, j < cs.size → w.cell? ⟨b, 0 + j, none⟩ = cs[j]?) (hu : P.underlying ty = some d) (hd : aggD d = true) (hi : (P.info? ty).map (·.size) = some cs.size) :
    (results fn tmps).run P w = .ok (.agg cs) w := by
  have hp2 : tmps[p]?.getD undef = .pointer (some ⟨b, 0, none⟩) := by simpa using hp
  simp only [results, h]
  simp [hp2, asAddr, run_loadVar_at w b 0 ty cs d hc hu hd hi]

set_option maxRecDepth 100000 in
theorem len_s {A : Option Addr} {c : Nat} (h : Sees wk p A c L) :
    Calls Try.prog 16 #[.pointer (some ⟨p, 0, none⟩)] wk fun e wn => e = .returned (.int .i64 L.length) ∧ wk = wn := by
  have k1 := h.k1
  clear h
  generalize L.length = len at *
  go_enter Try.func16, Try.ntmps16
  go_wp2
  go_ret
  exact ⟨rfl, rfl⟩

set_option maxRecDepth 100000 in
theorem of_s {A : Option Addr} {c : Nat} (h : Sees wk p A c L) (n : Int) :
    Calls Try.prog 36 #[.pointer (some ⟨p, 0, none⟩), .int .i64 n] wk fun e wn => e = .returned (.agg (tkA (getT L n))) ∧ Below wk.heap.size wk wn := by
  have S0 : Hid (Sep (fun _ => False) wk (wk.alloc (.cells (tkA zeroT) 53)) [blk wk.heap.size (.cells (tkA zeroT) 53)]) := (Sep.nil (fun _ => False) wk).new _
  have HL := Lib.hid (len_s (h.below (new_below0 wk (.cells (tkA zeroT) 53))))
  have HS := Lib.hid h
  have k1 := h.k1
  have hpl := h.lt
  have hm := h.len
  clear h
  have zr := zero_t
  have br := built_t
  have oz := tkA_one zeroT
  rcases (by omega : (n < 0 ∨ (L.length : Int) ≤ n) ∨ (0 ≤ n ∧ n < (L.length : Int))) with hn | ⟨h0, h1⟩
  · have HT : Hid (getT L n = zeroT) := by
      show _ = _
      unfold getT tkO
      split
      · rw [List.getElem?_eq_none (by omega)]; rfl
      · rfl
    rw [HT.out]
    clear HT HS
    have HB0 : Hid ((wk.alloc (.cells (tkA zeroT) 53)).heap[wk.heap.size]? = some (.cells (tkA zeroT) 53 (0, 0))) := S0.out.blk_at 0 rfl
    have size17 : (Try.prog.info? 53).map (·.size) = some (tkA zeroT).size := sizeT_t _
    have S1 : Hid (Sep (fun _ => False) wk (setCells (wk.alloc (.cells (tkA zeroT) 53)) wk.heap.size 0 (tkA zeroT).toList) [blk wk.heap.size (.cells (tkA zeroT) 53)]) := by
      have h2 := Sep.whole (tkA zeroT).toList 0 S0.out 0 rfl
      rw [tkA_over _ _ (tkA_size _)] at h2
      exact h2
    have HC : Hid (∀ j, j < (tkA zeroT).size → (setCells (wk.alloc (.cells (tkA zeroT) 53)) wk.heap.size 0 (tkA zeroT).toList).cell? ⟨wk.heap.size, 0 + j, none⟩ = (tkA zeroT)[j]?) := fun j _ => by rw [Nat.zero_add]; exact cell_block (S1.out.blk_at 0 rfl) j
    have sz : 0 + (tkA zeroT).size ≤ (tkA zeroT).size := by omega
    generalize tkA zeroT = Z at *
    generalize L.length = len at *
    clear S0
    rcases (by omega : n < 0 ∨ (0 ≤ n ∧ (len : Int) ≤ n)) with h0 | ⟨h0, h1⟩
    · have d0 : decide (n < 0) = true := decide_eq_true h0
      go_enter Try.func36, Try.ntmps36
      go_wp2_with (first | (refine wl_allocT rfl 53 rfl zr ?_; simp only [Act.put, List.setIfInBounds_toArray, List.set_cons_zero, List.set_cons_succ]) | (refine wl_buildT rfl 53 rfl br ?_; simp only [Act.put, List.setIfInBounds_toArray, List.set_cons_zero, List.set_cons_succ]) | (refine wl_storeAt rfl 53 (.tmp 4) (.tmp 13) rfl rfl rfl HB0.out sz size17 oz ?_))
      (try simp only [Exit.inBlock, Exit.then])
      refine bodyPost_ret (results_one rfl _ _ _ rfl HC.out Try.underlying53 rfl size17) rfl ?_
      exact ⟨rfl, S1.out.old⟩
    · have d0 : decide (n < 0) = false := decide_eq_false (by omega)
      have d1 : decide (n ≥ (len : Int)) = true := decide_eq_true h1
      go_enter Try.func36, Try.ntmps36
      go_wp2_with (refine wl_allocT rfl 53 rfl zr ?_; simp only [Act.put, List.setIfInBounds_toArray, List.set_cons_zero, List.set_cons_succ])
      refine HL.out.mono ?_
      rintro e w1 ⟨rfl, rfl⟩
      go_wp2_with (first | (refine wl_buildT rfl 53 rfl br ?_; simp only [Act.put, List.setIfInBounds_toArray, List.set_cons_zero, List.set_cons_succ]) | (refine wl_storeAt rfl 53 (.tmp 4) (.tmp 13) rfl rfl rfl HB0.out sz size17 oz ?_))
      (try simp only [Exit.inBlock, Exit.then])
      refine bodyPost_ret (results_one rfl _ _ _ rfl HC.out Try.underlying53 rfl size17) rfl ?_
      exact ⟨rfl, S1.out.old⟩
  · obtain ⟨k, rfl⟩ := Int.eq_ofNat_of_zero_le h0
    obtain ⟨t, hk⟩ : ∃ t, L[k]? = some t := ⟨_, List.getElem?_eq_getElem (by omega)⟩
    rw [getT_at hk]
    obtain ⟨bb, off, rfl, hb, _, cs⟩ := tk_cells HS.out.rd hk
    have HLD : Hid (∀ j, j < (tkA t).size → (wk.alloc (.cells (tkA zeroT) 53)).cell? ⟨bb, off + k * 17 + j, none⟩ = (tkA t)[j]?) := fun j hj => by
      rw [tkA_size] at hj
      rw [tkA_get t hj]
      exact ((new_below0 wk _).cell (p := ⟨bb, off + k * 17 + j, none⟩) hb).trans (cs j hj)
    have HB0 : Hid ((wk.alloc (.cells (tkA zeroT) 53)).heap[wk.heap.size]? = some (.cells (tkA zeroT) 53 (0, 0))) := S0.out.blk_at 0 rfl
    have sizeX : (Try.prog.info? 53).map (·.size) = some (tkA t).size := sizeT_t _
    have S1 : Hid (Sep (fun _ => False) wk (setCells (wk.alloc (.cells (tkA zeroT) 53)) wk.heap.size 0 (tkA t).toList) [blk wk.heap.size (.cells (tkA t) 53)]) := by
      have h2 := Sep.whole (tkA t).toList 0 S0.out 0 rfl
      rw [tkA_over _ _ (tkA_size _)] at h2
      exact h2
    have HC : Hid (∀ j, j < (tkA t).size → (setCells (wk.alloc (.cells (tkA zeroT) 53)) wk.heap.size 0 (tkA t).toList).cell? ⟨wk.heap.size, 0 + j, none⟩ = (tkA t)[j]?) := fun j _ => by rw [Nat.zero_add]; exact cell_block (S1.out.blk_at 0 rfl) j
    have oz2 := tkA_one t
    have sz : 0 + (tkA t).size ≤ (tkA zeroT).size := by rw [tkA_size, tkA_size]; omega
    generalize tkA zeroT = Z at *
    generalize tkA t = X at *
    generalize hln : L.length = len at *
    have d0 : decide ((k : Int) < 0) = false := decide_eq_false (by omega)
    have d1 : decide ((k : Int) ≥ (len : Int)) = false := decide_eq_false (by omega)
    clear hk cs hb S0 HS
    go_enter Try.func36, Try.ntmps36
    go_wp2_with (refine wl_allocT rfl 53 rfl zr ?_; simp only [Act.put, List.setIfInBounds_toArray, List.set_cons_zero, List.set_cons_succ])
    refine HL.out.mono ?_
    rintro e w1 ⟨rfl, rfl⟩
    go_wp2_with (first | (refine wl_loadAt rfl 53 (.tmp 19) rfl rfl HLD.out Try.underlying53 rfl sizeX ?_; simp only [Act.put, List.setIfInBounds_toArray, List.set_cons_zero, List.set_cons_succ]) | (refine wl_storeAt rfl 53 (.tmp 4) (.tmp 20) rfl rfl rfl HB0.out sz sizeX oz2 ?_))
    (try simp only [Exit.inBlock, Exit.then])
    refine bodyPost_ret (results_one rfl _ _ _ rfl HC.out Try.underlying53 rfl sizeX) rfl ?_
    exact ⟨rfl, S1.out.old⟩
end

/-! ### the library's Contains -/
theorem rd_at {w : World} {G : Nat → Prop} {A : Option Addr} {n c : Nat} {l : List Int} (h : Rd w G (.slice A n c) l) {j : Nat} {y : Int} (hg : l[j]? = some y) :
    ∃ b off, A = some ⟨b, off, none⟩ ∧ w.cell? ⟨b, off + j, none⟩ = some (.int .i64 y) := by
  have hl := (List.getElem?_eq_some_iff.1 hg).1
  obtain ⟨A', c', e, _, hx⟩ := h
  injection e with e1
  subst e1
  obtain ⟨b, off, ha, _, _, hc⟩ := hx (by omega)
  exact ⟨b, off, ha, by rw [hc j hl, List.getD_eq_getElem?_getD, hg]; rfl⟩
set_option maxRecDepth 100000 in
/-- Where a number stands first. -/
theorem index_c {w : World} {G : Nat → Prop} {A : Option Addr} {c : Nat} {l : List Int} (hr : Rd w G (.slice A l.length c) l) (x : Int) :
    Calls Try.prog 41 #[.slice A l.length c, .int .i64 x] w fun e w' => (∃ d : Int, e = .returned (.int .i64 d) ∧ decide (d ≥ 0) = decide (x ∈ l)) ∧ w = w' := by
  have hm : l.length ≤ 1000000 := by obtain ⟨_, _, _, hm, _⟩ := hr; exact hm
  have HR := Lib.hid hr
  clear hr
  go_enter Try.func41, Try.ntmps41
  go_wp2
  go_loopw [8] (fun t W => ∃ j : Nat, j ≤ l.length ∧ t = .int .i64 j ∧ W = w ∧ Hid (x ∉ l.take j)) (fun t _ => l.length - (intOf t).toNat)
  case atStart => exact ⟨0, Nat.zero_le _, rfl, rfl, by show ¬ _; simp⟩
  case round =>
    obtain ⟨j, hj, rfl, rfl, HN⟩ := hrel
    by_cases hlt : j < l.length
    · have hg : l[j]? = some l[j] := List.getElem?_eq_getElem hlt
      have HT : Hid (l.take (j + 1) = l.take j ++ [l[j]]) := by show _ = _; rw [List.take_add_one, hg]; rfl
      generalize l[j] = y at *
      have HM : Hid (y ∈ l) := List.mem_of_getElem? hg
      obtain ⟨b, off, rfl, q0⟩ := rd_at HR.out hg
      have i0 : (0 : Int) ≤ (j : Int) := by omega
      have i1 : (j : Int) < (l.length : Int) := by omega
      clear hg
      by_cases hxy : x = y
      · subst hxy
        go_wp2
        go_ret
        exact ⟨⟨_, rfl, by rw [decide_eq_true HM.out]; simp⟩, rfl⟩
      · have e1 : (x == y) = false := by rw [beq_eq_false_iff_ne]; exact hxy
        have HN2 : Hid (x ∉ l.take (j + 1)) := by
          show ¬ _
          rw [HT.out, List.mem_append, List.mem_singleton]
          exact fun h => h.elim HN.out hxy
        clear hxy
        go_wp2
        go_roundw
        case rel => exact ⟨j + 1, by omega, by go_num, trivial, HN2⟩
        case measure => simp [intOf]; omega
    · have HX : Hid (x ∉ l) := by
        have := HN.out
        rwa [List.take_of_length_le (by omega)] at this
      go_wp2
      go_ret
      exact ⟨⟨_, rfl, by rw [decide_eq_false HX.out]; rfl⟩, rfl⟩
set_option maxRecDepth 100000 in
theorem contains_c {w : World} {G : Nat → Prop} {A : Option Addr} {c : Nat} {l : List Int} (hr : Rd w G (.slice A l.length c) l) (x : Int) {b : Bool} (hb : decide (x ∈ l) = b) :
    Calls Try.prog 40 #[.slice A l.length c, .int .i64 x] w fun e w' => e = .returned (.bool b) ∧ w = w' := by
  have HI := Lib.hid (index_c hr x)
  subst hb
  generalize decide (x ∈ l) = b at *
  clear hr
  generalize l.length = n at *
  go_enter Try.func40, Try.ntmps40
  go_wp2_with fail
  refine HI.out.mono ?_
  rintro e w1 ⟨⟨d, rfl, hd⟩, rfl⟩
  have HD := Lib.hid hd
  clear hd HI
  go_wp2
  go_ret
  exact ⟨ret_bool HD.out, rfl⟩

theorem field_sx (x0 x1 x2 x3 x4 x5 x6 x7 x8 x9 x10 x11 x12 x13 x14 x15 x16 : Int) (w : World) : (Instr.field 53 (.agg #[.int .i64 x0, .int .i64 x1, .int .i64 x2, .int .i64 x3, .int .i64 x4, .int .i64 x5, .int .i64 x6, .int .i64 x7, .int .i64 x8, .int .i64 x9, .int .i64 x10, .int .i64 x11, .int .i64 x12, .int .i64 x13, .int .i64 x14, .int .i64 x15, .int .i64 x16]) 0).run Try.prog w = .ok (.int .i64 x0) w := by kernel_rfl
theorem field_st (t : Tk) (w : World) : (Instr.field 53 (.agg (tkA t)) 0).run Try.prog w = .ok (.int .i64 (get t 0)) w := by
  obtain ⟨x0, x1, x2, x3, x4, x5, x6, x7, x8, x9, x10, x11, x12, x13, x14, x15, x16, hx⟩ := tk_lit t
  have ax : tkA t = #[.int .i64 x0, .int .i64 x1, .int .i64 x2, .int .i64 x3, .int .i64 x4, .int .i64 x5, .int .i64 x6, .int .i64 x7, .int .i64 x8, .int .i64 x9, .int .i64 x10, .int .i64 x11, .int .i64 x12, .int .i64 x13, .int .i64 x14, .int .i64 x15, .int .i64 x16] := by show (t.1.map _).toArray = _; rw [hx]; rfl
  have g0 : get t 0 = x0 := by show t.1[0]?.getD 0 = x0; rw [hx]; rfl
  rw [ax, g0]
  exact field_sx ..

section
variable {B : Nat → Prop} {w wk wn : World} {Rs : List Res} {p : Nat} {L : List Tk} {N : Int}
set_option maxRecDepth 100000 in
theorem among_no {A : Option Addr} {c : Nat} (h : Sees wk p A c L) (n : Int) {G : Nat → Prop} {A2 : Option Addr} {c2 : Nat} {l : List Int} (hr : Rd wk G (.slice A2 l.length c2) l) (hb : decide (get (getT L n) 0 ∈ l) = false) :
    Calls Try.prog 38 #[.pointer (some ⟨p, 0, none⟩), .int .i64 n, .slice A2 l.length c2] wk fun e wn => e = .returned (.pointer none) ∧ Below wk.heap.size wk wn := by
  have HO := Lib.hid (of_s h n)
  have HC : Hid (∀ wn, Below wk.heap.size wk wn → _) := fun wn hbl => contains_c (hr.below hbl) (get (getT L n) 0) hb
  have HF := fun w => field_st (getT L n) w
  clear h hr hb
  generalize getT L n = t at *
  generalize get t 0 = g at *
  generalize l.length = m at *
  generalize tkA t = X at *
  go_enter Try.func38, Try.ntmps38
  go_wp2_with fail
  refine HO.out.mono ?_
  rintro e w1 ⟨rfl, hb⟩
  have HB := Lib.hid hb
  have hf := HF w1
  have HC1 := Lib.hid (HC.out w1 hb)
  clear hb HF HC HO
  go_wp2_with fail
  refine HC1.out.mono ?_
  rintro e w2 ⟨rfl, rfl⟩
  go_wp2
  go_ret
  exact ⟨rfl, HB.out⟩
set_option maxRecDepth 100000 in
theorem among_yes {bb c : Nat} (h : Sees wk p (some ⟨bb, 0, none⟩) c L) {k : Nat} {t : Tk} (hk : L[k]? = some t) {G : Nat → Prop} {A2 : Option Addr} {c2 : Nat} {l : List Int} (hr : Rd wk G (.slice A2 l.length c2) l) (hb : decide (get t 0 ∈ l) = true) :
    Calls Try.prog 38 #[.pointer (some ⟨p, 0, none⟩), .int .i64 k, .slice A2 l.length c2] wk fun e wn => e = .returned (.pointer (some ⟨bb, k * 17, none⟩)) ∧ Below wk.heap.size wk wn := by
  have HO := Lib.hid (of_s h k)
  rw [getT_at hk] at HO
  have HC : Hid (∀ wn, Below wk.heap.size wk wn → _) := fun wn hbl => contains_c (hr.below hbl) (get t 0) hb
  have HF := fun w => field_st t w
  have HS := Lib.hid h
  have hl := (List.getElem?_eq_some_iff.1 hk).1
  have hm := h.len
  clear h hr hb hk
  generalize get t 0 = g at *
  generalize l.length = m at *
  generalize tkA t = X at *
  go_enter Try.func38, Try.ntmps38
  go_wp2_with fail
  refine HO.out.mono ?_
  rintro e w1 ⟨rfl, hb⟩
  have HB := Lib.hid hb
  have hf := HF w1
  have HC1 := Lib.hid (HC.out w1 hb)
  have k1 := (HS.out.below hb).k1
  clear hb HF HC HO HS
  generalize L.length = len at *
  go_wp2_with fail
  refine HC1.out.mono ?_
  rintro e w2 ⟨rfl, rfl⟩
  go_wp2
  go_ret
  exact ⟨by simp, HB.out⟩
end
end Go.Proofs.Ythdipkdolgcmgaa.TkA
