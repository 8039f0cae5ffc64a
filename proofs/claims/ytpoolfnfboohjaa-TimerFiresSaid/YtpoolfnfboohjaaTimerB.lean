/-
  Contracts of the functions of package timer, as it landed, second part: lists that are told. Condition: the pointer is as 'TA' says.
-/
import Derived.Test.YtpoolfnfboohjaaTimerA
import Derived.Test.YtpoolfnfboohjaaHeapV
import Derived.Test.YtpoolfnfboohjaaRange
import Derived.Deep.LoopGhost
namespace Go.Proofs.Ytpoolfnfboohjaa.TimerC
open Go.ChangeShapes Go.WideShapes Go.ChangeAt Go.RowKit Mem RefHeap RefTimer HeapC Hand

theorem _root_.Go.Proofs.Ytpoolfnfboohjaa.Hand.Sep.growN {B : Nat → Prop} {w wk : World} {Rs : List Res} (h : Sep B w wk Rs) {α : Type} (E : Enc α) (e : TypeId) : Sep B w wk (grow E e (.slice none 0 0) [] :: Rs) :=
  h.add (Below.refl _ _) (R := grow E e _ _) ⟨World.ownsRow_nil _ _ _ _, rfl⟩ fun k hk => by simp [Value.ownBlock] at hk
theorem alarmElem : Elem entE Try.prog 33 48 := elem_of (z := .agg #[.int .i64 0, .int .i64 0, .int .i64 0]) (bytes := 24) Try.underlying33 (by kernel_rfl) rfl (by omega)

section
variable {w w' : World} {v : Value} {F : Nat → Prop} {T C : Int} {L : List Ent} {M : Int}
theorem alarms_c (h : TA w v F T C L M) : Calls Try.prog 20 #[v] w fun e w' => ∃ u, e = .returned u ∧ RdL entE w' (fun k => ¬ F k) u L ∧ Below w.heap.size w w' := by
  obtain ⟨g, hv, FH, rfl, hg, ha, hn, rfl, ho⟩ := h
  obtain ⟨ap, rfl⟩ := ha.ptr
  have c2 := (cell_block hg 2).trans rfl
  have hFl : ∀ k, FH k → k < w.heap.size := ha.lt
  have hgl := lt_of_block hg
  have HFL := Lib.hid hFl
  have HGL := Lib.hid hgl
  have hlen := ho.len
  have HA := Lib.hid ha
  clear ha hn ho hg hFl hgl
  go_enter Try.func20, Try.ntmps20
  go_wp2_with fail
  refine (all_a HA.out).mono ?_
  rintro e w1 ⟨u, rfl, hr, hb⟩
  obtain ⟨A, c, rfl⟩ := hr.form
  have HR := Lib.hid hr
  have HB := Lib.hid hb
  have S0 := Lib.hid ((Sep.nil (fun _ => False) w1).growN entE 48)
  clear hr hb
  go_wp2
  go_loopw [3, 12] (fun u t wr => ∃ i : Nat, i ≤ L.length ∧ t = .int .i64 i ∧ Hid (∃ A c, u = .slice A (L.take i).length c ∧ Sep (fun _ => False) w1 wr [grow entE 48 (.slice A (L.take i).length c) (L.take i)])) (fun _ t _ => L.length - (intOf t).toNat)
  case atStart => exact ⟨0, Nat.zero_le _, rfl, _, _, rfl, S0.out⟩
  case round =>
    obtain ⟨i, hi, rfl, HS⟩ := hrel
    obtain ⟨Ao, co, rfl, hS⟩ := HS.out
    have SL := Lib.hid hS
    have hol : (L.take i).length ≤ i := List.length_take_le _ _
    clear HS hS S0
    by_cases hlt : i < L.length
    · have hx : L[i]? = some L[i] := List.getElem?_eq_getElem hlt
      generalize L[i] = a at hx
      obtain ⟨b, off, rfl, _, hb, c0, c1, c2⟩ := ent_cells HR.out hx
      have hB := SL.out.old
      have q0 := (hB.cell (p := ⟨b, off + i * 3, none⟩) hb).trans c0
      have q1 := (hB.cell (p := ⟨b, off + i * 3 + 1, none⟩) hb).trans c1
      have q2 := (hB.cell (p := ⟨b, off + i * 3 + 2, none⟩) hb).trans c2
      have HT : Hid (L.take (i + 1) = L.take i ++ [a]) := take_snocE L i a hx
      generalize hg : L.take i = lt at *
      clear hx c0 c1 hB hg
      go_wp2_with fail
      refine (alarm_c a _).mono ?_
      rintro e w2 ⟨rfl, h2⟩
      simp only [Ent.val]
      have S2 := Lib.hid ((SL.out.next (new_below0 wr (.cells #[.int .i64 a.id, .int .i64 a.at_, .int .i64 a.seq] 65))).next h2)
      clear h2 SL
      have HX : Hid (RdL entE (w2.alloc (.cells #[.int .i64 a.id, .int .i64 a.at_, .int .i64 a.seq] 48)) (fun _ => True) (.slice (some ⟨w2.heap.size, 0, none⟩) 1 1) [a]) :=
        RdL.lit1 (E := entE) w2 48 a (cs := #[.int .i64 a.id, .int .i64 a.at_, .int .i64 a.seq]) rfl (fun _ => True) trivial
      go_wp2_with (at_builtin; refine wpList_appS rfl _ _ alarmElem rfl rfl rfl (S2.out.next (new_below0 _ _)) 0 rfl HX.out (by simp; omega) ?_; intro A3 c3 w3 l3 HL3 h3)
      have S3 := Lib.hid h3
      clear h3 S2 HX
      go_wp2
      go_roundw
      case rel => exact ⟨i + 1, by omega, by go_num, by rw [HT.out, ← HL3.out]; exact ⟨_, _, rfl, S3.out⟩⟩
      case measure => simp [intOf]; omega
    · have HS : Hid (L.take i = L) := List.take_of_length_le (by omega)
      have hS := SL.out
      rw [HS.out] at hS ⊢
      have S9 := Lib.hid hS
      clear hS SL
      go_wp2
      go_ret
      obtain ⟨F9, ⟨h9, rfl⟩, hF9, _⟩ := S9.out.upd 0 rfl
      refine ⟨_, rfl, OwnL.rd h9 (by omega) fun k hk hF => ?_, HB.out.trans (S9.out.old.mono HB.out.size)⟩
      have hk' : w1.heap.size ≤ k := (hF9 k hk).resolve_left id
      have := HB.out.size
      rcases hF with rfl | hF
      · have := HGL.out; omega
      · have := HFL.out k hF; omega
end

theorem new_yes_c (n : Int) (w : World) (h1 : 1 ≤ n) (h2 : n ≤ 1000) : Calls Try.prog 7 #[.int .i64 n] w fun e w' => ∃ v F, e = .returned (.tuple #[v, .int .i64 0]) ∧ TA w' v F 0 0 [] n ∧ Below w.heap.size w w' ∧ ∀ k, F k → w.heap.size ≤ k := by
  go_enter Try.func7, Try.ntmps7
  go_wp2_with fail
  refine (new_a n w h1 h2).mono ?_
  rintro e w1 ⟨hv, FH, rfl, ha, hb, hf⟩
  obtain ⟨ap, rfl⟩ := ha.ptr
  have HA := Lib.hid ha
  have HB := Lib.hid hb
  have HF := Lib.hid hf
  clear ha hb hf
  go_wp2
  go_ret2
  have hn : ¬ FH w1.heap.size := fun h => by have := HA.out.lt _ h; omega
  refine ⟨_, _, rfl, ⟨w1.heap.size, _, FH, rfl, heap_alloc_new w1 _, HA.out.below (new_below0 w1 _), hn, rfl, ⟨h1, h2, ⟨by decide, by decide⟩, by omega, by simp, by simp, by simp, by simp, by simp, by simp⟩⟩, HB.out.alloc HB.out.size _, fun k hk => ?_⟩
  rcases hk with rfl | hk
  · exact HB.out.size
  · exact HF.out k hk

/-- A clock as a thing at hand. -/
def tk (v : Value) (T C : Int) (L : List Ent) (M : Int) : Res where
  holds w F := TA w v F T C L M
  keep := fun h _ hk => h.keep hk
  lt := fun h => h.lt

theorem takeH_ok {T C M : Int} {L : List Ent} (h : TimerI.Ok T C L M) (t : Int) : TimerI.Ok T C (takeH L t) M := by
  unfold takeH
  split
  · exact ok_sub h List.filter_sublist
  · exact h
/-- The heap's Take, of a clock at hand. -/
theorem take_s {B : Nat → Prop} {w wk : World} {g : Nat} {T C M : Int} {L : List Ent} {Rs : List Res} (h : Sep B w wk (tk (.pointer (some ⟨g, 0, none⟩)) T C L M :: Rs)) : ∃ ap, wk.heap[g]? = some (.cells #[.int .i64 T, .int .i64 C, .pointer (some ap)] 62 (0, 0)) ∧
    Calls Try.prog 43 #[.pointer (some ap), .int .i64 T] wk fun e wn => e = .returned (.tuple #[(takeE L T).val, .bool (takeB L T)]) ∧ wn.heap[g]? = some (.cells #[.int .i64 T, .int .i64 C, .pointer (some ap)] 62 (0, 0)) ∧ Sep B w wn (tk (.pointer (some ⟨g, 0, none⟩)) T C (takeH L T) M :: Rs) := by
  obtain ⟨F, ⟨g', hv, FH, e, hg, ha, hn, rfl, ho⟩, hF, hup⟩ := h.upd 0 rfl
  obtain rfl : g = g' := by injection e with e; injection e with e; injection e
  obtain ⟨ap, rfl⟩ := ha.ptr
  refine ⟨ap, hg, (take_a ha T).mono ?_⟩
  rintro e wn ⟨rfl, hA⟩
  obtain ⟨F', ha', ho', hF'⟩ := hA
  have hg' := (ho'.block g (lt_of_block hg) hn).trans hg
  obtain ⟨F2, ht, ho2, hf2⟩ := TA.heap hg hn ⟨F', ha', ho', hF'⟩ (takeH_ok ho T) hg' (Only.refl _ _)
  exact ⟨rfl, hg', hup (tk _ _ _ _ _) ht ho2 hf2⟩

set_option maxRecDepth 100000 in
/-- Alarms go off, one by one, to whoever ranges over them. -/
theorem due_c {B : Nat → Prop} {w W0 : World} {l : Nat} {v : Value} {T C M : Int} {L : List Ent} (X : List Ent → List Res → Prop) {Rs0 : List Res} (hX0 : X [] Rs0) (hS : Sep B w W0 (tk v T C L M :: Rs0))
    (hY : ∀ (pre : List Ent) (x : Ent) (L' : List Ent) (Rs : List Res) (W : World), pre.length < L.length → X pre Rs → Sep B w W (tk v T C L' M :: Rs) → ∀ m, YieldAt Fence.wide m Try.prog l #[x.val] W fun e W' => e = .returned (.bool true) ∧ ∃ Rs', X (pre ++ [x]) Rs' ∧ Sep B w W' (tk v T C L' M :: Rs')) :
    Calls Try.prog 35 #[v, .func (.yield l) #[] #[]] W0 fun e W' => (∃ u, e = .returned u) ∧ ∃ Rs', X (L.filter (fun y => decide (y.at_ ≤ T))) Rs' ∧ Sep B w W' (tk v T C (L.filter (fun y => decide (T < y.at_))) M :: Rs') := by
  obtain ⟨g, rfl⟩ : ∃ g, v = .pointer (some ⟨g, 0, none⟩) := by obtain ⟨F, g, _, _, e, _⟩ := hS.get 0 rfl; exact ⟨g, e⟩
  have HX0 := Lib.hid hX0
  have S0 := Lib.hid hS
  have HY := Lib.hid hY
  clear hX0 hS hY
  go_enter Try.func35, Try.ntmps35
  go_wp2
  go_loopg [] L.length (fun k wr => ∃ (pre L' : List Ent) (Rs : List Res), Hid (k = L'.length ∧ pre ++ L'.filter (fun y => decide (y.at_ ≤ T)) = L.filter (fun y => decide (y.at_ ≤ T)) ∧ L'.filter (fun y => decide (T < y.at_)) = L.filter (fun y => decide (T < y.at_)) ∧ pre.length + L'.length = L.length ∧ X pre Rs ∧ Sep B w wr (tk (.pointer (some ⟨g, 0, none⟩)) T C L' M :: Rs)))
  case atStart => exact ⟨[], L, Rs0, rfl, rfl, rfl, by simp, HX0.out, S0.out⟩
  case round =>
    obtain ⟨pre, L', Rs, HR⟩ := hrel
    have HS := Lib.hid HR.out.2.2.2.2.2
    obtain ⟨ap, hg, hc⟩ := take_s HS.out.drew
    have hS2 := (((HS.out.new (.cells #[.int .i64 0, .int .i64 0, .int .i64 0] 65)).swap).drew)
    obtain ⟨ap', hg', hc'⟩ := take_s hS2
    have HZ : Hid ((wr.alloc (.cells #[.int .i64 0, .int .i64 0, .int .i64 0] 65)).drew.heap[g]? = wr.heap[g]?) := Below.heap_alloc _ _ _ (lt_of_block (w := wr) hg)
    obtain rfl : ap' = ap := by
      have := hg'.symm.trans (HZ.out.trans hg)
      injection this with this; injection this with this; simpa using this
    have HC := Lib.hid hc
    have HC' := Lib.hid hc'
    have k0 : wr.drew.cell? ⟨g, 0, none⟩ = some (.int .i64 T) := (cell_block hg 0).trans rfl
    have k2 : wr.drew.cell? ⟨g, 2, none⟩ = some (.pointer (some ap')) := (cell_block hg 2).trans rfl
    have l0 : (wr.alloc (.cells #[.int .i64 0, .int .i64 0, .int .i64 0] 65)).drew.cell? ⟨g, 0, none⟩ = some (.int .i64 T) := (cell_block hg' 0).trans rfl
    have l2 : (wr.alloc (.cells #[.int .i64 0, .int .i64 0, .int .i64 0] 65)).drew.cell? ⟨g, 2, none⟩ = some (.pointer (some ap')) := (cell_block hg' 2).trans rfl
    have HOK : Hid (TimerI.Ok T C L' M) := by obtain ⟨F, h⟩ := HS.out.get 0 rfl; exact TA.ok h
    have HXE : Hid (∀ (b : Bool), takeB L' T = b → takeE L' T = if b then firstE L' else zeroEnt) := fun b hb => by unfold takeE; rw [hb]
    have HXH : Hid (∀ (b : Bool), takeB L' T = b → takeH L' T = if b then dropH L' (firstE L').id else L') := fun b hb => by unfold takeH; rw [hb]
    have n1 : g ≠ wr.heap.size := Nat.ne_of_lt (lt_of_block (w := wr) hg)
    have n2 : wr.heap.size ≠ g := fun e => n1 e.symm
    clear hc hg S0 hc' hg' hS2 HZ
    generalize takeE L' T = x at *
    generalize takeH L' T = L2 at *
    generalize hb : takeB L' T = bt at *
    have HBB := Lib.hid hb
    clear hb
    simp only [Ent.val] at HC HC'
    go_wp2
    go_cut [4, 5] (fun s4 s5 wx => ∃ b, s4 = .pointer (some ⟨b, 0, none⟩) ∧ s5 = .bool bt ∧ Hid (wx.heap[b]? = some (.cells #[.int .i64 x.id, .int .i64 x.at_, .int .i64 x.seq] 65 (0, 0)) ∧ Sep B w wx (tk (.pointer (some ⟨g, 0, none⟩)) T C L2 M :: Rs)))
    case first =>
      go_region_held3 (fun W => W.cell? ⟨g, 0, none⟩ = some (.int .i64 T) ∧ W.cell? ⟨g, 2, none⟩ = some (.pointer (some ap'))) (first | (exact ⟨k0, k2⟩) | (exact ⟨l0, l2⟩) | (go_keep))
        ((first | ((go_at_call 43; (with_reducible refine HC.out.mono ?_); rintro e w1 ⟨rfl, hg1, h1⟩; have H1 := Lib.hid h1; have s0 : w1.cell? ⟨g, 0, none⟩ = some (.int .i64 T) := (cell_block hg1 0).trans rfl; have s2 : w1.cell? ⟨g, 2, none⟩ = some (.pointer (some ap')) := (cell_block hg1 2).trans rfl; clear h1 hg1)) | ((go_at_call 43; (with_reducible refine HC'.out.mono ?_); rintro e w1 ⟨rfl, hg1, h1⟩; have H1 := Lib.hid h1; have s0 : w1.cell? ⟨g, 0, none⟩ = some (.int .i64 T) := (cell_block hg1 0).trans rfl; have s2 : w1.cell? ⟨g, 2, none⟩ = some (.pointer (some ap')) := (cell_block hg1 2).trans rfl; have hz := h1.blk_at 1 rfl; have HZ1 := Lib.hid hz; have z0 : w1.cell? ⟨wr.heap.size, 0, none⟩ = some (.int .i64 0) := (cell_block hz 0).trans rfl; have z1 : w1.cell? ⟨wr.heap.size, 1, none⟩ = some (.int .i64 0) := (cell_block hz 1).trans rfl; have z2 : w1.cell? ⟨wr.heap.size, 2, none⟩ = some (.int .i64 0) := (cell_block hz 2).trans rfl; have f0 := frozen_block hz 0; have f1 := frozen_block hz 1; have f2 := frozen_block hz 2; clear hz h1 hg1))))
      · go_wp2_with fail
        go_meet
        exact ⟨w1.heap.size, rfl, rfl, heap_alloc_new w1 _, H1.out.next (new_below0 w1 _)⟩
      · go_wp2_with fail
        go_meet
        exact ⟨wr.heap.size, rfl, rfl, set3 HZ1.out _ _ _, ((((H1.out.set 1 rfl 0 _).set 1 rfl 1 _).set 1 rfl 2 _).swap).tail⟩
    case rest =>
      obtain ⟨b, rfl, rfl, HK⟩ := hcut
      have q0 := (cell_block HK.out.1 0).trans rfl
      have q1 := (cell_block HK.out.1 1).trans rfl
      have q2 := (cell_block HK.out.1 2).trans rfl
      cases bt with
      | false =>
        clear HC HC' k0 k2 l0 l2
        go_wp2
        obtain ⟨_, h1, h2, _, hX, _⟩ := HR.out
        have hS := HK.out.2
        rw [show L2 = L' from HXH.out false rfl] at hS
        have ho := off_end HOK.out.order HBB.out
        rw [ho.1, List.append_nil] at h1
        rw [ho.2] at h2
        refine bodyPost_ret (results_none rfl _ _ _) rfl ⟨⟨_, rfl⟩, Rs, ?_, ?_⟩
        · rw [← h1]; exact hX
        · rw [← h2]; exact hS
      | true =>
        clear HC HC' k0 k2 l0 l2
        cases L' with
        | nil => have := HBB.out; simp [takeB] at this
        | cons y l' =>
        obtain rfl : x = y := HXE.out true rfl
        obtain rfl : L2 = l' := (HXH.out true rfl).trans (dropH_head HOK.out.once)
        have hat : x.at_ ≤ T := by have := HBB.out; simpa [takeB] using this
        have HAT := Lib.hid hat
        have HPL : Hid (pre.length < L.length) := by
          have := HR.out.2.2.2.1
          show _ < _
          simp at this
          omega
        clear hat
        go_step
        refine wpIn_wide (n := 3) |>.1 ?_
        gi_wp2_with (refine ⟨trivial, ?_⟩; gi_at_call 33; refine (callsIn_wide.2 (alarm_c x _)).mono ?_; rintro e w2 ⟨rfl, h2⟩; have H2 := Lib.hid h2; clear h2; simp only [Ent.val]; obtain ⟨yf, yt, ya, yb, hy, hR⟩ := HY.out pre x L2 Rs w2 HPL.out HR.out.2.2.2.2.1 (HK.out.2.next H2.out) 2; simp only [Ent.val] at hy; have HRR := Lib.hid hR; clear hR)
        refine HRR.out.mono ?_
        rintro e w3 ⟨rfl, Rs', hX', hS'⟩
        have HX' := Lib.hid hX'
        have HS' := Lib.hid hS'
        clear hX' hS' hy HRR
        gi_wp2
        go_roundg (L2.length)
        case measure => have := HR.out.1; simp at this; omega
        case rel =>
          obtain ⟨_, h1, h2, h3, _, _⟩ := HR.out
          have ho := off_one (l := L2) HAT.out
          rw [ho.1] at h1
          rw [ho.2] at h2
          exact ⟨pre ++ [x], L2, Rs', rfl, by rw [List.append_assoc]; exact h1, h2, by simp at h3 ⊢; omega, HX'.out, HS'.out⟩
end Go.Proofs.Ytpoolfnfboohjaa.TimerC
