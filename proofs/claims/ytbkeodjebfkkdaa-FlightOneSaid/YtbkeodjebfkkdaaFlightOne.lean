/-
  The walk of the law FlightOne over any package that meets 'Fl': it returns true and leaves old memory as it was. Conditions: none but 'Fl'.
-/
import Derived.Test.YtbkeodjebfkkdaaFlightM
import Derived.Test.YtbkeodjebfkkdaaFlyP
import Derived.Test.YtbkeodjebfkkdaaMapK
import Derived.Test.YtbkeodjebfkkdaaMapS
import Derived.Test.YtbkeodjebfkkdaaHeld
import Derived.Test.YtbkeodjebfkkdaaHeldB
import Derived.Test.YtbkeodjebfkkdaaActs3
import Derived.Deep.DeepCutAuto
import Derived.Deep.CutBlock
namespace Go.Proofs.Ytbkeodjebfkkdaa.FlightI
open Go.ChangeShapes Go.WideShapes Go.ChangeAt Go.RowKit Mem MutP FlightP Hand RefMut RefFlight Acts3

/-- What the law keeps beside the flight: who joins which call, who leads the call of each key, whose key each call is. -/
def ms (f : Int → Value) (W : Int → List Int) (m1 m2 : Int → Option Int) (n bl bk bs : Nat) : List Res := [MapS.readsF f W, MapS.sm bs n f, MapK.mapf bl n m1, mapf bk n m2]
def jo (s : St) : Int → List Int := fun r => joinedL s.L r
theorem act_N (s : St) (d t k : Int) : (actS s d t k).N = s.N := by
  unfold actS
  split
  · unfold doS; split
    · split <;> rfl
    · rfl
  · split
    · unfold finS; split <;> rfl
    · split
      · rfl
      · split
        · rfl
        · rfl
section
variable {B : Nat → Prop} {w wk : World} {Rs : List Res} {f : Int → Value} {W W' : Int → List Int} {m1 m2 m1' m2' : Int → Option Int} {n n' bl bk bs : Nat}
theorem ms_more (h : Sep B w wk (ms f W m1 m2 n bl bk bs ++ Rs)) (hn : n ≤ n') : Sep B w wk (ms f W m1 m2 n' bl bk bs ++ Rs) :=
  mapf_more (MapK.mapf_more (MapS.sm_more h 1 rfl hn) 2 rfl hn) 3 rfl hn
theorem ms_same (h : Sep B w wk (ms f W m1 m2 n bl bk bs ++ Rs)) (hW : ∀ x, W' x = W x) (h1 : m1' = m1) (h2 : m2' = m2) : Sep B w wk (ms f W' m1' m2' n bl bk bs ++ Rs) := by
  rw [h1, h2]
  exact MapS.readsF_same h hW
/-- The maps, whatever lies ahead. -/
theorem ms_at (X : List Res) (h : Sep B w wk (X ++ (ms f W m1 m2 n bl bk bs ++ Rs))) : (∀ {d : Int}, In64 d → (Instr.lookup 56 (.map (some bs)) (.int .i64 d) false).run Try.prog wk = .ok (f d) wk) ∧ (∀ {d : Int}, In64 d → (Instr.lookup 54 (.map (some bl)) (.int .i64 d) true).run Try.prog wk = .ok (.tuple #[.int .i64 ((m1 d).getD 0), .bool (m1 d).isSome]) wk) ∧ (∀ {d : Int}, In64 d → (Instr.lookup 55 (.map (some bk)) (.int .i64 d) false).run Try.prog wk = .ok (.int .i64 ((m2 d).getD 0)) wk) ∧ ∀ d, Rd wk (fun _ => True) (f d) (W d) := by
  have h1 := h.sub (List.sublist_append_right X _)
  exact ⟨fun hd => MapS.sm_look h1 1 rfl hd, fun hd => MapK.mapf_ok h1 2 rfl hd, fun hd => mapf_look h1 3 rfl hd, fun d => MapS.readsF_at h1 0 rfl d⟩
/-- An act's block, whatever lies ahead. -/
theorem act_at (X : List Res) {g : Nat} {d t k : Int} (h : Sep B w wk (X ++ (blk g (.cells #[.int .i64 d, .int .i64 t, .int .i64 k] 32 (0, 0)) :: Rs))) : wk.cell? ⟨g, 0, none⟩ = some (.int .i64 d) ∧ wk.cell? ⟨g, 1, none⟩ = some (.int .i64 t) ∧ wk.cell? ⟨g, 2, none⟩ = some (.int .i64 k) := by
  have h1 := (h.sub (List.sublist_append_right X _)).blk_at 0 rfl
  exact ⟨(cell_block h1 0).trans rfl, (cell_block h1 1).trans rfl, (cell_block h1 2).trans rfl⟩
end

/-- While those who leave are taken out, row by row. -/
def lvT (s : St) (t : Int) (i : Nat) : Int → List Int := fun r => if r < i then withoutL (joinedL s.L r) t else joinedL s.L r
theorem lvT_zero {s : St} (h : FlightP.Ok s) (t : Int) : ∀ r, lvT s t 0 r = jo s r := fun r => by
  unfold lvT jo
  split
  · rw [h.out_row (by omega)]; rfl
  · rfl
theorem lvT_end {s : St} (h : FlightP.Ok s) (t : Int) {i : Nat} (hi : s.N ≤ i) : ∀ r, jo (lvS s t) r = lvT s t i r := fun r => by
  unfold lvT jo
  show joinedL (s.L.map (lvC t)) r = _
  rw [lv_joined]
  split
  · rfl
  · rw [h.out_row (by omega)]; rfl
theorem lvT_at (s : St) (t : Int) (i : Nat) : lvT s t i i = joinedL s.L i ∧ lvT s t (i + 1) i = withoutL (joinedL s.L i) t ∧ ∀ r, r ≠ (i : Int) → lvT s t (i + 1) r = lvT s t i r := by
  unfold lvT
  refine ⟨if_neg (by omega), if_pos (by omega), fun r hr => ?_⟩
  by_cases h : r < (i : Int)
  · rw [if_pos h, if_pos (by omega)]
  · rw [if_neg h, if_neg (by omega)]

set_option maxHeartbeats 4000000 in
set_option maxRecDepth 100000 in
theorem one_walk (I : Fl) (A : Option Addr) (len cap : Nat) (zs : List Ac) (w : World) (hlen : len ≤ 9223372036854775807) (hz : ZsIn w A len cap zs) :
    Calls Try.prog 4 #[.slice A len cap] w fun e w' => e = .returned (.bool true) ∧ Below w.heap.size w w' := by
  have HZ := Lib.hid hz
  clear hz
  by_cases h60 : 100 < len
  · go_enter Try.func4, Try.ntmps4
    go_wp2_with fail
    refine (awake_any I _).mono ?_
    rintro e w1 ⟨rfl, hb1⟩
    have HB := Lib.hid hb1
    clear hb1
    go_wp2
    go_ret
    exact ⟨rfl, HB.out⟩
  · obtain ⟨hzl, hzr, hzo⟩ := HZ.out (by omega)
    subst hzl
    have HZR := Lib.hid hzr
    have HZO := Lib.hid hzo
    clear hzr hzo HZ
    have hmm := @run_makeMap Try.prog
    go_enter Try.func4, Try.ntmps4
    go_wp2_with fail
    refine (awake_any I _).mono ?_
    rintro e w1 ⟨rfl, hb1⟩
    have S1 := Lib.hid ((Sep.nil (fun _ => False) w).next hb1)
    clear hb1
    go_wp2_with fail
    refine (m_new S1.out I 12 (by omega) (by omega)).mono ?_
    rintro e w2 ⟨a, rfl, h2'⟩
    have S2 : Hid (Sep (fun _ => False) w (((w2.alloc (.map #[] 0)).alloc (.map #[] 0)).alloc (.map #[] 0)) (ms (fun _ => MapS.vN) (jo (newS 12)) (leadF (newS 12)) (keyF (newS 12)) 0 w2.heap.size (w2.heap.size + 1) (w2.heap.size + 1 + 1) ++ [ob I.O (.pointer (some a)) (newS 12)])) := by
      have h3 := MapK.mapf_new h2'
      have h4 := mapf_new h3
      have h5 := MapS.sm_new h4
      have s1 : (w2.alloc (.map #[] 0)).heap.size = w2.heap.size + 1 := by simp
      have s2 : ((w2.alloc (.map #[] 0)).alloc (.map #[] 0)).heap.size = w2.heap.size + 1 + 1 := by simp
      rw [s1, s2] at h5
      have h6 := MapS.readsF_new h5
      exact h6.perm (by exact ((List.Perm.swap ..).cons _).cons _)
    clear h2' S1
    go_wp2
    generalize w2.heap.size + 1 + 1 = bs at *
    generalize w2.heap.size + 1 = bk at *
    generalize w2.heap.size = bl at *
    clear hmm
    go_loopw [40] (fun u wr => ∃ j : Nat, j ≤ zs.length ∧ u = .int .i64 j ∧ Hid (∃ (s : St) (f : Int → Value), s.N = 12 ∧ Sep (fun _ => False) w wr (ms f (jo s) (leadF s) (keyF s) j bl bk bs ++ [ob I.O (.pointer (some a)) s]))) (fun u _ => zs.length - (intOf u).toNat)
    case atStart => exact ⟨0, Nat.zero_le _, rfl, _, _, rfl, S2.out⟩
    case round =>
      obtain ⟨j, hj, rfl, HS⟩ := hrel
      obtain ⟨s, f, hsN, hS⟩ := HS.out
      have SL := Lib.hid hS
      have HSN := Lib.hid hsN
      clear HS hS S2 hsN
      by_cases hlt : j < zs.length
      · have hx : zs[j]? = some zs[j] := List.getElem?_eq_getElem hlt
        generalize zs[j] = z at hx
        obtain ⟨hd64, ht64, hk64⟩ := HZO.out z (List.mem_of_getElem? hx)
        obtain ⟨bb, off, rfl, hbb, c0, c1, c2⟩ := ac_cells HZR.out hx
        have hb := SL.out.old
        have q0 := (hb.cell (p := ⟨bb, off + j * 3, none⟩) hbb).trans c0
        have q1 := (hb.cell (p := ⟨bb, off + j * 3 + 1, none⟩) hbb).trans c1
        have q2 := (hb.cell (p := ⟨bb, off + j * 3 + 2, none⟩) hbb).trans c2
        obtain ⟨d, t, k⟩ := z
        simp only at q0 q1 q2 ht64 hk64
        have S4 := Lib.hid (SL.out.new (.cells #[.int .i64 d, .int .i64 t, .int .i64 k] 32))
        have HOK := Lib.hid (m_ok SL.out 4 rfl)
        have HT64 := Lib.hid ht64
        have HK64 := Lib.hid hk64
        clear hx c0 c1 c2 hb SL hd64 ht64 hk64
        obtain ⟨V, hV⟩ : ∃ V, actV s d t k = V := ⟨_, rfl⟩
        obtain ⟨E, hE⟩ : ∃ E, actE s d t = E := ⟨_, rfl⟩
        obtain ⟨Bo, hBo⟩ : ∃ Bo, actB s d t k = Bo := ⟨_, rfl⟩
        obtain ⟨L2, hL2⟩ : ∃ L2, actL s d t = L2 := ⟨_, rfl⟩
        obtain ⟨s2, hs2⟩ : ∃ s2, actS s d t k = s2 := ⟨_, rfl⟩
        have HSN2 : Hid (s2.N = 12) := by show _ = _; rw [← hs2, act_N, HSN.out]
        have KV := Lib.hid hV
        have KE := Lib.hid hE
        have KB := Lib.hid hBo
        have KL := Lib.hid hL2
        have KS := Lib.hid hs2
        clear hV hE hBo hL2 hs2
        go_wp2_with fail
        refine (m_do S4.out 5 rfl d t k HT64.out HK64.out KV.out KB.out KL.out rfl KE.out KS.out).mono ?_
        rintro e w5 ⟨Ao, co, rfl, h5⟩
        obtain ⟨g, hg⟩ : ∃ g, wr.heap.size = g := ⟨_, rfl⟩
        have S6 : Hid (Sep (fun _ => False) w w5 ([nums (.slice Ao L2.length co) L2] ++ (blk wr.heap.size (.cells #[.int .i64 d, .int .i64 t, .int .i64 k] 32) :: (ms f (jo s) (leadF s) (keyF s) j bl bk bs ++ [ob I.O (.pointer (some a)) s2])))) := h5
        obtain ⟨a0, a1, a2⟩ := act_at [_] S6.out
        rw [hg] at a0 a1 a2 S6 ⊢
        clear h5 S4 q0 q1 q2 hg
        go_upto_block 2 with (fail)
        go_cut [] (fun wx => Hid (∃ f2, Sep (fun _ => False) w wx (ms f2 (jo s2) (leadF s2) (keyF s2) (j + 1) bl bk bs ++ [ob I.O (.pointer (some a)) s2])))
        case first => as_aux_lemma =>
          have HDROP : Hid (∀ {wx : World}, Sep (fun _ => False) w wx ([nums (.slice Ao L2.length co) L2] ++ (blk g (.cells #[.int .i64 d, .int .i64 t, .int .i64 k] 32) :: (ms f (jo s) (leadF s) (keyF s) j bl bk bs ++ [ob I.O (.pointer (some a)) s2]))) → s2 = s → Hid (∃ f2, Sep (fun _ => False) w wx (ms f2 (jo s2) (leadF s2) (keyF s2) (j + 1) bl bk bs ++ [ob I.O (.pointer (some a)) s2]))) := fun {wx} h e => by
            have h1 := ms_more (n' := j + 1) h.tail.tail (by omega)
            rw [← e] at h1
            exact ⟨_, h1⟩
          by_cases hE0 : E = 0
          · subst hE0
            rcases (by omega : d = 0 ∨ d = 1 ∨ d = 2 ∨ d = 3 ∨ (d ≠ 0 ∧ d ≠ 1 ∧ d ≠ 2 ∧ d ≠ 3)) with rfl | rfl | rfl | rfl | ⟨d0, d1, d2, d3⟩
            · have hE : doE s t = 0 := KE.out
              have hV : doV s t k = V := KV.out
              have hS : doS s t k = s2 := KS.out
              have hL : [] = L2 := KL.out
              subst hL
              have hl : leadsB s.L t = false ∧ nameM s.N t = true := by
                rcases do_errs s t with ⟨e, _⟩ | ⟨e, _⟩ | ⟨e, _⟩ | ⟨_, h1, _, h3⟩
                · omega
                · omega
                · omega
                · exact ⟨h3, h1⟩
              have hlk := (ms_at [_, _] S6.out).2.1 HK64.out
              cases hany : anyK s.L k with
              | true =>
                rw [(join_eq hE hany).2] at hV
                rw [(join_eq hE hany).1] at hS
                have he : leadF s k = some V := by unfold leadF; rw [if_pos hany, hV]
                rw [he] at hlk
                have hlk : (Instr.lookup 54 (.map (some bl)) (.int .i64 k) true).run Try.prog w5 = .ok (.tuple #[.int .i64 V, .bool true]) w5 := hlk
                have hVt : V ≠ t := by
                  intro e
                  rcases HOK.out.leader_is k with ⟨e1, _⟩ | ⟨c, hc, _, _, e1⟩
                  · have := (name_iff.1 hl.2).1; omega
                  · have := leads_iff.2 (List.mem_map.2 ⟨c, hc, rfl⟩)
                    rw [← e1, hV, e, hl.1] at this
                    cases this
                have hV64 : Hid (In64 V) := by
                  have h1 := HOK.out.leader_in k
                  have h2 := HOK.out.n1
                  rw [hV] at h1
                  exact ⟨by omega, by omega⟩
                have e1 : (V != t) = true := by simpa using hVt
                have e2 : (V != V) = false := by simp
                have HW : Hid (jo s2 V = jo s V ++ [t] ∧ ∀ r, r ≠ V → jo s2 r = jo s r) := by
                  have h1 := HOK.out.join_joined (t := t) hany
                  rw [← hS]
                  refine ⟨?_, fun r hr => ?_⟩
                  · show joinedL (s.L.map (joinC k t)) V = _
                    rw [h1, hV, if_pos rfl]
                    rfl
                  · show joinedL (s.L.map (joinC k t)) r = _
                    rw [h1, hV, if_neg hr]
                    rfl
                have HM : Hid (leadF s2 = leadF s ∧ keyF s2 = keyF s) := by
                  rw [← hS]
                  exact ⟨join_lead, join_key⟩
                have hjl : (jo s V).length ≤ 1000 := joined_len HOK.out V
                obtain ⟨A8, c8, hf8⟩ : ∃ A c, f V = .slice A (jo s V).length c := by
                  obtain ⟨A, c, e, _⟩ := (ms_at [_, _] S6.out).2.2.2 V
                  exact ⟨A, c, e⟩
                clear hV hS hE he hany hl HDROP KV KE KB KL KS
                go_upto_region 23 with (fail)
                obtain ⟨x1, x2, x3, x4⟩ := ms_at [_, _] S6.out
                have l8 := x1 hV64.out
                rw [hf8] at l8
                have S0 : Hid (Sep (fun _ => False) w w5.drew ([] ++ (nums (.slice Ao 0 co) [] :: (blk g (.cells #[.int .i64 0, .int .i64 t, .int .i64 k] 32) :: (ms f (jo s) (leadF s) (keyF s) j bl bk bs ++ [ob I.O (.pointer (some a)) s2]))))) := Sep.drew S6.out
                have HSM : Hid (∀ (X : List Res) (V' : World), Sep (fun _ => False) w V' (X ++ (nums (.slice Ao 0 co) [] :: (blk g (.cells #[.int .i64 0, .int .i64 t, .int .i64 k] 32) :: (ms f (jo s) (leadF s) (keyF s) j bl bk bs ++ [ob I.O (.pointer (some a)) s2])))) → V'.cell? ⟨g, 1, none⟩ = some (.int .i64 t) ∧ (Instr.lookup 56 (.map (some bs)) (.int .i64 V) false).run Try.prog V' = .ok (.slice A8 (jo s V).length c8) V') := fun X V' h => by
                  have h1 := h.sub (List.sublist_append_right X _)
                  refine ⟨(act_at [_] h1).2.1, ?_⟩
                  have h2 := (ms_at [_, _] h1).1 hV64.out
                  rw [hf8] at h2
                  exact h2
                have HRD : Hid (∀ (X : List Res) (V' : World), Sep (fun _ => False) w V' (X ++ (nums (.slice Ao 0 co) [] :: (blk g (.cells #[.int .i64 0, .int .i64 t, .int .i64 k] 32) :: (ms f (jo s) (leadF s) (keyF s) j bl bk bs ++ [ob I.O (.pointer (some a)) s2])))) → RdL intE V' (fun _ => True) (.slice A8 (jo s V).length c8) (jo s V)) := fun X V' h => by
                  have h1 := h.sub (List.sublist_append_right X _)
                  have h2 := (ms_at [_, _] h1).2.2.2 V
                  rw [hf8] at h2
                  exact rdL_of h2
                obtain ⟨k0, k1⟩ := HSM.out [] _ S0.out
                clear x1 x2 x3 x4 l8 hlk S6 a0 a1 a2
                refine Held.begin_ (fun V' : World => V'.cell? ⟨g, 1, none⟩ = some (.int .i64 t) ∧ (Instr.lookup 56 (.map (some bs)) (.int .i64 V) false).run Try.prog V' = .ok (.slice A8 (jo s V).length c8) V') 11 (by kernel_rfl) ?_
                have hC : (fun V' : World => V'.cell? ⟨g, 1, none⟩ = some (.int .i64 t) ∧ (Instr.lookup 56 (.map (some bs)) (.int .i64 V) false).run Try.prog V' = .ok (.slice A8 (jo s V).length c8) V') w5.drew := ⟨k0, k1⟩
                refine Held.take 0 (v := ?_) hC rfl (by kernel_rfl) (by kernel_rfl) (by kernel_rfl) (by kernel_rfl) (fun _ _ _ h => h) ?_ ?_; rotate_left; · (intro W hW; obtain ⟨k0, k1⟩ := hW; go_simp <;> with_reducible rfl)
                try simp only [Act.put, List.setIfInBounds_toArray, List.set_cons_zero, List.set_cons_succ]
                refine Held.take 1 (v := ?_) hC rfl (by kernel_rfl) (by kernel_rfl) (by kernel_rfl) (by kernel_rfl) (fun _ _ _ h => h) ?_ ?_; rotate_left; · (intro W hW; obtain ⟨k0, k1⟩ := hW; go_simp <;> with_reducible rfl)
                try simp only [Act.put, List.setIfInBounds_toArray, List.set_cons_zero, List.set_cons_succ]
                refine Held.take 3 (v := ?_) hC rfl (by kernel_rfl) (by kernel_rfl) (by kernel_rfl) (by kernel_rfl) (fun _ _ _ h => h) ?_ ?_; rotate_left; · (intro W hW; obtain ⟨k0, k1⟩ := hW; go_simp <;> with_reducible rfl)
                try simp only [Act.put, List.setIfInBounds_toArray, List.set_cons_zero, List.set_cons_succ]
                refine Held.take 4 (v := ?_) hC rfl (by kernel_rfl) (by kernel_rfl) (by kernel_rfl) (by kernel_rfl) (fun _ _ _ h => h) ?_ ?_; rotate_left; · (intro W hW; obtain ⟨k0, k1⟩ := hW; go_simp <;> with_reducible rfl)
                try simp only [Act.put, List.setIfInBounds_toArray, List.set_cons_zero, List.set_cons_succ]
                refine Held.take 5 (v := ?_) hC rfl (by kernel_rfl) (by kernel_rfl) (by kernel_rfl) (by kernel_rfl) (fun _ _ _ h => h) ?_ ?_; rotate_left; · (intro W hW; obtain ⟨k0, k1⟩ := hW; go_simp <;> with_reducible rfl)
                try simp only [Act.put, List.setIfInBounds_toArray, List.set_cons_zero, List.set_cons_succ]
                refine Held.take 7 (v := ?_) hC rfl (by kernel_rfl) (by kernel_rfl) (by kernel_rfl) (by kernel_rfl) (fun _ _ _ h => h) ?_ ?_; rotate_left; · (intro W hW; obtain ⟨k0, k1⟩ := hW; go_simp <;> with_reducible rfl)
                try simp only [Act.put, List.setIfInBounds_toArray, List.set_cons_zero, List.set_cons_succ]
                refine Held.take 8 (v := ?_) hC rfl (by kernel_rfl) (by kernel_rfl) (by kernel_rfl) (by kernel_rfl) (fun _ _ _ h => h) ?_ ?_; rotate_left; · (intro W hW; obtain ⟨k0, k1⟩ := hW; go_simp <;> with_reducible rfl)
                try simp only [Act.put, List.setIfInBounds_toArray, List.set_cons_zero, List.set_cons_succ]
                clear hC k0 k1
                generalize w5.drew = w0 at *
                have HX : Hid (∀ (X : List Res) (V' : World), Sep (fun _ => False) w V' (X ++ (nums (.slice Ao 0 co) [] :: (blk g (.cells #[.int .i64 0, .int .i64 t, .int .i64 k] 32) :: (ms f (jo s) (leadF s) (keyF s) j bl bk bs ++ [ob I.O (.pointer (some a)) s2])))) → V'.cell? ⟨g, 1, none⟩ = some (.int .i64 t) ∧ (Instr.lookup 56 (.map (some bs)) (.int .i64 V) false).run Try.prog V' = .ok (.slice A8 (jo s V).length c8) V') := HSM.out
                clear HSM
                refine Held.either 2 9 (by kernel_rfl) rfl rfl ?_ ?_
                · intro K hK
                  go_simp
                  have S1 : Hid (Sep (fun _ => False) w (w0.alloc (.cells #[] 3)) ([grow intE 3 (.slice (some ⟨w0.heap.size, 0, none⟩) 0 0) []] ++ (nums (.slice Ao 0 co) [] :: (blk g (.cells #[.int .i64 0, .int .i64 t, .int .i64 k] 32) :: (ms f (jo s) (leadF s) (keyF s) j bl bk bs ++ [ob I.O (.pointer (some a)) s2]))))) := S0.out.grow0 intE 3
                  refine hK.out _ _ (fun _ => HX.out _ _ S1.out) ?_
                  clear hK K
                  try simp only [Act.put, List.setIfInBounds_toArray, List.set_cons_zero, List.set_cons_succ]
                  refine Held.either 6 9 (by kernel_rfl) rfl rfl ?_ ?_
                  · intro K hK
                    refine wp_appS (.tmp 86) (.tmp 89) intElemL rfl rfl rfl S1.out 0 rfl (HRD.out _ _ S1.out) (by show 0 + (jo s V).length ≤ _; omega) ?_
                    intro A2 c2 w2 l HL2 h2
                    have S2 : Hid (Sep (fun _ => False) w w2 ([grow intE 3 (.slice A2 l.length c2) l] ++ (nums (.slice Ao 0 co) [] :: (blk g (.cells #[.int .i64 0, .int .i64 t, .int .i64 k] 32) :: (ms f (jo s) (leadF s) (keyF s) j bl bk bs ++ [ob I.O (.pointer (some a)) s2]))))) := h2
                    clear h2
                    refine hK.out _ _ (fun _ => HX.out _ _ S2.out) ?_
                    clear hK K
                    try simp only [Act.put, List.setIfInBounds_toArray, List.set_cons_zero, List.set_cons_succ]
                    refine Held.only 9 (by kernel_rfl) rfl ?_
                    intro K hK
                    go_simp
                    have S3 : Hid (Sep (fun _ => False) w (w2.alloc (.cells #[.int .i64 t] 3)) ([told intE (.slice (some ⟨w2.heap.size, 0, none⟩) 1 1) [t], grow intE 3 (.slice A2 l.length c2) l] ++ (nums (.slice Ao 0 co) [] :: (blk g (.cells #[.int .i64 0, .int .i64 t, .int .i64 k] 32) :: (ms f (jo s) (leadF s) (keyF s) j bl bk bs ++ [ob I.O (.pointer (some a)) s2]))))) := S2.out.lit_told 3 [t] (cs := #[.int .i64 t]) rfl (by simp) rfl
                    refine hK.out _ _ (fun _ => HX.out _ _ S3.out) ?_
                    clear S2 S1
                    clear hK K
                    try simp only [Act.put, List.setIfInBounds_toArray, List.set_cons_zero, List.set_cons_succ]
                    refine Held.only 10 (by kernel_rfl) rfl ?_
                    intro K hK
                    refine wp_appS (.tmp 90) (.tmp 93) intElemL rfl rfl rfl S3.out 1 rfl (S3.out.rdL 0 rfl) (by rw [HL2.out]; simp; omega) ?_
                    intro A5 c5 w5 l5 HL5 h5
                    have S5 : Hid (Sep (fun _ => False) w w5 ([told intE _ [t], grow intE 3 (.slice A5 l5.length c5) l5] ++ (nums (.slice Ao 0 co) [] :: (blk g (.cells #[.int .i64 0, .int .i64 t, .int .i64 k] 32) :: (ms f (jo s) (leadF s) (keyF s) j bl bk bs ++ [ob I.O (.pointer (some a)) s2]))))) := h5
                    clear h5 S3
                    refine hK.out _ _ (fun _ => HX.out _ _ S5.out) ?_
                    clear hK K
                    try simp only [Act.put, List.setIfInBounds_toArray, List.set_cons_zero, List.set_cons_succ]
                    have HL6 : Hid (l5 = jo s V ++ [t]) := by show _ = _; rw [HL5.out, HL2.out]; rfl
                    refine Held.only 11 (by kernel_rfl) rfl ?_
                    intro K hK
                    refine MapS.wp_sputK (.tmp 84) (.tmp 85) (.tmp 94) rfl rfl rfl rfl S5.out 5 rfl hV64.out (n' := j + 1) (.inl rfl) (by omega) ?_
                    intro w6 h6
                    have h7 := grow_nums (Sep.sub h6 (.cons _ (.cons_cons _ (.cons _ (.cons _ (List.Sublist.refl _)))))) (by rw [HL6.out]; simp; omega)
                    have h8 := MapS.readsF_add (W' := jo s2) h7 (HW.out.1.trans HL6.out.symm) HW.out.2
                    have h9 := mapf_more (MapK.mapf_more h8 2 rfl (n' := j + 1) (by omega)) 3 rfl (n' := j + 1) (by omega)
                    rw [← HM.out.1, ← HM.out.2] at h9
                    have S9 : Hid (Sep (fun _ => False) w w6 (ms (MapS.upd f V (.slice A5 l5.length c5)) (jo s2) (leadF s2) (keyF s2) (j + 1) bl bk bs ++ [ob I.O (.pointer (some a)) s2])) := h9
                    clear h6 h7 h8 h9 S5
                    refine hK.out _ _ (fun h => absurd rfl h) ?_
                    clear hK K
                    try simp only [Act.put]
                    refine Held.done (by kernel_rfl) ?_ _
                    go_wp2_with fail
                    go_meet
                    exact ⟨_, S9.out⟩
                  · intro K hK
                    go_simp
                    have S2 : Hid (Sep (fun _ => False) w ((w0.alloc (.cells #[] 3)).alloc (.cells #[.int .i64 t] 3)) ([told intE (.slice (some ⟨(w0.alloc (.cells #[] 3)).heap.size, 0, none⟩) 1 1) [t], grow intE 3 (.slice (some ⟨w0.heap.size, 0, none⟩) 0 0) []] ++ (nums (.slice Ao 0 co) [] :: (blk g (.cells #[.int .i64 0, .int .i64 t, .int .i64 k] 32) :: (ms f (jo s) (leadF s) (keyF s) j bl bk bs ++ [ob I.O (.pointer (some a)) s2]))))) := S1.out.lit_told 3 [t] (cs := #[.int .i64 t]) rfl (by simp) rfl
                    refine hK.out _ _ (fun _ => HX.out _ _ S2.out) ?_
                    simp only [World.size_alloc] at S2
                    clear hK K
                    try simp only [Act.put, List.setIfInBounds_toArray, List.set_cons_zero, List.set_cons_succ]
                    refine Held.only 6 (by kernel_rfl) rfl ?_
                    intro K hK
                    refine wp_appS (.tmp 86) (.tmp 89) intElemL rfl rfl rfl S2.out 1 rfl (HRD.out _ _ S2.out) (by show 0 + (jo s V).length ≤ _; omega) ?_
                    intro A2 c2 w2 l HL2 h2
                    have S3 : Hid (Sep (fun _ => False) w w2 ([told intE (.slice (some ⟨w0.heap.size + 1, 0, none⟩) 1 1) [t], grow intE 3 (.slice A2 l.length c2) l] ++ (nums (.slice Ao 0 co) [] :: (blk g (.cells #[.int .i64 0, .int .i64 t, .int .i64 k] 32) :: (ms f (jo s) (leadF s) (keyF s) j bl bk bs ++ [ob I.O (.pointer (some a)) s2]))))) := h2
                    clear h2
                    refine hK.out _ _ (fun _ => HX.out _ _ S3.out) ?_
                    clear S1 S2
                    clear hK K
                    try simp only [Act.put, List.setIfInBounds_toArray, List.set_cons_zero, List.set_cons_succ]
                    refine Held.only 10 (by kernel_rfl) rfl ?_
                    intro K hK
                    refine wp_appS (.tmp 90) (.tmp 93) intElemL rfl rfl rfl S3.out 1 rfl (S3.out.rdL 0 rfl) (by rw [HL2.out]; simp; omega) ?_
                    intro A5 c5 w5 l5 HL5 h5
                    have S5 : Hid (Sep (fun _ => False) w w5 ([told intE _ [t], grow intE 3 (.slice A5 l5.length c5) l5] ++ (nums (.slice Ao 0 co) [] :: (blk g (.cells #[.int .i64 0, .int .i64 t, .int .i64 k] 32) :: (ms f (jo s) (leadF s) (keyF s) j bl bk bs ++ [ob I.O (.pointer (some a)) s2]))))) := h5
                    clear h5 S3
                    refine hK.out _ _ (fun _ => HX.out _ _ S5.out) ?_
                    clear hK K
                    try simp only [Act.put, List.setIfInBounds_toArray, List.set_cons_zero, List.set_cons_succ]
                    have HL6 : Hid (l5 = jo s V ++ [t]) := by show _ = _; rw [HL5.out, HL2.out]; rfl
                    refine Held.only 11 (by kernel_rfl) rfl ?_
                    intro K hK
                    refine MapS.wp_sputK (.tmp 84) (.tmp 85) (.tmp 94) rfl rfl rfl rfl S5.out 5 rfl hV64.out (n' := j + 1) (.inl rfl) (by omega) ?_
                    intro w6 h6
                    have h7 := grow_nums (Sep.sub h6 (.cons _ (.cons_cons _ (.cons _ (.cons _ (List.Sublist.refl _)))))) (by rw [HL6.out]; simp; omega)
                    have h8 := MapS.readsF_add (W' := jo s2) h7 (HW.out.1.trans HL6.out.symm) HW.out.2
                    have h9 := mapf_more (MapK.mapf_more h8 2 rfl (n' := j + 1) (by omega)) 3 rfl (n' := j + 1) (by omega)
                    rw [← HM.out.1, ← HM.out.2] at h9
                    have S9 : Hid (Sep (fun _ => False) w w6 (ms (MapS.upd f V (.slice A5 l5.length c5)) (jo s2) (leadF s2) (keyF s2) (j + 1) bl bk bs ++ [ob I.O (.pointer (some a)) s2])) := h9
                    clear h6 h7 h8 h9 S5
                    refine hK.out _ _ (fun h => absurd rfl h) ?_
                    clear hK K
                    try simp only [Act.put]
                    refine Held.done (by kernel_rfl) ?_ _
                    go_wp2_with fail
                    go_meet
                    exact ⟨_, S9.out⟩
                · intro K hK
                  go_simp
                  have S1 : Hid (Sep (fun _ => False) w (w0.alloc (.cells #[.int .i64 t] 3)) ([told intE (.slice (some ⟨w0.heap.size, 0, none⟩) 1 1) [t]] ++ (nums (.slice Ao 0 co) [] :: (blk g (.cells #[.int .i64 0, .int .i64 t, .int .i64 k] 32) :: (ms f (jo s) (leadF s) (keyF s) j bl bk bs ++ [ob I.O (.pointer (some a)) s2]))))) := S0.out.lit_told 3 [t] (cs := #[.int .i64 t]) rfl (by simp) rfl
                  refine hK.out _ _ (fun _ => HX.out _ _ S1.out) ?_
                  clear hK K
                  try simp only [Act.put, List.setIfInBounds_toArray, List.set_cons_zero, List.set_cons_succ]
                  refine Held.only 2 (by kernel_rfl) rfl ?_
                  intro K hK
                  go_simp
                  have S2 : Hid (Sep (fun _ => False) w ((w0.alloc (.cells #[.int .i64 t] 3)).alloc (.cells #[] 3)) ([grow intE 3 (.slice (some ⟨(w0.alloc (.cells #[.int .i64 t] 3)).heap.size, 0, none⟩) 0 0) [], told intE (.slice (some ⟨w0.heap.size, 0, none⟩) 1 1) [t]] ++ (nums (.slice Ao 0 co) [] :: (blk g (.cells #[.int .i64 0, .int .i64 t, .int .i64 k] 32) :: (ms f (jo s) (leadF s) (keyF s) j bl bk bs ++ [ob I.O (.pointer (some a)) s2]))))) := S1.out.grow0 intE 3
                  refine hK.out _ _ (fun _ => HX.out _ _ S2.out) ?_
                  simp only [World.size_alloc] at S2
                  clear hK K
                  try simp only [Act.put, List.setIfInBounds_toArray, List.set_cons_zero, List.set_cons_succ]
                  refine Held.only 6 (by kernel_rfl) rfl ?_
                  intro K hK
                  refine wp_appS (.tmp 86) (.tmp 89) intElemL rfl rfl rfl S2.out 0 rfl (HRD.out _ _ S2.out) (by show 0 + (jo s V).length ≤ _; omega) ?_
                  intro A2 c2 w2 l HL2 h2
                  have S3 : Hid (Sep (fun _ => False) w w2 ([told intE (.slice (some ⟨w0.heap.size, 0, none⟩) 1 1) [t], grow intE 3 (.slice A2 l.length c2) l] ++ (nums (.slice Ao 0 co) [] :: (blk g (.cells #[.int .i64 0, .int .i64 t, .int .i64 k] 32) :: (ms f (jo s) (leadF s) (keyF s) j bl bk bs ++ [ob I.O (.pointer (some a)) s2]))))) := Sep.swap h2
                  clear h2
                  refine hK.out _ _ (fun _ => HX.out _ _ S3.out) ?_
                  clear S1 S2
                  clear hK K
                  try simp only [Act.put, List.setIfInBounds_toArray, List.set_cons_zero, List.set_cons_succ]
                  refine Held.only 10 (by kernel_rfl) rfl ?_
                  intro K hK
                  refine wp_appS (.tmp 90) (.tmp 93) intElemL rfl rfl rfl S3.out 1 rfl (S3.out.rdL 0 rfl) (by rw [HL2.out]; simp; omega) ?_
                  intro A5 c5 w5 l5 HL5 h5
                  have S5 : Hid (Sep (fun _ => False) w w5 ([told intE _ [t], grow intE 3 (.slice A5 l5.length c5) l5] ++ (nums (.slice Ao 0 co) [] :: (blk g (.cells #[.int .i64 0, .int .i64 t, .int .i64 k] 32) :: (ms f (jo s) (leadF s) (keyF s) j bl bk bs ++ [ob I.O (.pointer (some a)) s2]))))) := h5
                  clear h5 S3
                  refine hK.out _ _ (fun _ => HX.out _ _ S5.out) ?_
                  clear hK K
                  try simp only [Act.put, List.setIfInBounds_toArray, List.set_cons_zero, List.set_cons_succ]
                  have HL6 : Hid (l5 = jo s V ++ [t]) := by show _ = _; rw [HL5.out, HL2.out]; rfl
                  refine Held.only 11 (by kernel_rfl) rfl ?_
                  intro K hK
                  refine MapS.wp_sputK (.tmp 84) (.tmp 85) (.tmp 94) rfl rfl rfl rfl S5.out 5 rfl hV64.out (n' := j + 1) (.inl rfl) (by omega) ?_
                  intro w6 h6
                  have h7 := grow_nums (Sep.sub h6 (.cons _ (.cons_cons _ (.cons _ (.cons _ (List.Sublist.refl _)))))) (by rw [HL6.out]; simp; omega)
                  have h8 := MapS.readsF_add (W' := jo s2) h7 (HW.out.1.trans HL6.out.symm) HW.out.2
                  have h9 := mapf_more (MapK.mapf_more h8 2 rfl (n' := j + 1) (by omega)) 3 rfl (n' := j + 1) (by omega)
                  rw [← HM.out.1, ← HM.out.2] at h9
                  have S9 : Hid (Sep (fun _ => False) w w6 (ms (MapS.upd f V (.slice A5 l5.length c5)) (jo s2) (leadF s2) (keyF s2) (j + 1) bl bk bs ++ [ob I.O (.pointer (some a)) s2])) := h9
                  clear h6 h7 h8 h9 S5
                  refine hK.out _ _ (fun h => absurd rfl h) ?_
                  clear hK K
                  try simp only [Act.put]
                  refine Held.done (by kernel_rfl) ?_ _
                  go_wp2_with fail
                  go_meet
                  exact ⟨_, S9.out⟩
              | false =>
                rw [(new_eq hE hany).2] at hV
                rw [(new_eq hE hany).1] at hS
                subst hV
                have he : leadF s k = none := by unfold leadF; rw [if_neg (by rw [hany]; simp)]
                rw [he] at hlk
                have hlk : (Instr.lookup 54 (.map (some bl)) (.int .i64 k) true).run Try.prog w5 = .ok (.tuple #[.int .i64 0, .bool false]) w5 := hlk
                have e1 : (t != t) = false := by simp
                have HM : Hid (leadF s2 = updM (leadF s) k (some t) ∧ keyF s2 = updM (keyF s) t (some k) ∧ ∀ r, jo s2 r = jo s r) := by
                  rw [← hS]
                  exact ⟨new_lead hany, new_key hl.1, new_joined hl.1⟩
                clear hS hE he hany hl HDROP KV KE KB KL KS
                go_upto_region 24 with (fail)
                have S0 : Hid (Sep (fun _ => False) w w5.drew ([nums (.slice Ao 0 co) []] ++ (blk g (.cells #[.int .i64 0, .int .i64 t, .int .i64 k] 32) :: (ms f (jo s) (leadF s) (keyF s) j bl bk bs ++ [ob I.O (.pointer (some a)) s2])))) := Sep.drew S6.out
                clear hlk S6 a0 a1 a2
                obtain ⟨_, k0, k1⟩ := act_at [_] S0.out
                refine Held.begin_ (fun V' : World => V'.cell? ⟨g, 1, none⟩ = some (.int .i64 t) ∧ V'.cell? ⟨g, 2, none⟩ = some (.int .i64 k)) 11 (by kernel_rfl) ?_
                have hC : (fun V' : World => V'.cell? ⟨g, 1, none⟩ = some (.int .i64 t) ∧ V'.cell? ⟨g, 2, none⟩ = some (.int .i64 k)) w5.drew := ⟨k0, k1⟩
                refine Held.take 0 (v := ?_) hC rfl (by kernel_rfl) (by kernel_rfl) (by kernel_rfl) (by kernel_rfl) (fun _ _ _ h => h) ?_ ?_; rotate_left; · (intro W hW; obtain ⟨k0, k1⟩ := hW; go_simp <;> with_reducible rfl)
                try simp only [Act.put, List.setIfInBounds_toArray, List.set_cons_zero, List.set_cons_succ]
                refine Held.take 1 (v := ?_) hC rfl (by kernel_rfl) (by kernel_rfl) (by kernel_rfl) (by kernel_rfl) (fun _ _ _ h => h) ?_ ?_; rotate_left; · (intro W hW; obtain ⟨k0, k1⟩ := hW; go_simp <;> with_reducible rfl)
                try simp only [Act.put, List.setIfInBounds_toArray, List.set_cons_zero, List.set_cons_succ]
                refine Held.take 2 (v := ?_) hC rfl (by kernel_rfl) (by kernel_rfl) (by kernel_rfl) (by kernel_rfl) (fun _ _ _ h => h) ?_ ?_; rotate_left; · (intro W hW; obtain ⟨k0, k1⟩ := hW; go_simp <;> with_reducible rfl)
                try simp only [Act.put, List.setIfInBounds_toArray, List.set_cons_zero, List.set_cons_succ]
                refine Held.take 3 (v := ?_) hC rfl (by kernel_rfl) (by kernel_rfl) (by kernel_rfl) (by kernel_rfl) (fun _ _ _ h => h) ?_ ?_; rotate_left; · (intro W hW; obtain ⟨k0, k1⟩ := hW; go_simp <;> with_reducible rfl)
                try simp only [Act.put, List.setIfInBounds_toArray, List.set_cons_zero, List.set_cons_succ]
                refine Held.take 4 (v := ?_) hC rfl (by kernel_rfl) (by kernel_rfl) (by kernel_rfl) (by kernel_rfl) (fun _ _ _ h => h) ?_ ?_; rotate_left; · (intro W hW; obtain ⟨k0, k1⟩ := hW; go_simp <;> with_reducible rfl)
                try simp only [Act.put, List.setIfInBounds_toArray, List.set_cons_zero, List.set_cons_succ]
                refine Held.take 5 (v := ?_) hC rfl (by kernel_rfl) (by kernel_rfl) (by kernel_rfl) (by kernel_rfl) (fun _ _ _ h => h) ?_ ?_; rotate_left; · (intro W hW; obtain ⟨k0, k1⟩ := hW; go_simp <;> with_reducible rfl)
                try simp only [Act.put, List.setIfInBounds_toArray, List.set_cons_zero, List.set_cons_succ]
                refine Held.take 6 (v := ?_) hC rfl (by kernel_rfl) (by kernel_rfl) (by kernel_rfl) (by kernel_rfl) (fun _ _ _ h => h) ?_ ?_; rotate_left; · (intro W hW; obtain ⟨k0, k1⟩ := hW; go_simp <;> with_reducible rfl)
                try simp only [Act.put, List.setIfInBounds_toArray, List.set_cons_zero, List.set_cons_succ]
                refine Held.take 7 (v := ?_) hC rfl (by kernel_rfl) (by kernel_rfl) (by kernel_rfl) (by kernel_rfl) (fun _ _ _ h => h) ?_ ?_; rotate_left; · (intro W hW; obtain ⟨k0, k1⟩ := hW; go_simp <;> with_reducible rfl)
                try simp only [Act.put, List.setIfInBounds_toArray, List.set_cons_zero, List.set_cons_succ]
                refine Held.take 8 (v := ?_) hC rfl (by kernel_rfl) (by kernel_rfl) (by kernel_rfl) (by kernel_rfl) (fun _ _ _ h => h) ?_ ?_; rotate_left; · (intro W hW; obtain ⟨k0, k1⟩ := hW; go_simp <;> with_reducible rfl)
                try simp only [Act.put, List.setIfInBounds_toArray, List.set_cons_zero, List.set_cons_succ]
                refine Held.take 9 (v := ?_) hC rfl (by kernel_rfl) (by kernel_rfl) (by kernel_rfl) (by kernel_rfl) (fun _ _ _ h => h) ?_ ?_; rotate_left; · (intro W hW; obtain ⟨k0, k1⟩ := hW; go_simp <;> with_reducible rfl)
                try simp only [Act.put, List.setIfInBounds_toArray, List.set_cons_zero, List.set_cons_succ]
                clear hC k0 k1
                generalize w5.drew = w0 at *
                refine Held.only 10 (by kernel_rfl) rfl ?_
                intro K hK
                refine MapK.wp_mputK (.tmp 95) (.tmp 97) (.tmp 102) rfl rfl rfl rfl S0.out 4 rfl HK64.out HT64.out (by omega) ?_
                intro w6 h6
                obtain ⟨_, k0, k1⟩ := act_at [_] h6
                have S6 := Lib.hid h6
                clear h6 S0
                refine hK.out _ _ (fun _ => ⟨k0, k1⟩) ?_
                clear hK K
                try simp only [Act.put]
                refine Held.only 11 (by kernel_rfl) rfl ?_
                intro K hK
                refine wp_mputK (.tmp 98) (.tmp 100) (.tmp 104) rfl rfl rfl rfl S6.out 5 rfl HT64.out HK64.out (by omega) ?_
                intro w7 h7
                have h8 := MapS.sm_more h7 3 rfl (m := j + 1) (by omega)
                have h9 := MapS.readsF_same (W' := jo s2) (Sep.tail (Sep.tail h8)) HM.out.2.2
                have S9 : Hid (Sep (fun _ => False) w w7 (ms f (jo s2) (leadF s2) (keyF s2) (j + 1) bl bk bs ++ [ob I.O (.pointer (some a)) s2])) := by
                  show Sep _ _ _ _
                  rw [HM.out.1, HM.out.2.1]
                  exact h9
                clear h7 h8 h9 S6
                refine hK.out _ _ (fun h => absurd rfl h) ?_
                clear hK K
                try simp only [Act.put]
                refine Held.done (by kernel_rfl) ?_ _
                go_wp2_with fail
                go_meet
                exact ⟨_, S9.out⟩
            · have hE : finE s t = 0 := KE.out
              have hL : finL s t = L2 := KL.out
              have hS : finS s t = s2 := KS.out
              rw [(fin_eq hE).2] at hL
              rw [(fin_eq hE).1] at hS
              have hlb : leadsB s.L t = true := by
                rcases fin_errs s t with ⟨e, _⟩ | ⟨e, _⟩ | ⟨_, _, h1⟩
                · omega
                · omega
                · exact h1
              have hn0 : 0 ≤ t := by
                rcases fin_errs s t with ⟨e, _⟩ | ⟨e, _⟩ | ⟨_, h1, _⟩
                · omega
                · omega
                · exact (name_iff.1 h1).1
              have hk64 : In64 (leadsK s.L t) := by
                obtain ⟨A, c, Bq, e, hc, hA, hB⟩ := HOK.out.split_lead hlb
                have : leadsK s.L t = c.k := by rw [e]; exact (lead_at hc hA).2
                rw [this]
                exact HOK.out.ks c (by rw [e]; simp)
              have q3 := HOK.out.fin_lead hlb
              have HKL := Lib.hid hk64
              have HKF : Hid (keyF s2 = updM (keyF s) t none ∧ jo s2 t = [] ∧ ∀ r, r ≠ t → jo s2 r = jo s r) := by
                rw [← hS]
                refine ⟨fin_key s t, ?_, fun r hr => ?_⟩
                · show joinedL (s.L.filter fun c => !isT t c) t = _
                  rw [fin_joined, if_pos rfl]
                · show joinedL (s.L.filter fun c => !isT t c) r = _
                  rw [fin_joined, if_neg hr]
                  rfl
              rw [hS] at q3
              obtain ⟨A8, c8, hf8⟩ : ∃ A c, f t = .slice A L2.length c := by
                obtain ⟨A, c, e, _⟩ := (ms_at [_, _] S6.out).2.2.2 t
                exact ⟨A, c, by rw [e, ← hL]; rfl⟩
              have HR8 : Hid (Rd w5 (fun _ => True) (.slice A8 L2.length c8) L2) := by
                have h1 := (ms_at [_, _] S6.out).2.2.2 t
                rw [hf8] at h1
                rw [← hL]
                rw [← hL] at h1
                exact h1
              have l8 := (ms_at [_, _] S6.out).1 HT64.out
              rw [hf8] at l8
              have hkk : (keyF s t).getD 0 = leadsK s.L t := (keyF_get s t).1
              obtain ⟨lk, hlk⟩ : ∃ lk, leadsK s.L t = lk := ⟨_, rfl⟩
              rw [hlk] at hkk HKL q3
              have HKK := Lib.hid hkk
              have HFL : Hid (leadF s2 = if leaderK s.L lk = t then updM (leadF s) lk none else leadF s) := q3
              clear hE hL hS hlb hk64 q3 hf8 hkk hlk HDROP KV KE KB KL KS
              go_wp2_with fail
              refine (same_d (S6.out.rd 0 rfl) HR8.out rfl).mono ?_
              rintro e w6 ⟨rfl, hb6⟩
              have S7 := Lib.hid (S6.out.next hb6)
              clear hb6 S6 HR8 l8 a0 a1 a2
              obtain ⟨a0, a1, a2⟩ := act_at [_] S7.out
              have l55 := (ms_at [_, _] S7.out).2.2.1 HT64.out
              rw [HKK.out] at l55
              have l54 := (ms_at [_, _] S7.out).2.1 HKL.out
              by_cases hq : leaderK s.L lk = t
              · have he : leadF s lk = some t := by
                  unfold leadF
                  cases hany : anyK s.L lk with
                  | true => rw [if_pos rfl, hq]
                  | false => have := leader_no hany; omega
                have hfl := HFL.out
                rw [if_pos hq] at hfl
                have HFL2 := Lib.hid hfl
                rw [he] at l54
                have l54 : (Instr.lookup 54 (.map (some bl)) (.int .i64 lk) true).run Try.prog w6 = .ok (.tuple #[.int .i64 t, .bool true]) w6 := l54
                have e1 : (t == t) = true := by simp
                clear he hq hfl HFL
                go_wp2_with (at_delete; refine MapK.wp_many rfl _ _ rfl rfl rfl S7.out 4 rfl HKL.out ?_)
                intro w8 h8
                obtain ⟨b0, b1, b2⟩ := act_at [_] h8
                have S8 := Lib.hid h8
                clear h8 S7 a0 a1 a2 l54 l55
                go_wp2_with (at_delete; refine wp_many rfl _ _ rfl rfl rfl S8.out 5 rfl HT64.out ?_)
                intro w9 h9
                obtain ⟨c0, c1, c2⟩ := act_at [_] h9
                have S9 := Lib.hid h9
                clear h9 S8 b0 b1 b2
                go_wp2_with (at_delete; refine MapS.wp_sdel rfl _ _ rfl rfl rfl S9.out 3 rfl HT64.out ?_)
                intro w10 h10
                have h11 := MapS.readsF_none (W' := jo s2) (Sep.tail (Sep.tail h10)) HKF.out.2.1 HKF.out.2.2
                have h12 : Sep (fun _ => False) w w10 (ms (MapS.upd f t MapS.vN) (jo s2) (updM (leadF s) lk none) (updM (keyF s) t none) j bl bk bs ++ [ob I.O (.pointer (some a)) s2]) := h11
                have h13 := ms_more (n' := j + 1) h12 (by omega)
                rw [← HFL2.out, ← HKF.out.1] at h13
                have S13 := Lib.hid h13
                clear h10 h11 h12 h13 S9 c0 c1 c2
                go_wp2_with fail
                go_meet
                exact ⟨_, S13.out⟩
              · have hfl := HFL.out
                rw [if_neg hq] at hfl
                have HFL2 := Lib.hid hfl
                obtain ⟨x, bx, hx, hx2⟩ : ∃ (x : Int) (bx : Bool), (Instr.lookup 54 (.map (some bl)) (.int .i64 lk) true).run Try.prog w6 = .ok (.tuple #[.int .i64 x, .bool bx]) w6 ∧ (bx = true → (x == t) = false) := by
                  refine ⟨_, _, l54, fun h => ?_⟩
                  rw [(leadF_get s lk).2] at h
                  have he : leadF s lk = some (leaderK s.L lk) := by unfold leadF; rw [if_pos h]
                  rw [he]
                  simpa using hq
                have HX2 := Lib.hid hx2
                clear hq hfl HFL l54 hx2
                have HGO : Hid (∀ {w8 : World}, Sep (fun _ => False) w w8 ([nums (.slice Ao L2.length co) L2] ++ (blk g (.cells #[.int .i64 1, .int .i64 t, .int .i64 k] 32) :: ([MapS.readsF f (jo s), MapS.sm bs j (MapS.upd f t MapS.vN), MapK.mapf bl j (leadF s), mapf bk j (updM (keyF s) t none)] ++ [ob I.O (.pointer (some a)) s2]))) → Hid (∃ f2, Sep (fun _ => False) w w8 (ms f2 (jo s2) (leadF s2) (keyF s2) (j + 1) bl bk bs ++ [ob I.O (.pointer (some a)) s2]))) := fun {w8} h10 => by
                  have h11 := MapS.readsF_none (W' := jo s2) (Sep.tail (Sep.tail h10)) HKF.out.2.1 HKF.out.2.2
                  have h12 : Sep (fun _ => False) w w8 (ms (MapS.upd f t MapS.vN) (jo s2) (leadF s) (updM (keyF s) t none) j bl bk bs ++ [ob I.O (.pointer (some a)) s2]) := h11
                  have h13 := ms_more (n' := j + 1) h12 (by omega)
                  rw [← HFL2.out, ← HKF.out.1] at h13
                  exact ⟨_, h13⟩
                cases bx
                all_goals
                  have e1 : Hid (True) := trivial
                  try (have e2 : (x == t) = false := HX2.out rfl)
                  go_wp2_with (at_delete; refine wp_many rfl _ _ rfl rfl rfl S7.out 5 rfl HT64.out ?_)
                  intro w9 h9
                  obtain ⟨c0, c1, c2⟩ := act_at [_] h9
                  have S9 := Lib.hid h9
                  clear h9 a0 a1 a2 hx l55
                  go_wp2_with (at_delete; refine MapS.wp_sdel rfl _ _ rfl rfl rfl S9.out 3 rfl HT64.out ?_)
                  intro w10 h10
                  have S10 := Lib.hid (HGO.out h10)
                  clear h10 S9 c0 c1 c2
                  go_wp2_with fail
                  go_meet
                  exact S10.out.out
            · have hB : anyK s.L k = Bo := KB.out
              have hS : fgS s k = s2 := KS.out
              have hlk := (ms_at [_, _] S6.out).2.1 HK64.out
              rw [(leadF_get s k).2, hB] at hlk
              generalize (leadF s k).getD 0 = x at hlk
              have e1 : (Bo != Bo) = false := by simp
              have HM : Hid (leadF s2 = updM (leadF s) k none ∧ keyF s2 = keyF s ∧ ∀ r, jo s2 r = jo s r) := by
                rw [← hS]
                exact ⟨fg_lead s k, fg_key s k, fg_joined s k⟩
              clear hB hS HDROP KV KE KB KL KS
              go_wp2_with (at_delete; refine MapK.wp_many rfl _ _ rfl rfl rfl S6.out 4 rfl HK64.out ?_)
              intro w8 h8
              have h9 := MapS.readsF_same (W' := jo s2) (Sep.tail (Sep.tail h8)) HM.out.2.2
              have h10 : Sep (fun _ => False) w w8 (ms f (jo s2) (updM (leadF s) k none) (keyF s) j bl bk bs ++ [ob I.O (.pointer (some a)) s2]) := h9
              have h13 := ms_more (n' := j + 1) h10 (by omega)
              rw [← HM.out.1, ← HM.out.2.1] at h13
              have S13 := Lib.hid h13
              clear h8 h9 h10 h13 S6 hlk a0 a1 a2
              go_wp2_with fail
              go_meet
              exact ⟨_, S13.out⟩
            · have hB : waitsJ s.L t = Bo := KB.out
              have hS : lvS s t = s2 := KS.out
              cases Bo with
              | false =>
                have HF := Lib.hid (HDROP.out S6.out (by rw [← hS]; exact lv_no hB))
                clear hB hS HDROP KV KE KB KL KS S6
                go_wp2_with fail
                go_meet
                exact HF.out.out
              | true =>
                have HS2 := Lib.hid hS
                have SB : Hid (∃ f2, Sep (fun _ => False) w w5 (ms f2 (lvT s t 0) (leadF s) (keyF s) j bl bk bs ++ [blk g (.cells #[.int .i64 3, .int .i64 t, .int .i64 k] 32), ob I.O (.pointer (some a)) s2])) := by
                  have h1 : Sep (fun _ => False) w w5 (ms f (jo s) (leadF s) (keyF s) j bl bk bs ++ [blk g (.cells #[.int .i64 3, .int .i64 t, .int .i64 k] 32), ob I.O (.pointer (some a)) s2]) := S6.out.tail.perm (by exact (List.perm_append_comm (l₁ := [_]) (l₂ := [_, _, _, _])).append_right [_])
                  exact ⟨_, ms_same h1 (lvT_zero HOK.out t) rfl rfl⟩
                clear hB hS HDROP KV KE KB KL KS S6 a0 a1 a2
                have a0 : w5.cell? ⟨g, 0, none⟩ = some (.int .i64 3) := by obtain ⟨_, h⟩ := SB.out; exact (cell_block (Sep.blk_at h 4 rfl) 0).trans rfl
                go_wp2
                clear a0
                go_loopw [167] (fun u wx => ∃ i : Nat, i ≤ 12 ∧ u = .int .i64 i ∧ Hid (∃ f2, Sep (fun _ => False) w wx (ms f2 (lvT s t i) (leadF s) (keyF s) j bl bk bs ++ [blk g (.cells #[.int .i64 3, .int .i64 t, .int .i64 k] 32), ob I.O (.pointer (some a)) s2]))) (fun u _ => 12 - (intOf u).toNat)
                case atStart => exact ⟨0, Nat.zero_le _, rfl, SB.out⟩
                case round =>
                  obtain ⟨i, hi, rfl, HSB⟩ := hrel
                  obtain ⟨f3, h3⟩ := HSB.out
                  have S3 := Lib.hid h3
                  clear SB HSB h3
                  by_cases hil : i < 12
                  · obtain ⟨g1, g2, g3⟩ := lvT_at s t i
                    have G1 := Lib.hid g1
                    have G2 := Lib.hid g2
                    have G3 := Lib.hid g3
                    obtain ⟨A8, c8, hf8⟩ : ∃ A c, f3 i = .slice A (joinedL s.L i).length c := by
                      obtain ⟨A, c, e, _⟩ := (ms_at [] S3.out).2.2.2 i
                      rw [g1] at e
                      exact ⟨A, c, e⟩
                    have hi64 : Hid (In64 (i : Int)) := ⟨by omega, by omega⟩
                    have l8 := (ms_at [] S3.out).1 hi64.out
                    rw [hf8] at l8
                    have hr := (ms_at [] S3.out).2.2.2 i
                    rw [hf8, g1] at hr
                    have a1 : wr.cell? ⟨g, 1, none⟩ = some (.int .i64 t) := (cell_block (S3.out.blk_at 4 rfl) 1).trans rfl
                    have HI := Lib.hid (in_any hr t)
                    have HR8 := Lib.hid hr
                    have hjl := joined_len HOK.out i
                    have HFV : Hid (inL (joinedL s.L i) t = true → f3 i ≠ MapS.vN) := fun h e => by
                      rw [hf8] at e
                      unfold MapS.vN at e
                      injection e with _ e2 _
                      have h0 : joinedL s.L i = [] := List.eq_nil_of_length_eq_zero e2
                      rw [h0] at h
                      cases h
                    clear g1 g2 g3 hf8 hr
                    cases hin : inL (joinedL s.L i) t with
                    | false =>
                      have SN : Hid (∃ f2, Sep (fun _ => False) w wr (ms f2 (lvT s t (i + 1)) (leadF s) (keyF s) j bl bk bs ++ [blk g (.cells #[.int .i64 3, .int .i64 t, .int .i64 k] 32), ob I.O (.pointer (some a)) s2])) := by
                        refine ⟨_, ms_same S3.out (fun r => ?_) rfl rfl⟩
                        by_cases hri : r = (i : Int)
                        · subst hri
                          rw [G1.out, G2.out]
                          unfold inL at hin
                          exact without_id (by simpa using hin)
                        · exact G3.out r hri
                      rw [hin] at HI
                      clear hin HFV S3
                      generalize (joinedL s.L i).length = jn at *
                      go_wp2_with fail
                      refine HI.out.mono ?_
                      rintro e w6 ⟨rfl, rfl⟩
                      go_wp2
                      go_roundw
                      case rel => exact ⟨i + 1, by omega, by go_num, SN⟩
                      case measure => simp [intOf]; omega
                    | true =>
                      have hfv := Lib.hid (HFV.out hin)
                      rw [hin] at HI
                      have HWO := Lib.hid (without_s S3.out HR8.out t)
                      clear hin HFV
                      go_wp2_with fail
                      refine HI.out.mono ?_
                      rintro e w6 ⟨rfl, rfl⟩
                      go_wp2_with fail
                      refine HWO.out.mono ?_
                      rintro e w7 ⟨A7, c7, rfl, h7, _, _⟩
                      have S7 : Hid (Sep (fun _ => False) w w7 ([nums (.slice A7 (withoutL (joinedL s.L i) t).length c7) (withoutL (joinedL s.L i) t)] ++ (ms f3 (lvT s t i) (leadF s) (keyF s) j bl bk bs ++ [blk g (.cells #[.int .i64 3, .int .i64 t, .int .i64 k] 32), ob I.O (.pointer (some a)) s2]))) := h7
                      clear h7 HI HWO S3 l8 a1
                      go_wp2_with (at_mapUpdate; refine MapS.wp_sput rfl _ _ _ rfl rfl rfl rfl S7.out 2 rfl hi64.out (n' := j) (.inr ⟨rfl, hfv.out⟩) (by omega) ?_)
                      intro w8 h8
                      have h9 := MapS.readsF_add (W' := lvT s t (i + 1)) h8 G2.out G3.out
                      have SN : Hid (∃ f2, Sep (fun _ => False) w w8 (ms f2 (lvT s t (i + 1)) (leadF s) (keyF s) j bl bk bs ++ [blk g (.cells #[.int .i64 3, .int .i64 t, .int .i64 k] 32), ob I.O (.pointer (some a)) s2])) := ⟨_, h9⟩
                      clear h8 h9 S7
                      go_wp2
                      go_roundw
                      case rel => exact ⟨i + 1, by omega, by go_num, SN⟩
                      case measure => simp [intOf]; omega
                  · have hi12 : i = 12 := by omega
                    subst hi12
                    have HF : Hid (∃ f2, Sep (fun _ => False) w wr (ms f2 (jo s2) (leadF s2) (keyF s2) (j + 1) bl bk bs ++ [ob I.O (.pointer (some a)) s2])) := by
                      have h1 := ms_same (m1' := leadF s2) (m2' := keyF s2) S3.out (lvT_end HOK.out t (by rw [HSN.out]; omega)) (by rw [← HS2.out]; exact lv_lead s t) (by rw [← HS2.out]; exact lv_key s t)
                      rw [HS2.out] at h1
                      have h2 := ms_more (n' := j + 1) h1 (by omega)
                      exact ⟨_, Sep.sub h2 (.cons_cons _ (.cons_cons _ (.cons_cons _ (.cons_cons _ (.cons _ (List.Sublist.refl _))))))⟩
                    clear S3
                    go_wp2_with fail
                    go_meet
                    exact HF.out
            · have HF := Lib.hid (HDROP.out S6.out (KS.out.symm.trans (act_no (s := s) (t := t) (k := k) d0 d1 d2 d3).2.2.2.2))
              have e0 : (d == 0) = false := by simpa using d0
              have e1 : (d == 1) = false := by simpa using d1
              have e2 : (d == 2) = false := by simpa using d2
              have e3 : (d == 3) = false := by simpa using d3
              clear d0 d1 d2 d3 HDROP KV KE KB KL KS S6
              go_wp2_with fail
              go_meet
              exact HF.out.out
          · have hq : L2 = [] ∧ s2 = s := by
              have hE := KE.out
              rcases (by omega : d = 0 ∨ d = 1 ∨ d = 2 ∨ d = 3 ∨ (d ≠ 0 ∧ d ≠ 1 ∧ d ≠ 2 ∧ d ≠ 3)) with rfl | rfl | rfl | rfl | ⟨d0, d1, d2, d3⟩
              · have hE : doE s t = E := hE
                refine ⟨KL.out.symm, KS.out.symm.trans ?_⟩
                show doS s t k = s
                unfold doS
                rw [if_neg (by omega)]
              · have hE : finE s t = E := hE
                refine ⟨KL.out.symm.trans ?_, KS.out.symm.trans ?_⟩
                · show finL s t = []
                  unfold finL
                  rw [if_neg (by omega)]
                · show finS s t = s
                  unfold finS
                  rw [if_neg (by omega)]
              · exact absurd hE.symm hE0
              · exact absurd hE.symm hE0
              · exact absurd ((act_no (s := s) (t := t) (k := k) d0 d1 d2 d3).2.2.2.1.symm.trans hE).symm hE0
            have HF := Lib.hid (HDROP.out S6.out hq.2)
            obtain ⟨rfl, _⟩ := hq
            have e1 : (E != 0) = true := by simpa using hE0
            clear hE0 HDROP KV KE KB KL KS S6
            go_wp2_with fail
            go_meet
            exact HF.out.out
        case rest => as_aux_lemma =>
          obtain ⟨f2, hS2⟩ := hcut.out
          have SA := Lib.hid hS2
          clear S6 a0 a1 a2 KV KE KB KL KS hcut hS2 HOK HSN
          clear f s
          go_wp2_with (at_range; refine MapK.wp_range rfl _ rfl rfl SA.out 2 rfl ?_; intro w12 cnt12 h12)
          go_frame
          have S12 : Hid (Sep (fun _ => False) w w12 [MapS.readsF f2 (jo s2), MapS.sm bs (j + 1) f2, MapK.ranged bl wc.heap.size (j + 1) (leadF s2) cnt12, mapf bk (j + 1) (keyF s2), ob I.O (.pointer (some a)) s2]) := h12
          clear h12 SA
          generalize wc.heap.size = r0 at *
          go_loopw [21] (fun _ wn => ∃ cnt, Hid (Sep (fun _ => False) w wn [MapS.readsF f2 (jo s2), MapS.sm bs (j + 1) f2, MapK.ranged bl r0 (j + 1) (leadF s2) cnt, mapf bk (j + 1) (keyF s2), ob I.O (.pointer (some a)) s2])) (fun _ wn => wn.rangeLeft bl r0)
          case atStart => exact ⟨_, S12⟩
          case round => as_aux_lemma =>
            obtain ⟨cnt, S13⟩ := hrel
            clear S12
            go_wp2_with (at_next; refine MapK.wp_next rfl _ rfl rfl S13.out 2 rfl ?_ ?_)
            · have SB : Hid (Sep (fun _ => False) w wr (ms f2 (jo s2) (leadF s2) (keyF s2) (j + 1) bl bk bs ++ [ob I.O (.pointer (some a)) s2])) := MapK.ranged_end S13.out 2 rfl
              clear S13
              go_wp2
              go_loopw [197] (fun u wx => ∃ i : Nat, i ≤ 12 ∧ u = .int .i64 i ∧ Hid (Sep (fun _ => False) w wx (ms f2 (jo s2) (leadF s2) (keyF s2) (j + 1) bl bk bs ++ [ob I.O (.pointer (some a)) s2]))) (fun u _ => 12 - (intOf u).toNat)
              case atStart => exact ⟨0, Nat.zero_le _, rfl, SB.out⟩
              case round =>
                obtain ⟨i, hi, rfl, S3⟩ := hrel
                clear SB
                by_cases hil : i < 12
                · have hi64 : Hid (In64 (i : Int)) := ⟨by omega, by omega⟩
                  obtain ⟨jl, hjl⟩ : ∃ jl, joinedL s2.L i = jl := ⟨_, rfl⟩
                  obtain ⟨A8, c8, hf8⟩ : ∃ A c, f2 i = .slice A jl.length c := by
                    obtain ⟨A, c, e, _⟩ := (ms_at [] S3.out).2.2.2 i
                    exact ⟨A, c, by rw [e, ← hjl]; rfl⟩
                  have GJ := Lib.hid hjl
                  have HF8 := Lib.hid hf8
                  clear hjl hf8
                  go_upto_region 53 with (fail)
                  have S4 : Hid (Sep (fun _ => False) w wr.drew ([] ++ (ms f2 (jo s2) (leadF s2) (keyF s2) (j + 1) bl bk bs ++ [ob I.O (.pointer (some a)) s2]))) := Sep.drew S3.out
                  have k0 := (ms_at [] S4.out).1 hi64.out
                  rw [HF8.out] at k0
                  have HJ := Lib.hid (m_joined S4.out 4 rfl i hi64.out GJ.out)
                  clear S3
                  refine HeldB.begin_ (fun V' : World => (Instr.lookup 56 (.map (some bs)) (.int .i64 (i : Int)) false).run Try.prog V' = .ok (.slice A8 jl.length c8) V') 6 (by kernel_rfl) ?_
                  have hC : (fun V' : World => (Instr.lookup 56 (.map (some bs)) (.int .i64 (i : Int)) false).run Try.prog V' = .ok (.slice A8 jl.length c8) V') wr.drew := k0
                  refine HeldB.quiet 0 (v := ?_) (fun _ => hC) rfl (by kernel_rfl) (by kernel_rfl) (by kernel_rfl) (by kernel_rfl) (fun _ _ _ h => h) ?_ ?_; rotate_left; · (intro W; go_simp <;> with_reducible rfl)
                  try simp only [Act.put, List.setIfInBounds_toArray, List.set_cons_zero, List.set_cons_succ]
                  refine HeldB.quiet 1 (v := ?_) (fun _ => hC) rfl (by kernel_rfl) (by kernel_rfl) (by kernel_rfl) (by kernel_rfl) (fun _ _ _ h => h) ?_ ?_; rotate_left; · (intro W; go_simp <;> with_reducible rfl)
                  try simp only [Act.put, List.setIfInBounds_toArray, List.set_cons_zero, List.set_cons_succ]
                  refine HeldB.quiet 3 (v := ?_) (fun _ => hC) rfl (by kernel_rfl) (by kernel_rfl) (by kernel_rfl) (by kernel_rfl) (fun _ _ _ h => h) ?_ ?_; rotate_left; · (intro W; go_simp <;> with_reducible rfl)
                  try simp only [Act.put, List.setIfInBounds_toArray, List.set_cons_zero, List.set_cons_succ]
                  refine HeldB.quiet 4 (v := ?_) (fun _ => hC) rfl (by kernel_rfl) (by kernel_rfl) (by kernel_rfl) (by kernel_rfl) (fun _ _ _ h => h) ?_ ?_; rotate_left; · (intro W; go_simp <;> with_reducible rfl)
                  try simp only [Act.put, List.setIfInBounds_toArray, List.set_cons_zero, List.set_cons_succ]
                  refine HeldB.take 5 (v := ?_) hC rfl (by kernel_rfl) (by kernel_rfl) (by kernel_rfl) (by kernel_rfl) (fun _ _ _ h => h) ?_ ?_; rotate_left; · (intro W hW; have k0 := hW; go_simp <;> with_reducible rfl)
                  try simp only [Act.put, List.setIfInBounds_toArray, List.set_cons_zero, List.set_cons_succ]
                  refine HeldB.only 2 (by kernel_rfl) rfl ?_
                  intro K hK
                  go_simp
                  go_at_call 21
                  refine HJ.out.mono ?_
                  rintro e w5 ⟨A5, c5, rfl, h5, hb5⟩
                  have S5 : Hid (Sep (fun _ => False) w w5 ([nums (.slice A5 jl.length c5) jl] ++ (ms f2 (jo s2) (leadF s2) (keyF s2) (j + 1) bl bk bs ++ [ob I.O (.pointer (some a)) s2]))) := h5
                  clear h5 hb5 HJ S4 hC k0
                  obtain ⟨x1, _, _, x4⟩ := ms_at [_] S5.out
                  have k0 := x1 hi64.out
                  rw [HF8.out] at k0
                  have hr8 := x4 i
                  have hr8 : Rd w5 (fun _ => True) (.slice A8 jl.length c8) jl := by rw [HF8.out] at hr8; rw [← GJ.out] at hr8 ⊢; exact hr8
                  have HS := Lib.hid (same_d (S5.out.rd 0 rfl) hr8 rfl)
                  clear x1 x4 hr8
                  refine hK.out _ _ (fun _ => k0) ?_
                  clear hK K
                  try simp only [Act.put, List.setIfInBounds_toArray, List.set_cons_zero, List.set_cons_succ]
                  refine HeldB.only 6 (by kernel_rfl) rfl ?_
                  intro K hK
                  go_simp
                  go_at_call 15
                  refine HS.out.mono ?_
                  rintro e w6 ⟨rfl, hb6⟩
                  have S6 : Hid (Sep (fun _ => False) w w6 (ms f2 (jo s2) (leadF s2) (keyF s2) (j + 1) bl bk bs ++ [ob I.O (.pointer (some a)) s2])) := Sep.tail (S5.out.next hb6)
                  clear hb6 S5 HS k0
                  refine hK.out _ _ (fun h => absurd h (by decide)) ?_
                  clear hK K
                  try simp only [Act.put, List.setIfInBounds_toArray, List.set_cons_zero, List.set_cons_succ]
                  refine HeldB.only 7 (by kernel_rfl) rfl ?_
                  intro K hK
                  go_simp
                  refine hK.out _ _ (fun h => absurd h (by decide)) ?_
                  clear hK K
                  try simp only [Act.put, List.setIfInBounds_toArray, List.set_cons_zero, List.set_cons_succ]
                  refine HeldB.done (by kernel_rfl) ?_ _
                  go_wp2
                  go_roundw
                  case rel => exact ⟨i + 1, by omega, by go_num, S6⟩
                  case measure => simp [intOf]; omega
                · have SF2 : Hid (∃ (s : St) (f : Int → Value), s.N = 12 ∧ Sep (fun _ => False) w wr (ms f (jo s) (leadF s) (keyF s) ((j + 1 : Nat)) bl bk bs ++ [ob I.O (.pointer (some a)) s])) := ⟨s2, f2, HSN2.out, S3.out⟩
                  clear S3
                  go_wp2
                  go_roundw
                  case rel => exact ⟨j + 1, by omega, by go_num, SF2⟩
                  case measure => simp [intOf]; omega
            · intro x c w14 cnt14 hx64 hmx h14 hlt14 hen14
              have HX64 := Lib.hid hx64
              have HLK : Hid (leaderK s2.L x = c) := by
                show _ = _
                unfold leadF at hmx
                split at hmx
                · injection hmx
                · cases hmx
              have S14 : Hid (Sep (fun _ => False) w w14 [MapS.readsF f2 (jo s2), MapS.sm bs (j + 1) f2, MapK.ranged bl r0 (j + 1) (leadF s2) cnt14, mapf bk (j + 1) (keyF s2), ob I.O (.pointer (some a)) s2]) := h14
              have HLT : Hid (cnt14 < cnt) := hlt14
              have HRL : Hid (wr.rangeLeft bl r0 = cnt) := MapK.ranged_left S13.out 2 rfl
              have ecc : (c != c) = false := by simp
              clear hx64 hmx h14 hlt14 S13
              go_wp2_with fail
              refine (m_leader S14.out 4 rfl x HX64.out HLK.out).mono ?_
              rintro e w15 ⟨rfl, h15, _⟩
              have S15 := Lib.hid h15
              clear h15 S14 hen14
              go_wp2
              go_roundw
              case rel => exact ⟨cnt14, S15⟩
              case measure => rw [MapK.ranged_left S15.out 2 rfl, HRL.out]; exact HLT.out
      · have HB := Lib.hid SL.out.old
        go_wp2
        go_ret
        exact ⟨rfl, HB.out⟩
end Go.Proofs.Ytbkeodjebfkkdaa.FlightI
