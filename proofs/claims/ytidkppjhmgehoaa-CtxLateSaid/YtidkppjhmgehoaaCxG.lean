/-
  Contracts of the functions of package ctx, as it landed, seventh part: what is deleted of a row of numbers by a rule that reads elsewhere. Condition: the rule answers wherever only the row has changed.
-/
import Derived.Test.YtidkppjhmgehoaaCxF
import Derived.Test.YtidkppjhmgehoaaSort
import Derived.Lib.SliceRun
namespace Go.Proofs.Ytidkppjhmgehoaa.CxC
open Go.ChangeShapes Go.WideShapes Go.ChangeAt Go.RowKit Mem TreeP CtxP Hand TreeC CtxI

section
variable {w : World} {b n c : Nat} {l : List Int}
theorem own_take (h : OwnL intE w 0 3 (.slice (some ⟨b, 0, none⟩) n c) l) {i : Nat} (hi : i ≤ l.length) : OwnL intE w 0 3 (.slice (some ⟨b, 0, none⟩) i c) (l.take i) := by
  obtain ⟨h1, h2⟩ := h
  have e1 : ∀ L : List Int, L.flatMap intE.cells = L.map (Value.int .i64) := fun L => by
    induction L with
    | nil => rfl
    | cons a L ih => rw [List.flatMap_cons, ih]; rfl
  have e2 : ((l.take i).flatMap intE.cells) = (l.flatMap intE.cells).take (i * 1) := by rw [e1, e1, List.map_take, Nat.mul_one]
  refine ⟨?_, ?_⟩
  · rw [e1]; show _ = (l.take i).length * 1; rw [List.length_map, Nat.mul_one]
  rcases h2 with ⟨h', _⟩ | ⟨g, cap, cur, h', hb, hg, hnc, hcm, hcs, hcur⟩
  · injection h' with h'; cases h'
  · have hl : (l.take i).length = i := by rw [List.length_take]; omega
    injection h' with e3 e4 e5
    subst e5
    have hn : n = l.length := e4
    refine .inr ⟨g, c, cur, by rw [hl]; injection e3 with e3; rw [e3], hb, hg, by rw [hl]; omega, hcm, hcs, ?_⟩
    rw [hl, e2, ← hcur, List.take_take]
    congr 1
    show i * 1 = min (i * 1) (l.length * 1)
    omega
theorem own_clear : ∀ (m o : Nat) (w : World) (l : List Int), o + m ≤ l.length → OwnL intE w 0 3 (.slice (some ⟨b, 0, none⟩) n c) l → ∃ l', OwnL intE (w.setCells b o (List.replicate m (.int .i64 0))) 0 3 (.slice (some ⟨b, 0, none⟩) n c) l' ∧ l'.length = l.length ∧ l'.take o = l.take o
  | 0, _, _, l, _, h => ⟨l, h, rfl, rfl⟩
  | m + 1, o, _, l, hl, h => by
    have h1 := SortC.Row.set1 h (i := o) (x := 0) (by omega)
    obtain ⟨l', h2, h3, h4⟩ := own_clear m (o + 1) _ (l.set o 0) (by rw [List.length_set]; omega) h1
    refine ⟨l', h2, by rw [h3, List.length_set], ?_⟩
    have h5 := congrArg (List.take o) h4
    rw [List.take_take, List.take_take, Nat.min_eq_left (by omega), List.take_set_of_le (Nat.le_refl _)] at h5
    exact h5
theorem only_clear {F : Nat → Prop} {w0 : World} (hF : F b) : ∀ (vs : List Value) (o : Nat) (w : World), Only F w0 w → Only F w0 (w.setCells b o vs)
  | [], _, _, h => h
  | v :: vs, o, _, h => only_clear hF vs (o + 1) _ (h.setCell (.inl hF) v)
end

/-- The rule: who isn't late is deleted. -/
def delF (qa qn : Nat) : Value := .func (.func 52) #[] #[.pointer (some ⟨qa, 0, none⟩), .pointer (some ⟨qn, 0, none⟩)]
/-- The rule's answers, wherever only the row has changed. -/
def Rules (B : Nat → Prop) (w : World) (Rs : List Res) (i : Nat) (l : List Int) (qa qn : Nat) (pd : Int → Bool) : Prop :=
  ∀ W v' l', Sep B w W (Rs.set i (grow intE 3 v' l')) → ∀ k ∈ l, Calls Try.prog 52 #[.int .i64 k, .pointer (some ⟨qa, 0, none⟩), .pointer (some ⟨qn, 0, none⟩)] W fun e W' => e = .returned (.bool (!pd k)) ∧ Below W.heap.size W W'

section
variable {B : Nat → Prop} {w wk : World} {Rs : List Res} {i : Nat} {l : List Int} {qa qn : Nat} {pd : Int → Bool}
theorem set_self {R : Res} (hi : Rs[i]? = some R) : Rs.set i R = Rs := by
  obtain ⟨hil, e⟩ := List.getElem?_eq_some_iff.1 hi
  rw [← e, List.set_getElem_self]

set_option maxRecDepth 100000 in
set_option maxHeartbeats 1000000 in
theorem index_s {A : Option Addr} {c : Nat} (h : Sep B w wk Rs) (hi : Rs[i]? = some (grow intE 3 (.slice A l.length c) l)) (hl : l.length ≤ 100000) (hR : Rules B w Rs i l qa qn pd) :
    Calls Try.prog 68 #[.slice A l.length c, delF qa qn] wk fun r wn => ∃ d : Int, r = .returned (.int .i64 d) ∧ Sep B w wn Rs ∧ ((d = -1 ∧ ∀ k ∈ l, pd k = true) ∨ ∃ j : Nat, d = j ∧ j < l.length ∧ pd (l.getD j 0) = false ∧ ∀ k ∈ l.take j, pd k = true) := by
  have H := Lib.hid h
  have HI := Lib.hid hi
  have HRU := Lib.hid hR
  clear h hi hR
  unfold delF
  go_enter Try.func68, Try.ntmps68
  go_wp2
  go_loopw [8] (fun t W => ∃ j : Nat, j ≤ l.length ∧ t = .int .i64 j ∧ Hid (Sep B w W Rs ∧ ∀ k ∈ l.take j, pd k = true)) (fun t _ => l.length - (intOf t).toNat)
  case atStart => exact ⟨0, Nat.zero_le _, rfl, H.out, by simp⟩
  case round =>
    obtain ⟨j, hj, rfl, HS⟩ := hrel
    clear H
    by_cases hlt : j < l.length
    · have hg : l[j]? = some (l.getD j 0) := by rw [List.getD_eq_getElem?_getD, List.getElem?_eq_getElem hlt]; rfl
      have HTk : Hid (l.take (j + 1) = l.take j ++ [l.getD j 0]) := by show _ = _; rw [List.take_add_one, hg]; rfl
      obtain ⟨b, c', eA, _, hcell, _⟩ := HS.out.1.elem i HI.out hg
      obtain ⟨rfl, rfl⟩ : A = some ⟨b, 0, none⟩ ∧ c = c' := by injection eA with e1 e2 e3; exact ⟨e1, e3⟩
      have q0 : wr.cell? ⟨b, j, none⟩ = some (.int .i64 (l.getD j 0)) := by
        have := hcell 0 (.int .i64 (l.getD j 0)) rfl
        rw [show j * intE.sz + 0 = j from by show j * 1 + 0 = j; omega] at this
        exact this
      have HC := Lib.hid (HRU.out wr _ _ (by rw [set_self HI.out]; exact HS.out.1) _ (List.mem_of_getElem? hg))
      have HPD : Hid (∀ x, l.getD j 0 = x → pd (l.getD j 0) = pd x) := fun x hx => by rw [hx]
      have j0 : (0 : Int) ≤ (j : Int) := by omega
      have j1 : (j : Int) < (l.length : Int) := by omega
      clear hcell eA hg
      generalize hx : l.getD j 0 = x at *
      have HXX := Lib.hid hx
      clear hx
      cases hp : pd x with
      | true =>
        rw [hp] at HC
        have HN : Hid (∀ W, Sep B w W Rs → Sep B w W Rs ∧ ∀ k ∈ l.take (j + 1), pd k = true) := fun W h => ⟨h, fun k hk => by
          rw [HTk.out, List.mem_append] at hk
          rcases hk with hk | hk
          · exact HS.out.2 k hk
          · obtain rfl : k = x := by simpa using hk
            exact hp⟩
        have HSS := Lib.hid HS.out.1
        clear hp HS
        go_wp2_with fail
        refine HC.out.mono ?_
        rintro r w1 ⟨rfl, hb⟩
        have HN2 := Lib.hid (HN.out _ (HSS.out.next hb))
        clear hb HC HN HSS
        go_wp2
        go_roundw
        case rel => exact ⟨j + 1, by omega, by go_num, HN2⟩
        case measure => simp [intOf]; omega
      | false =>
        rw [hp] at HC
        have HP := Lib.hid hp
        clear hp
        go_wp2_with fail
        refine HC.out.mono ?_
        rintro r w1 ⟨rfl, hb⟩
        have HS2 := Lib.hid (HS.out.1.next hb)
        have HS3 := Lib.hid HS.out.2
        clear hb HC HS
        go_wp2
        go_ret
        exact ⟨_, rfl, HS2.out, .inr ⟨j, rfl, hlt, by rw [HXX.out]; exact HP.out, HS3.out⟩⟩
    · have HE : Hid (l.take j = l) := List.take_of_length_le (by omega)
      have HS2 := HS.out
      rw [HE.out] at HS2
      have HS3 := Lib.hid HS2
      clear HS2 HS
      go_wp2
      go_ret
      exact ⟨_, rfl, HS3.out.1, .inl ⟨rfl, HS3.out.2⟩⟩

set_option maxRecDepth 100000 in
set_option maxHeartbeats 1000000 in
theorem delete_s {A : Option Addr} {c : Nat} (h : Sep B w wk Rs) (hi : Rs[i]? = some (grow intE 3 (.slice A l.length c) l)) (hl : l.length ≤ 100000) (hR : Rules B w Rs i l qa qn pd) :
    Calls Try.prog 51 #[.slice A l.length c, delF qa qn] wk fun r wn => r = .returned (.slice A (l.filter pd).length c) ∧ Sep B w wn (Rs.set i (grow intE 3 (.slice A (l.filter pd).length c) (l.filter pd))) := by
  have HIX := Lib.hid (index_s h hi hl hR)
  have HI := Lib.hid hi
  have HRU := Lib.hid hR
  have HIL : Hid (i < Rs.length) := (List.getElem?_eq_some_iff.1 hi).1
  have hcap := h.own i hi
  clear h hi hR
  unfold delF at *
  rcases hcap.2 with ⟨hn, hn0⟩ | ⟨b, c', cur, hn, _, _, hnc, _⟩
  · have hl0 : l = [] := List.eq_nil_of_length_eq_zero hn0
    subst hl0
    have hA : A = none ∧ c = 0 := by injection hn with h1 h2 h3; exact ⟨h1, h3⟩
    obtain ⟨rfl, rfl⟩ := hA
    have HE : Hid (([] : List Int).filter pd = []) := rfl
    rw [HE.out]
    clear hcap hn hn0
    go_enter Try.func51, Try.ntmps51
    go_wp2_with fail
    refine HIX.out.mono ?_
    rintro r w1 ⟨d, rfl, hs, hd⟩
    obtain rfl : d = -1 := by
      rcases hd with ⟨hd, _⟩ | ⟨j, _, hj, _⟩
      · exact hd
      · simp at hj
    have HS := Lib.hid hs
    clear hs hd HIX
    go_wp2
    go_ret
    exact ⟨rfl, by have h2 := HS.out; rw [← set_self HI.out] at h2; exact h2⟩
  · obtain ⟨rfl, rfl⟩ : A = some ⟨b, 0, none⟩ ∧ c = c' := by injection hn with h1 h2 h3; exact ⟨h1, h3⟩
    have hnc' : l.length ≤ c := hnc
    clear hcap hn hnc
    go_enter Try.func51, Try.ntmps51
    go_wp2_with fail
    refine HIX.out.mono ?_
    rintro r w1 ⟨d, rfl, hs, hd⟩
    have HS := Lib.hid hs
    clear hs HIX
    rcases hd with ⟨rfl, hall⟩ | ⟨k0, rfl, hk0, hkn, hkt⟩
    · have HE : Hid (l.filter pd = l) := List.filter_eq_self.2 hall
      clear hall
      go_wp2
      go_ret
      rw [HE.out]
      exact ⟨rfl, by rw [set_self HI.out]; exact HS.out⟩
    · have hd1 : ((k0 : Int) == -1) = false := by rw [beq_eq_false_iff_ne]; omega
      have HL0 : Hid (l.take k0 = (l.take (k0 + 1)).filter pd) := by
        have hg : l[k0]? = some (l.getD k0 0) := by rw [List.getD_eq_getElem?_getD, List.getElem?_eq_getElem hk0]; rfl
        show _ = _
        rw [List.take_add_one, hg, List.filter_append, List.filter_eq_self.2 hkt, show List.filter pd (Option.toList (some (l.getD k0 0))) = [] from by simp only [Option.toList_some, List.filter_cons, hkn]; rfl, List.append_nil]
      have HSI : Hid (Sep B w w1 (Rs.set i (grow intE 3 (.slice (some ⟨b, 0, none⟩) l.length c) l))) := by
        show Sep _ _ _ _
        rw [set_self HI.out]; exact HS.out
      clear hkn hkt HS
      go_wp2
      go_loopw [5, 6] (fun s t W => ∃ k j : Nat, s = .int .i64 k ∧ t = .int .i64 j ∧ k < j ∧ j ≤ l.length ∧ Hid (∃ l', l'.length = l.length ∧ l'.take k = (l.take j).filter pd ∧ l'.drop j = l.drop j ∧ Sep B w W (Rs.set i (grow intE 3 (.slice (some ⟨b, 0, none⟩) l.length c) l')))) (fun _ t _ => l.length - (intOf t).toNat)
      case atStart => exact ⟨k0, k0 + 1, rfl, by go_num, by omega, by omega, l, rfl, HL0.out, rfl, HSI.out⟩
      case round =>
        obtain ⟨k, j, rfl, rfl, hkj, hjl, HG⟩ := hrel
        clear HSI HL0
        obtain ⟨l', hl', ht, hdr, hS⟩ := HG.out
        have HII : Hid ((Rs.set i (grow intE 3 (.slice (some ⟨b, 0, none⟩) l.length c) l'))[i]? = some (grow intE 3 (.slice (some ⟨b, 0, none⟩) l.length c) l')) := by show _ = _; rw [List.getElem?_set, if_pos rfl, if_pos HIL.out]
        by_cases hlt : j < l.length
        · have hg : l[j]? = some (l.getD j 0) := by rw [List.getD_eq_getElem?_getD, List.getElem?_eq_getElem hlt]; rfl
          have hg' : l'[j]? = some (l.getD j 0) := by
            have h1 := congrArg (fun L : List Int => L[0]?) hdr
            simp only [List.getElem?_drop, Nat.add_zero] at h1
            rw [h1, hg]
          have HTk : Hid ((l.take (j + 1)).filter pd = (l.take j).filter pd ++ if pd (l.getD j 0) = true then [l.getD j 0] else []) := by
            show _ = _
            rw [List.take_add_one, hg, List.filter_append]
            congr 1
            by_cases hp : pd (l.getD j 0) = true
            · rw [if_pos hp]; simp only [Option.toList_some, List.filter_cons, hp, if_true, List.filter_nil]
            · rw [if_neg hp]; simp only [Option.toList_some, List.filter_cons, hp, List.filter_nil]; rfl
          have HDR1 : Hid (l'.drop (j + 1) = l.drop (j + 1)) := by
            have h1 := congrArg (List.drop 1) hdr
            rw [List.drop_drop, List.drop_drop] at h1
            exact h1
          obtain ⟨b', c', eA, _, hcell, _⟩ := hS.elem i HII.out hg'
          obtain rfl : b = b' := by injection eA with e1; injection e1 with e1; injection e1
          have q0 : wr.cell? ⟨b, j, none⟩ = some (.int .i64 (l.getD j 0)) := by
            have := hcell 0 (.int .i64 (l.getD j 0)) rfl
            rw [show j * intE.sz + 0 = j from by show j * 1 + 0 = j; omega] at this
            exact this
          have HC := Lib.hid (HRU.out wr _ _ hS _ (List.mem_of_getElem? hg))
          have hkl : k < l'.length := by omega
          have j0 : (0 : Int) ≤ (j : Int) := by omega
          have j1 : (j : Int) < (l.length : Int) := by omega
          have k0' : (0 : Int) ≤ (k : Int) := by omega
          have k1' : (k : Int) < (l.length : Int) := by omega
          have HLL := Lib.hid hl'
          have HT := Lib.hid ht
          have HSS := Lib.hid hS
          clear hcell eA hg hg' hdr hS HG hl' ht
          generalize l.getD j 0 = x at *
          cases hp : pd x with
          | true =>
            rw [hp] at HC HTk
            have HS2 : Hid (∀ W, Below wr.heap.size wr W → W.cell? ⟨b, k, none⟩ = some (.int .i64 (l'.getD k 0)) ∧ W.frozen? ⟨b, k, none⟩ = false ∧ Sep B w (W.setCell ⟨b, k, none⟩ (.int .i64 x)) (Rs.set i (grow intE 3 (.slice (some ⟨b, 0, none⟩) l.length c) (l'.set k x)))) := fun W hb => by
              have h1 := HSS.out.next hb
              have hgk : l'[k]? = some (l'.getD k 0) := by rw [List.getD_eq_getElem?_getD, List.getElem?_eq_getElem hkl]; rfl
              obtain ⟨b', c', eA, _, hcell, _⟩ := h1.elem i HII.out hgk
              obtain rfl : b = b' := by injection eA with e1; injection e1 with e1; injection e1
              have h2 := h1.setc i HII.out (x' := x) (j := 0) (u := .int .i64 x) hgk (by show 0 < 1; omega) rfl
              rw [List.set_set, show k * intE.sz + 0 = k from by show k * 1 + 0 = k; omega] at h2
              have h3 := hcell 0 (.int .i64 (l'.getD k 0)) rfl
              rw [show k * intE.sz + 0 = k from by show k * 1 + 0 = k; omega] at h3
              exact ⟨h3, own_frozen h1 i HII.out k, h2⟩
            have HNX : Hid ((l'.set k x).length = l.length ∧ (l'.set k x).take (k + 1) = (l.take (j + 1)).filter pd ∧ (l'.set k x).drop (j + 1) = l.drop (j + 1)) := by
              refine ⟨by rw [List.length_set]; exact HLL.out, ?_, ?_⟩
              · rw [HTk.out, ← HT.out, if_pos rfl, List.take_add_one, List.getElem?_set, if_pos rfl, if_pos hkl, List.take_set_of_le (Nat.le_refl _)]
                rfl
              · rw [List.drop_set_of_lt (by omega)]; exact HDR1.out
            clear hp HTk
            go_wp2_with fail
            refine HC.out.mono ?_
            rintro r w2 ⟨rfl, hb⟩
            obtain ⟨ck, fk, h3⟩ := HS2.out w2 hb
            have S3 := Lib.hid h3
            clear hb HC HS2 h3 q0
            go_wp2
            go_roundw
            case rel => exact ⟨k + 1, j + 1, by go_num, by go_num, by omega, by omega, _, HNX.out.1, HNX.out.2.1, HNX.out.2.2, S3.out⟩
            case measure => simp [intOf]; omega
          | false =>
            rw [hp] at HC HTk
            have HTK2 : Hid (l'.take k = (l.take (j + 1)).filter pd) := by show _ = _; rw [HTk.out, HT.out]; simp
            clear hp HTk
            go_wp2_with fail
            refine HC.out.mono ?_
            rintro r w2 ⟨rfl, hb⟩
            have S3 := Lib.hid (HSS.out.next hb)
            clear hb HC q0
            go_wp2
            go_roundw
            case rel => exact ⟨k, j + 1, rfl, by go_num, by omega, by omega, l', HLL.out, HTK2.out, HDR1.out, S3.out⟩
            case measure => simp [intOf]; omega
        · obtain rfl : j = l.length := by omega
          have HT : Hid (l'.take k = l.filter pd) := by show _ = _; rw [ht, List.take_length]
          have HKL : Hid ((l.filter pd).length = k) := by show _ = _; rw [← HT.out, List.length_take]; omega
          have hRow : SortC.Row wr b c l.length (fun t => l'.getD t 0) := by
            have h1 := hS.own i HII.out
            have e : SortP.tab l.length (fun t => l'.getD t 0) = l' := by
              refine List.ext_getElem? fun t => ?_
              rcases Nat.lt_or_ge t l.length with ht | ht
              · rw [SortP.tab_get ht, List.getD_eq_getElem?_getD, List.getElem?_eq_getElem (by omega)]; rfl
              · rw [SortP.tab_out ht, List.getElem?_eq_none (by omega)]
            unfold SortC.Row
            rw [e]; exact h1
          have hcl : ∀ ty, (Builtin.clear_ #[33] ty #[.slice (some ⟨b, k, none⟩) (l.length - k) (c - k)]).run Try.prog wr = .ok (.tuple #[]) (wr.setCells b k (List.replicate (l.length - k) (.int .i64 0))) :=
            fun ty => Lib.run_clear_slice wr _ 3 ty (.int .i64 0) Try.underlying33 (fun w => by kernel_rfl) rfl rfl b k _ _ (by omega) (fun t ht => by rw [hRow.cell (by omega)]; rfl) (fun t ht => hRow.frozen _)
          have HFIN : Hid (Sep B w (wr.setCells b k (List.replicate (l.length - k) (.int .i64 0))) (Rs.set i (grow intE 3 (.slice (some ⟨b, 0, none⟩) k c) (l.filter pd)))) := by
            obtain ⟨F, ⟨ho, hF⟩, _, hn⟩ := hS.upd i HII.out
            obtain ⟨l2, g1, g2, g3⟩ := own_clear (l.length - k) k wr l' (by omega) ho
            have g4 := own_take g1 (i := k) (by omega)
            rw [g3, HT.out] at g4
            have hFb : F b := by rw [hF]; rfl
            have := hn (grow intE 3 (.slice (some ⟨b, 0, none⟩) k c) (l.filter pd)) (F' := fun k => (Value.slice (some ⟨b, 0, none⟩) k c).ownBlock = some k) ⟨g4, rfl⟩ (only_clear hFb _ _ _ (Only.refl _ _)) fun k hk => .inl (by simp [Value.ownBlock] at hk; rw [← hk]; exact hFb)
            rw [List.set_set] at this
            exact this
          have hkc : k ≤ c := by omega
          have hz0 : (0 : Int) ≤ (k : Int) := by omega
          have hz1 : (k : Int) ≤ (l.length : Int) := by omega
          have hz2 : (k : Int) ≤ (c : Int) := by omega
          clear hRow hS ht hdr HG hl'
          go_wp2
          go_ret
          rw [HKL.out]
          exact ⟨rfl, HFIN.out⟩
end
end Go.Proofs.Ytidkppjhmgehoaa.CxC
