/-
  What the laws of layer 16 ask of package code, as one structure (instructions, programs and their bytes), in every world that has all that lay in a first one as it was (that's where its table of constants lies), and the law's own helper. Conditions: those that each statement names.
-/
import Derived.Test.YtolooaahaofflaaDoorRefCodeF
namespace Go.Proofs.YtolooaahaofflaaDoor.CodeI
open Go.ChangeShapes Go.WideShapes Go.ChangeAt Go.RowKit Mem MutP CodeP Hand RefCode

/-- The functions of package code, in every world behind a first one. -/
structure Co (W : World) : Prop where
  form : ∀ (op : Int) (w : World), Below W.heap.size W w → In64 op → Calls Tryd.prog 61 #[.int .i64 op] w fun e w' => e = .returned (formV op) ∧ Below w.heap.size w w'
  right : ∀ (x : In) (n : Int) (w : World), Below W.heap.size W w → InIn x → In64 n → Calls Tryd.prog 53 #[.agg #[.int .i64 x.o, .int .i64 x.a, .int .i64 x.b, .int .i64 x.n], .int .i64 n] w fun e w' => e = .returned (.bool (rightB x n)) ∧ Below w.heap.size w w'
  may : ∀ {w : World} {G : Nat → Prop} {A : Option Addr} {n c : Nat} {l : List In}, Below W.heap.size W w → RdL inE w G (.slice A n c) l → n ≤ c → (∀ x ∈ l, InIn x) → Calls Tryd.prog 40 #[.slice A n c] w fun e w' => e = .returned (.bool (mayB l)) ∧ Below w.heap.size w w'
  bytes : ∀ {w : World} {G : Nat → Prop} {A : Option Addr} {n c : Nat} {l : List In}, Below W.heap.size W w → RdL inE w G (.slice A n c) l → n ≤ c → (∀ x ∈ l, InIn x) → Calls Tryd.prog 45 #[.slice A n c] w fun e w' => ∃ A' n' c', n' ≤ c' ∧ e = .returned (.tuple #[.slice A' n' c', .int .i64 (bytesE l)]) ∧ SaysL byE w w' (.slice A' n' c') (bytesR l)
  read : ∀ {w : World} {G : Nat → Prop} {A : Option Addr} {n c : Nat} {b : List Int}, Below W.heap.size W w → RdL byE w G (.slice A n c) b → n ≤ c → (∀ x ∈ b, Byte x) → Calls Tryd.prog 48 #[.slice A n c] w fun e w' => ∃ A' n' c', n' ≤ c' ∧ e = .returned (.tuple #[.slice A' n' c', .int .i64 (readN b), .int .i64 (readE b)]) ∧ SaysL inE w w' (.slice A' n' c') (readR b)
  same : ∀ {w : World} {G G' : Nat → Prop} {A A' : Option Addr} {n n' c c' : Nat} {l m : List In}, RdL inE w G (.slice A n c) l → n ≤ c → RdL inE w G' (.slice A' n' c') m → n' ≤ c' → (∀ x ∈ l, InIn x) → (∀ x ∈ m, InIn x) → Calls Tryd.prog 37 #[.slice A n c, .slice A' n' c'] w fun e w' => e = .returned (.bool (decide (l = m))) ∧ Below w.heap.size w w'

/-- Own(l): the document's, in new memory. -/
theorem own_f {w : World} {G : Nat → Prop} {u : Value} {L : List In} (h : RdL inE w G u L) (hlen : L.length ≤ 100000) :
    Calls Tryd.prog 26 #[u] w fun e w' => ∃ v, e = .returned v ∧ SaysL inE w w' v L ∧ FitsV v := by
  obtain ⟨A, c, rfl⟩ := h.form
  have HR := Lib.hid h
  clear h
  go_enter Tryd.func26, Tryd.ntmps26
  go_wp2
  go_loopw [3, 9] (fun u t wr => ∃ i : Nat, i ≤ L.length ∧ t = .int .i64 i ∧ Hid (OwnL inE wr w.heap.size 88 u (L.take i)) ∧ Hid (Below w.heap.size w wr)) (fun _ t _ => L.length - (intOf t).toNat)
  case atStart => exact ⟨0, Nat.zero_le _, rfl, OwnL.lit0 (E := inE) w _ _ (Nat.le_refl _), (Below.refl _ _).alloc (Nat.le_refl _) _⟩
  case round =>
    obtain ⟨i, hi, rfl, HO, HB⟩ := hrel
    have hbs : w.heap.size ≤ wr.heap.size := HB.out.size
    have hol : (L.take i).length ≤ i := List.length_take_le _ _
    obtain ⟨Ao, co, rfl⟩ := HO.out.form
    by_cases hlt : i < L.length
    · have hx : L[i]? = some L[i] := List.getElem?_eq_getElem hlt
      generalize L[i] = a at hx
      obtain ⟨b, off, rfl, hb, c0, c1, c2, c3⟩ := in_at HR.out hx
      have q0 := (HB.out.cell (p := ⟨b, off + i * 4, none⟩) hb).trans c0
      have q1 := (HB.out.cell (p := ⟨b, off + i * 4 + 1, none⟩) hb).trans c1
      have q2 := (HB.out.cell (p := ⟨b, off + i * 4 + 2, none⟩) hb).trans c2
      have q3 := (HB.out.cell (p := ⟨b, off + i * 4 + 3, none⟩) hb).trans c3
      have HT : Hid (L.take (i + 1) = L.take i ++ [a]) := take_snocI L i a hx
      clear hx c0 c1 c2 c3
      have HO1 : Hid (OwnL inE (wr.alloc (.cells #[.int .i64 a.o, .int .i64 a.a, .int .i64 a.b, .int .i64 a.n] 56)) w.heap.size 88 (.slice Ao (L.take i).length co) (L.take i)) := HO.out.alloc _
      have HB1 : Hid (Below w.heap.size w (wr.alloc (.cells #[.int .i64 a.o, .int .i64 a.a, .int .i64 a.b, .int .i64 a.n] 56))) := HB.out.alloc hbs _
      have HOf : Hid (∀ g, (Value.slice Ao (L.take i).length co).ownBlock = some g → w.heap.size ≤ g) := fun g hg => (HO.out.lt g hg).1
      have HRx : Hid (RdL inE ((wr.alloc (.cells #[.int .i64 a.o, .int .i64 a.a, .int .i64 a.b, .int .i64 a.n] 56)).alloc (.cells #[.int .i64 a.o, .int .i64 a.a, .int .i64 a.b, .int .i64 a.n] 88)) (fun _ => True) (.slice (some ⟨wr.heap.size + 1, 0, none⟩) 1 1) [a]) := by
        have hl := RdL.lit1 (E := inE) (wr.alloc (.cells #[.int .i64 a.o, .int .i64 a.a, .int .i64 a.b, .int .i64 a.n] 56)) 88 a (cs := #[.int .i64 a.o, .int .i64 a.a, .int .i64 a.b, .int .i64 a.n]) rfl (fun _ => True) trivial
        have es : (wr.alloc (.cells #[.int .i64 a.o, .int .i64 a.a, .int .i64 a.b, .int .i64 a.n] 56)).heap.size = wr.heap.size + 1 := by simp
        rw [es] at hl
        exact hl
      generalize hg : L.take i = lt at *
      have HGt := Lib.hid hg
      clear hg
      go_wp2_with (at_builtin; refine wpList_appL rfl _ _ riElem rfl rfl rfl (HO1.out.alloc _) HRx.out (by simp; omega) (by simp; omega) ?_)
      intro v' w1 hown1 hgrow hat
      have hb1 : Below w.heap.size w w1 := Below.grown (HB1.out.alloc HB1.out.size _) hgrow (by simp; omega) (fun g hg' => HOf.out g hg')
      have HO2 := Lib.hid hown1
      have HB2 := Lib.hid hb1
      clear hown1 hb1 hgrow hat
      go_wp2
      go_roundw
      case rel => exact ⟨i + 1, by omega, by go_num, by show OwnL _ _ _ _ _ _; rw [HT.out]; exact HO2.out, HB2⟩
      case measure => simp [intOf]; omega
    · have HS : Hid (L.take i = L) := List.take_of_length_le (by omega)
      go_wp2
      go_ret
      have hO := HO.out
      rw [HS.out] at hO ⊢
      exact ⟨_, rfl, ⟨hO.rd (by omega) fun g hg => (hO.lt g hg).1, HB.out⟩, fits_ownL hO⟩
theorem own_c {w : World} {G : Nat → Prop} {u : Value} {L : List In} (h : RdL inE w G u L) (hlen : L.length ≤ 100000) :
    Calls Tryd.prog 26 #[u] w fun e w' => ∃ v, e = .returned v ∧ SaysL inE w w' v L :=
  (own_f h hlen).mono fun _ _ ⟨v, he, hs, _⟩ => ⟨v, he, hs⟩

theorem Co.later {W w : World} (I : Co W) (h : Below W.heap.size W w) : Co w where
  form := fun op w' hb => I.form op w' (h.trans (hb.mono h.size))
  right := fun x n w' hb => I.right x n w' (h.trans (hb.mono h.size))
  may := fun hb => I.may (h.trans (hb.mono h.size))
  bytes := fun hb => I.bytes (h.trans (hb.mono h.size))
  read := fun hb => I.read (h.trans (hb.mono h.size))
  same := I.same

theorem len_of {α : Type} {E : Enc α} {w : World} {G : Nat → Prop} {A : Option Addr} {n c : Nat} {l : List α} (h : RdL E w G (.slice A n c) l) : n = l.length := by
  obtain ⟨_, _, e⟩ := h.form
  injection e

section
variable {B : Nat → Prop} {w wk : World} {Rs : List Res} {A A' : Option Addr} {n n' c c' : Nat} {l m : List In} {b b' : List Int}
theorem m_form (I : Co w) (h : Sep (fun _ => False) w wk Rs) (op : Int) (ho : In64 op) : Calls Tryd.prog 61 #[.int .i64 op] wk fun e wn => e = .returned (formV op) ∧ Sep (fun _ => False) w wn Rs :=
  (I.form op wk h.old ho).mono fun _ _ ⟨he, hb⟩ => ⟨he, h.next hb⟩
theorem m_right (I : Co w) (h : Sep (fun _ => False) w wk Rs) (x : In) (k : Int) (hx : InIn x) (hk : In64 k) : Calls Tryd.prog 53 #[.agg #[.int .i64 x.o, .int .i64 x.a, .int .i64 x.b, .int .i64 x.n], .int .i64 k] wk fun e wn => e = .returned (.bool (rightB x k)) ∧ Sep (fun _ => False) w wn Rs :=
  (I.right x k wk h.old hx hk).mono fun _ _ ⟨he, hb⟩ => ⟨he, h.next hb⟩
theorem m_may (I : Co w) (h : Sep (fun _ => False) w wk Rs) (i : Nat) (hi : Rs[i]? = some (told inE (.slice A n c) l)) (hc : n ≤ c) (hl : ∀ x ∈ l, InIn x) : Calls Tryd.prog 40 #[.slice A n c] wk fun e wn => e = .returned (.bool (mayB l)) ∧ Sep (fun _ => False) w wn Rs :=
  (I.may h.old (h.rdL i hi) hc hl).mono fun _ _ ⟨he, hb⟩ => ⟨he, h.next hb⟩
theorem m_bytes (I : Co w) (h : Sep (fun _ => False) w wk Rs) (i : Nat) (hi : Rs[i]? = some (told inE (.slice A n c) l)) (hc : n ≤ c) (hl : ∀ x ∈ l, InIn x) : Calls Tryd.prog 45 #[.slice A n c] wk fun e wn => ∃ A' c', (bytesR l).length ≤ c' ∧ e = .returned (.tuple #[.slice A' (bytesR l).length c', .int .i64 (bytesE l)]) ∧ Sep (fun _ => False) w wn (told byE (.slice A' (bytesR l).length c') (bytesR l) :: Rs) := by
  refine (I.bytes h.old (h.rdL i hi) hc hl).mono ?_
  rintro e wn ⟨A', n', c', hc', rfl, hs⟩
  obtain rfl := len_of hs.1
  exact ⟨A', c', hc', rfl, SaysL.sep h hs⟩
theorem m_read (I : Co w) (h : Sep (fun _ => False) w wk Rs) (i : Nat) (hi : Rs[i]? = some (told byE (.slice A n c) b)) (hc : n ≤ c) (hl : ∀ x ∈ b, Byte x) : Calls Tryd.prog 48 #[.slice A n c] wk fun e wn => ∃ A' c', (readR b).length ≤ c' ∧ e = .returned (.tuple #[.slice A' (readR b).length c', .int .i64 (readN b), .int .i64 (readE b)]) ∧ Sep (fun _ => False) w wn (told inE (.slice A' (readR b).length c') (readR b) :: Rs) := by
  refine (I.read h.old (h.rdL i hi) hc hl).mono ?_
  rintro e wn ⟨A', n', c', hc', rfl, hs⟩
  obtain rfl := len_of hs.1
  exact ⟨A', c', hc', rfl, SaysL.sep h hs⟩
theorem m_same (I : Co w) (h : Sep (fun _ => False) w wk Rs) (i j : Nat) (hi : Rs[i]? = some (told inE (.slice A n c) l)) (hc : n ≤ c) (hj : Rs[j]? = some (told inE (.slice A' n' c') m)) (hc' : n' ≤ c') (hl : ∀ x ∈ l, InIn x) (hm : ∀ x ∈ m, InIn x) : Calls Tryd.prog 37 #[.slice A n c, .slice A' n' c'] wk fun e wn => e = .returned (.bool (decide (l = m))) ∧ Sep (fun _ => False) w wn Rs :=
  (I.same (h.rdL i hi) hc (h.rdL j hj) hc' hl hm).mono fun _ _ ⟨he, hb⟩ => ⟨he, h.next hb⟩
theorem m_own (h : Sep B w wk Rs) (i : Nat) (hi : Rs[i]? = some (told inE (.slice A n c) l)) (hl : l.length ≤ 100000) : Calls Tryd.prog 26 #[.slice A n c] wk fun e wn => ∃ A' c', e = .returned (.slice A' l.length c') ∧ Sep B w wn (told inE (.slice A' l.length c') l :: Rs) := by
  refine (own_c (h.rdL i hi) hl).mono ?_
  rintro e wn ⟨v, rfl, hs⟩
  obtain ⟨A', c', rfl⟩ := hs.1.form
  exact ⟨A', c', rfl, SaysL.sep h hs⟩
theorem r_same (h : Sep B w wk Rs) (i j : Nat) (hi : Rs[i]? = some (told inE (.slice A n c) l)) (hj : Rs[j]? = some (told inE (.slice A' n' c') m)) : Calls Tryd.prog 35 #[.slice A n c, .slice A' n' c'] wk fun e wn => e = .returned (.bool (decide (l = m))) ∧ Sep B w wn Rs :=
  (same_c (h.rdL i hi) (h.rdL j hj)).mono fun _ _ ⟨he, k, hw⟩ => ⟨he, by rw [hw]; exact h.drewN k⟩
theorem r_sameB (h : Sep B w wk Rs) (i j : Nat) (hi : Rs[i]? = some (told byE (.slice A n c) b)) (hj : Rs[j]? = some (told byE (.slice A' n' c') b')) : Calls Tryd.prog 17 #[.slice A n c, .slice A' n' c'] wk fun e wn => e = .returned (.bool (decide (b = b'))) ∧ Sep B w wn Rs :=
  (bytes_c (h.rdL i hi) (h.rdL j hj)).mono fun _ _ ⟨he, k, hw⟩ => ⟨he, by rw [hw]; exact h.drewN k⟩
theorem r_form (h : Sep B w wk Rs) (op : Int) : Calls Tryd.prog 59 #[.int .i64 op] wk fun e wn => e = .returned (formV op) ∧ Sep B w wn Rs :=
  (form_c op wk).mono fun _ _ ⟨he, hw⟩ => ⟨he, by rw [← hw]; exact h⟩
theorem r_right (h : Sep B w wk Rs) (x : In) (k : Int) : Calls Tryd.prog 49 #[.agg #[.int .i64 x.o, .int .i64 x.a, .int .i64 x.b, .int .i64 x.n], .int .i64 k] wk fun e wn => e = .returned (.bool (rightB x k)) ∧ Sep B w wn Rs :=
  (right_c x k wk).mono fun _ _ ⟨he, hb⟩ => ⟨he, h.next hb⟩
theorem r_may (h : Sep B w wk Rs) (i : Nat) (hi : Rs[i]? = some (told inE (.slice A n c) l)) : Calls Tryd.prog 34 #[.slice A n c] wk fun e wn => e = .returned (.bool (mayB l)) ∧ Sep B w wn Rs := by
  have hr := h.rdL i hi
  obtain rfl := len_of hr
  exact (may_c hr).mono fun _ _ ⟨he, hb⟩ => ⟨he, h.next hb⟩
theorem r_bytes (h : Sep B w wk Rs) (i : Nat) (hi : Rs[i]? = some (told inE (.slice A n c) l)) (hl : ∀ x ∈ l, InIn x) : Calls Tryd.prog 25 #[.slice A n c] wk fun e wn => ∃ A' c', e = .returned (.tuple #[.slice A' (bytesR l).length c', .int .i64 (bytesE l)]) ∧ Sep B w wn (told byE (.slice A' (bytesR l).length c') (bytesR l) :: Rs) := by
  have hr := h.rdL i hi
  obtain rfl := len_of hr
  refine (bytes_r hr hl).mono ?_
  rintro e wn ⟨v, rfl, hs, _⟩
  obtain ⟨A', c', rfl⟩ := hs.1.form
  exact ⟨A', c', rfl, SaysL.sep h hs⟩
theorem r_read (h : Sep B w wk Rs) (i : Nat) (hi : Rs[i]? = some (told byE (.slice A n c) b)) (hc : n ≤ c) (hl : ∀ x ∈ b, Byte x) : Calls Tryd.prog 32 #[.slice A n c] wk fun e wn => ∃ A' c', e = .returned (.tuple #[.slice A' (readR b).length c', .int .i64 (readN b), .int .i64 (readE b)]) ∧ Sep B w wn (told inE (.slice A' (readR b).length c') (readR b) :: Rs) := by
  have hr := h.rdL i hi
  obtain rfl := len_of hr
  refine (read_r hr hl hc).mono ?_
  rintro e wn ⟨v, rfl, hs, _⟩
  obtain ⟨A', c', rfl⟩ := hs.1.form
  exact ⟨A', c', rfl, SaysL.sep h hs⟩
end
end Go.Proofs.YtolooaahaofflaaDoor.CodeI
