/-
  Rows as rings of neighbours: what 'next', 'previous' and 'row' must say of the lists of an arena's rows, and that putting, pushing and dropping a node keeps it. Plain mathematics. No condition.
-/
import Derived.Test.YtbkeodjebfkkdaaRow
namespace Go.Proofs.Ytbkeodjebfkkdaa.RingP
open RefRing RingI

def upd (f : Int → Int) (a b : Int) : Int → Int := fun i => if i = a then b else f i
theorem upd_at (f : Int → Int) (a b : Int) : upd f a b a = b := by simp [upd]
theorem upd_ne (f : Int → Int) {a i : Int} (b : Int) (h : i ≠ a) : upd f a b i = f i := by simp [upd, h]

/-- From place a by the nodes l to place b. -/
def Link (nx pv : Int → Int) : Int → List Int → Int → Prop
  | a, [], b => nx a = b ∧ pv b = a
  | a, x :: l, b => nx a = x ∧ pv x = a ∧ Link nx pv x l b

theorem Link.app {nx pv : Int → Int} : ∀ {a b y : Int} {l m : List Int}, Link nx pv a (l ++ y :: m) b ↔ Link nx pv a l y ∧ Link nx pv y m b
  | a, b, y, [], m => by simp [Link, and_assoc]
  | a, b, y, x :: l, m => by simp [Link, Link.app (l := l), and_assoc]
theorem Link.frame {nx pv nx' pv' : Int → Int} : ∀ {a b : Int} {l : List Int}, Link nx pv a l b → (∀ s ∈ a :: l, nx' s = nx s) → (∀ t ∈ l ++ [b], pv' t = pv t) → Link nx' pv' a l b
  | a, b, [], h, h1, h2 => ⟨by rw [h1 a (by simp)]; exact h.1, by rw [h2 b (by simp)]; exact h.2⟩
  | a, b, x :: l, h, h1, h2 => ⟨by rw [h1 a (by simp)]; exact h.1, by rw [h2 x (by simp)]; exact h.2.1,
      Link.frame h.2.2 (fun s hs => h1 s (List.mem_cons_of_mem _ hs)) (fun t ht => h2 t (by rw [List.cons_append]; exact List.mem_cons_of_mem _ ht))⟩

theorem getD_set (L : List (List Int)) (r j : Nat) (l : List Int) (h : r < L.length) : (L.set r l).getD j [] = if j = r then l else L.getD j [] := by
  by_cases e : j = r
  · subst e; simp [List.getD_eq_getElem?_getD, h]
  · simp [List.getD_eq_getElem?_getD, e, Ne.symm e]

/-- Each row has its nodes once, and no two have one in common. -/
structure Once (L : List (List Int)) : Prop where
  one : ∀ i, i < L.length → (L.getD i []).Nodup
  two : ∀ i j x, i < L.length → j < L.length → x ∈ L.getD i [] → x ∈ L.getD j [] → i = j

theorem getD_mem {L : List (List Int)} {i : Nat} (h : i < L.length) : L.getD i [] ∈ L := by
  simp [List.getD_eq_getElem?_getD, h]
theorem mem_getD {L : List (List Int)} {l : List Int} (h : l ∈ L) : ∃ i, i < L.length ∧ L.getD i [] = l := by
  obtain ⟨i, hi, rfl⟩ := List.getElem_of_mem h
  exact ⟨i, hi, by simp [List.getD_eq_getElem?_getD, hi]⟩

theorem once_of {L : List (List Int)} (h : L.flatten.Nodup) : Once L := by
  rw [List.Nodup, List.pairwise_flatten] at h
  refine ⟨fun i hi => h.1 _ (getD_mem hi), fun i j x hi hj hx hy => ?_⟩
  rw [List.pairwise_iff_getElem] at h
  simp only [List.getD_eq_getElem?_getD, List.getElem?_eq_getElem hi, List.getElem?_eq_getElem hj, Option.getD_some] at hx hy
  rcases Nat.lt_trichotomy i j with hl | he | hg
  · exact absurd rfl (h.2 i j hi hj hl x hx x hy)
  · exact he
  · exact absurd rfl (h.2 j i hj hi hg x hy x hx)
theorem Once.flat {L : List (List Int)} (h : Once L) : L.flatten.Nodup := by
  rw [List.Nodup, List.pairwise_flatten]
  refine ⟨fun l hl => ?_, ?_⟩
  · obtain ⟨i, hi, rfl⟩ := mem_getD hl
    exact h.one i hi
  · rw [List.pairwise_iff_getElem]
    intro i j hi hj hij x hx y hy e
    subst e
    have := h.two i j x hi hj (by simpa [List.getD_eq_getElem?_getD, hi] using hx) (by simpa [List.getD_eq_getElem?_getD, hj] using hy)
    omega

theorem len_le : ∀ (n : Nat) (l : List Int), l.Nodup → (∀ x ∈ l, 0 ≤ x ∧ x < (n : Int)) → l.length ≤ n
  | 0, l, _, h => by
    cases l with
    | nil => simp
    | cons x l => have := h x (by simp); omega
  | n + 1, l, hn, h => by
    by_cases hm : (n : Int) ∈ l
    · have := len_le n (l.erase n) (hn.erase _) (fun x hx => by
        have h1 := h x (List.mem_of_mem_erase hx)
        have h2 : x ≠ n := fun e => by subst e; exact absurd hx (by simp [hn.mem_erase_iff])
        omega)
      rw [List.length_erase_of_mem hm] at this
      omega
    · have := len_le n l hn (fun x hx => by
        have h1 := h x hx
        have h2 : x ≠ n := fun e => hm (e ▸ hx)
        omega)
      omega

/-- One row is another one now, of nodes that were there, or in no row. -/
theorem ok_set {L : List (List Int)} {N : Int} (h : Ok L N) {r : Nat} (hr : r < L.length) {l : List Int} (hn : l.Nodup) (hb : ∀ x ∈ l, 0 ≤ x ∧ x < N)
    (hf : ∀ x ∈ l, x ∈ L.getD r [] ∨ ∀ i, i < L.length → x ∉ L.getD i []) : Ok (L.set r l) N := by
  have ho := once_of h.once
  have hl : l.length ≤ 1000 := by
    have := len_le N.toNat l hn (fun x hx => by have := hb x hx; omega)
    have := h.n1
    omega
  have hm : ∀ m ∈ L.set r l, m = l ∨ m ∈ L := fun m hm => (List.mem_or_eq_of_mem_set hm).symm
  refine ⟨by simpa using h.rows, h.n0, h.n1, fun m hm' x hx => ?_, fun m hm' => ?_, Once.flat ⟨fun i hi => ?_, fun i j x hi hj hx hy => ?_⟩⟩
  · rcases hm m hm' with rfl | h'
    · exact hb x hx
    · exact h.nodes m h' x hx
  · rcases hm m hm' with rfl | h'
    · exact hl
    · exact h.lens m h'
  · rw [getD_set _ _ _ _ hr]
    split
    · exact hn
    · exact ho.one i (by simpa using hi)
  · rw [getD_set _ _ _ _ hr] at hx hy
    simp only [List.length_set] at hi hj
    by_cases e1 : i = r
    · by_cases e2 : j = r
      · omega
      · rw [if_pos e1] at hx
        rw [if_neg e2] at hy
        rcases hf x hx with h1 | h1
        · exact absurd (ho.two _ _ x hr hj h1 hy) (by omega)
        · exact absurd hy (h1 j hj)
    · rw [if_neg e1] at hx
      by_cases e2 : j = r
      · rw [if_pos e2] at hy
        rcases hf x hy with h1 | h1
        · exact absurd (ho.two _ _ x hr hi h1 hx) (by omega)
        · exact absurd hx (h1 i hi)
      · rw [if_neg e2] at hy
        exact ho.two i j x hi hj hx hy

/-- What the neighbours tell, of rows L and N nodes. -/
structure Lk (L : List (List Int)) (N : Int) (nx pv rw : Int → Int) : Prop where
  ok : Ok L N
  ring : ∀ i : Nat, i < L.length → Link nx pv (1000 + i) (L.getD i []) (1000 + i)
  row : ∀ x, 0 ≤ x → x < N → rw x = inL L x

theorem _root_.Go.Proofs.Ytbkeodjebfkkdaa.RingI.Ok.node {L : List (List Int)} {N : Int} (h : Ok L N) {i : Nat} (hi : i < L.length) {x : Int} (hx : x ∈ L.getD i []) : 0 ≤ x ∧ x < N := h.nodes _ (getD_mem hi) x hx

theorem inL_of_mem {L : List (List Int)} (h : Once L) {i : Nat} (hi : i < L.length) {x : Int} (hx : x ∈ L.getD i []) : inL L x = i := by
  obtain ⟨k, hk, rfl⟩ := List.getElem_of_mem hx
  refine inL_at (k := k) hi (fun i' hi' hm => ?_) hk (by rw [List.getD_eq_getElem?_getD, List.getElem?_eq_getElem hk]; rfl)
  exact absurd (h.two i' i _ (by omega) hi hm hx) (by omega)
theorem mem_of_inL {L : List (List Int)} {i : Nat} {x : Int} (h : inL L x = i) : i < L.length ∧ x ∈ L.getD i [] := by
  unfold inL at h
  split at h
  · rename_i k hk
    rw [List.findIdx?_eq_some_iff_getElem] at hk
    obtain ⟨hl, hc, _⟩ := hk
    have : k = i := by omega
    subst this
    exact ⟨hl, by simpa [List.getD_eq_getElem?_getD, hl] using hc⟩
  · omega
theorem not_mem_of_inL {L : List (List Int)} {x : Int} (h : inL L x = -1) : ∀ i, i < L.length → x ∉ L.getD i [] := by
  intro i hi hm
  unfold inL at h
  split at h
  · omega
  · rename_i hk
    rw [List.findIdx?_eq_none_iff] at hk
    have := hk _ (getD_mem hi)
    simp at this
    exact this hm

/-- A new row's nodes: the rows' word on them. -/
theorem row_new {L : List (List Int)} {N : Int} {rw : Int → Int} (h0 : ∀ x, 0 ≤ x → x < N → rw x = inL L x) {r : Nat} (hr : r < L.length) {l : List Int} (h' : Ok (L.set r l) N) {x v : Int} 
    (hv : inL (L.set r l) x = v) (hs : ∀ y, y ≠ x → (y ∈ l ↔ y ∈ L.getD r [])) (y : Int) (hy0 : 0 ≤ y) (hyN : y < N) : upd rw x v y = inL (L.set r l) y := by
  by_cases e : y = x
  · subst e; rw [upd_at, hv]
  · rw [upd_ne _ _ e, h0 y hy0 hyN]
    rcases inL_range L y with hn | ⟨i, hi, hil⟩
    · rw [hn]
      refine (inL_none fun j hj hm => ?_).symm
      rw [getD_set _ _ _ _ hr] at hm
      simp only [List.length_set] at hj
      by_cases ej : j = r
      · rw [if_pos ej] at hm
        exact not_mem_of_inL hn r hr ((hs y e).1 hm)
      · rw [if_neg ej] at hm
        exact not_mem_of_inL hn j hj hm
    · rw [hi]
      obtain ⟨hl, hm⟩ := mem_of_inL hi
      refine (inL_of_mem (once_of h'.once) (i := i) (by simpa using hl) ?_).symm
      rw [getD_set _ _ _ _ hr]
      by_cases ej : i = r
      · rw [if_pos ej]
        subst ej
        exact (hs y e).2 hm
      · rw [if_neg ej]; exact hm

theorem nodup_snoc {l : List Int} {x : Int} (h : l.Nodup) (hx : x ∉ l) : (l ++ [x]).Nodup := by
  rw [List.nodup_append]
  exact ⟨h, by simp, fun a ha b hb => by simp at hb; subst hb; rintro rfl; exact hx ha⟩

theorem lk_put {L : List (List Int)} {N : Int} {nx pv rw : Int → Int} (h : Lk L N nx pv rw) {r : Nat} (hr : r < L.length) {x : Int} (hx0 : 0 ≤ x) (hxN : x < N) (hx : inL L x = -1) :
    Lk (L.set r (L.getD r [] ++ [x])) N (upd (upd nx (pv (1000 + r)) x) x (1000 + r)) (upd (upd pv x (pv (1000 + r))) (1000 + r) x) (upd rw x r) := by
  have ho := once_of h.ok.once
  have hno := not_mem_of_inL hx
  have hN := h.ok.n1
  have hok : Ok (L.set r (L.getD r [] ++ [x])) N := by
    refine ok_set h.ok hr (nodup_snoc (ho.one r hr) (hno r hr)) (fun y hy => ?_) (fun y hy => ?_)
    · rcases List.mem_append.1 hy with hy | hy
      · exact h.ok.node hr hy
      · simp at hy; subst hy; exact ⟨hx0, hxN⟩
    · rcases List.mem_append.1 hy with hy | hy
      · exact .inl hy
      · simp at hy; subst hy; exact .inr hno
  have ha : (pv (1000 + r) = 1000 + r ∧ L.getD r [] = []) ∨ ∃ m, L.getD r [] = m ++ [pv (1000 + r)] ∧ Link nx pv (1000 + r) m (pv (1000 + r)) := by
    have hk := h.ring r hr
    rcases List.eq_nil_or_concat (L.getD r []) with hl | ⟨m, y, hl⟩
    · rw [hl] at hk
      exact .inl ⟨hk.2, hl⟩
    · rw [List.concat_eq_append] at hl
      rw [hl, Link.app] at hk
      have : pv (1000 + r) = y := hk.2.2
      rw [this]
      exact .inr ⟨m, hl, hk.1⟩
  refine ⟨hok, fun i hi => ?_, row_new h.row hr hok (inL_of_mem (once_of hok.once) (by simpa using hr) (by rw [getD_set _ _ _ _ hr, if_pos rfl]; simp)) (fun y hy => by simp [hy])⟩
  simp only [List.length_set] at hi
  rw [getD_set _ _ _ _ hr]
  generalize ea : pv (1000 + (r : Int)) = a at *
  by_cases e : i = r
  · subst e
    rw [if_pos rfl, Link.app]
    refine ⟨?_, ?_⟩
    · rcases ha with ⟨rfl, hl⟩ | ⟨m, hl, hk⟩
      · rw [hl]
        exact ⟨by rw [upd_ne _ _ (by omega), upd_at], by rw [upd_ne _ _ (by omega), upd_at]⟩
      · have hyb := h.ok.node hr (x := a) (by rw [hl]; simp)
        have hxa : x ≠ a := by rintro rfl; exact hno i hr (by rw [hl]; simp)
        rw [hl, Link.app]
        have hnd := ho.one i hr
        rw [hl, List.nodup_append] at hnd
        refine ⟨hk.frame (fun s hs => ?_) (fun t ht => ?_), by rw [upd_ne _ _ (Ne.symm hxa), upd_at], by rw [upd_ne _ _ (by omega), upd_at]⟩
        · rcases List.mem_cons.1 hs with rfl | hs
          · rw [upd_ne _ _ (by omega), upd_ne _ _ (by omega)]
          · rw [upd_ne _ _ (by rintro rfl; exact hno i hr (by rw [hl]; simp [hs])), upd_ne _ _ (by rintro rfl; exact hnd.2.2 _ hs _ (by simp) rfl)]
        · have hti : t ∈ L.getD i [] := by rw [hl]; exact ht
          have := h.ok.node hr hti
          rw [upd_ne _ _ (by omega), upd_ne _ _ (by rintro rfl; exact hno i hr hti)]
    · exact ⟨by rw [upd_at], by rw [upd_at]⟩
  · rw [if_neg e]
    have hai : a ∉ L.getD i [] ∧ a ≠ 1000 + i := by
      rcases ha with ⟨rfl, _⟩ | ⟨m, hl, _⟩
      · exact ⟨fun hm => by have := h.ok.node hi hm; omega, by omega⟩
      · have hm : a ∈ L.getD r [] := by rw [hl]; simp
        exact ⟨fun hm' => e (ho.two i r _ hi hr hm' hm), by have := h.ok.node hr hm; omega⟩
    refine (h.ring i hi).frame (fun s hs => ?_) (fun t ht => ?_)
    · rcases List.mem_cons.1 hs with rfl | hs
      · rw [upd_ne _ _ (by omega), upd_ne _ _ (Ne.symm hai.2)]
      · rw [upd_ne _ _ (by rintro rfl; exact hno i hi hs), upd_ne _ _ (by rintro rfl; exact hai.1 hs)]
    · rcases List.mem_append.1 ht with ht | ht
      · have := h.ok.node hi ht
        rw [upd_ne _ _ (by omega), upd_ne _ _ (by rintro rfl; exact hno i hi ht)]
      · simp at ht
        subst ht
        rw [upd_ne _ _ (by omega), upd_ne _ _ (by omega)]

theorem lk_push {L : List (List Int)} {N : Int} {nx pv rw : Int → Int} (h : Lk L N nx pv rw) {r : Nat} (hr : r < L.length) {x : Int} (hx0 : 0 ≤ x) (hxN : x < N) (hx : inL L x = -1) :
    Lk (L.set r (x :: L.getD r [])) N (upd (upd nx (1000 + r) x) x (nx (1000 + r))) (upd (upd pv x (1000 + r)) (nx (1000 + r)) x) (upd rw x r) := by
  have ho := once_of h.ok.once
  have hno := not_mem_of_inL hx
  have hN := h.ok.n1
  have hok : Ok (L.set r (x :: L.getD r [])) N := by
    refine ok_set h.ok hr (List.nodup_cons.2 ⟨hno r hr, ho.one r hr⟩) (fun y hy => ?_) (fun y hy => ?_)
    · rcases List.mem_cons.1 hy with rfl | hy
      · exact ⟨hx0, hxN⟩
      · exact h.ok.node hr hy
    · rcases List.mem_cons.1 hy with rfl | hy
      · exact .inr hno
      · exact .inl hy
  have ha : (nx (1000 + r) = 1000 + r ∧ L.getD r [] = []) ∨ ∃ m, L.getD r [] = nx (1000 + r) :: m ∧ Link nx pv (nx (1000 + r)) m (1000 + r) := by
    have hk := h.ring r hr
    rcases hl : L.getD r [] with _ | ⟨y, m⟩
    · rw [hl] at hk
      exact .inl ⟨hk.1, rfl⟩
    · rw [hl] at hk
      have : nx (1000 + r) = y := hk.1
      rw [this]
      exact .inr ⟨m, rfl, hk.2.2⟩
  refine ⟨hok, fun i hi => ?_, row_new h.row hr hok (inL_of_mem (once_of hok.once) (by simpa using hr) (by rw [getD_set _ _ _ _ hr, if_pos rfl]; simp)) (fun y hy => by simp [hy])⟩
  simp only [List.length_set] at hi
  rw [getD_set _ _ _ _ hr]
  generalize ea : nx (1000 + (r : Int)) = b at *
  by_cases e : i = r
  · subst e
    rw [if_pos rfl]
    rcases ha with ⟨rfl, hl⟩ | ⟨m, hl, hk⟩
    · rw [hl]
      exact ⟨by rw [upd_ne _ _ (by omega), upd_at], by rw [upd_ne _ _ (by omega), upd_at], by rw [upd_at], by rw [upd_at]⟩
    · have hyb := h.ok.node hr (x := b) (by rw [hl]; simp)
      have hxb : x ≠ b := by rintro rfl; exact hno i hr (by rw [hl]; simp)
      have hnd := ho.one i hr
      rw [hl, List.nodup_cons] at hnd
      rw [hl]
      refine ⟨by rw [upd_ne _ _ (by omega), upd_at], by rw [upd_ne _ _ hxb, upd_at], by rw [upd_at], by rw [upd_at], hk.frame (fun s hs => ?_) (fun t ht => ?_)⟩
      · have hsi : s ∈ L.getD i [] := by rw [hl]; exact hs
        have := h.ok.node hr hsi
        rw [upd_ne _ _ (by rintro rfl; exact hno i hr hsi), upd_ne _ _ (by omega)]
      · rcases List.mem_append.1 ht with ht | ht
        · rw [upd_ne _ _ (by rintro rfl; exact hnd.1 ht), upd_ne _ _ (by rintro rfl; exact hno i hr (by rw [hl]; simp [ht]))]
        · simp at ht
          subst ht
          rw [upd_ne _ _ (by omega), upd_ne _ _ (by omega)]
  · rw [if_neg e]
    have hbi : b ∉ L.getD i [] ∧ b ≠ 1000 + i := by
      rcases ha with ⟨rfl, _⟩ | ⟨m, hl, _⟩
      · exact ⟨fun hm => by have := h.ok.node hi hm; omega, by omega⟩
      · have hm : b ∈ L.getD r [] := by rw [hl]; simp
        exact ⟨fun hm' => e (ho.two i r _ hi hr hm' hm), by have := h.ok.node hr hm; omega⟩
    refine (h.ring i hi).frame (fun s hs => ?_) (fun t ht => ?_)
    · rcases List.mem_cons.1 hs with rfl | hs
      · rw [upd_ne _ _ (by omega), upd_ne _ _ (by omega)]
      · have := h.ok.node hi hs
        rw [upd_ne _ _ (by rintro rfl; exact hno i hi hs), upd_ne _ _ (by omega)]
    · rcases List.mem_append.1 ht with ht | ht
      · rw [upd_ne _ _ (by rintro rfl; exact hbi.1 ht), upd_ne _ _ (by rintro rfl; exact hno i hi ht)]
      · simp at ht
        subst ht
        rw [upd_ne _ _ (Ne.symm hbi.2), upd_ne _ _ (by omega)]

theorem filter_mid {a b : List Int} {x : Int} (h : (a ++ x :: b).Nodup) : (a ++ x :: b).filter (fun y => y != x) = a ++ b := by
  rw [List.nodup_append] at h
  have ha : a.filter (fun y => y != x) = a := List.filter_eq_self.2 fun y hy => by simpa using h.2.2 y hy x (by simp)
  have hb : b.filter (fun y => y != x) = b := List.filter_eq_self.2 fun y hy => by
    have := (List.nodup_cons.1 h.2.1).1
    simp
    rintro rfl
    exact this hy
  simp [List.filter_append, ha, hb]

/-- Two ways that meet at x, joined where x is left out. -/
theorem Link.cut {nx pv : Int → Int} {e x f : Int} {l m : List Int} (h1 : Link nx pv e l x) (h2 : Link nx pv x m f) (hn : (l ++ x :: m).Nodup) (he : e ∉ l ++ x :: m) (hf : f ∉ l ++ x :: m) :
    Link (upd nx (pv x) (nx x)) (upd pv (nx x) (pv x)) e (l ++ m) f := by
  rw [List.nodup_append] at hn
  obtain ⟨hnl, hxm, hlm⟩ := hn
  rw [List.nodup_cons] at hxm
  simp only [List.mem_append, List.mem_cons, not_or] at he hf
  -- where the first way ends
  have ha : (pv x = e ∧ l = []) ∨ ∃ k, l = k ++ [pv x] ∧ Link nx pv e k (pv x) := by
    rcases List.eq_nil_or_concat l with hl | ⟨k, y, hl⟩
    · subst hl; exact .inl ⟨h1.2, rfl⟩
    · rw [List.concat_eq_append] at hl
      rw [hl, Link.app] at h1
      have : pv x = y := h1.2.2
      rw [this]
      exact .inr ⟨k, hl, h1.1⟩
  have hb : (nx x = f ∧ m = []) ∨ ∃ k, m = nx x :: k ∧ Link nx pv (nx x) k f := by
    rcases m with _ | ⟨y, k⟩
    · exact .inl ⟨h2.1, rfl⟩
    · have : nx x = y := h2.1
      rw [this]
      exact .inr ⟨k, rfl, h2.2.2⟩
  generalize pv x = a at *
  generalize nx x = b at *
  have hlast : ∀ c, (c = a) → Link (upd nx a b) (upd pv b a) c m f := by
    rintro c rfl
    rcases hb with ⟨rfl, rfl⟩ | ⟨k, rfl, hk⟩
    · exact ⟨upd_at .., upd_at ..⟩
    · rw [List.nodup_cons] at hxm
      refine ⟨upd_at .., upd_at .., hk.frame (fun s hs => upd_ne _ _ ?_) (fun t ht => upd_ne _ _ ?_)⟩
      · rintro rfl
        rcases ha with ⟨rfl, _⟩ | ⟨j, rfl, _⟩
        · exact he.2.2 hs
        · exact hlm s (by simp) s (by simp only [List.mem_cons]; exact .inr (List.mem_cons.1 hs)) rfl
      · rintro rfl
        rcases List.mem_append.1 ht with ht | ht
        · exact hxm.2.1 ht
        · simp at ht; exact hf.2.2 (by simp [ht])
  rcases ha with ⟨rfl, rfl⟩ | ⟨j, rfl, hj⟩
  · exact hlast _ rfl
  · rw [List.append_assoc, List.singleton_append, Link.app]
    refine ⟨hj.frame (fun s hs => upd_ne _ _ ?_) (fun t ht => upd_ne _ _ ?_), hlast _ rfl⟩
    · rintro rfl
      rcases List.mem_cons.1 hs with rfl | hs
      · exact he.1 (by simp)
      · exact (List.nodup_append.1 hnl).2.2 s hs s (by simp) rfl
    · rintro rfl
      rcases hb with ⟨rfl, _⟩ | ⟨k, rfl, _⟩
      · exact hf.1 (by simpa using ht)
      · exact hlm t (by simpa using ht) t (by simp) rfl

theorem lk_drop {L : List (List Int)} {N : Int} {nx pv rw : Int → Int} (h : Lk L N nx pv rw) {r : Nat} {x : Int} (hx : inL L x = r) :
    Lk (L.set r ((L.getD r []).filter (fun y => y != x))) N (upd nx (pv x) (nx x)) (upd pv (nx x) (pv x)) (upd rw x (-1)) := by
  obtain ⟨hr, hm⟩ := mem_of_inL hx
  have ho := once_of h.ok.once
  have hN := h.ok.n1
  have hxb := h.ok.node hr hm
  have hok : Ok (L.set r ((L.getD r []).filter (fun y => y != x))) N :=
    ok_set h.ok hr ((ho.one r hr).filter _) (fun y hy => h.ok.node hr (List.mem_filter.1 hy).1) (fun y hy => .inl (List.mem_filter.1 hy).1)
  have hxn : inL (L.set r ((L.getD r []).filter (fun y => y != x))) x = -1 := inL_none fun j hj hm' => by
    rw [getD_set _ _ _ _ hr] at hm'
    simp only [List.length_set] at hj
    by_cases ej : j = r
    · rw [if_pos ej] at hm'; simp at hm'
    · rw [if_neg ej] at hm'; exact ej (ho.two j r x hj hr hm' hm)
  refine ⟨hok, fun i hi => ?_, row_new h.row hr hok hxn (fun y hy => by simp [hy])⟩
  simp only [List.length_set] at hi
  rw [getD_set _ _ _ _ hr]
  obtain ⟨l, m, hl⟩ := List.append_of_mem hm
  have hk := h.ring r hr
  have hnd := ho.one r hr
  have hends : ∀ i : Nat, (1000 + (i : Int)) ∉ L.getD r [] := fun i hmm => by have := h.ok.node hr hmm; omega
  rw [hl, Link.app] at hk
  by_cases e : i = r
  · subst e
    rw [if_pos rfl, hl, filter_mid (hl ▸ hnd)]
    exact hk.1.cut hk.2 (hl ▸ hnd) (hl ▸ hends i) (hl ▸ hends i)
  · rw [if_neg e]
    have hpv : pv x = 1000 + r ∨ pv x ∈ L.getD r [] := by
      rcases List.eq_nil_or_concat l with hl' | ⟨k, y, hl'⟩
      · have h1 := hk.1
        rw [hl'] at h1; exact .inl h1.2
      · rw [List.concat_eq_append] at hl'
        have h1 := hk.1
        rw [hl', Link.app] at h1
        have : pv x = y := h1.2.2
        rw [this, hl, hl']; exact .inr (by simp)
    have hnx : nx x = 1000 + r ∨ nx x ∈ L.getD r [] := by
      rcases m with _ | ⟨y, k⟩
      · exact .inl hk.2.1
      · have : nx x = y := hk.2.1
        rw [this, hl]; exact .inr (by simp)
    have hfar : ∀ s, s = 1000 + (r : Int) ∨ s ∈ L.getD r [] → s ≠ 1000 + (i : Int) ∧ s ∉ L.getD i [] := by
      rintro s (rfl | hs)
      · exact ⟨by omega, fun hm' => by have := h.ok.node hi hm'; omega⟩
      · exact ⟨by have := h.ok.node hr hs; omega, fun hm' => e (ho.two i r s hi hr hm' hs)⟩
    refine (h.ring i hi).frame (fun s hs => upd_ne _ _ ?_) (fun t ht => upd_ne _ _ ?_)
    · rintro rfl
      rcases List.mem_cons.1 hs with hs | hs
      · exact (hfar _ hpv).1 hs
      · exact (hfar _ hpv).2 hs
    · rintro rfl
      rcases List.mem_append.1 ht with ht | ht
      · exact (hfar _ hnx).2 ht
      · simp at ht; exact (hfar _ hnx).1 ht
end Go.Proofs.Ytbkeodjebfkkdaa.RingP
