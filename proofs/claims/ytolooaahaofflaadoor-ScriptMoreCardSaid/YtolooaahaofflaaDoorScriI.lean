/-
  What the laws of layer 17 ask of package script, as one structure, in every world behind a first one; calls over things at hand. Conditions: those that each statement names.
-/
import Derived.Test.YtolooaahaofflaaDoorRefScrF
namespace Go.Proofs.YtolooaahaofflaaDoor.ScriI
open Go.ChangeShapes Go.WideShapes Go.ChangeAt Go.RowKit Mem MutP CodeP ScriptP Hand RefCode CodeI Scr RefScr

/-- The functions of package script, in every world behind a first one. -/
structure Cs (W : World) : Prop where
  right : ∀ (x : It) (w : World), Below W.heap.size W w → InIt x → Calls Tryd.prog 13 #[.agg #[.int .i64 x.d, .int .i64 x.a, .int .i64 x.n]] w fun e w' => e = .returned (.bool (rightI x)) ∧ Below w.heap.size w w'
  may : ∀ {w : World} {G : Nat → Prop} {q : Sv} {s : Sc}, Below W.heap.size W w → RdS w G q s → Small s → InSc s → Calls Tryd.prog 15 #[.agg q.arr] w fun e w' => e = .returned (.bool (mayS s)) ∧ Below w.heap.size w w'
  bytes : ∀ {w : World} {G : Nat → Prop} {q : Sv} {s : Sc}, Below W.heap.size W w → RdS w G q s → Small s → InSc s → Calls Tryd.prog 8 #[.agg q.arr] w fun e w' => ∃ A' n' c', n' ≤ c' ∧ e = .returned (.tuple #[.slice A' n' c', .int .i64 (bytesSE s)]) ∧ SaysL byE w w' (.slice A' n' c') (bytesSR s)
  read : ∀ {w : World} {G : Nat → Prop} {A : Option Addr} {n c : Nat} {b : List Int}, Below W.heap.size W w → RdL byE w G (.slice A n c) b → n ≤ c → (∀ x ∈ b, Byte x) → Calls Tryd.prog 11 #[.slice A n c] w fun e w' => ∃ q, e = .returned (.tuple #[.agg q.arr, .int .i64 (readSE b)]) ∧ SaysS w w' q (readS b)
  same : ∀ {w : World} {G G' : Nat → Prop} {q q' : Sv} {s t : Sc}, Below W.heap.size W w → RdS w G q s → RdS w G' q' t → Small s → Small t → InSc s → InSc t → Calls Tryd.prog 19 #[.agg q.arr, .agg q'.arr] w fun e w' => e = .returned (.bool (decide (s = t))) ∧ Below w.heap.size w w'
theorem Cs.later {W w : World} (I : Cs W) (h : Below W.heap.size W w) : Cs w where
  right := fun x w' hb => I.right x w' (h.trans (hb.mono h.size))
  may := fun hb => I.may (h.trans (hb.mono h.size))
  bytes := fun hb => I.bytes (h.trans (hb.mono h.size))
  read := fun hb => I.read (h.trans (hb.mono h.size))
  same := fun hb => I.same (h.trans (hb.mono h.size))

theorem small_may {s : Sc} (h : mayS s = true) : Small s := by
  obtain ⟨_, h2, _, h4, h5, _⟩ := mayS_iff.1 h
  exact ⟨by omega, fun p hp => by have := (may_iff.1 (h2 p hp)).2.2; omega, by omega⟩
theorem zero_in : InSc zeroS := by
  refine ⟨rfl, fun x hx => ?_, fun p hp => ?_, fun x hx => ?_⟩
  · have hx : x ∈ ([0, 0, 0, 0] : List Int) := hx
    simp at hx
    subst hx
    exact ⟨by decide, by decide⟩
  · cases hp
  · cases hx
theorem zero_small : Small zeroS := ⟨Nat.zero_le _, (fun p hp => by cases hp), Nat.zero_le _⟩
theorem readS_in {b : List Int} (hb : ∀ x ∈ b, Byte x) : Small (readS b) ∧ InSc (readS b) := by
  by_cases h : readSE b = 0
  · obtain ⟨h1, h2, _⟩ := forthS h hb
    exact ⟨small_may h1, h2⟩
  · rw [show readS b = zeroS by unfold readS; rw [if_neg h]]
    exact ⟨zero_small, zero_in⟩
theorem it_byte {x : It} (h : rightI x = true) : ∀ y ∈ itL x, Byte y := by
  obtain ⟨⟨d0, d1⟩, a0, a1⟩ := rightI_small h
  intro y hy
  unfold itL at hy
  rcases List.mem_append.1 hy with hy | hy
  · simp at hy
    unfold Byte
    rcases hy with rfl | rfl <;> omega
  · exact bytesOf_byte 8 _ y hy
theorem ins_byteS {x : In} {k : Int} (h : rightB x k = true) : ∀ y ∈ insL x, Byte y := by
  obtain ⟨⟨o0, o1⟩, ⟨a0, a1⟩, b0, b1⟩ := right_small h
  intro y hy
  unfold insL at hy
  rcases List.mem_append.1 hy with hy | hy
  · simp at hy
    unfold Byte
    rcases hy with rfl | rfl | rfl <;> omega
  · exact bytesOf_byte 8 _ y hy
theorem prog_byte {l : List In} (h : mayB l = true) : ∀ y ∈ bytesL l, Byte y := by
  obtain ⟨h1, h2, h3⟩ := may_iff.1 h
  intro y hy
  unfold bytesL at hy
  rcases List.mem_cons.1 hy with rfl | hy
  · unfold Byte; omega
  · unfold bodyL at hy
    obtain ⟨x, hx, hy⟩ := List.mem_flatMap.1 hy
    exact ins_byteS (h1 x hx) y hy
theorem bytesS_byte {s : Sc} (h : mayS s = true) : ∀ y ∈ bytesS s, Byte y := by
  obtain ⟨_, h2, h3, h4, _, _⟩ := mayS_iff.1 h
  intro y hy
  unfold bytesS at hy
  rcases List.mem_append.1 hy with hy | hy
  · unfold roomsL at hy
    obtain ⟨x, _, hy⟩ := List.mem_flatMap.1 hy
    exact bytesOf_byte 8 _ y hy
  · rcases List.mem_cons.1 hy with rfl | hy
    · unfold Byte; omega
    · rcases List.mem_append.1 hy with hy | hy
      · unfold progsL at hy
        obtain ⟨x, hx, hy⟩ := List.mem_flatMap.1 hy
        exact prog_byte (h2 x hx) y hy
      · unfold itemsL at hy
        obtain ⟨x, hx, hy⟩ := List.mem_flatMap.1 hy
        exact it_byte (h3 x hx) y hy
theorem bytesSR_in {s : Sc} (hi : InSc s) : (∀ y ∈ bytesSR s, Byte y) ∧ (bytesSR s).length ≤ 4000 := by
  unfold bytesSR
  split
  · rename_i h
    exact ⟨bytesS_byte h, by rw [bytesS_len hi.1]; exact (mayS_iff.1 h).2.2.2.2.2⟩
  · exact ⟨by simp, by simp⟩

section
variable {w wk : World} {Rs : List Res} {G G' : Nat → Prop} {q q' : Sv} {s t : Sc} {A A' : Option Addr} {n n' c c' : Nat} {b b' : List Int}
theorem c_right (I : Cs w) (h : Sep (fun _ => False) w wk Rs) (x : It) (hx : InIt x) {r : Bool} (hr : rightI x = r) : Calls Tryd.prog 13 #[.agg #[.int .i64 x.d, .int .i64 x.a, .int .i64 x.n]] wk fun e wn => e = .returned (.bool r) ∧ Sep (fun _ => False) w wn Rs := by
  subst hr
  exact (I.right x wk h.old hx).mono fun _ _ ⟨he, hb⟩ => ⟨he, h.next hb⟩
theorem c_may (I : Cs w) (h : Sep (fun _ => False) w wk Rs) (hr : RdS wk G q s) (hs : Small s) (hi : InSc s) {r : Bool} (hb : mayS s = r) : Calls Tryd.prog 15 #[.agg q.arr] wk fun e wn => e = .returned (.bool r) ∧ Sep (fun _ => False) w wn Rs := by
  subst hb
  exact (I.may h.old hr hs hi).mono fun _ _ ⟨he, hb⟩ => ⟨he, h.next hb⟩
theorem c_bytes (I : Cs w) (h : Sep (fun _ => False) w wk Rs) (hr : RdS wk G q s) (hs : Small s) (hi : InSc s) {E : Int} {R : List Int} {k : Nat} (hE : bytesSE s = E) (hR : bytesSR s = R) (hk : R.length = k) : Calls Tryd.prog 8 #[.agg q.arr] wk fun e wn => ∃ A' c', k ≤ c' ∧ e = .returned (.tuple #[.slice A' k c', .int .i64 E]) ∧ Sep (fun _ => False) w wn (told byE (.slice A' k c') R :: Rs) := by
  subst hE hR hk
  refine (I.bytes h.old hr hs hi).mono ?_
  rintro e wn ⟨A', n', c', hc', rfl, hs⟩
  obtain rfl := len_of hs.1
  exact ⟨A', c', hc', rfl, SaysL.sep h hs⟩
theorem c_read (I : Cs w) (h : Sep (fun _ => False) w wk Rs) (hr : RdL byE wk G (.slice A n c) b) (hc : n ≤ c) (hl : ∀ x ∈ b, Byte x) {E : Int} {S : Sc} (hE : readSE b = E) (hS : readS b = S) : Calls Tryd.prog 11 #[.slice A n c] wk fun e wn => ∃ q : Sv, e = .returned (.tuple #[.agg q.arr, .int .i64 E]) ∧ Sep (fun _ => False) w wn (scr q S :: Rs) := by
  subst hE hS
  refine (I.read h.old hr hc hl).mono ?_
  rintro e wn ⟨q, rfl, hs⟩
  exact ⟨q, rfl, SaysS.sep h hs⟩
theorem c_same (I : Cs w) (h : Sep (fun _ => False) w wk Rs) (ha : RdS wk G q s) (hb : RdS wk G' q' t) (hs : Small s) (ht : Small t) (his : InSc s) (hit : InSc t) {r : Bool} (hr : decide (s = t) = r) : Calls Tryd.prog 19 #[.agg q.arr, .agg q'.arr] wk fun e wn => e = .returned (.bool r) ∧ Sep (fun _ => False) w wn Rs := by
  subst hr
  exact (I.same h.old ha hb hs ht his hit).mono fun _ _ ⟨he, hb⟩ => ⟨he, h.next hb⟩
theorem d_right (h : Sep (fun _ => False) w wk Rs) (x : It) {r : Bool} (hr : rightI x = r) : Calls Tryd.prog 14 #[.agg #[.int .i64 x.d, .int .i64 x.a, .int .i64 x.n]] wk fun e wn => e = .returned (.bool r) ∧ Sep (fun _ => False) w wn Rs := by
  subst hr
  exact (right_s x wk).mono fun _ _ ⟨he, hb⟩ => ⟨he, h.next hb⟩
theorem d_may (h : Sep (fun _ => False) w wk Rs) (hr : RdS wk G q s) (hs : Small s) {r : Bool} (hb : mayS s = r) : Calls Tryd.prog 16 #[.agg q.arr] wk fun e wn => e = .returned (.bool r) ∧ Sep (fun _ => False) w wn Rs := by
  subst hb
  exact (may_s hr hs).mono fun _ _ ⟨he, hb⟩ => ⟨he, h.next hb⟩
theorem d_bytes (h : Sep (fun _ => False) w wk Rs) (hr : RdS wk G q s) (hs : Small s) (hi : InSc s) {E : Int} {R : List Int} {k : Nat} (hE : bytesSE s = E) (hR : bytesSR s = R) (hk : R.length = k) : Calls Tryd.prog 9 #[.agg q.arr] wk fun e wn => ∃ A' c', k ≤ c' ∧ e = .returned (.tuple #[.slice A' k c', .int .i64 E]) ∧ Sep (fun _ => False) w wn (told byE (.slice A' k c') R :: Rs) := by
  subst hE hR hk
  refine (bytes_s hr hs hi).mono ?_
  rintro e wn ⟨u, rfl, hs, hf⟩
  obtain ⟨A', c', rfl⟩ := hs.1.form
  exact ⟨A', c', hf _ _ _ rfl, rfl, SaysL.sep h hs⟩
theorem d_read (h : Sep (fun _ => False) w wk Rs) (hr : RdL byE wk G (.slice A n c) b) (hc : n ≤ c) (hl : ∀ x ∈ b, Byte x) {E : Int} {S : Sc} (hE : readSE b = E) (hS : readS b = S) : Calls Tryd.prog 12 #[.slice A n c] wk fun e wn => ∃ q : Sv, e = .returned (.tuple #[.agg q.arr, .int .i64 E]) ∧ Sep (fun _ => False) w wn (scr q S :: Rs) := by
  subst hE hS
  obtain rfl := len_of hr
  refine (read_s hr hl hc).mono ?_
  rintro e wn ⟨q, rfl, hs⟩
  exact ⟨q, rfl, SaysS.sep h hs⟩
theorem d_same (h : Sep (fun _ => False) w wk Rs) (ha : RdS wk G q s) (hb : RdS wk G' q' t) {r : Bool} (hr : decide (s = t) = r) : Calls Tryd.prog 18 #[.agg q.arr, .agg q'.arr] wk fun e wn => e = .returned (.bool r) ∧ Sep (fun _ => False) w wn Rs := by
  subst hr
  exact (same_s ha hb).mono fun _ _ ⟨he, hb⟩ => ⟨he, h.next hb⟩
theorem d_sameB (h : Sep (fun _ => False) w wk Rs) (ha : RdL byE wk G (.slice A n c) b) (hb : RdL byE wk G' (.slice A' n' c') b') {r : Bool} (hr : decide (b = b') = r) : Calls Tryd.prog 17 #[.slice A n c, .slice A' n' c'] wk fun e wn => e = .returned (.bool r) ∧ Sep (fun _ => False) w wn Rs := by
  subst hr
  exact (bytes_c ha hb).mono fun _ _ ⟨he, k, hw⟩ => ⟨he, by rw [hw]; exact h.drewN k⟩
theorem o_own (h : Sep (fun _ => False) w wk Rs) (hr : RdS wk G q s) (hs : Small s) : Calls Tryd.prog 10 #[.agg q.arr] wk fun e wn => ∃ q' : Sv, e = .returned (.agg q'.arr) ∧ Sep (fun _ => False) w wn (scr q' s :: Rs) := by
  refine (own_s hr hs).mono ?_
  rintro e wn ⟨q, rfl, hs⟩
  exact ⟨q, rfl, SaysS.sep h hs⟩
theorem o_large {qs : List (Pl In)} {xs : List It} (h : Sep (fun _ => False) w wk Rs) (hq : ScIn w q qs xs) {r : Bool} (hr : largeB q qs = r) : Calls Tryd.prog 7 #[.agg q.arr] wk fun e wn => e = .returned (.bool r) ∧ Sep (fun _ => False) w wn Rs := by
  subst hr
  exact (large_s hq h.old).mono fun _ _ ⟨he, hb⟩ => ⟨he, h.next hb⟩
/-- The cells of a script in a block of its own. -/
def Bx (V : World) (g : Nat) (q : Sv) : Prop := V.cell? ⟨g, 0, none⟩ = some (.int .i64 q.r0) ∧ V.cell? ⟨g, 1, none⟩ = some (.int .i64 q.r1) ∧ V.cell? ⟨g, 2, none⟩ = some (.int .i64 q.r2) ∧ V.cell? ⟨g, 3, none⟩ = some (.int .i64 q.r3) ∧ V.cell? ⟨g, 4, none⟩ = some (.slice q.pA q.pn q.pc) ∧ V.cell? ⟨g, 5, none⟩ = some (.slice q.xA q.xn q.xc)
theorem bx_at {g : Nat} {T : TypeId} (h : Sep (fun _ => False) w wk Rs) (i : Nat) (hi : Rs[i]? = some (blk g (.cells q.arr T))) : Bx wk g q := by
  have hb := h.blk_at i hi
  exact ⟨(cell_block hb 0).trans rfl, (cell_block hb 1).trans rfl, (cell_block hb 2).trans rfl, (cell_block hb 3).trans rfl, (cell_block hb 4).trans rfl, (cell_block hb 5).trans rfl⟩
/-- The cells of an item in a block of its own. -/
def Bi (V : World) (g : Nat) (x : It) : Prop := V.cell? ⟨g, 0, none⟩ = some (.int .i64 x.d) ∧ V.cell? ⟨g, 1, none⟩ = some (.int .i64 x.a) ∧ V.cell? ⟨g, 2, none⟩ = some (.int .i64 x.n)
theorem bi_at {g : Nat} {T : TypeId} {x : It} (h : Sep (fun _ => False) w wk Rs) (i : Nat) (hi : Rs[i]? = some (blk g (.cells #[.int .i64 x.d, .int .i64 x.a, .int .i64 x.n] T))) : Bi wk g x := by
  have hb := h.blk_at i hi
  exact ⟨(cell_block hb 0).trans rfl, (cell_block hb 1).trans rfl, (cell_block hb 2).trans rfl⟩
end
end Go.Proofs.YtolooaahaofflaaDoor.ScriI
