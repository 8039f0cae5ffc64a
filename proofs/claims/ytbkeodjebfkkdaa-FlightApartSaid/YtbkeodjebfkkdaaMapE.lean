/-
  A store into a map of one's own that goes in two steps (its entry first, then what it holds), where the key isn't there yet. Over any program. No condition.
-/
import Derived.Test.YtbkeodjebfkkdaaMutP
import Derived.Maps.OwnSet
import Derived.WideKeyEntry
namespace Go.Proofs.Ytbkeodjebfkkdaa.Hand
open Go.ChangeShapes Go.WideShapes Go.ChangeAt Go.RowKit Go.Maps Go.ChangeMaps

section
variable {H : Type} {P : Program} {k e t : TypeId} {R : Value → Option (DataW H × List MemPlace)} {w : World} {b n : Nat} {D : DataW H}
theorem block_twice (w : World) (b : Nat) (o o' : Obj) : setBlock (setBlock w b o) b o' = setBlock w b o' := by
  unfold setBlock
  simp
/-- A new key: its entry holds the zero value, then what is stored. -/
theorem own_entry (h : w.ownsMap P k R b n D) (K : Keyed P k) (ht : P.underlying t = some (.map k e)) {z : Value} (hz : ∀ u : World, (zeroValue e).run P u = .ok z u) (hn : n < maxLen) {key : Value} {kl : Lit} (hkey : keyOf P k key = some kl) (hno : Maps.has D kl = false) :
    ∃ (st : Nat) (w1 : World), (Instr.mapEntry t (.map (some b)) key).run P w = .ok (.tuple #[z, goInt st]) w1 ∧ w.mapTurned w1 b ∧
      ∀ (val : Value) (d : DataW H) (ps : List MemPlace), R val = some (d, ps) → ∃ w3, (Instr.entryStore t (.map (some b)) (goInt st) val).run P w1 = .ok () w3 ∧ w3.ownsMap P k R b (n + 1) (D.put kl d) ∧ w.mapTurned w3 b := by
  have h0 := h
  obtain ⟨es, clock, hb, F, hs, rfl⟩ := h
  rcases Maps.fit_look false K ht (hz w) hb F hkey with ⟨_, habs, _⟩ | ⟨e0, y, _, _, _, _, hat, _⟩
  · have hf : (Instr.findKey k key es.toList).run P w = .ok none w := by
      rcases K.find w hkey es.toList F.keys with ⟨h1, _⟩ | ⟨j, e0, _, h2, h3⟩
      · exact h1
      · exact absurd h3 (habs e0 (List.mem_of_getElem? h2))
    have hnew := heap_setBlock_same hb (.map (es.push ⟨key, z, clock⟩) (clock + 1))
    refine ⟨clock, setBlock w b (.map (es.push ⟨key, z, clock⟩) (clock + 1)), ?_, ⟨es, clock, _, _, hb, rfl⟩, fun val d ps hv => ?_⟩
    · simp [Instr.mapEntry, run_underlying ht, MapKept.run_getObj_map hb, K.check w false hkey, hf, hz, MapKept.run_setObj_map _ hb, Result.andThen, setBlock]
    · obtain ⟨w3, hrun, hown, htn⟩ := h0.store K ht hn hkey hv
      have hup : (Instr.mapUpdate t (.map (some b)) key val).run P w = .ok () (setBlock w b (.map (es.push ⟨key, val, clock⟩) (clock + 1))) := by
        simp [Instr.mapUpdate, run_underlying ht, MapKept.run_getObj_map hb, K.check w false hkey, hf, MapKept.run_setObj_map _ hb, Result.andThen, setBlock]
      rw [hup] at hrun
      injection hrun with _ hw3
      refine ⟨w3, ?_, hown, htn⟩
      have hat : (es.push (⟨key, z, clock⟩ : MapEntry))[es.size]? = some ⟨key, z, clock⟩ := by simp
      have hidx : (es.push (⟨key, z, clock⟩ : MapEntry)).findIdx? (fun e => ((e.born : Nat) : Int) == ((clock : Nat) : Int)) = some es.size := by
        have hst := MapKept.stamped_push (val := z) F.stamped habs
        rw [WideElems.findIdx_arr]
        exact WideElems.findIdx_born (e0 := ⟨key, z, clock⟩) hst.2.1 (by rw [Array.getElem?_toList]; exact hat)
      have hmod : (es.push (⟨key, z, clock⟩ : MapEntry)).modify es.size (fun e => { e with val := val }) = es.push ⟨key, val, clock⟩ := by
        apply Array.ext'
        rw [Array.toList_modify, Array.toList_push, Array.toList_push, ← Array.length_toList, WideElems.modify_last]
      have hr : (Instr.entryStore t (.map (some b)) (goInt clock) val).run P (setBlock w b (.map (es.push ⟨key, z, clock⟩) (clock + 1))) = .ok () (setBlock (setBlock w b (.map (es.push ⟨key, z, clock⟩) (clock + 1))) b (.map (es.push ⟨key, val, clock⟩) (clock + 1))) := by
        simp [Instr.entryStore, MapKept.run_getObj_map hnew, asInt, asIntOf, goInt, hidx, hmod, MapKept.run_setObj_map _ hnew, Result.andThen]
        rfl
      rw [hr, block_twice, hw3]
  · rw [has_true_of_atKey hat] at hno
    cases hno
end
end Go.Proofs.Ytbkeodjebfkkdaa.Hand
