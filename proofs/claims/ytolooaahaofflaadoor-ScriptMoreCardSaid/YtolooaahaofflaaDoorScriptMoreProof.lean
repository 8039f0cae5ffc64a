/-
  The law ScriptMore of layer 17 answers true at every input, for package script as it landed, the table of constants of package code tied to the program's text. No condition beyond the statement's own.
-/
import Derived.Test.YtolooaahaofflaaDoorScriptMoreRow
import Derived.Test.YtolooaahaofflaaDoorCdH
import Derived.Test.YtolooaahaofflaaDoorScThe
import Derived.Test.YtolooaahaofflaaDoorCards
import Derived.Test.YtolooaahaofflaaDoorTie
import Derived.SevenTiedAt
namespace Go.Proofs.YtolooaahaofflaaDoor
theorem scriptMore_said : Rows.ScriptMoreSaid := scriptMore.over fun _ h => ScA.theCs (CodeT.of_laid h)
theorem scriptMore_holds : Rows.ScriptMoreCardSaid :=
  Claim7.holds_tied_plain_at .later [] [.data] true _ false
    scriptMore_said (fun _ h => by cases h) (by kernel_rfl) (fun _ h => by cases h) scriptMore_row_tie rfl ⟨rfl, rfl⟩ (by kernel_rfl) rfl
    (fun f fn hf hfn => by
      obtain rfl : f = 5 := Option.some.inj ((show Tryd.prog.funcNamed "countermand/countermandlaw17.ScriptMore" = some 5 by kernel_rfl).symm.trans hf) |>.symm
      obtain rfl : fn = Tryd.f5 := (Option.some.inj (Tryd.func5.symm.trans hfn)).symm
      exact ⟨by kernel_rfl, fun j t ht => by
        have hm : t ∈ Tryd.f5.params.toList := by simpa using Array.mem_of_getElem? ht
        have hall : (Tryd.f5.params.toList.all fun u => !Tryd.prog.wantsStandIn u) = true := by kernel_rfl
        exact (show Tryd.prog.wantsStandIn t = false by simpa using List.all_eq_true.1 hall t hm)⟩)
    (by kernel_rfl)
#print axioms scriptMore_holds
end Go.Proofs.YtolooaahaofflaaDoor
