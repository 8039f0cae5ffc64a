/-
  The law ScriptBack of layer 17 answers true at every input, for package script as it landed, the table of constants of package code tied to the program's text. No condition beyond the statement's own.
-/
import Derived.Test.YtolooaahaofflaaDoorScriptBackRow
import Derived.Test.YtolooaahaofflaaDoorCdH
import Derived.Test.YtolooaahaofflaaDoorScThe
import Derived.Test.YtolooaahaofflaaDoorCards
import Derived.Test.YtolooaahaofflaaDoorTie
import Derived.SevenTiedAt
namespace Go.Proofs.YtolooaahaofflaaDoor
theorem scriptBack_said : Rows.ScriptBackSaid := scriptBack.over fun _ h => ScA.theCs (CodeT.of_laid h)
theorem scriptBack_holds : Rows.ScriptBackCardSaid :=
  Claim7.holds_tied_plain_at .later [] [.data] true _ false
    scriptBack_said (fun _ h => by cases h) (by kernel_rfl) (fun _ h => by cases h) scriptBack_row_tie rfl ⟨rfl, rfl⟩ (by kernel_rfl) rfl
    (fun f fn hf hfn => by
      obtain rfl : f = 4 := Option.some.inj ((show Tryd.prog.funcNamed "countermand/countermandlaw17.ScriptBack" = some 4 by kernel_rfl).symm.trans hf) |>.symm
      obtain rfl : fn = Tryd.f4 := (Option.some.inj (Tryd.func4.symm.trans hfn)).symm
      exact ⟨by kernel_rfl, fun j t ht => by
        have hm : t ∈ Tryd.f4.params.toList := by simpa using Array.mem_of_getElem? ht
        have hall : (Tryd.f4.params.toList.all fun u => !Tryd.prog.wantsStandIn u) = true := by kernel_rfl
        exact (show Tryd.prog.wantsStandIn t = false by simpa using List.all_eq_true.1 hall t hm)⟩)
    (by kernel_rfl)
#print axioms scriptBack_holds
end Go.Proofs.YtolooaahaofflaaDoor
