/-
  The law CodeLonger of layer 16 answers true at every input, for package code as it landed, its table of constants tied to the program's text. No condition beyond the statement's own.
-/
import Derived.Test.YtoblkoljaeobkaaDoorCodeLongerRow
import Derived.Test.YtoblkoljaeobkaaDoorCdH
import Derived.Test.YtoblkoljaeobkaaDoorCards
import Derived.Test.YtoblkoljaeobkaaDoorTie
import Derived.SevenTiedAt
namespace Go.Proofs.YtoblkoljaeobkaaDoor
theorem codeLonger_said : Rows.CodeLongerSaid := codeLonger.over fun _ h => CdA.theCo (CodeT.of_laid h)
theorem codeLonger_holds : Rows.CodeLongerCardSaid :=
  Claim7.holds_tied_plain_at .later [] [.data] true _ false
    codeLonger_said (fun _ h => by cases h) (by kernel_rfl) (fun _ h => by cases h) codeLonger_row_tie rfl ⟨rfl, rfl⟩ (by kernel_rfl) rfl
    (fun f fn hf hfn => by
      obtain rfl : f = 5 := Option.some.inj ((show Tryd.prog.funcNamed "countermand/countermandlaw16.CodeLonger" = some 5 by kernel_rfl).symm.trans hf) |>.symm
      obtain rfl : fn = Tryd.f5 := (Option.some.inj (Tryd.func5.symm.trans hfn)).symm
      exact ⟨by kernel_rfl, fun j t ht => by
        have hm : t ∈ Tryd.f5.params.toList := by simpa using Array.mem_of_getElem? ht
        have hall : (Tryd.f5.params.toList.all fun u => !Tryd.prog.wantsStandIn u) = true := by kernel_rfl
        exact (show Tryd.prog.wantsStandIn t = false by simpa using List.all_eq_true.1 hall t hm)⟩)
    (by kernel_rfl)
#print axioms codeLonger_holds
end Go.Proofs.YtoblkoljaeobkaaDoor
