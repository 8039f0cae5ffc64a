/-
  The law CodeTells of layer 16 answers true at every input, for package code as it landed, its table of constants tied to the program's text. No condition beyond the statement's own.
-/
import Derived.Test.YtoblkoljaeobkaaDoorCodeTellsRow
import Derived.Test.YtoblkoljaeobkaaDoorCdH
import Derived.Test.YtoblkoljaeobkaaDoorCards
import Derived.Test.YtoblkoljaeobkaaDoorTie
import Derived.SevenTiedAt
namespace Go.Proofs.YtoblkoljaeobkaaDoor
theorem codeTells_said : Rows.CodeTellsSaid := codeTells.over fun _ h => CdA.theCo (CodeT.of_laid h)
theorem codeTells_holds : Rows.CodeTellsCardSaid :=
  Claim7.holds_tied_plain_at .later [] [.data] true _ false
    codeTells_said (fun _ h => by cases h) (by kernel_rfl) (fun _ h => by cases h) codeTells_row_tie rfl ⟨rfl, rfl⟩ (by kernel_rfl) rfl
    (fun f fn hf hfn => by
      obtain rfl : f = 3 := Option.some.inj ((show Tryd.prog.funcNamed "countermand/countermandlaw16.CodeTells" = some 3 by kernel_rfl).symm.trans hf) |>.symm
      obtain rfl : fn = Tryd.f3 := (Option.some.inj (Tryd.func3.symm.trans hfn)).symm
      exact ⟨by kernel_rfl, fun j t ht => by
        have hm : t ∈ Tryd.f3.params.toList := by simpa using Array.mem_of_getElem? ht
        have hall : (Tryd.f3.params.toList.all fun u => !Tryd.prog.wantsStandIn u) = true := by kernel_rfl
        exact (show Tryd.prog.wantsStandIn t = false by simpa using List.all_eq_true.1 hall t hm)⟩)
    (by kernel_rfl)
#print axioms codeTells_holds
end Go.Proofs.YtoblkoljaeobkaaDoor
