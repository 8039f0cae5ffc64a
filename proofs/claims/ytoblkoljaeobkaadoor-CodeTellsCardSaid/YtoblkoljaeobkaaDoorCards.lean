/-
  DERIVED. GIVEN WITH THE SEED: THE CARDS: each row of YtoblkoljaeobkaaDoorRows.lean that lists a variable, with what it lists TIED to the program's text (the seventh form; the later family's looks); each row that meets fmt, with fmt's text TOLD by the authors' own Lean function (tested against real Go, not proved from fmt's source: count such statements apart). THE CARD IS WHAT COUNTS. Prove the row's statement (the work); the ties are given (YtoblkoljaeobkaaDoorTie.lean); close each card by the builder's one call (the guide's Derived/Test/ToyasCard.lean, 'card_holds'). Laid BY PROGRAM, IN A SANDBOX (cutbox-door.mjs). By AI agents, Wed Nov 11 2026. No macro, syntax, notation, axiom, sorry.
-/
import Derived.Test.YtoblkoljaeobkaaDoorRows
import GoSem.ClaimSeven
namespace Go.Proofs.YtoblkoljaeobkaaDoor
namespace Rows

/-- THE TIED CARD OF 'countermandlaw16.CodeTells'. -/
def codeTellsCard : Claim7 := { stood := { row := codeTellsRow, standIns := [], harness := (true, "3f038f3b376ef054fd206d656f3a69386d303e1e80ede44c7d4fc61b38ffd8a6"), looks := false }, kinds := [], alts := [], laidByText := true, laidKinds := [.data], laidTests := true, laidLooks := .later }
def CodeTellsCardSaid : Prop := Claim7.holds Tryd.pinned (.plain (OpenSpec.ofChange codeTellsSpec)) codeTellsCard

/-- THE TIED CARD OF 'countermandlaw16.CodeBack'. -/
def codeBackCard : Claim7 := { stood := { row := codeBackRow, standIns := [], harness := (true, "3f038f3b376ef054fd206d656f3a69386d303e1e80ede44c7d4fc61b38ffd8a6"), looks := false }, kinds := [], alts := [], laidByText := true, laidKinds := [.data], laidTests := true, laidLooks := .later }
def CodeBackCardSaid : Prop := Claim7.holds Tryd.pinned (.plain (OpenSpec.ofChange codeBackSpec)) codeBackCard

/-- THE TIED CARD OF 'countermandlaw16.CodeLonger'. -/
def codeLongerCard : Claim7 := { stood := { row := codeLongerRow, standIns := [], harness := (true, "3f038f3b376ef054fd206d656f3a69386d303e1e80ede44c7d4fc61b38ffd8a6"), looks := false }, kinds := [], alts := [], laidByText := true, laidKinds := [.data], laidTests := true, laidLooks := .later }
def CodeLongerCardSaid : Prop := Claim7.holds Tryd.pinned (.plain (OpenSpec.ofChange codeLongerSpec)) codeLongerCard

/-- THE SECOND FORM's CARD OF 'countermandlaw16.CodeTells'. -/
def codeTellsUptoCard : Claim7 := { stood := { row := codeTellsUptoRow, standIns := [], harness := (true, "3f038f3b376ef054fd206d656f3a69386d303e1e80ede44c7d4fc61b38ffd8a6"), looks := false }, kinds := [], alts := [], laidByText := true, laidKinds := [.data], laidTests := true, laidLooks := .later }
def CodeTellsUptoCardSaid : Prop := Claim7.holds Tryd.pinned (.plain (OpenSpec.upto codeTellsSpec)) codeTellsUptoCard

/-- THE SECOND FORM's CARD OF 'countermandlaw16.CodeBack'. -/
def codeBackUptoCard : Claim7 := { stood := { row := codeBackUptoRow, standIns := [], harness := (true, "3f038f3b376ef054fd206d656f3a69386d303e1e80ede44c7d4fc61b38ffd8a6"), looks := false }, kinds := [], alts := [], laidByText := true, laidKinds := [.data], laidTests := true, laidLooks := .later }
def CodeBackUptoCardSaid : Prop := Claim7.holds Tryd.pinned (.plain (OpenSpec.upto codeBackSpec)) codeBackUptoCard

/-- THE SECOND FORM's CARD OF 'countermandlaw16.CodeLonger'. -/
def codeLongerUptoCard : Claim7 := { stood := { row := codeLongerUptoRow, standIns := [], harness := (true, "3f038f3b376ef054fd206d656f3a69386d303e1e80ede44c7d4fc61b38ffd8a6"), looks := false }, kinds := [], alts := [], laidByText := true, laidKinds := [.data], laidTests := true, laidLooks := .later }
def CodeLongerUptoCardSaid : Prop := Claim7.holds Tryd.pinned (.plain (OpenSpec.upto codeLongerSpec)) codeLongerUptoCard
end Rows
end Go.Proofs.YtoblkoljaeobkaaDoor
