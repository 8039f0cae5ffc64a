/-
  NARROWER THAN 'FOR EVERY INPUT', by the rows' own cells (each row's printed sentence says how): CodeTells: laid · CodeBack: laid · CodeLonger: laid.
  DERIVED. THE GIVEN ROWS OF THIS SEAT. 3 by the template 'for every input the law returns true; each argument reads behind the call as it read before'; 0 by the template 'total and deterministic' (their statements: YtoblkoljaeobkaaDoorTotals.lean).
  GIVEN WITH THE SEED: the statements are not yours to turn. If you find one false, say at which input.
  Laid BY PROGRAM, IN A SANDBOX (cutbox-rows.mjs): the forced cells as the released guide's own fill.sh prints them over the translation 3d3abc27b1dd29a1… (all of the seat's roots in one cut). By AI agents, Wed Nov 11 2026. No macro, syntax, notation, axiom, sorry.
-/
import Derived.Test.YtoblkoljaeobkaaDoorChecked
import GoSem.Claim
import GoSem.ClaimJoined
import GoSem.ClaimMapViews
import Derived.JoinedTies
import Derived.KernelRfl
namespace Go.Proofs.YtoblkoljaeobkaaDoor
/- THE CELL 'sum', in the pinned program and in every row, IS THE sha256 OF THE DUMP (.gsa) THAT YtoblkoljaeobkaaDoorProg.lean LOADS. Nothing in Lean hashes anything: it is a label: what it is worth is what the hold of that sum in a sandbox is worth. -/
noncomputable def Tryd.pinned : Pinned := { name := "ytoblkoljaeobkaadoor", sum := "3d3abc27b1dd29a1f2e4da2c9d99859fc60b7b2c032f3f0ac12ffa61eaf3ad55", checked := Tryd.checked }
namespace Rows
def none {H : Type} : Left H := { results := [], args := [] }

/- WHAT THE LISTED PACKAGE-LEVEL VARIABLES READ AS WHEN THE CALL BEGINS. Each datum BY PROGRAM (the guide's laid-datum.mjs) off the statement by which the dump's own 'gosem.cut.vars' lays the variable. In a bare row this is a premise. The card (YtoblkoljaeobkaaDoorCards.lean) ties it to the program's text. -/
def laid_countermand_code_forms {H : Type} : DataW H := .agg [.lit (.string [48, 48, 48]), .lit (.string [114, 48, 110]), .lit (.string [114, 114, 48]), .lit (.string [114, 114, 48]), .lit (.string [114, 48, 106]), .lit (.string [114, 114, 106]), .lit (.string [48, 48, 48]), .lit (.string [114, 112, 48]), .lit (.string [114, 48, 48]), .lit (.string [114, 48, 48]), .lit (.string [114, 114, 48]), .lit (.string [114, 114, 110]), .lit (.string [114, 114, 110]), .lit (.string [114, 114, 48]), .lit (.string [114, 48, 110]), .lit (.string [114, 114, 48]), .lit (.string [114, 114, 48]), .lit (.string [114, 114, 110]), .lit (.string [114, 48, 48]), .lit (.string [114, 114, 112]), .lit (.string [114, 48, 48]), .lit (.string [48, 48, 111]), .lit (.string [114, 48, 111]), .lit (.string [114, 48, 111]), .lit (.string [48, 48, 111]), .lit (.string [48, 48, 111]), .lit (.string [48, 48, 111]), .lit (.string [48, 48, 111]), .lit (.string [48, 111, 111]), .lit (.string [114, 111, 111]), .lit (.string [48, 48, 111]), .lit (.string [48, 48, 111]), .lit (.string [114, 48, 111]), .lit (.string [48, 48, 111]), .lit (.string [114, 48, 111]), .lit (.string [48, 48, 111]), .lit (.string [114, 114, 111]), .lit (.string [114, 114, 111]), .lit (.string [114, 48, 111]), .lit (.string [114, 112, 111]), .lit (.string [114, 112, 111]), .lit (.string [114, 48, 111]), .lit (.string [114, 48, 111]), .lit (.string [114, 114, 111]), .lit (.string [114, 48, 111]), .lit (.string [114, 48, 111]), .lit (.string [114, 48, 48])]

/-- 'countermandlaw16.CodeTells': WHATEVER THE INPUT: true; the input reads as it did. -/
def codeTellsSpec : ChangeSpec := { name := "codeTells", fn := fun _ => fun
  | [d1, d2, d3, d4, d5, d6] => { results := [.lit (.bool true)], args := [d1, d2, d3, d4, d5, d6] }
  | _ => none }
def codeTellsRow : OpenClaim := { program := "ytoblkoljaeobkaadoor", sum := "3d3abc27b1dd29a1f2e4da2c9d99859fc60b7b2c032f3f0ac12ffa61eaf3ad55", func := "countermand/countermandlaw16.CodeTells", spec := "codeTells", unfollowed := true, recurses := true, named := ["countermand/code.forms"], apart := false, laid := [("countermand/code.forms", laid_countermand_code_forms)] }
def CodeTellsSaid : Prop := codeTellsRow.holds Tryd.pinned (OpenSpec.ofChange codeTellsSpec)

/-- ITS FALSE NEIGHBOUR: 'it returns false'. Refute it at one input. -/
def codeTellsWrong : ChangeSpec := { name := "codeTells", fn := fun _ => fun
  | [d1, d2, d3, d4, d5, d6] => { results := [.lit (.bool false)], args := [d1, d2, d3, d4, d5, d6] }
  | _ => none }
def CodeTellsWrongFalsely : Prop := codeTellsRow.holds Tryd.pinned (OpenSpec.ofChange codeTellsWrong)

/-- 'countermandlaw16.CodeBack': WHATEVER THE INPUT: true; the input reads as it did. -/
def codeBackSpec : ChangeSpec := { name := "codeBack", fn := fun _ => fun
  | [d1, d2, d3] => { results := [.lit (.bool true)], args := [d1, d2, d3] }
  | _ => none }
def codeBackRow : OpenClaim := { program := "ytoblkoljaeobkaadoor", sum := "3d3abc27b1dd29a1f2e4da2c9d99859fc60b7b2c032f3f0ac12ffa61eaf3ad55", func := "countermand/countermandlaw16.CodeBack", spec := "codeBack", unfollowed := true, recurses := true, named := ["countermand/code.forms"], apart := false, laid := [("countermand/code.forms", laid_countermand_code_forms)] }
def CodeBackSaid : Prop := codeBackRow.holds Tryd.pinned (OpenSpec.ofChange codeBackSpec)

/-- ITS FALSE NEIGHBOUR: 'it returns false'. Refute it at one input. -/
def codeBackWrong : ChangeSpec := { name := "codeBack", fn := fun _ => fun
  | [d1, d2, d3] => { results := [.lit (.bool false)], args := [d1, d2, d3] }
  | _ => none }
def CodeBackWrongFalsely : Prop := codeBackRow.holds Tryd.pinned (OpenSpec.ofChange codeBackWrong)

/-- 'countermandlaw16.CodeLonger': WHATEVER THE INPUT: true; the input reads as it did. -/
def codeLongerSpec : ChangeSpec := { name := "codeLonger", fn := fun _ => fun
  | [d1, d2, d3, d4] => { results := [.lit (.bool true)], args := [d1, d2, d3, d4] }
  | _ => none }
def codeLongerRow : OpenClaim := { program := "ytoblkoljaeobkaadoor", sum := "3d3abc27b1dd29a1f2e4da2c9d99859fc60b7b2c032f3f0ac12ffa61eaf3ad55", func := "countermand/countermandlaw16.CodeLonger", spec := "codeLonger", unfollowed := true, recurses := true, named := ["countermand/code.forms"], apart := false, laid := [("countermand/code.forms", laid_countermand_code_forms)] }
def CodeLongerSaid : Prop := codeLongerRow.holds Tryd.pinned (OpenSpec.ofChange codeLongerSpec)

/-- ITS FALSE NEIGHBOUR: 'it returns false'. Refute it at one input. -/
def codeLongerWrong : ChangeSpec := { name := "codeLonger", fn := fun _ => fun
  | [d1, d2, d3, d4] => { results := [.lit (.bool false)], args := [d1, d2, d3, d4] }
  | _ => none }
def CodeLongerWrongFalsely : Prop := codeLongerRow.holds Tryd.pinned (OpenSpec.ofChange codeLongerWrong)

/- THE SECOND FORM. 'bulk': how many values and letters a reading holds, each counted each time it is reached (what is shared counts as often as it is met; a slice's spare places count too). A statement '..UptoSaid' is the law's where the arguments, and the package variables that the reading takes, are together of bulk at most 1048576: NARROWER than '..Said'. Prove '..Said' where nothing that the law and all that it calls make is longer than what came in: it says more and counts as full. Else prove '..UptoSaid'. A law counts once. -/
mutual
def uptoBulk {H : Type} : DataW H → Nat
  | .lit (.string bytes) => bytes.length + 1
  | .lit _ => 1
  | .nil => 1
  | .ptr d => uptoBulk d + 1
  | .slice elems spare => uptoBulkAll elems + uptoBulkAll spare + 1
  | .agg parts => uptoBulkAll parts + 1
  | .iface _ d => uptoBulk d + 1
  | .map entries => uptoBulkEntries entries + 1
  | .held _ => 1
def uptoBulkAll {H : Type} : List (DataW H) → Nat
  | [] => 0
  | d :: r => uptoBulk d + uptoBulkAll r
def uptoBulkEntries {H : Type} : List (Lit × DataW H) → Nat
  | [] => 0
  | x :: r => uptoBulkEntry x + uptoBulkEntries r
def uptoBulkEntry {H : Type} : Lit × DataW H → Nat
  | (.string bytes, d) => bytes.length + uptoBulk d + 1
  | (_, d) => uptoBulk d + 1
 end
def uptoSmall : (H : Type) → List (DataW H) → Bool := fun _ ds => decide (uptoBulkAll ds ≤ 1048576)
def OpenSpec.upto (s : _root_.Go.ChangeSpec) : _root_.Go.OpenSpec := { _root_.Go.OpenSpec.ofChange s with cond := some uptoSmall }

/-- 'countermandlaw16.CodeTells', WHERE WHAT IT READS IS OF BULK AT MOST 1048576: true; the input reads as it did. -/
def codeTellsUptoRow : OpenClaim := { program := "ytoblkoljaeobkaadoor", sum := "3d3abc27b1dd29a1f2e4da2c9d99859fc60b7b2c032f3f0ac12ffa61eaf3ad55", func := "countermand/countermandlaw16.CodeTells", spec := "codeTells", unfollowed := true, recurses := true, named := ["countermand/code.forms"], apart := false, laid := [("countermand/code.forms", laid_countermand_code_forms)], narrowed := true }
def CodeTellsUptoSaid : Prop := codeTellsUptoRow.holds Tryd.pinned (OpenSpec.upto codeTellsSpec)

/-- 'countermandlaw16.CodeBack', WHERE WHAT IT READS IS OF BULK AT MOST 1048576: true; the input reads as it did. -/
def codeBackUptoRow : OpenClaim := { program := "ytoblkoljaeobkaadoor", sum := "3d3abc27b1dd29a1f2e4da2c9d99859fc60b7b2c032f3f0ac12ffa61eaf3ad55", func := "countermand/countermandlaw16.CodeBack", spec := "codeBack", unfollowed := true, recurses := true, named := ["countermand/code.forms"], apart := false, laid := [("countermand/code.forms", laid_countermand_code_forms)], narrowed := true }
def CodeBackUptoSaid : Prop := codeBackUptoRow.holds Tryd.pinned (OpenSpec.upto codeBackSpec)

/-- 'countermandlaw16.CodeLonger', WHERE WHAT IT READS IS OF BULK AT MOST 1048576: true; the input reads as it did. -/
def codeLongerUptoRow : OpenClaim := { program := "ytoblkoljaeobkaadoor", sum := "3d3abc27b1dd29a1f2e4da2c9d99859fc60b7b2c032f3f0ac12ffa61eaf3ad55", func := "countermand/countermandlaw16.CodeLonger", spec := "codeLonger", unfollowed := true, recurses := true, named := ["countermand/code.forms"], apart := false, laid := [("countermand/code.forms", laid_countermand_code_forms)], narrowed := true }
def CodeLongerUptoSaid : Prop := codeLongerUptoRow.holds Tryd.pinned (OpenSpec.upto codeLongerSpec)

end Rows
end Go.Proofs.YtoblkoljaeobkaaDoor
