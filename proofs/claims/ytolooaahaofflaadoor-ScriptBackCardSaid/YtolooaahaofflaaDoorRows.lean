/-
  NARROWER THAN 'FOR EVERY INPUT', by the rows' own cells (each row's printed sentence says how): ScriptTells: laid · ScriptBack: laid · ScriptMore: laid.
  DERIVED. THE GIVEN ROWS OF THIS SEAT. 3 by the template 'for every input the law returns true; each argument reads behind the call as it read before'; 0 by the template 'total and deterministic' (their statements: YtolooaahaofflaaDoorTotals.lean).
  GIVEN WITH THE SEED: the statements are not yours to turn. If you find one false, say at which input.
  Laid BY PROGRAM, IN A SANDBOX (cutbox-rows.mjs): the forced cells as the released guide's own fill.sh prints them over the translation 9648adaaa3148e44… (all of the seat's roots in one cut). By AI agents, Wed Nov 11 2026. No macro, syntax, notation, axiom, sorry.
-/
import Derived.Test.YtolooaahaofflaaDoorChecked
import GoSem.Claim
import GoSem.ClaimJoined
import GoSem.ClaimMapViews
import Derived.JoinedTies
import Derived.KernelRfl
namespace Go.Proofs.YtolooaahaofflaaDoor
/- THE CELL 'sum', in the pinned program and in every row, IS THE sha256 OF THE DUMP (.gsa) THAT YtolooaahaofflaaDoorProg.lean LOADS. Nothing in Lean hashes anything: it is a label: what it is worth is what the hold of that sum in a sandbox is worth. -/
noncomputable def Tryd.pinned : Pinned := { name := "ytolooaahaofflaadoor", sum := "9648adaaa3148e445d07776fd2456328b32ca13dc3c14b4ba4ce643d84b73dff", checked := Tryd.checked }
namespace Rows
def none {H : Type} : Left H := { results := [], args := [] }

/- WHAT THE LISTED PACKAGE-LEVEL VARIABLES READ AS WHEN THE CALL BEGINS. Each datum BY PROGRAM (the guide's laid-datum.mjs) off the statement by which the dump's own 'gosem.cut.vars' lays the variable. In a bare row this is a premise. The card (YtolooaahaofflaaDoorCards.lean) ties it to the program's text. -/
def laid_countermand_code_forms {H : Type} : DataW H := .agg [.lit (.string [48, 48, 48]), .lit (.string [114, 48, 110]), .lit (.string [114, 114, 48]), .lit (.string [114, 114, 48]), .lit (.string [114, 48, 106]), .lit (.string [114, 114, 106]), .lit (.string [48, 48, 48]), .lit (.string [114, 112, 48]), .lit (.string [114, 48, 48]), .lit (.string [114, 48, 48]), .lit (.string [114, 114, 48]), .lit (.string [114, 114, 110]), .lit (.string [114, 114, 110]), .lit (.string [114, 114, 48]), .lit (.string [114, 48, 110]), .lit (.string [114, 114, 48]), .lit (.string [114, 114, 48]), .lit (.string [114, 114, 110]), .lit (.string [114, 48, 48]), .lit (.string [114, 114, 112]), .lit (.string [114, 48, 48]), .lit (.string [48, 48, 111]), .lit (.string [114, 48, 111]), .lit (.string [114, 48, 111]), .lit (.string [48, 48, 111]), .lit (.string [48, 48, 111]), .lit (.string [48, 48, 111]), .lit (.string [48, 48, 111]), .lit (.string [48, 111, 111]), .lit (.string [114, 111, 111]), .lit (.string [48, 48, 111]), .lit (.string [48, 48, 111]), .lit (.string [114, 48, 111]), .lit (.string [48, 48, 111]), .lit (.string [114, 48, 111]), .lit (.string [48, 48, 111]), .lit (.string [114, 114, 111]), .lit (.string [114, 114, 111]), .lit (.string [114, 48, 111]), .lit (.string [114, 112, 111]), .lit (.string [114, 112, 111]), .lit (.string [114, 48, 111]), .lit (.string [114, 48, 111]), .lit (.string [114, 114, 111]), .lit (.string [114, 48, 111]), .lit (.string [114, 48, 111]), .lit (.string [114, 48, 48])]

/-- 'countermandlaw17.ScriptTells': WHATEVER THE INPUT: true; the input reads as it did. -/
def scriptTellsSpec : ChangeSpec := { name := "scriptTells", fn := fun _ => fun
  | [d1, d2, d3, d4] => { results := [.lit (.bool true)], args := [d1, d2, d3, d4] }
  | _ => none }
def scriptTellsRow : OpenClaim := { program := "ytolooaahaofflaadoor", sum := "9648adaaa3148e445d07776fd2456328b32ca13dc3c14b4ba4ce643d84b73dff", func := "countermand/countermandlaw17.ScriptTells", spec := "scriptTells", unfollowed := true, recurses := true, named := ["countermand/code.forms"], apart := false, laid := [("countermand/code.forms", laid_countermand_code_forms)] }
def ScriptTellsSaid : Prop := scriptTellsRow.holds Tryd.pinned (OpenSpec.ofChange scriptTellsSpec)

/-- ITS FALSE NEIGHBOUR: 'it returns false'. Refute it at one input. -/
def scriptTellsWrong : ChangeSpec := { name := "scriptTells", fn := fun _ => fun
  | [d1, d2, d3, d4] => { results := [.lit (.bool false)], args := [d1, d2, d3, d4] }
  | _ => none }
def ScriptTellsWrongFalsely : Prop := scriptTellsRow.holds Tryd.pinned (OpenSpec.ofChange scriptTellsWrong)

/-- 'countermandlaw17.ScriptBack': WHATEVER THE INPUT: true; the input reads as it did. -/
def scriptBackSpec : ChangeSpec := { name := "scriptBack", fn := fun _ => fun
  | [d1, d2, d3] => { results := [.lit (.bool true)], args := [d1, d2, d3] }
  | _ => none }
def scriptBackRow : OpenClaim := { program := "ytolooaahaofflaadoor", sum := "9648adaaa3148e445d07776fd2456328b32ca13dc3c14b4ba4ce643d84b73dff", func := "countermand/countermandlaw17.ScriptBack", spec := "scriptBack", unfollowed := true, recurses := true, named := ["countermand/code.forms"], apart := false, laid := [("countermand/code.forms", laid_countermand_code_forms)] }
def ScriptBackSaid : Prop := scriptBackRow.holds Tryd.pinned (OpenSpec.ofChange scriptBackSpec)

/-- ITS FALSE NEIGHBOUR: 'it returns false'. Refute it at one input. -/
def scriptBackWrong : ChangeSpec := { name := "scriptBack", fn := fun _ => fun
  | [d1, d2, d3] => { results := [.lit (.bool false)], args := [d1, d2, d3] }
  | _ => none }
def ScriptBackWrongFalsely : Prop := scriptBackRow.holds Tryd.pinned (OpenSpec.ofChange scriptBackWrong)

/-- 'countermandlaw17.ScriptMore': WHATEVER THE INPUT: true; the input reads as it did. -/
def scriptMoreSpec : ChangeSpec := { name := "scriptMore", fn := fun _ => fun
  | [d1, d2] => { results := [.lit (.bool true)], args := [d1, d2] }
  | _ => none }
def scriptMoreRow : OpenClaim := { program := "ytolooaahaofflaadoor", sum := "9648adaaa3148e445d07776fd2456328b32ca13dc3c14b4ba4ce643d84b73dff", func := "countermand/countermandlaw17.ScriptMore", spec := "scriptMore", unfollowed := true, recurses := true, named := ["countermand/code.forms"], apart := false, laid := [("countermand/code.forms", laid_countermand_code_forms)] }
def ScriptMoreSaid : Prop := scriptMoreRow.holds Tryd.pinned (OpenSpec.ofChange scriptMoreSpec)

/-- ITS FALSE NEIGHBOUR: 'it returns false'. Refute it at one input. -/
def scriptMoreWrong : ChangeSpec := { name := "scriptMore", fn := fun _ => fun
  | [d1, d2] => { results := [.lit (.bool false)], args := [d1, d2] }
  | _ => none }
def ScriptMoreWrongFalsely : Prop := scriptMoreRow.holds Tryd.pinned (OpenSpec.ofChange scriptMoreWrong)

/- THE SECOND FORM. 'bulk': how many values and letters a reading holds, each counted each time it is reached (what is shared counts as often as it is met; a slice's spare places count too). A statement '..UptoSaid' is the law's where the arguments, and the package variables that the reading takes, are together of bulk at most 1048576: NARROWER than '..Said'. Prove '..Said' where nothing that the law and all that it calls make is longer than what came in: it says more and counts as full. Else prove '..UptoSaid'. A law counts once. -/
mutual
def uptoBulk {H : Type} : DataW H → Nat
  | .lit (.string bytes) => bytes.length + 1
  | .lit _ => 1
  | .nil => 1
  | .ptr d => uptoBulk d + 1
  | .slice elems spare => uptoBulkAll elems + uptoBulkAll spare + 1
  | .agg parts => uptoBulkAll parts + 1
  | .iface _ d => uptoBulk d + 1
  | .map entries => uptoBulkEntries entries + 1
  | .held _ => 1
def uptoBulkAll {H : Type} : List (DataW H) → Nat
  | [] => 0
  | d :: r => uptoBulk d + uptoBulkAll r
def uptoBulkEntries {H : Type} : List (Lit × DataW H) → Nat
  | [] => 0
  | x :: r => uptoBulkEntry x + uptoBulkEntries r
def uptoBulkEntry {H : Type} : Lit × DataW H → Nat
  | (.string bytes, d) => bytes.length + uptoBulk d + 1
  | (_, d) => uptoBulk d + 1
 end
def uptoSmall : (H : Type) → List (DataW H) → Bool := fun _ ds => decide (uptoBulkAll ds ≤ 1048576)
def OpenSpec.upto (s : _root_.Go.ChangeSpec) : _root_.Go.OpenSpec := { _root_.Go.OpenSpec.ofChange s with cond := some uptoSmall }

/-- 'countermandlaw17.ScriptTells', WHERE WHAT IT READS IS OF BULK AT MOST 1048576: true; the input reads as it did. -/
def scriptTellsUptoRow : OpenClaim := { program := "ytolooaahaofflaadoor", sum := "9648adaaa3148e445d07776fd2456328b32ca13dc3c14b4ba4ce643d84b73dff", func := "countermand/countermandlaw17.ScriptTells", spec := "scriptTells", unfollowed := true, recurses := true, named := ["countermand/code.forms"], apart := false, laid := [("countermand/code.forms", laid_countermand_code_forms)], narrowed := true }
def ScriptTellsUptoSaid : Prop := scriptTellsUptoRow.holds Tryd.pinned (OpenSpec.upto scriptTellsSpec)

/-- 'countermandlaw17.ScriptBack', WHERE WHAT IT READS IS OF BULK AT MOST 1048576: true; the input reads as it did. -/
def scriptBackUptoRow : OpenClaim := { program := "ytolooaahaofflaadoor", sum := "9648adaaa3148e445d07776fd2456328b32ca13dc3c14b4ba4ce643d84b73dff", func := "countermand/countermandlaw17.ScriptBack", spec := "scriptBack", unfollowed := true, recurses := true, named := ["countermand/code.forms"], apart := false, laid := [("countermand/code.forms", laid_countermand_code_forms)], narrowed := true }
def ScriptBackUptoSaid : Prop := scriptBackUptoRow.holds Tryd.pinned (OpenSpec.upto scriptBackSpec)

/-- 'countermandlaw17.ScriptMore', WHERE WHAT IT READS IS OF BULK AT MOST 1048576: true; the input reads as it did. -/
def scriptMoreUptoRow : OpenClaim := { program := "ytolooaahaofflaadoor", sum := "9648adaaa3148e445d07776fd2456328b32ca13dc3c14b4ba4ce643d84b73dff", func := "countermand/countermandlaw17.ScriptMore", spec := "scriptMore", unfollowed := true, recurses := true, named := ["countermand/code.forms"], apart := false, laid := [("countermand/code.forms", laid_countermand_code_forms)], narrowed := true }
def ScriptMoreUptoSaid : Prop := scriptMoreUptoRow.holds Tryd.pinned (OpenSpec.upto scriptMoreSpec)

end Rows
end Go.Proofs.YtolooaahaofflaaDoor
