/-
  No cell of these rows narrows 'for every input' (looked for: loops, veiled, ifaces, maps, wideKeys, modest, calm, conditions, laid).
  DERIVED. THE GIVEN ROWS OF THIS SEAT. 3 by the template 'for every input the law returns true; each argument reads behind the call as it read before'; 0 by the template 'total and deterministic' (their statements: YthdipkdolgcmgaaTotals.lean).
  GIVEN WITH THE SEED: the statements are not yours to turn. If you find one false, say at which input.
  Laid BY PROGRAM, IN A SANDBOX (cutbox-rows.mjs): the forced cells as the released guide's own fill.sh prints them over the translation b1faab86013aa335… (all of the seat's roots in one cut). By AI agents, Wed Nov 11 2026. No macro, syntax, notation, axiom, sorry.
-/
import Derived.Test.YthdipkdolgcmgaaChecked
import GoSem.Claim
import GoSem.ClaimJoined
import GoSem.ClaimMapViews
import Derived.JoinedTies
import Derived.KernelRfl
namespace Go.Proofs.Ythdipkdolgcmgaa
/- THE CELL 'sum', in the pinned program and in every row, IS THE sha256 OF THE DUMP (.gsa) THAT YthdipkdolgcmgaaProg.lean LOADS. Nothing in Lean hashes anything: it is a label: what it is worth is what the hold of that sum in a sandbox is worth. -/
noncomputable def Try.pinned : Pinned := { name := "ythdipkdolgcmgaa", sum := "b1faab86013aa3350c49949db2a468b7fec24436f476eee0104f923f6630bcc1", checked := Try.checked }
namespace Rows
def none {H : Type} : Left H := { results := [], args := [] }

/-- 'countermandlaw18.TaskDoes': WHATEVER THE INPUT: true; the input reads as it did. -/
def taskDoesSpec : ChangeSpec := { name := "taskDoes", fn := fun _ => fun
  | [d1, d2, d3, d4] => { results := [.lit (.bool true)], args := [d1, d2, d3, d4] }
  | _ => none }
def taskDoesRow : OpenClaim := { program := "ythdipkdolgcmgaa", sum := "b1faab86013aa3350c49949db2a468b7fec24436f476eee0104f923f6630bcc1", func := "countermand/countermandlaw18.TaskDoes", spec := "taskDoes", unfollowed := true, recurses := true, apart := false }
def TaskDoesSaid : Prop := taskDoesRow.holds Try.pinned (OpenSpec.ofChange taskDoesSpec)

/-- ITS FALSE NEIGHBOUR: 'it returns false'. Refute it at one input. -/
def taskDoesWrong : ChangeSpec := { name := "taskDoes", fn := fun _ => fun
  | [d1, d2, d3, d4] => { results := [.lit (.bool false)], args := [d1, d2, d3, d4] }
  | _ => none }
def TaskDoesWrongFalsely : Prop := taskDoesRow.holds Try.pinned (OpenSpec.ofChange taskDoesWrong)

/-- 'countermandlaw18.TaskAlone': WHATEVER THE INPUT: true; the input reads as it did. -/
def taskAloneSpec : ChangeSpec := { name := "taskAlone", fn := fun _ => fun
  | [d] => { results := [.lit (.bool true)], args := [d] }
  | _ => none }
def taskAloneRow : OpenClaim := { program := "ythdipkdolgcmgaa", sum := "b1faab86013aa3350c49949db2a468b7fec24436f476eee0104f923f6630bcc1", func := "countermand/countermandlaw18.TaskAlone", spec := "taskAlone", unfollowed := true, recurses := true, apart := false }
def TaskAloneSaid : Prop := taskAloneRow.holds Try.pinned (OpenSpec.ofChange taskAloneSpec)

/-- ITS FALSE NEIGHBOUR: 'it returns false'. Refute it at one input. -/
def taskAloneWrong : ChangeSpec := { name := "taskAlone", fn := fun _ => fun
  | [d] => { results := [.lit (.bool false)], args := [d] }
  | _ => none }
def TaskAloneWrongFalsely : Prop := taskAloneRow.holds Try.pinned (OpenSpec.ofChange taskAloneWrong)

/-- 'countermandlaw18.TaskWakes': WHATEVER THE INPUT: true; the input reads as it did. -/
def taskWakesSpec : ChangeSpec := { name := "taskWakes", fn := fun _ => fun
  | [d1, d2, d3, d4] => { results := [.lit (.bool true)], args := [d1, d2, d3, d4] }
  | _ => none }
def taskWakesRow : OpenClaim := { program := "ythdipkdolgcmgaa", sum := "b1faab86013aa3350c49949db2a468b7fec24436f476eee0104f923f6630bcc1", func := "countermand/countermandlaw18.TaskWakes", spec := "taskWakes", unfollowed := true, recurses := true, apart := false }
def TaskWakesSaid : Prop := taskWakesRow.holds Try.pinned (OpenSpec.ofChange taskWakesSpec)

/-- ITS FALSE NEIGHBOUR: 'it returns false'. Refute it at one input. -/
def taskWakesWrong : ChangeSpec := { name := "taskWakes", fn := fun _ => fun
  | [d1, d2, d3, d4] => { results := [.lit (.bool false)], args := [d1, d2, d3, d4] }
  | _ => none }
def TaskWakesWrongFalsely : Prop := taskWakesRow.holds Try.pinned (OpenSpec.ofChange taskWakesWrong)

/- THE SECOND FORM. 'bulk': how many values and letters a reading holds, each counted each time it is reached (what is shared counts as often as it is met; a slice's spare places count too). A statement '..UptoSaid' is the law's where the arguments, and the package variables that the reading takes, are together of bulk at most 1048576: NARROWER than '..Said'. Prove '..Said' where nothing that the law and all that it calls make is longer than what came in: it says more and counts as full. Else prove '..UptoSaid'. A law counts once. -/
mutual
def uptoBulk {H : Type} : DataW H → Nat
  | .lit (.string bytes) => bytes.length + 1
  | .lit _ => 1
  | .nil => 1
  | .ptr d => uptoBulk d + 1
  | .slice elems spare => uptoBulkAll elems + uptoBulkAll spare + 1
  | .agg parts => uptoBulkAll parts + 1
  | .iface _ d => uptoBulk d + 1
  | .map entries => uptoBulkEntries entries + 1
  | .held _ => 1
def uptoBulkAll {H : Type} : List (DataW H) → Nat
  | [] => 0
  | d :: r => uptoBulk d + uptoBulkAll r
def uptoBulkEntries {H : Type} : List (Lit × DataW H) → Nat
  | [] => 0
  | x :: r => uptoBulkEntry x + uptoBulkEntries r
def uptoBulkEntry {H : Type} : Lit × DataW H → Nat
  | (.string bytes, d) => bytes.length + uptoBulk d + 1
  | (_, d) => uptoBulk d + 1
 end
def uptoSmall : (H : Type) → List (DataW H) → Bool := fun _ ds => decide (uptoBulkAll ds ≤ 1048576)
def OpenSpec.upto (s : _root_.Go.ChangeSpec) : _root_.Go.OpenSpec := { _root_.Go.OpenSpec.ofChange s with cond := some uptoSmall }

/-- 'countermandlaw18.TaskDoes', WHERE WHAT IT READS IS OF BULK AT MOST 1048576: true; the input reads as it did. -/
def taskDoesUptoRow : OpenClaim := { program := "ythdipkdolgcmgaa", sum := "b1faab86013aa3350c49949db2a468b7fec24436f476eee0104f923f6630bcc1", func := "countermand/countermandlaw18.TaskDoes", spec := "taskDoes", unfollowed := true, recurses := true, apart := false, narrowed := true }
def TaskDoesUptoSaid : Prop := taskDoesUptoRow.holds Try.pinned (OpenSpec.upto taskDoesSpec)

/-- 'countermandlaw18.TaskAlone', WHERE WHAT IT READS IS OF BULK AT MOST 1048576: true; the input reads as it did. -/
def taskAloneUptoRow : OpenClaim := { program := "ythdipkdolgcmgaa", sum := "b1faab86013aa3350c49949db2a468b7fec24436f476eee0104f923f6630bcc1", func := "countermand/countermandlaw18.TaskAlone", spec := "taskAlone", unfollowed := true, recurses := true, apart := false, narrowed := true }
def TaskAloneUptoSaid : Prop := taskAloneUptoRow.holds Try.pinned (OpenSpec.upto taskAloneSpec)

/-- 'countermandlaw18.TaskWakes', WHERE WHAT IT READS IS OF BULK AT MOST 1048576: true; the input reads as it did. -/
def taskWakesUptoRow : OpenClaim := { program := "ythdipkdolgcmgaa", sum := "b1faab86013aa3350c49949db2a468b7fec24436f476eee0104f923f6630bcc1", func := "countermand/countermandlaw18.TaskWakes", spec := "taskWakes", unfollowed := true, recurses := true, apart := false, narrowed := true }
def TaskWakesUptoSaid : Prop := taskWakesUptoRow.holds Try.pinned (OpenSpec.upto taskWakesSpec)

end Rows
end Go.Proofs.Ythdipkdolgcmgaa
