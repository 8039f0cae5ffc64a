/-
  No cell of these rows narrows 'for every input' (looked for: loops, veiled, ifaces, maps, wideKeys, modest, calm, conditions, laid).
  DERIVED. THE GIVEN ROWS OF THIS SEAT. 3 by the template 'for every input the law returns true; each argument reads behind the call as it read before'; 0 by the template 'total and deterministic' (their statements: YtbnijgcbifpijaaTotals.lean).
  GIVEN WITH THE SEED: the statements are not yours to turn. If you find one false, say at which input.
  Laid BY PROGRAM, IN A SANDBOX (cutbox-rows.mjs): the forced cells as the released guide's own fill.sh prints them over the translation 833bd1d55d2981da… (all of the seat's roots in one cut). By AI agents, Wed Nov 11 2026. No macro, syntax, notation, axiom, sorry.
-/
import Derived.Test.YtbnijgcbifpijaaChecked
import GoSem.Claim
import GoSem.ClaimJoined
import GoSem.ClaimMapViews
import Derived.JoinedTies
import Derived.KernelRfl
namespace Go.Proofs.Ytbnijgcbifpijaa
/- THE CELL 'sum', in the pinned program and in every row, IS THE sha256 OF THE DUMP (.gsa) THAT YtbnijgcbifpijaaProg.lean LOADS. Nothing in Lean hashes anything: it is a label: what it is worth is what the hold of that sum in a sandbox is worth. -/
noncomputable def Try.pinned : Pinned := { name := "ytbnijgcbifpijaa", sum := "833bd1d55d2981dafdba9ae94ce530cdc355a7de34669f4ea65279250d527344", checked := Try.checked }
namespace Rows
def none {H : Type} : Left H := { results := [], args := [] }

/-- 'countermandlaw10.CondDoes': WHATEVER THE INPUT: true; the input reads as it did. -/
def condDoesSpec : ChangeSpec := { name := "condDoes", fn := fun _ => fun
  | [d1, d2] => { results := [.lit (.bool true)], args := [d1, d2] }
  | _ => none }
def condDoesRow : OpenClaim := { program := "ytbnijgcbifpijaa", sum := "833bd1d55d2981dafdba9ae94ce530cdc355a7de34669f4ea65279250d527344", func := "countermand/countermandlaw10.CondDoes", spec := "condDoes", unfollowed := true, recurses := true, apart := false }
def CondDoesSaid : Prop := condDoesRow.holds Try.pinned (OpenSpec.ofChange condDoesSpec)

/-- ITS FALSE NEIGHBOUR: 'it returns false'. Refute it at one input. -/
def condDoesWrong : ChangeSpec := { name := "condDoes", fn := fun _ => fun
  | [d1, d2] => { results := [.lit (.bool false)], args := [d1, d2] }
  | _ => none }
def CondDoesWrongFalsely : Prop := condDoesRow.holds Try.pinned (OpenSpec.ofChange condDoesWrong)

/-- 'countermandlaw10.CondOne': WHATEVER THE INPUT: true; the input reads as it did. -/
def condOneSpec : ChangeSpec := { name := "condOne", fn := fun _ => fun
  | [d] => { results := [.lit (.bool true)], args := [d] }
  | _ => none }
def condOneRow : OpenClaim := { program := "ytbnijgcbifpijaa", sum := "833bd1d55d2981dafdba9ae94ce530cdc355a7de34669f4ea65279250d527344", func := "countermand/countermandlaw10.CondOne", spec := "condOne", unfollowed := true, recurses := true, apart := false }
def CondOneSaid : Prop := condOneRow.holds Try.pinned (OpenSpec.ofChange condOneSpec)

/-- ITS FALSE NEIGHBOUR: 'it returns false'. Refute it at one input. -/
def condOneWrong : ChangeSpec := { name := "condOne", fn := fun _ => fun
  | [d] => { results := [.lit (.bool false)], args := [d] }
  | _ => none }
def CondOneWrongFalsely : Prop := condOneRow.holds Try.pinned (OpenSpec.ofChange condOneWrong)

/-- 'countermandlaw10.CondLeaves': WHATEVER THE INPUT: true; the input reads as it did. -/
def condLeavesSpec : ChangeSpec := { name := "condLeaves", fn := fun _ => fun
  | [d1, d2] => { results := [.lit (.bool true)], args := [d1, d2] }
  | _ => none }
def condLeavesRow : OpenClaim := { program := "ytbnijgcbifpijaa", sum := "833bd1d55d2981dafdba9ae94ce530cdc355a7de34669f4ea65279250d527344", func := "countermand/countermandlaw10.CondLeaves", spec := "condLeaves", unfollowed := true, recurses := true, apart := false }
def CondLeavesSaid : Prop := condLeavesRow.holds Try.pinned (OpenSpec.ofChange condLeavesSpec)

/-- ITS FALSE NEIGHBOUR: 'it returns false'. Refute it at one input. -/
def condLeavesWrong : ChangeSpec := { name := "condLeaves", fn := fun _ => fun
  | [d1, d2] => { results := [.lit (.bool false)], args := [d1, d2] }
  | _ => none }
def CondLeavesWrongFalsely : Prop := condLeavesRow.holds Try.pinned (OpenSpec.ofChange condLeavesWrong)

/- THE SECOND FORM. 'bulk': how many values and letters a reading holds, each counted each time it is reached (what is shared counts as often as it is met; a slice's spare places count too). A statement '..UptoSaid' is the law's where the arguments, and the package variables that the reading takes, are together of bulk at most 1048576: NARROWER than '..Said'. Prove '..Said' where nothing that the law and all that it calls make is longer than what came in: it says more and counts as full. Else prove '..UptoSaid'. A law counts once. -/
mutual
def uptoBulk {H : Type} : DataW H → Nat
  | .lit (.string bytes) => bytes.length + 1
  | .lit _ => 1
  | .nil => 1
  | .ptr d => uptoBulk d + 1
  | .slice elems spare => uptoBulkAll elems + uptoBulkAll spare + 1
  | .agg parts => uptoBulkAll parts + 1
  | .iface _ d => uptoBulk d + 1
  | .map entries => uptoBulkEntries entries + 1
  | .held _ => 1
def uptoBulkAll {H : Type} : List (DataW H) → Nat
  | [] => 0
  | d :: r => uptoBulk d + uptoBulkAll r
def uptoBulkEntries {H : Type} : List (Lit × DataW H) → Nat
  | [] => 0
  | x :: r => uptoBulkEntry x + uptoBulkEntries r
def uptoBulkEntry {H : Type} : Lit × DataW H → Nat
  | (.string bytes, d) => bytes.length + uptoBulk d + 1
  | (_, d) => uptoBulk d + 1
 end
def uptoSmall : (H : Type) → List (DataW H) → Bool := fun _ ds => decide (uptoBulkAll ds ≤ 1048576)
def OpenSpec.upto (s : _root_.Go.ChangeSpec) : _root_.Go.OpenSpec := { _root_.Go.OpenSpec.ofChange s with cond := some uptoSmall }

/-- 'countermandlaw10.CondDoes', WHERE WHAT IT READS IS OF BULK AT MOST 1048576: true; the input reads as it did. -/
def condDoesUptoRow : OpenClaim := { program := "ytbnijgcbifpijaa", sum := "833bd1d55d2981dafdba9ae94ce530cdc355a7de34669f4ea65279250d527344", func := "countermand/countermandlaw10.CondDoes", spec := "condDoes", unfollowed := true, recurses := true, apart := false, narrowed := true }
def CondDoesUptoSaid : Prop := condDoesUptoRow.holds Try.pinned (OpenSpec.upto condDoesSpec)

/-- 'countermandlaw10.CondOne', WHERE WHAT IT READS IS OF BULK AT MOST 1048576: true; the input reads as it did. -/
def condOneUptoRow : OpenClaim := { program := "ytbnijgcbifpijaa", sum := "833bd1d55d2981dafdba9ae94ce530cdc355a7de34669f4ea65279250d527344", func := "countermand/countermandlaw10.CondOne", spec := "condOne", unfollowed := true, recurses := true, apart := false, narrowed := true }
def CondOneUptoSaid : Prop := condOneUptoRow.holds Try.pinned (OpenSpec.upto condOneSpec)

/-- 'countermandlaw10.CondLeaves', WHERE WHAT IT READS IS OF BULK AT MOST 1048576: true; the input reads as it did. -/
def condLeavesUptoRow : OpenClaim := { program := "ytbnijgcbifpijaa", sum := "833bd1d55d2981dafdba9ae94ce530cdc355a7de34669f4ea65279250d527344", func := "countermand/countermandlaw10.CondLeaves", spec := "condLeaves", unfollowed := true, recurses := true, apart := false, narrowed := true }
def CondLeavesUptoSaid : Prop := condLeavesUptoRow.holds Try.pinned (OpenSpec.upto condLeavesSpec)

end Rows
end Go.Proofs.Ytbnijgcbifpijaa
