/-
  No cell of these rows narrows 'for every input' (looked for: loops, veiled, ifaces, maps, wideKeys, modest, calm, conditions, laid).
  DERIVED. THE GIVEN ROWS OF THIS SEAT. 4 by the template 'for every input the law returns true; each argument reads behind the call as it read before'; 0 by the template 'total and deterministic' (their statements: YtidkppjhmgehoaaTotals.lean).
  GIVEN WITH THE SEED: the statements are not yours to turn. If you find one false, say at which input.
  Laid BY PROGRAM, IN A SANDBOX (cutbox-rows.mjs): the forced cells as the released guide's own fill.sh prints them over the translation cfcb4626ae5e0f1b… (all of the seat's roots in one cut). By AI agents, Wed Nov 11 2026. No macro, syntax, notation, axiom, sorry.
-/
import Derived.Test.YtidkppjhmgehoaaChecked
import GoSem.Claim
import GoSem.ClaimJoined
import GoSem.ClaimMapViews
import Derived.JoinedTies
import Derived.KernelRfl
namespace Go.Proofs.Ytidkppjhmgehoaa
/- THE CELL 'sum', in the pinned program and in every row, IS THE sha256 OF THE DUMP (.gsa) THAT YtidkppjhmgehoaaProg.lean LOADS. Nothing in Lean hashes anything: it is a label: what it is worth is what the hold of that sum in a sandbox is worth. -/
noncomputable def Try.pinned : Pinned := { name := "ytidkppjhmgehoaa", sum := "cfcb4626ae5e0f1ba5d416a4f74f83675633d5fea7faf6823594c281556332cf", checked := Try.checked }
namespace Rows
def none {H : Type} : Left H := { results := [], args := [] }

/-- 'countermandlaw06.CtxDoes': WHATEVER THE INPUT: true; the input reads as it did. -/
def ctxDoesSpec : ChangeSpec := { name := "ctxDoes", fn := fun _ => fun
  | [d1, d2, d3] => { results := [.lit (.bool true)], args := [d1, d2, d3] }
  | _ => none }
def ctxDoesRow : OpenClaim := { program := "ytidkppjhmgehoaa", sum := "cfcb4626ae5e0f1ba5d416a4f74f83675633d5fea7faf6823594c281556332cf", func := "countermand/countermandlaw06.CtxDoes", spec := "ctxDoes", unfollowed := true, recurses := true, apart := false }
def CtxDoesSaid : Prop := ctxDoesRow.holds Try.pinned (OpenSpec.ofChange ctxDoesSpec)

/-- ITS FALSE NEIGHBOUR: 'it returns false'. Refute it at one input. -/
def ctxDoesWrong : ChangeSpec := { name := "ctxDoes", fn := fun _ => fun
  | [d1, d2, d3] => { results := [.lit (.bool false)], args := [d1, d2, d3] }
  | _ => none }
def CtxDoesWrongFalsely : Prop := ctxDoesRow.holds Try.pinned (OpenSpec.ofChange ctxDoesWrong)

/-- 'countermandlaw06.CtxDown': WHATEVER THE INPUT: true; the input reads as it did. -/
def ctxDownSpec : ChangeSpec := { name := "ctxDown", fn := fun _ => fun
  | [d] => { results := [.lit (.bool true)], args := [d] }
  | _ => none }
def ctxDownRow : OpenClaim := { program := "ytidkppjhmgehoaa", sum := "cfcb4626ae5e0f1ba5d416a4f74f83675633d5fea7faf6823594c281556332cf", func := "countermand/countermandlaw06.CtxDown", spec := "ctxDown", unfollowed := true, recurses := true, apart := false }
def CtxDownSaid : Prop := ctxDownRow.holds Try.pinned (OpenSpec.ofChange ctxDownSpec)

/-- ITS FALSE NEIGHBOUR: 'it returns false'. Refute it at one input. -/
def ctxDownWrong : ChangeSpec := { name := "ctxDown", fn := fun _ => fun
  | [d] => { results := [.lit (.bool false)], args := [d] }
  | _ => none }
def CtxDownWrongFalsely : Prop := ctxDownRow.holds Try.pinned (OpenSpec.ofChange ctxDownWrong)

/-- 'countermandlaw06.CtxLate': WHATEVER THE INPUT: true; the input reads as it did. -/
def ctxLateSpec : ChangeSpec := { name := "ctxLate", fn := fun _ => fun
  | [d] => { results := [.lit (.bool true)], args := [d] }
  | _ => none }
def ctxLateRow : OpenClaim := { program := "ytidkppjhmgehoaa", sum := "cfcb4626ae5e0f1ba5d416a4f74f83675633d5fea7faf6823594c281556332cf", func := "countermand/countermandlaw06.CtxLate", spec := "ctxLate", unfollowed := true, recurses := true, apart := false }
def CtxLateSaid : Prop := ctxLateRow.holds Try.pinned (OpenSpec.ofChange ctxLateSpec)

/-- ITS FALSE NEIGHBOUR: 'it returns false'. Refute it at one input. -/
def ctxLateWrong : ChangeSpec := { name := "ctxLate", fn := fun _ => fun
  | [d] => { results := [.lit (.bool false)], args := [d] }
  | _ => none }
def CtxLateWrongFalsely : Prop := ctxLateRow.holds Try.pinned (OpenSpec.ofChange ctxLateWrong)

/-- 'countermandlaw06.CtxValues': WHATEVER THE INPUT: true; the input reads as it did. -/
def ctxValuesSpec : ChangeSpec := { name := "ctxValues", fn := fun _ => fun
  | [d1, d2, d3, d4] => { results := [.lit (.bool true)], args := [d1, d2, d3, d4] }
  | _ => none }
def ctxValuesRow : OpenClaim := { program := "ytidkppjhmgehoaa", sum := "cfcb4626ae5e0f1ba5d416a4f74f83675633d5fea7faf6823594c281556332cf", func := "countermand/countermandlaw06.CtxValues", spec := "ctxValues", unfollowed := true, recurses := true, apart := false }
def CtxValuesSaid : Prop := ctxValuesRow.holds Try.pinned (OpenSpec.ofChange ctxValuesSpec)

/-- ITS FALSE NEIGHBOUR: 'it returns false'. Refute it at one input. -/
def ctxValuesWrong : ChangeSpec := { name := "ctxValues", fn := fun _ => fun
  | [d1, d2, d3, d4] => { results := [.lit (.bool false)], args := [d1, d2, d3, d4] }
  | _ => none }
def CtxValuesWrongFalsely : Prop := ctxValuesRow.holds Try.pinned (OpenSpec.ofChange ctxValuesWrong)

/- THE SECOND FORM. 'bulk': how many values and letters a reading holds, each counted each time it is reached (what is shared counts as often as it is met; a slice's spare places count too). A statement '..UptoSaid' is the law's where the arguments, and the package variables that the reading takes, are together of bulk at most 1048576: NARROWER than '..Said'. Prove '..Said' where nothing that the law and all that it calls make is longer than what came in: it says more and counts as full. Else prove '..UptoSaid'. A law counts once. -/
mutual
def uptoBulk {H : Type} : DataW H → Nat
  | .lit (.string bytes) => bytes.length + 1
  | .lit _ => 1
  | .nil => 1
  | .ptr d => uptoBulk d + 1
  | .slice elems spare => uptoBulkAll elems + uptoBulkAll spare + 1
  | .agg parts => uptoBulkAll parts + 1
  | .iface _ d => uptoBulk d + 1
  | .map entries => uptoBulkEntries entries + 1
  | .held _ => 1
def uptoBulkAll {H : Type} : List (DataW H) → Nat
  | [] => 0
  | d :: r => uptoBulk d + uptoBulkAll r
def uptoBulkEntries {H : Type} : List (Lit × DataW H) → Nat
  | [] => 0
  | x :: r => uptoBulkEntry x + uptoBulkEntries r
def uptoBulkEntry {H : Type} : Lit × DataW H → Nat
  | (.string bytes, d) => bytes.length + uptoBulk d + 1
  | (_, d) => uptoBulk d + 1
 end
def uptoSmall : (H : Type) → List (DataW H) → Bool := fun _ ds => decide (uptoBulkAll ds ≤ 1048576)
def OpenSpec.upto (s : _root_.Go.ChangeSpec) : _root_.Go.OpenSpec := { _root_.Go.OpenSpec.ofChange s with cond := some uptoSmall }

/-- 'countermandlaw06.CtxDoes', WHERE WHAT IT READS IS OF BULK AT MOST 1048576: true; the input reads as it did. -/
def ctxDoesUptoRow : OpenClaim := { program := "ytidkppjhmgehoaa", sum := "cfcb4626ae5e0f1ba5d416a4f74f83675633d5fea7faf6823594c281556332cf", func := "countermand/countermandlaw06.CtxDoes", spec := "ctxDoes", unfollowed := true, recurses := true, apart := false, narrowed := true }
def CtxDoesUptoSaid : Prop := ctxDoesUptoRow.holds Try.pinned (OpenSpec.upto ctxDoesSpec)

/-- 'countermandlaw06.CtxDown', WHERE WHAT IT READS IS OF BULK AT MOST 1048576: true; the input reads as it did. -/
def ctxDownUptoRow : OpenClaim := { program := "ytidkppjhmgehoaa", sum := "cfcb4626ae5e0f1ba5d416a4f74f83675633d5fea7faf6823594c281556332cf", func := "countermand/countermandlaw06.CtxDown", spec := "ctxDown", unfollowed := true, recurses := true, apart := false, narrowed := true }
def CtxDownUptoSaid : Prop := ctxDownUptoRow.holds Try.pinned (OpenSpec.upto ctxDownSpec)

/-- 'countermandlaw06.CtxLate', WHERE WHAT IT READS IS OF BULK AT MOST 1048576: true; the input reads as it did. -/
def ctxLateUptoRow : OpenClaim := { program := "ytidkppjhmgehoaa", sum := "cfcb4626ae5e0f1ba5d416a4f74f83675633d5fea7faf6823594c281556332cf", func := "countermand/countermandlaw06.CtxLate", spec := "ctxLate", unfollowed := true, recurses := true, apart := false, narrowed := true }
def CtxLateUptoSaid : Prop := ctxLateUptoRow.holds Try.pinned (OpenSpec.upto ctxLateSpec)

/-- 'countermandlaw06.CtxValues', WHERE WHAT IT READS IS OF BULK AT MOST 1048576: true; the input reads as it did. -/
def ctxValuesUptoRow : OpenClaim := { program := "ytidkppjhmgehoaa", sum := "cfcb4626ae5e0f1ba5d416a4f74f83675633d5fea7faf6823594c281556332cf", func := "countermand/countermandlaw06.CtxValues", spec := "ctxValues", unfollowed := true, recurses := true, apart := false, narrowed := true }
def CtxValuesUptoSaid : Prop := ctxValuesUptoRow.holds Try.pinned (OpenSpec.upto ctxValuesSpec)

end Rows
end Go.Proofs.Ytidkppjhmgehoaa
