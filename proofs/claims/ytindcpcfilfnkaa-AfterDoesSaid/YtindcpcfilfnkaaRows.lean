/-
  No cell of these rows narrows 'for every input' (looked for: loops, veiled, ifaces, maps, wideKeys, modest, calm, conditions, laid).
  DERIVED. THE GIVEN ROWS OF THIS SEAT. 3 by the template 'for every input the law returns true; each argument reads behind the call as it read before'; 0 by the template 'total and deterministic' (their statements: YtindcpcfilfnkaaTotals.lean).
  GIVEN WITH THE SEED: the statements are not yours to turn. If you find one false, say at which input.
  Laid BY PROGRAM, IN A SANDBOX (cutbox-rows.mjs): the forced cells as the released guide's own fill.sh prints them over the translation bb4441452c1ac61d… (all of the seat's roots in one cut). By AI agents, Wed Nov 11 2026. No macro, syntax, notation, axiom, sorry.
-/
import Derived.Test.YtindcpcfilfnkaaChecked
import GoSem.Claim
import GoSem.ClaimJoined
import GoSem.ClaimMapViews
import Derived.JoinedTies
import Derived.KernelRfl
namespace Go.Proofs.Ytindcpcfilfnkaa
/- THE CELL 'sum', in the pinned program and in every row, IS THE sha256 OF THE DUMP (.gsa) THAT YtindcpcfilfnkaaProg.lean LOADS. Nothing in Lean hashes anything: it is a label: what it is worth is what the hold of that sum in a sandbox is worth. -/
noncomputable def Try.pinned : Pinned := { name := "ytindcpcfilfnkaa", sum := "bb4441452c1ac61d6ece2a6016adb1201c7201e91940327829c7c3b71d5bfd68", checked := Try.checked }
namespace Rows
def none {H : Type} : Left H := { results := [], args := [] }

/-- 'countermandlaw07.AfterDoes': WHATEVER THE INPUT: true; the input reads as it did. -/
def afterDoesSpec : ChangeSpec := { name := "afterDoes", fn := fun _ => fun
  | [d1, d2] => { results := [.lit (.bool true)], args := [d1, d2] }
  | _ => none }
def afterDoesRow : OpenClaim := { program := "ytindcpcfilfnkaa", sum := "bb4441452c1ac61d6ece2a6016adb1201c7201e91940327829c7c3b71d5bfd68", func := "countermand/countermandlaw07.AfterDoes", spec := "afterDoes", apart := false }
def AfterDoesSaid : Prop := afterDoesRow.holds Try.pinned (OpenSpec.ofChange afterDoesSpec)

/-- ITS FALSE NEIGHBOUR: 'it returns false'. Refute it at one input. -/
def afterDoesWrong : ChangeSpec := { name := "afterDoes", fn := fun _ => fun
  | [d1, d2] => { results := [.lit (.bool false)], args := [d1, d2] }
  | _ => none }
def AfterDoesWrongFalsely : Prop := afterDoesRow.holds Try.pinned (OpenSpec.ofChange afterDoesWrong)

/-- 'countermandlaw07.AfterOnce': WHATEVER THE INPUT: true; the input reads as it did. -/
def afterOnceSpec : ChangeSpec := { name := "afterOnce", fn := fun _ => fun
  | [d] => { results := [.lit (.bool true)], args := [d] }
  | _ => none }
def afterOnceRow : OpenClaim := { program := "ytindcpcfilfnkaa", sum := "bb4441452c1ac61d6ece2a6016adb1201c7201e91940327829c7c3b71d5bfd68", func := "countermand/countermandlaw07.AfterOnce", spec := "afterOnce", apart := false }
def AfterOnceSaid : Prop := afterOnceRow.holds Try.pinned (OpenSpec.ofChange afterOnceSpec)

/-- ITS FALSE NEIGHBOUR: 'it returns false'. Refute it at one input. -/
def afterOnceWrong : ChangeSpec := { name := "afterOnce", fn := fun _ => fun
  | [d] => { results := [.lit (.bool false)], args := [d] }
  | _ => none }
def AfterOnceWrongFalsely : Prop := afterOnceRow.holds Try.pinned (OpenSpec.ofChange afterOnceWrong)

/-- 'countermandlaw07.AfterStops': WHATEVER THE INPUT: true; the input reads as it did. -/
def afterStopsSpec : ChangeSpec := { name := "afterStops", fn := fun _ => fun
  | [d1, d2, d3] => { results := [.lit (.bool true)], args := [d1, d2, d3] }
  | _ => none }
def afterStopsRow : OpenClaim := { program := "ytindcpcfilfnkaa", sum := "bb4441452c1ac61d6ece2a6016adb1201c7201e91940327829c7c3b71d5bfd68", func := "countermand/countermandlaw07.AfterStops", spec := "afterStops", apart := false }
def AfterStopsSaid : Prop := afterStopsRow.holds Try.pinned (OpenSpec.ofChange afterStopsSpec)

/-- ITS FALSE NEIGHBOUR: 'it returns false'. Refute it at one input. -/
def afterStopsWrong : ChangeSpec := { name := "afterStops", fn := fun _ => fun
  | [d1, d2, d3] => { results := [.lit (.bool false)], args := [d1, d2, d3] }
  | _ => none }
def AfterStopsWrongFalsely : Prop := afterStopsRow.holds Try.pinned (OpenSpec.ofChange afterStopsWrong)

/- THE SECOND FORM. 'bulk': how many values and letters a reading holds, each counted each time it is reached (what is shared counts as often as it is met; a slice's spare places count too). A statement '..UptoSaid' is the law's where the arguments, and the package variables that the reading takes, are together of bulk at most 1048576: NARROWER than '..Said'. Prove '..Said' where nothing that the law and all that it calls make is longer than what came in: it says more and counts as full. Else prove '..UptoSaid'. A law counts once. -/
mutual
def uptoBulk {H : Type} : DataW H → Nat
  | .lit (.string bytes) => bytes.length + 1
  | .lit _ => 1
  | .nil => 1
  | .ptr d => uptoBulk d + 1
  | .slice elems spare => uptoBulkAll elems + uptoBulkAll spare + 1
  | .agg parts => uptoBulkAll parts + 1
  | .iface _ d => uptoBulk d + 1
  | .map entries => uptoBulkEntries entries + 1
  | .held _ => 1
def uptoBulkAll {H : Type} : List (DataW H) → Nat
  | [] => 0
  | d :: r => uptoBulk d + uptoBulkAll r
def uptoBulkEntries {H : Type} : List (Lit × DataW H) → Nat
  | [] => 0
  | x :: r => uptoBulkEntry x + uptoBulkEntries r
def uptoBulkEntry {H : Type} : Lit × DataW H → Nat
  | (.string bytes, d) => bytes.length + uptoBulk d + 1
  | (_, d) => uptoBulk d + 1
 end
def uptoSmall : (H : Type) → List (DataW H) → Bool := fun _ ds => decide (uptoBulkAll ds ≤ 1048576)
def OpenSpec.upto (s : _root_.Go.ChangeSpec) : _root_.Go.OpenSpec := { _root_.Go.OpenSpec.ofChange s with cond := some uptoSmall }

/-- 'countermandlaw07.AfterDoes', WHERE WHAT IT READS IS OF BULK AT MOST 1048576: true; the input reads as it did. -/
def afterDoesUptoRow : OpenClaim := { program := "ytindcpcfilfnkaa", sum := "bb4441452c1ac61d6ece2a6016adb1201c7201e91940327829c7c3b71d5bfd68", func := "countermand/countermandlaw07.AfterDoes", spec := "afterDoes", apart := false, narrowed := true }
def AfterDoesUptoSaid : Prop := afterDoesUptoRow.holds Try.pinned (OpenSpec.upto afterDoesSpec)

/-- 'countermandlaw07.AfterOnce', WHERE WHAT IT READS IS OF BULK AT MOST 1048576: true; the input reads as it did. -/
def afterOnceUptoRow : OpenClaim := { program := "ytindcpcfilfnkaa", sum := "bb4441452c1ac61d6ece2a6016adb1201c7201e91940327829c7c3b71d5bfd68", func := "countermand/countermandlaw07.AfterOnce", spec := "afterOnce", apart := false, narrowed := true }
def AfterOnceUptoSaid : Prop := afterOnceUptoRow.holds Try.pinned (OpenSpec.upto afterOnceSpec)

/-- 'countermandlaw07.AfterStops', WHERE WHAT IT READS IS OF BULK AT MOST 1048576: true; the input reads as it did. -/
def afterStopsUptoRow : OpenClaim := { program := "ytindcpcfilfnkaa", sum := "bb4441452c1ac61d6ece2a6016adb1201c7201e91940327829c7c3b71d5bfd68", func := "countermand/countermandlaw07.AfterStops", spec := "afterStops", apart := false, narrowed := true }
def AfterStopsUptoSaid : Prop := afterStopsUptoRow.holds Try.pinned (OpenSpec.upto afterStopsSpec)

end Rows
end Go.Proofs.Ytindcpcfilfnkaa
