/-
  No cell of these rows narrows 'for every input' (looked for: loops, veiled, ifaces, maps, wideKeys, modest, calm, conditions, laid).
  DERIVED. THE GIVEN ROWS OF THIS SEAT. 3 by the template 'for every input the law returns true; each argument reads behind the call as it read before'; 0 by the template 'total and deterministic' (their statements: YtkgmcifianhogaaTotals.lean).
  GIVEN WITH THE SEED: the statements are not yours to turn. If you find one false, say at which input.
  Laid BY PROGRAM, IN A SANDBOX (cutbox-rows.mjs): the forced cells as the released guide's own fill.sh prints them over the translation 27bf69657006bd29… (all of the seat's roots in one cut). By AI agents, Wed Nov 11 2026. No macro, syntax, notation, axiom, sorry.
-/
import Derived.Test.YtkgmcifianhogaaChecked
import GoSem.Claim
import GoSem.ClaimJoined
import GoSem.ClaimMapViews
import Derived.JoinedTies
import Derived.KernelRfl
namespace Go.Proofs.Ytkgmcifianhogaa
/- THE CELL 'sum', in the pinned program and in every row, IS THE sha256 OF THE DUMP (.gsa) THAT YtkgmcifianhogaaProg.lean LOADS. Nothing in Lean hashes anything: it is a label: what it is worth is what the hold of that sum in a sandbox is worth. -/
noncomputable def Try.pinned : Pinned := { name := "ytkgmcifianhogaa", sum := "27bf69657006bd29fe0f53b59ada25ee0724979f7d37154790a766a09360d006", checked := Try.checked }
namespace Rows
def none {H : Type} : Left H := { results := [], args := [] }

/-- 'countermandlaw14.TeamDoes': WHATEVER THE INPUT: true; the input reads as it did. -/
def teamDoesSpec : ChangeSpec := { name := "teamDoes", fn := fun _ => fun
  | [d1, d2] => { results := [.lit (.bool true)], args := [d1, d2] }
  | _ => none }
def teamDoesRow : OpenClaim := { program := "ytkgmcifianhogaa", sum := "27bf69657006bd29fe0f53b59ada25ee0724979f7d37154790a766a09360d006", func := "countermand/countermandlaw14.TeamDoes", spec := "teamDoes", unfollowed := true, recurses := true, apart := false }
def TeamDoesSaid : Prop := teamDoesRow.holds Try.pinned (OpenSpec.ofChange teamDoesSpec)

/-- ITS FALSE NEIGHBOUR: 'it returns false'. Refute it at one input. -/
def teamDoesWrong : ChangeSpec := { name := "teamDoes", fn := fun _ => fun
  | [d1, d2] => { results := [.lit (.bool false)], args := [d1, d2] }
  | _ => none }
def TeamDoesWrongFalsely : Prop := teamDoesRow.holds Try.pinned (OpenSpec.ofChange teamDoesWrong)

/-- 'countermandlaw14.TeamLimit': WHATEVER THE INPUT: true; the input reads as it did. -/
def teamLimitSpec : ChangeSpec := { name := "teamLimit", fn := fun _ => fun
  | [d] => { results := [.lit (.bool true)], args := [d] }
  | _ => none }
def teamLimitRow : OpenClaim := { program := "ytkgmcifianhogaa", sum := "27bf69657006bd29fe0f53b59ada25ee0724979f7d37154790a766a09360d006", func := "countermand/countermandlaw14.TeamLimit", spec := "teamLimit", unfollowed := true, recurses := true, apart := false }
def TeamLimitSaid : Prop := teamLimitRow.holds Try.pinned (OpenSpec.ofChange teamLimitSpec)

/-- ITS FALSE NEIGHBOUR: 'it returns false'. Refute it at one input. -/
def teamLimitWrong : ChangeSpec := { name := "teamLimit", fn := fun _ => fun
  | [d] => { results := [.lit (.bool false)], args := [d] }
  | _ => none }
def TeamLimitWrongFalsely : Prop := teamLimitRow.holds Try.pinned (OpenSpec.ofChange teamLimitWrong)

/-- 'countermandlaw14.TeamMisuse': WHATEVER THE INPUT: true; the input reads as it did. -/
def teamMisuseSpec : ChangeSpec := { name := "teamMisuse", fn := fun _ => fun
  | [d1, d2] => { results := [.lit (.bool true)], args := [d1, d2] }
  | _ => none }
def teamMisuseRow : OpenClaim := { program := "ytkgmcifianhogaa", sum := "27bf69657006bd29fe0f53b59ada25ee0724979f7d37154790a766a09360d006", func := "countermand/countermandlaw14.TeamMisuse", spec := "teamMisuse", unfollowed := true, recurses := true, apart := false }
def TeamMisuseSaid : Prop := teamMisuseRow.holds Try.pinned (OpenSpec.ofChange teamMisuseSpec)

/-- ITS FALSE NEIGHBOUR: 'it returns false'. Refute it at one input. -/
def teamMisuseWrong : ChangeSpec := { name := "teamMisuse", fn := fun _ => fun
  | [d1, d2] => { results := [.lit (.bool false)], args := [d1, d2] }
  | _ => none }
def TeamMisuseWrongFalsely : Prop := teamMisuseRow.holds Try.pinned (OpenSpec.ofChange teamMisuseWrong)

/- THE SECOND FORM. 'bulk': how many values and letters a reading holds, each counted each time it is reached (what is shared counts as often as it is met; a slice's spare places count too). A statement '..UptoSaid' is the law's where the arguments, and the package variables that the reading takes, are together of bulk at most 1048576: NARROWER than '..Said'. Prove '..Said' where nothing that the law and all that it calls make is longer than what came in: it says more and counts as full. Else prove '..UptoSaid'. A law counts once. -/
mutual
def uptoBulk {H : Type} : DataW H → Nat
  | .lit (.string bytes) => bytes.length + 1
  | .lit _ => 1
  | .nil => 1
  | .ptr d => uptoBulk d + 1
  | .slice elems spare => uptoBulkAll elems + uptoBulkAll spare + 1
  | .agg parts => uptoBulkAll parts + 1
  | .iface _ d => uptoBulk d + 1
  | .map entries => uptoBulkEntries entries + 1
  | .held _ => 1
def uptoBulkAll {H : Type} : List (DataW H) → Nat
  | [] => 0
  | d :: r => uptoBulk d + uptoBulkAll r
def uptoBulkEntries {H : Type} : List (Lit × DataW H) → Nat
  | [] => 0
  | x :: r => uptoBulkEntry x + uptoBulkEntries r
def uptoBulkEntry {H : Type} : Lit × DataW H → Nat
  | (.string bytes, d) => bytes.length + uptoBulk d + 1
  | (_, d) => uptoBulk d + 1
 end
def uptoSmall : (H : Type) → List (DataW H) → Bool := fun _ ds => decide (uptoBulkAll ds ≤ 1048576)
def OpenSpec.upto (s : _root_.Go.ChangeSpec) : _root_.Go.OpenSpec := { _root_.Go.OpenSpec.ofChange s with cond := some uptoSmall }

/-- 'countermandlaw14.TeamDoes', WHERE WHAT IT READS IS OF BULK AT MOST 1048576: true; the input reads as it did. -/
def teamDoesUptoRow : OpenClaim := { program := "ytkgmcifianhogaa", sum := "27bf69657006bd29fe0f53b59ada25ee0724979f7d37154790a766a09360d006", func := "countermand/countermandlaw14.TeamDoes", spec := "teamDoes", unfollowed := true, recurses := true, apart := false, narrowed := true }
def TeamDoesUptoSaid : Prop := teamDoesUptoRow.holds Try.pinned (OpenSpec.upto teamDoesSpec)

/-- 'countermandlaw14.TeamLimit', WHERE WHAT IT READS IS OF BULK AT MOST 1048576: true; the input reads as it did. -/
def teamLimitUptoRow : OpenClaim := { program := "ytkgmcifianhogaa", sum := "27bf69657006bd29fe0f53b59ada25ee0724979f7d37154790a766a09360d006", func := "countermand/countermandlaw14.TeamLimit", spec := "teamLimit", unfollowed := true, recurses := true, apart := false, narrowed := true }
def TeamLimitUptoSaid : Prop := teamLimitUptoRow.holds Try.pinned (OpenSpec.upto teamLimitSpec)

/-- 'countermandlaw14.TeamMisuse', WHERE WHAT IT READS IS OF BULK AT MOST 1048576: true; the input reads as it did. -/
def teamMisuseUptoRow : OpenClaim := { program := "ytkgmcifianhogaa", sum := "27bf69657006bd29fe0f53b59ada25ee0724979f7d37154790a766a09360d006", func := "countermand/countermandlaw14.TeamMisuse", spec := "teamMisuse", unfollowed := true, recurses := true, apart := false, narrowed := true }
def TeamMisuseUptoSaid : Prop := teamMisuseUptoRow.holds Try.pinned (OpenSpec.upto teamMisuseSpec)

end Rows
end Go.Proofs.Ytkgmcifianhogaa
