/-
  No cell of these rows narrows 'for every input' (looked for: loops, veiled, ifaces, maps, wideKeys, modest, calm, conditions, laid).
  DERIVED. THE GIVEN ROWS OF THIS SEAT. 4 by the template 'for every input the law returns true; each argument reads behind the call as it read before'; 0 by the template 'total and deterministic' (their statements: YtaplikopapnlpaaTotals.lean).
  GIVEN WITH THE SEED: the statements are not yours to turn. If you find one false, say at which input.
  Laid BY PROGRAM, IN A SANDBOX (cutbox-rows.mjs): the forced cells as the released guide's own fill.sh prints them over the translation 757c2783fc1105b9… (all of the seat's roots in one cut). By AI agents, Wed Nov 11 2026. No macro, syntax, notation, axiom, sorry.
-/
import Derived.Test.YtaplikopapnlpaaChecked
import GoSem.Claim
import GoSem.ClaimJoined
import GoSem.ClaimMapViews
import Derived.JoinedTies
import Derived.KernelRfl
namespace Go.Proofs.Ytaplikopapnlpaa
/- THE CELL 'sum', in the pinned program and in every row, IS THE sha256 OF THE DUMP (.gsa) THAT YtaplikopapnlpaaProg.lean LOADS. Nothing in Lean hashes anything: it is a label: what it is worth is what the hold of that sum in a sandbox is worth. -/
noncomputable def Try.pinned : Pinned := { name := "ytaplikopapnlpaa", sum := "757c2783fc1105b9ce0bae7d3924fd9836a2d158b555b1bcbfd144d30afdd6db", checked := Try.checked }
namespace Rows
def none {H : Type} : Left H := { results := [], args := [] }

/-- 'countermandlaw13.SemaDoes': WHATEVER THE INPUT: true; the input reads as it did. -/
def semaDoesSpec : ChangeSpec := { name := "semaDoes", fn := fun _ => fun
  | [d1, d2, d3] => { results := [.lit (.bool true)], args := [d1, d2, d3] }
  | _ => none }
def semaDoesRow : OpenClaim := { program := "ytaplikopapnlpaa", sum := "757c2783fc1105b9ce0bae7d3924fd9836a2d158b555b1bcbfd144d30afdd6db", func := "countermand/countermandlaw13.SemaDoes", spec := "semaDoes", apart := false }
def SemaDoesSaid : Prop := semaDoesRow.holds Try.pinned (OpenSpec.ofChange semaDoesSpec)

/-- ITS FALSE NEIGHBOUR: 'it returns false'. Refute it at one input. -/
def semaDoesWrong : ChangeSpec := { name := "semaDoes", fn := fun _ => fun
  | [d1, d2, d3] => { results := [.lit (.bool false)], args := [d1, d2, d3] }
  | _ => none }
def SemaDoesWrongFalsely : Prop := semaDoesRow.holds Try.pinned (OpenSpec.ofChange semaDoesWrong)

/-- 'countermandlaw13.SemaSum': WHATEVER THE INPUT: true; the input reads as it did. -/
def semaSumSpec : ChangeSpec := { name := "semaSum", fn := fun _ => fun
  | [d1, d2] => { results := [.lit (.bool true)], args := [d1, d2] }
  | _ => none }
def semaSumRow : OpenClaim := { program := "ytaplikopapnlpaa", sum := "757c2783fc1105b9ce0bae7d3924fd9836a2d158b555b1bcbfd144d30afdd6db", func := "countermand/countermandlaw13.SemaSum", spec := "semaSum", apart := false }
def SemaSumSaid : Prop := semaSumRow.holds Try.pinned (OpenSpec.ofChange semaSumSpec)

/-- ITS FALSE NEIGHBOUR: 'it returns false'. Refute it at one input. -/
def semaSumWrong : ChangeSpec := { name := "semaSum", fn := fun _ => fun
  | [d1, d2] => { results := [.lit (.bool false)], args := [d1, d2] }
  | _ => none }
def SemaSumWrongFalsely : Prop := semaSumRow.holds Try.pinned (OpenSpec.ofChange semaSumWrong)

/-- 'countermandlaw13.SemaOrder': WHATEVER THE INPUT: true; the input reads as it did. -/
def semaOrderSpec : ChangeSpec := { name := "semaOrder", fn := fun _ => fun
  | [d1, d2] => { results := [.lit (.bool true)], args := [d1, d2] }
  | _ => none }
def semaOrderRow : OpenClaim := { program := "ytaplikopapnlpaa", sum := "757c2783fc1105b9ce0bae7d3924fd9836a2d158b555b1bcbfd144d30afdd6db", func := "countermand/countermandlaw13.SemaOrder", spec := "semaOrder", apart := false }
def SemaOrderSaid : Prop := semaOrderRow.holds Try.pinned (OpenSpec.ofChange semaOrderSpec)

/-- ITS FALSE NEIGHBOUR: 'it returns false'. Refute it at one input. -/
def semaOrderWrong : ChangeSpec := { name := "semaOrder", fn := fun _ => fun
  | [d1, d2] => { results := [.lit (.bool false)], args := [d1, d2] }
  | _ => none }
def SemaOrderWrongFalsely : Prop := semaOrderRow.holds Try.pinned (OpenSpec.ofChange semaOrderWrong)

/-- 'countermandlaw13.SemaMisuse': WHATEVER THE INPUT: true; the input reads as it did. -/
def semaMisuseSpec : ChangeSpec := { name := "semaMisuse", fn := fun _ => fun
  | [d1, d2, d3] => { results := [.lit (.bool true)], args := [d1, d2, d3] }
  | _ => none }
def semaMisuseRow : OpenClaim := { program := "ytaplikopapnlpaa", sum := "757c2783fc1105b9ce0bae7d3924fd9836a2d158b555b1bcbfd144d30afdd6db", func := "countermand/countermandlaw13.SemaMisuse", spec := "semaMisuse", apart := false }
def SemaMisuseSaid : Prop := semaMisuseRow.holds Try.pinned (OpenSpec.ofChange semaMisuseSpec)

/-- ITS FALSE NEIGHBOUR: 'it returns false'. Refute it at one input. -/
def semaMisuseWrong : ChangeSpec := { name := "semaMisuse", fn := fun _ => fun
  | [d1, d2, d3] => { results := [.lit (.bool false)], args := [d1, d2, d3] }
  | _ => none }
def SemaMisuseWrongFalsely : Prop := semaMisuseRow.holds Try.pinned (OpenSpec.ofChange semaMisuseWrong)

/- THE SECOND FORM. 'bulk': how many values and letters a reading holds, each counted each time it is reached (what is shared counts as often as it is met; a slice's spare places count too). A statement '..UptoSaid' is the law's where the arguments, and the package variables that the reading takes, are together of bulk at most 1048576: NARROWER than '..Said'. Prove '..Said' where nothing that the law and all that it calls make is longer than what came in: it says more and counts as full. Else prove '..UptoSaid'. A law counts once. -/
mutual
def uptoBulk {H : Type} : DataW H → Nat
  | .lit (.string bytes) => bytes.length + 1
  | .lit _ => 1
  | .nil => 1
  | .ptr d => uptoBulk d + 1
  | .slice elems spare => uptoBulkAll elems + uptoBulkAll spare + 1
  | .agg parts => uptoBulkAll parts + 1
  | .iface _ d => uptoBulk d + 1
  | .map entries => uptoBulkEntries entries + 1
  | .held _ => 1
def uptoBulkAll {H : Type} : List (DataW H) → Nat
  | [] => 0
  | d :: r => uptoBulk d + uptoBulkAll r
def uptoBulkEntries {H : Type} : List (Lit × DataW H) → Nat
  | [] => 0
  | x :: r => uptoBulkEntry x + uptoBulkEntries r
def uptoBulkEntry {H : Type} : Lit × DataW H → Nat
  | (.string bytes, d) => bytes.length + uptoBulk d + 1
  | (_, d) => uptoBulk d + 1
 end
def uptoSmall : (H : Type) → List (DataW H) → Bool := fun _ ds => decide (uptoBulkAll ds ≤ 1048576)
def OpenSpec.upto (s : _root_.Go.ChangeSpec) : _root_.Go.OpenSpec := { _root_.Go.OpenSpec.ofChange s with cond := some uptoSmall }

/-- 'countermandlaw13.SemaDoes', WHERE WHAT IT READS IS OF BULK AT MOST 1048576: true; the input reads as it did. -/
def semaDoesUptoRow : OpenClaim := { program := "ytaplikopapnlpaa", sum := "757c2783fc1105b9ce0bae7d3924fd9836a2d158b555b1bcbfd144d30afdd6db", func := "countermand/countermandlaw13.SemaDoes", spec := "semaDoes", apart := false, narrowed := true }
def SemaDoesUptoSaid : Prop := semaDoesUptoRow.holds Try.pinned (OpenSpec.upto semaDoesSpec)

/-- 'countermandlaw13.SemaSum', WHERE WHAT IT READS IS OF BULK AT MOST 1048576: true; the input reads as it did. -/
def semaSumUptoRow : OpenClaim := { program := "ytaplikopapnlpaa", sum := "757c2783fc1105b9ce0bae7d3924fd9836a2d158b555b1bcbfd144d30afdd6db", func := "countermand/countermandlaw13.SemaSum", spec := "semaSum", apart := false, narrowed := true }
def SemaSumUptoSaid : Prop := semaSumUptoRow.holds Try.pinned (OpenSpec.upto semaSumSpec)

/-- 'countermandlaw13.SemaOrder', WHERE WHAT IT READS IS OF BULK AT MOST 1048576: true; the input reads as it did. -/
def semaOrderUptoRow : OpenClaim := { program := "ytaplikopapnlpaa", sum := "757c2783fc1105b9ce0bae7d3924fd9836a2d158b555b1bcbfd144d30afdd6db", func := "countermand/countermandlaw13.SemaOrder", spec := "semaOrder", apart := false, narrowed := true }
def SemaOrderUptoSaid : Prop := semaOrderUptoRow.holds Try.pinned (OpenSpec.upto semaOrderSpec)

/-- 'countermandlaw13.SemaMisuse', WHERE WHAT IT READS IS OF BULK AT MOST 1048576: true; the input reads as it did. -/
def semaMisuseUptoRow : OpenClaim := { program := "ytaplikopapnlpaa", sum := "757c2783fc1105b9ce0bae7d3924fd9836a2d158b555b1bcbfd144d30afdd6db", func := "countermand/countermandlaw13.SemaMisuse", spec := "semaMisuse", apart := false, narrowed := true }
def SemaMisuseUptoSaid : Prop := semaMisuseUptoRow.holds Try.pinned (OpenSpec.upto semaMisuseSpec)

end Rows
end Go.Proofs.Ytaplikopapnlpaa
