/-
  No cell of these rows narrows 'for every input' (looked for: loops, veiled, ifaces, maps, wideKeys, modest, calm, conditions, laid).
  DERIVED. THE GIVEN ROWS OF THIS SEAT. 4 by the template 'for every input the law returns true; each argument reads behind the call as it read before'; 0 by the template 'total and deterministic' (their statements: YtmmfganpgcefbaaTotals.lean).
  GIVEN WITH THE SEED: the statements are not yours to turn. If you find one false, say at which input.
  Laid BY PROGRAM, IN A SANDBOX (cutbox-rows.mjs): the forced cells as the released guide's own fill.sh prints them over the translation e11300845f9c1ac6… (all of the seat's roots in one cut). By AI agents, Wed Nov 11 2026. No macro, syntax, notation, axiom, sorry.
-/
import Derived.Test.YtmmfganpgcefbaaChecked
import GoSem.Claim
import GoSem.ClaimJoined
import GoSem.ClaimMapViews
import Derived.JoinedTies
import Derived.KernelRfl
namespace Go.Proofs.Ytmmfganpgcefbaa
/- THE CELL 'sum', in the pinned program and in every row, IS THE sha256 OF THE DUMP (.gsa) THAT YtmmfganpgcefbaaProg.lean LOADS. Nothing in Lean hashes anything: it is a label: what it is worth is what the hold of that sum in a sandbox is worth. -/
noncomputable def Try.pinned : Pinned := { name := "ytmmfganpgcefbaa", sum := "e11300845f9c1ac6b3e51b2b444921126bee940437f7218d50afe31a9ff5ffb5", checked := Try.checked }
namespace Rows
def none {H : Type} : Left H := { results := [], args := [] }

/-- 'countermandlaw01.SatTells': WHATEVER THE INPUT: true; the input reads as it did. -/
def satTellsSpec : ChangeSpec := { name := "satTells", fn := fun _ => fun
  | [d1, d2, d3, d4] => { results := [.lit (.bool true)], args := [d1, d2, d3, d4] }
  | _ => none }
def satTellsRow : OpenClaim := { program := "ytmmfganpgcefbaa", sum := "e11300845f9c1ac6b3e51b2b444921126bee940437f7218d50afe31a9ff5ffb5", func := "countermand/countermandlaw01.SatTells", spec := "satTells", apart := false }
def SatTellsSaid : Prop := satTellsRow.holds Try.pinned (OpenSpec.ofChange satTellsSpec)

/-- ITS FALSE NEIGHBOUR: 'it returns false'. Refute it at one input. -/
def satTellsWrong : ChangeSpec := { name := "satTells", fn := fun _ => fun
  | [d1, d2, d3, d4] => { results := [.lit (.bool false)], args := [d1, d2, d3, d4] }
  | _ => none }
def SatTellsWrongFalsely : Prop := satTellsRow.holds Try.pinned (OpenSpec.ofChange satTellsWrong)

/-- 'countermandlaw01.SatOrder': WHATEVER THE INPUT: true; the input reads as it did. -/
def satOrderSpec : ChangeSpec := { name := "satOrder", fn := fun _ => fun
  | [d1, d2, d3] => { results := [.lit (.bool true)], args := [d1, d2, d3] }
  | _ => none }
def satOrderRow : OpenClaim := { program := "ytmmfganpgcefbaa", sum := "e11300845f9c1ac6b3e51b2b444921126bee940437f7218d50afe31a9ff5ffb5", func := "countermand/countermandlaw01.SatOrder", spec := "satOrder", apart := false }
def SatOrderSaid : Prop := satOrderRow.holds Try.pinned (OpenSpec.ofChange satOrderSpec)

/-- ITS FALSE NEIGHBOUR: 'it returns false'. Refute it at one input. -/
def satOrderWrong : ChangeSpec := { name := "satOrder", fn := fun _ => fun
  | [d1, d2, d3] => { results := [.lit (.bool false)], args := [d1, d2, d3] }
  | _ => none }
def SatOrderWrongFalsely : Prop := satOrderRow.holds Try.pinned (OpenSpec.ofChange satOrderWrong)

/-- 'countermandlaw01.SatUntil': WHATEVER THE INPUT: true; the input reads as it did. -/
def satUntilSpec : ChangeSpec := { name := "satUntil", fn := fun _ => fun
  | [d1, d2] => { results := [.lit (.bool true)], args := [d1, d2] }
  | _ => none }
def satUntilRow : OpenClaim := { program := "ytmmfganpgcefbaa", sum := "e11300845f9c1ac6b3e51b2b444921126bee940437f7218d50afe31a9ff5ffb5", func := "countermand/countermandlaw01.SatUntil", spec := "satUntil", apart := false }
def SatUntilSaid : Prop := satUntilRow.holds Try.pinned (OpenSpec.ofChange satUntilSpec)

/-- ITS FALSE NEIGHBOUR: 'it returns false'. Refute it at one input. -/
def satUntilWrong : ChangeSpec := { name := "satUntil", fn := fun _ => fun
  | [d1, d2] => { results := [.lit (.bool false)], args := [d1, d2] }
  | _ => none }
def SatUntilWrongFalsely : Prop := satUntilRow.holds Try.pinned (OpenSpec.ofChange satUntilWrong)

/-- 'countermandlaw01.SatFits': WHATEVER THE INPUT: true; the input reads as it did. -/
def satFitsSpec : ChangeSpec := { name := "satFits", fn := fun _ => fun
  | [d1, d2, d3, d4] => { results := [.lit (.bool true)], args := [d1, d2, d3, d4] }
  | _ => none }
def satFitsRow : OpenClaim := { program := "ytmmfganpgcefbaa", sum := "e11300845f9c1ac6b3e51b2b444921126bee940437f7218d50afe31a9ff5ffb5", func := "countermand/countermandlaw01.SatFits", spec := "satFits", apart := false }
def SatFitsSaid : Prop := satFitsRow.holds Try.pinned (OpenSpec.ofChange satFitsSpec)

/-- ITS FALSE NEIGHBOUR: 'it returns false'. Refute it at one input. -/
def satFitsWrong : ChangeSpec := { name := "satFits", fn := fun _ => fun
  | [d1, d2, d3, d4] => { results := [.lit (.bool false)], args := [d1, d2, d3, d4] }
  | _ => none }
def SatFitsWrongFalsely : Prop := satFitsRow.holds Try.pinned (OpenSpec.ofChange satFitsWrong)

/- THE SECOND FORM. 'bulk': how many values and letters a reading holds, each counted each time it is reached (what is shared counts as often as it is met; a slice's spare places count too). A statement '..UptoSaid' is the law's where the arguments, and the package variables that the reading takes, are together of bulk at most 1048576: NARROWER than '..Said'. Prove '..Said' where nothing that the law and all that it calls make is longer than what came in: it says more and counts as full. Else prove '..UptoSaid'. A law counts once. -/
mutual
def uptoBulk {H : Type} : DataW H → Nat
  | .lit (.string bytes) => bytes.length + 1
  | .lit _ => 1
  | .nil => 1
  | .ptr d => uptoBulk d + 1
  | .slice elems spare => uptoBulkAll elems + uptoBulkAll spare + 1
  | .agg parts => uptoBulkAll parts + 1
  | .iface _ d => uptoBulk d + 1
  | .map entries => uptoBulkEntries entries + 1
  | .held _ => 1
def uptoBulkAll {H : Type} : List (DataW H) → Nat
  | [] => 0
  | d :: r => uptoBulk d + uptoBulkAll r
def uptoBulkEntries {H : Type} : List (Lit × DataW H) → Nat
  | [] => 0
  | x :: r => uptoBulkEntry x + uptoBulkEntries r
def uptoBulkEntry {H : Type} : Lit × DataW H → Nat
  | (.string bytes, d) => bytes.length + uptoBulk d + 1
  | (_, d) => uptoBulk d + 1
 end
def uptoSmall : (H : Type) → List (DataW H) → Bool := fun _ ds => decide (uptoBulkAll ds ≤ 1048576)
def OpenSpec.upto (s : _root_.Go.ChangeSpec) : _root_.Go.OpenSpec := { _root_.Go.OpenSpec.ofChange s with cond := some uptoSmall }

/-- 'countermandlaw01.SatTells', WHERE WHAT IT READS IS OF BULK AT MOST 1048576: true; the input reads as it did. -/
def satTellsUptoRow : OpenClaim := { program := "ytmmfganpgcefbaa", sum := "e11300845f9c1ac6b3e51b2b444921126bee940437f7218d50afe31a9ff5ffb5", func := "countermand/countermandlaw01.SatTells", spec := "satTells", apart := false, narrowed := true }
def SatTellsUptoSaid : Prop := satTellsUptoRow.holds Try.pinned (OpenSpec.upto satTellsSpec)

/-- 'countermandlaw01.SatOrder', WHERE WHAT IT READS IS OF BULK AT MOST 1048576: true; the input reads as it did. -/
def satOrderUptoRow : OpenClaim := { program := "ytmmfganpgcefbaa", sum := "e11300845f9c1ac6b3e51b2b444921126bee940437f7218d50afe31a9ff5ffb5", func := "countermand/countermandlaw01.SatOrder", spec := "satOrder", apart := false, narrowed := true }
def SatOrderUptoSaid : Prop := satOrderUptoRow.holds Try.pinned (OpenSpec.upto satOrderSpec)

/-- 'countermandlaw01.SatUntil', WHERE WHAT IT READS IS OF BULK AT MOST 1048576: true; the input reads as it did. -/
def satUntilUptoRow : OpenClaim := { program := "ytmmfganpgcefbaa", sum := "e11300845f9c1ac6b3e51b2b444921126bee940437f7218d50afe31a9ff5ffb5", func := "countermand/countermandlaw01.SatUntil", spec := "satUntil", apart := false, narrowed := true }
def SatUntilUptoSaid : Prop := satUntilUptoRow.holds Try.pinned (OpenSpec.upto satUntilSpec)

/-- 'countermandlaw01.SatFits', WHERE WHAT IT READS IS OF BULK AT MOST 1048576: true; the input reads as it did. -/
def satFitsUptoRow : OpenClaim := { program := "ytmmfganpgcefbaa", sum := "e11300845f9c1ac6b3e51b2b444921126bee940437f7218d50afe31a9ff5ffb5", func := "countermand/countermandlaw01.SatFits", spec := "satFits", apart := false, narrowed := true }
def SatFitsUptoSaid : Prop := satFitsUptoRow.holds Try.pinned (OpenSpec.upto satFitsSpec)

end Rows
end Go.Proofs.Ytmmfganpgcefbaa
