/-
  No cell of these rows narrows 'for every input' (looked for: loops, veiled, ifaces, maps, wideKeys, modest, calm, conditions, laid).
  DERIVED. THE GIVEN ROWS OF THIS SEAT. 4 by the template 'for every input the law returns true; each argument reads behind the call as it read before'; 0 by the template 'total and deterministic' (their statements: YtmlicljoadcoeaaTotals.lean).
  GIVEN WITH THE SEED: the statements are not yours to turn. If you find one false, say at which input.
  Laid BY PROGRAM, IN A SANDBOX (cutbox-rows.mjs): the forced cells as the released guide's own fill.sh prints them over the translation 8458fe04e3f56411… (all of the seat's roots in one cut). By AI agents, Wed Nov 11 2026. No macro, syntax, notation, axiom, sorry.
-/
import Derived.Test.YtmlicljoadcoeaaChecked
import GoSem.Claim
import GoSem.ClaimJoined
import GoSem.ClaimMapViews
import Derived.JoinedTies
import Derived.KernelRfl
namespace Go.Proofs.Ytmlicljoadcoeaa
/- THE CELL 'sum', in the pinned program and in every row, IS THE sha256 OF THE DUMP (.gsa) THAT YtmlicljoadcoeaaProg.lean LOADS. Nothing in Lean hashes anything: it is a label: what it is worth is what the hold of that sum in a sandbox is worth. -/
noncomputable def Try.pinned : Pinned := { name := "ytmlicljoadcoeaa", sum := "8458fe04e3f564111add062c3336bf97dc7dec6645a1661ebad34972f6380438", checked := Try.checked }
namespace Rows
def none {H : Type} : Left H := { results := [], args := [] }

/-- 'countermandlaw09.RWDoes': WHATEVER THE INPUT: true; the input reads as it did. -/
def rWDoesSpec : ChangeSpec := { name := "rWDoes", fn := fun _ => fun
  | [d1, d2] => { results := [.lit (.bool true)], args := [d1, d2] }
  | _ => none }
def rWDoesRow : OpenClaim := { program := "ytmlicljoadcoeaa", sum := "8458fe04e3f564111add062c3336bf97dc7dec6645a1661ebad34972f6380438", func := "countermand/countermandlaw09.RWDoes", spec := "rWDoes", apart := false }
def RWDoesSaid : Prop := rWDoesRow.holds Try.pinned (OpenSpec.ofChange rWDoesSpec)

/-- ITS FALSE NEIGHBOUR: 'it returns false'. Refute it at one input. -/
def rWDoesWrong : ChangeSpec := { name := "rWDoes", fn := fun _ => fun
  | [d1, d2] => { results := [.lit (.bool false)], args := [d1, d2] }
  | _ => none }
def RWDoesWrongFalsely : Prop := rWDoesRow.holds Try.pinned (OpenSpec.ofChange rWDoesWrong)

/-- 'countermandlaw09.RWOne': WHATEVER THE INPUT: true; the input reads as it did. -/
def rWOneSpec : ChangeSpec := { name := "rWOne", fn := fun _ => fun
  | [d] => { results := [.lit (.bool true)], args := [d] }
  | _ => none }
def rWOneRow : OpenClaim := { program := "ytmlicljoadcoeaa", sum := "8458fe04e3f564111add062c3336bf97dc7dec6645a1661ebad34972f6380438", func := "countermand/countermandlaw09.RWOne", spec := "rWOne", apart := false }
def RWOneSaid : Prop := rWOneRow.holds Try.pinned (OpenSpec.ofChange rWOneSpec)

/-- ITS FALSE NEIGHBOUR: 'it returns false'. Refute it at one input. -/
def rWOneWrong : ChangeSpec := { name := "rWOne", fn := fun _ => fun
  | [d] => { results := [.lit (.bool false)], args := [d] }
  | _ => none }
def RWOneWrongFalsely : Prop := rWOneRow.holds Try.pinned (OpenSpec.ofChange rWOneWrong)

/-- 'countermandlaw09.RWPrefers': WHATEVER THE INPUT: true; the input reads as it did. -/
def rWPrefersSpec : ChangeSpec := { name := "rWPrefers", fn := fun _ => fun
  | [d] => { results := [.lit (.bool true)], args := [d] }
  | _ => none }
def rWPrefersRow : OpenClaim := { program := "ytmlicljoadcoeaa", sum := "8458fe04e3f564111add062c3336bf97dc7dec6645a1661ebad34972f6380438", func := "countermand/countermandlaw09.RWPrefers", spec := "rWPrefers", apart := false }
def RWPrefersSaid : Prop := rWPrefersRow.holds Try.pinned (OpenSpec.ofChange rWPrefersSpec)

/-- ITS FALSE NEIGHBOUR: 'it returns false'. Refute it at one input. -/
def rWPrefersWrong : ChangeSpec := { name := "rWPrefers", fn := fun _ => fun
  | [d] => { results := [.lit (.bool false)], args := [d] }
  | _ => none }
def RWPrefersWrongFalsely : Prop := rWPrefersRow.holds Try.pinned (OpenSpec.ofChange rWPrefersWrong)

/-- 'countermandlaw09.RWMisuse': WHATEVER THE INPUT: true; the input reads as it did. -/
def rWMisuseSpec : ChangeSpec := { name := "rWMisuse", fn := fun _ => fun
  | [d1, d2] => { results := [.lit (.bool true)], args := [d1, d2] }
  | _ => none }
def rWMisuseRow : OpenClaim := { program := "ytmlicljoadcoeaa", sum := "8458fe04e3f564111add062c3336bf97dc7dec6645a1661ebad34972f6380438", func := "countermand/countermandlaw09.RWMisuse", spec := "rWMisuse", apart := false }
def RWMisuseSaid : Prop := rWMisuseRow.holds Try.pinned (OpenSpec.ofChange rWMisuseSpec)

/-- ITS FALSE NEIGHBOUR: 'it returns false'. Refute it at one input. -/
def rWMisuseWrong : ChangeSpec := { name := "rWMisuse", fn := fun _ => fun
  | [d1, d2] => { results := [.lit (.bool false)], args := [d1, d2] }
  | _ => none }
def RWMisuseWrongFalsely : Prop := rWMisuseRow.holds Try.pinned (OpenSpec.ofChange rWMisuseWrong)

/- THE SECOND FORM. 'bulk': how many values and letters a reading holds, each counted each time it is reached (what is shared counts as often as it is met; a slice's spare places count too). A statement '..UptoSaid' is the law's where the arguments, and the package variables that the reading takes, are together of bulk at most 1048576: NARROWER than '..Said'. Prove '..Said' where nothing that the law and all that it calls make is longer than what came in: it says more and counts as full. Else prove '..UptoSaid'. A law counts once. -/
mutual
def uptoBulk {H : Type} : DataW H → Nat
  | .lit (.string bytes) => bytes.length + 1
  | .lit _ => 1
  | .nil => 1
  | .ptr d => uptoBulk d + 1
  | .slice elems spare => uptoBulkAll elems + uptoBulkAll spare + 1
  | .agg parts => uptoBulkAll parts + 1
  | .iface _ d => uptoBulk d + 1
  | .map entries => uptoBulkEntries entries + 1
  | .held _ => 1
def uptoBulkAll {H : Type} : List (DataW H) → Nat
  | [] => 0
  | d :: r => uptoBulk d + uptoBulkAll r
def uptoBulkEntries {H : Type} : List (Lit × DataW H) → Nat
  | [] => 0
  | x :: r => uptoBulkEntry x + uptoBulkEntries r
def uptoBulkEntry {H : Type} : Lit × DataW H → Nat
  | (.string bytes, d) => bytes.length + uptoBulk d + 1
  | (_, d) => uptoBulk d + 1
 end
def uptoSmall : (H : Type) → List (DataW H) → Bool := fun _ ds => decide (uptoBulkAll ds ≤ 1048576)
def OpenSpec.upto (s : _root_.Go.ChangeSpec) : _root_.Go.OpenSpec := { _root_.Go.OpenSpec.ofChange s with cond := some uptoSmall }

/-- 'countermandlaw09.RWDoes', WHERE WHAT IT READS IS OF BULK AT MOST 1048576: true; the input reads as it did. -/
def rWDoesUptoRow : OpenClaim := { program := "ytmlicljoadcoeaa", sum := "8458fe04e3f564111add062c3336bf97dc7dec6645a1661ebad34972f6380438", func := "countermand/countermandlaw09.RWDoes", spec := "rWDoes", apart := false, narrowed := true }
def RWDoesUptoSaid : Prop := rWDoesUptoRow.holds Try.pinned (OpenSpec.upto rWDoesSpec)

/-- 'countermandlaw09.RWOne', WHERE WHAT IT READS IS OF BULK AT MOST 1048576: true; the input reads as it did. -/
def rWOneUptoRow : OpenClaim := { program := "ytmlicljoadcoeaa", sum := "8458fe04e3f564111add062c3336bf97dc7dec6645a1661ebad34972f6380438", func := "countermand/countermandlaw09.RWOne", spec := "rWOne", apart := false, narrowed := true }
def RWOneUptoSaid : Prop := rWOneUptoRow.holds Try.pinned (OpenSpec.upto rWOneSpec)

/-- 'countermandlaw09.RWPrefers', WHERE WHAT IT READS IS OF BULK AT MOST 1048576: true; the input reads as it did. -/
def rWPrefersUptoRow : OpenClaim := { program := "ytmlicljoadcoeaa", sum := "8458fe04e3f564111add062c3336bf97dc7dec6645a1661ebad34972f6380438", func := "countermand/countermandlaw09.RWPrefers", spec := "rWPrefers", apart := false, narrowed := true }
def RWPrefersUptoSaid : Prop := rWPrefersUptoRow.holds Try.pinned (OpenSpec.upto rWPrefersSpec)

/-- 'countermandlaw09.RWMisuse', WHERE WHAT IT READS IS OF BULK AT MOST 1048576: true; the input reads as it did. -/
def rWMisuseUptoRow : OpenClaim := { program := "ytmlicljoadcoeaa", sum := "8458fe04e3f564111add062c3336bf97dc7dec6645a1661ebad34972f6380438", func := "countermand/countermandlaw09.RWMisuse", spec := "rWMisuse", apart := false, narrowed := true }
def RWMisuseUptoSaid : Prop := rWMisuseUptoRow.holds Try.pinned (OpenSpec.upto rWMisuseSpec)

end Rows
end Go.Proofs.Ytmlicljoadcoeaa
