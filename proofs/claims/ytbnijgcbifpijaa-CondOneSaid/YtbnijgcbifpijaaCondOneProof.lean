/-
  The law CondOne of layer 10 answers true at every input, for package cond as it landed. No condition beyond the statement's own.
-/
import Derived.Test.YtbnijgcbifpijaaCondOneRow
import Derived.Test.YtbnijgcbifpijaaCondB
namespace Go.Proofs.Ytbnijgcbifpijaa
theorem condOne_holds : Rows.CondOneSaid := condOne.over CondA.theCd
#print axioms condOne_holds
end Go.Proofs.Ytbnijgcbifpijaa
