/-
  The law CondLeaves of layer 10 answers true at every input, for package cond as it landed. No condition beyond the statement's own.
-/
import Derived.Test.YtbnijgcbifpijaaCondLeavesRow
import Derived.Test.YtbnijgcbifpijaaCondB
namespace Go.Proofs.Ytbnijgcbifpijaa
theorem condLeaves_holds : Rows.CondLeavesSaid := condLeaves.over CondA.theCd
#print axioms condLeaves_holds
end Go.Proofs.Ytbnijgcbifpijaa
