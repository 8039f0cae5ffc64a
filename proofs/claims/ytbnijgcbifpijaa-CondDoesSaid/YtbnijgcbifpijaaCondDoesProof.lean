/-
  The law CondDoes of layer 10 answers true at every input, for package cond as it landed. No condition beyond the statement's own.
-/
import Derived.Test.YtbnijgcbifpijaaCondDoesRow
import Derived.Test.YtbnijgcbifpijaaCondB
namespace Go.Proofs.Ytbnijgcbifpijaa
theorem condDoes_holds : Rows.CondDoesSaid := condDoes.over CondA.theCd
#print axioms condDoes_holds
end Go.Proofs.Ytbnijgcbifpijaa
