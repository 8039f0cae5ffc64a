/-
  The law CtxLate of layer 6 answers true at every input, for package ctx as it landed. No condition beyond the statement's own.
-/
import Derived.Test.YtidkppjhmgehoaaCtxLateRow
import Derived.Test.YtidkppjhmgehoaaCxThe
namespace Go.Proofs.Ytidkppjhmgehoaa
theorem ctxLate_holds : Rows.CtxLateSaid := ctxLate.over CxC.theCx
#print axioms ctxLate_holds
end Go.Proofs.Ytidkppjhmgehoaa
