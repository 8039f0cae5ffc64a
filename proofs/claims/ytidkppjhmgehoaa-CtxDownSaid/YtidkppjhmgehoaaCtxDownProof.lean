/-
  The law CtxDown of layer 6 answers true at every input, for package ctx as it landed. No condition beyond the statement's own.
-/
import Derived.Test.YtidkppjhmgehoaaCtxDownRow
import Derived.Test.YtidkppjhmgehoaaCxThe
namespace Go.Proofs.Ytidkppjhmgehoaa
theorem ctxDown_holds : Rows.CtxDownSaid := ctxDown.over CxC.theCx
#print axioms ctxDown_holds
end Go.Proofs.Ytidkppjhmgehoaa
