/-
  The law CtxDoes of layer 6 answers true at every input, for package ctx as it landed. No condition beyond the statement's own.
-/
import Derived.Test.YtidkppjhmgehoaaCtxDoesRow
import Derived.Test.YtidkppjhmgehoaaCxThe
namespace Go.Proofs.Ytidkppjhmgehoaa
theorem ctxDoes_holds : Rows.CtxDoesSaid := ctxDoes.over CxC.theCx
#print axioms ctxDoes_holds
end Go.Proofs.Ytidkppjhmgehoaa
