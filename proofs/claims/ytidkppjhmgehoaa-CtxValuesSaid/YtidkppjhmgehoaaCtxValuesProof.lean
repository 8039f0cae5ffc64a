/-
  The law CtxValues of layer 6 answers true at every input, for package ctx as it landed. No condition beyond the statement's own.
-/
import Derived.Test.YtidkppjhmgehoaaCtxValuesRow
import Derived.Test.YtidkppjhmgehoaaCxThe
namespace Go.Proofs.Ytidkppjhmgehoaa
theorem ctxValues_holds : Rows.CtxValuesSaid := ctxValues.over CxC.theCx
#print axioms ctxValues_holds
end Go.Proofs.Ytidkppjhmgehoaa
