/-
  The law SemaMisuse of layer 13 answers true at every input, for package sema as it landed. No condition beyond the statement's own.
-/
import Derived.Test.YtaplikopapnlpaaSemaMisuseRow
import Derived.Test.YtaplikopapnlpaaSemaC
namespace Go.Proofs.Ytaplikopapnlpaa
theorem semaMisuse_holds : Rows.SemaMisuseSaid := semaMisuse.over SemaA.theSg
#print axioms semaMisuse_holds
end Go.Proofs.Ytaplikopapnlpaa
