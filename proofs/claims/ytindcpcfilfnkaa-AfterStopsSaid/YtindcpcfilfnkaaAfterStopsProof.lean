/-
  The law AfterStops of layer 7 answers true at every input, for package after as it landed. No condition beyond the statement's own.
-/
import Derived.Test.YtindcpcfilfnkaaAfterStopsRow
import Derived.Test.YtindcpcfilfnkaaAftThe
namespace Go.Proofs.Ytindcpcfilfnkaa
theorem afterStops_holds : Rows.AfterStopsSaid := afterStops.over AftC.theAf
#print axioms afterStops_holds
end Go.Proofs.Ytindcpcfilfnkaa
