/-
  The law AfterDoes of layer 7 answers true at every input, for package after as it landed. No condition beyond the statement's own.
-/
import Derived.Test.YtindcpcfilfnkaaAfterDoesRow
import Derived.Test.YtindcpcfilfnkaaAftThe
namespace Go.Proofs.Ytindcpcfilfnkaa
theorem afterDoes_holds : Rows.AfterDoesSaid := afterDoes.over AftC.theAf
#print axioms afterDoes_holds
end Go.Proofs.Ytindcpcfilfnkaa
