/-
  The law AfterOnce of layer 7 answers true at every input, for package after as it landed. No condition beyond the statement's own.
-/
import Derived.Test.YtindcpcfilfnkaaAfterOnceRow
import Derived.Test.YtindcpcfilfnkaaAftThe
namespace Go.Proofs.Ytindcpcfilfnkaa
theorem afterOnce_holds : Rows.AfterOnceSaid := afterOnce.over AftC.theAf
#print axioms afterOnce_holds
end Go.Proofs.Ytindcpcfilfnkaa
