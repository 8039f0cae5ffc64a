/-
  The law OnceOnce of layer 11 answers true at every input, for package once as it landed. No condition beyond the statement's own.
-/
import Derived.Test.YtlepedhfnkamkaaOnceOnceRow
import Derived.Test.YtlepedhfnkamkaaOnceB
namespace Go.Proofs.Ytlepedhfnkamkaa
theorem onceOnce_holds : Rows.OnceOnceSaid := onceOnce.over OnceA.theOn
#print axioms onceOnce_holds
end Go.Proofs.Ytlepedhfnkamkaa
