/-
  The law OnceLeaves of layer 11 answers true at every input, for package once as it landed. No condition beyond the statement's own.
-/
import Derived.Test.YtlepedhfnkamkaaOnceLeavesRow
import Derived.Test.YtlepedhfnkamkaaOnceB
namespace Go.Proofs.Ytlepedhfnkamkaa
theorem onceLeaves_holds : Rows.OnceLeavesSaid := onceLeaves.over OnceA.theOn
#print axioms onceLeaves_holds
end Go.Proofs.Ytlepedhfnkamkaa
