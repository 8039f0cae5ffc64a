/-
  The law OnceDoes of layer 11 answers true at every input, for package once as it landed. No condition beyond the statement's own.
-/
import Derived.Test.YtlepedhfnkamkaaOnceDoesRow
import Derived.Test.YtlepedhfnkamkaaOnceB
namespace Go.Proofs.Ytlepedhfnkamkaa
theorem onceDoes_holds : Rows.OnceDoesSaid := onceDoes.over OnceA.theOn
#print axioms onceDoes_holds
end Go.Proofs.Ytlepedhfnkamkaa
