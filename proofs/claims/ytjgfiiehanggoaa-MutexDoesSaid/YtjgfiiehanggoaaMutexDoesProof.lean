/-
  The law MutexDoes of layer 8 answers true at every input, for package mutex as it landed. No condition beyond the statement's own.
-/
import Derived.Test.YtjgfiiehanggoaaMutexDoesRow
import Derived.Test.YtjgfiiehanggoaaMutA
namespace Go.Proofs.Ytjgfiiehanggoaa
theorem mutexDoes_holds : Rows.MutexDoesSaid := mutexDoes.over MutA.theMu
#print axioms mutexDoes_holds
end Go.Proofs.Ytjgfiiehanggoaa
