/-
  The law MutexOne of layer 8 answers true at every input, for package mutex as it landed. No condition beyond the statement's own.
-/
import Derived.Test.YtjgfiiehanggoaaMutexOneRow
import Derived.Test.YtjgfiiehanggoaaMutA
namespace Go.Proofs.Ytjgfiiehanggoaa
theorem mutexOne_holds : Rows.MutexOneSaid := mutexOne.over MutA.theMu
#print axioms mutexOne_holds
end Go.Proofs.Ytjgfiiehanggoaa
