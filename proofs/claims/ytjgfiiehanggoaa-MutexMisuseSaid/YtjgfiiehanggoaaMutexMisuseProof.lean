/-
  The law MutexMisuse of layer 8 answers true at every input, for package mutex as it landed. No condition beyond the statement's own.
-/
import Derived.Test.YtjgfiiehanggoaaMutexMisuseRow
import Derived.Test.YtjgfiiehanggoaaMutA
namespace Go.Proofs.Ytjgfiiehanggoaa
theorem mutexMisuse_holds : Rows.MutexMisuseSaid := mutexMisuse.over MutA.theMu
#print axioms mutexMisuse_holds
end Go.Proofs.Ytjgfiiehanggoaa
