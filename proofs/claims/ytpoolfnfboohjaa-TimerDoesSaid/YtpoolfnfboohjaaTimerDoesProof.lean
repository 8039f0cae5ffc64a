/-
  The law TimerDoes of layer 4 answers true at every input, for package timer as it landed. No condition beyond the statement's own.
-/
import Derived.Test.YtpoolfnfboohjaaTimerDoesRow
import Derived.Test.YtpoolfnfboohjaaTimerC
namespace Go.Proofs.Ytpoolfnfboohjaa
theorem timerDoes_holds : Rows.TimerDoesSaid := timerDoes.over TimerC.theClk
#print axioms timerDoes_holds
end Go.Proofs.Ytpoolfnfboohjaa
