/-
  The law TimerSteps of layer 4 answers true at every input, for package timer as it landed. No condition beyond the statement's own.
-/
import Derived.Test.YtpoolfnfboohjaaTimerStepsRow
import Derived.Test.YtpoolfnfboohjaaTimerC
namespace Go.Proofs.Ytpoolfnfboohjaa
theorem timerSteps_holds : Rows.TimerStepsSaid := timerSteps.over TimerC.theClk
#print axioms timerSteps_holds
end Go.Proofs.Ytpoolfnfboohjaa
