/-
  The law TimerFires of layer 4 answers true at every input, for package timer as it landed. No condition beyond the statement's own.
-/
import Derived.Test.YtpoolfnfboohjaaTimerFiresRow
import Derived.Test.YtpoolfnfboohjaaTimerC
namespace Go.Proofs.Ytpoolfnfboohjaa
theorem timerFires_holds : Rows.TimerFiresSaid := timerFires.over TimerC.theClk
#print axioms timerFires_holds
end Go.Proofs.Ytpoolfnfboohjaa
