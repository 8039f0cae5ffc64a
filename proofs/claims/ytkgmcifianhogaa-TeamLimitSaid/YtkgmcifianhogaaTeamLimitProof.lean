/-
  The law TeamLimit of layer 14 answers true at every input, for package team as it landed. No condition beyond the statement's own.
-/
import Derived.Test.YtkgmcifianhogaaTeamLimitRow
import Derived.Test.YtkgmcifianhogaaTeamD
namespace Go.Proofs.Ytkgmcifianhogaa
theorem teamLimit_holds : Rows.TeamLimitSaid := teamLimit.over TeamA.theTm
#print axioms teamLimit_holds
end Go.Proofs.Ytkgmcifianhogaa
