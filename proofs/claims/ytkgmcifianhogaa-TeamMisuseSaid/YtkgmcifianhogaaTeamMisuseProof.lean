/-
  The law TeamMisuse of layer 14 answers true at every input, for package team as it landed. No condition beyond the statement's own.
-/
import Derived.Test.YtkgmcifianhogaaTeamMisuseRow
import Derived.Test.YtkgmcifianhogaaTeamD
namespace Go.Proofs.Ytkgmcifianhogaa
theorem teamMisuse_holds : Rows.TeamMisuseSaid := teamMisuse.over TeamA.theTm
#print axioms teamMisuse_holds
end Go.Proofs.Ytkgmcifianhogaa
