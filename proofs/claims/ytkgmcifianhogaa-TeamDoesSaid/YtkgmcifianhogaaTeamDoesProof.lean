/-
  The law TeamDoes of layer 14 answers true at every input, for package team as it landed. No condition beyond the statement's own.
-/
import Derived.Test.YtkgmcifianhogaaTeamDoesRow
import Derived.Test.YtkgmcifianhogaaTeamD
namespace Go.Proofs.Ytkgmcifianhogaa
theorem teamDoes_holds : Rows.TeamDoesSaid := teamDoes.over TeamA.theTm
#print axioms teamDoes_holds
end Go.Proofs.Ytkgmcifianhogaa
