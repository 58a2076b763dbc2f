import Derived.Test.YtdfknefcgijhmaaGreatGdMLWT
import Derived.Test.YtdfknefcgijhmaaGreatGdM
import Derived.Test.YtdfknefcgijhmaaGreatTk
import Derived.Test.YtdfknefcgijhmaaGreatVjM
set_option maxHeartbeats 16000000
set_option maxRecDepth 100000
set_option linter.unusedVariables false
set_option linter.unusedSimpArgs false
namespace Go.Proofs.EvM
open Go.Proofs.ShM Go.Proofs.cF Go.Proofs.GrM Go.Proofs.InM Go.Proofs.ImM
open Go.Proofs.ShM Go.Proofs.cF Go.Proofs.GrM Go.Proofs.InM Go.Proofs.ImM
theorem fV(a:Int):bO ([],[a])=true:=by
 show aB [] [a]=true
 exact Go.Proofs.ShM.aA.2 ⟨by decide,by simp[au];decide⟩
open Go.Proofs.ShM Go.Proofs.cF Go.Proofs.GrM Go.Proofs.InM Go.Proofs.ImM
def eH:T:=([],[4294967296])
open Go.Proofs.ShM Go.Proofs.cF Go.Proofs.GrM Go.Proofs.InM Go.Proofs.ImM
open Go.Proofs.ShM Go.Proofs.cF Go.Proofs.GrM Go.Proofs.InM Go.Proofs.ImM
end Go.Proofs.EvM
