import Derived.Test.YtdfknefcgijhmaaGreatTk
import Derived.Test.YtdfknefcgijhmaaGreatEvX
import Derived.BigQuiet
import Derived.Deep.QuietTactic
set_option maxHeartbeats 16000000
set_option maxRecDepth 100000
set_option linter.unusedVariables false
set_option linter.unusedSimpArgs false
namespace Go.Proofs.YtdfknefcgijhmaaGreat
open Go.RowKit Go.Proofs.ShM Go.Proofs.GrM Go.Proofs.InM Go.Proofs.ImM Go.Proofs.EvM
theorem jH{t:T}{ps:List T}(h:DQ t ps=true):(t.1.length≤100∧t.2.length≤100)∧ps.length≤10∧∀u∈ps,u.1.length≤100∧u.2.length≤100:=by
 unfold DQ MT sS at h
 simp only[Bool.and_eq_true,List.all_eq_true,decide_eq_true_eq]at h
 obtain⟨h1,h2,h3⟩:=h
 exact⟨h1,by omega,h2⟩
theorem UG{t:T}{ps:List T}(h:DQ t ps=true)(n1:N64 t.1)(n2:N64 t.2):SmT t:=⟨(jH h).1.1,(jH h).1.2,n1,n2⟩
theorem QY{t:T}{ps:List T}(h:DQ t ps=true)(n:∀u∈ps,N64 u.1∧N64 u.2):xh ps:=⟨by have:=(jH h).2.1;omega,fun u hu=>⟨((jH h).2.2 u hu).1,((jH h).2.2 u hu).2,(n u hu).1,(n u hu).2⟩⟩
end Go.Proofs.YtdfknefcgijhmaaGreat
