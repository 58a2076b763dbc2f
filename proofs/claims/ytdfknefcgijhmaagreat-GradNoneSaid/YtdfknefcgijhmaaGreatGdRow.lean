import Derived.Test.YtdfknefcgijhmaaGreatTk
import Derived.Test.YtdfknefcgijhmaaGreatGdC
import Derived.ProofKit
import Derived.OpenShut
import Derived.Carry
set_option maxHeartbeats 16000000
set_option maxRecDepth 100000
set_option linter.unusedVariables false
set_option linter.unusedSimpArgs false
namespace Go.Proofs.YtdfknefcgijhmaaGreat
open Go.ChangeShapes Go.WideShapes Go.ChangeAt Go.RowKit Go.Proofs.ShM Go.Proofs.GrM Go.Proofs.ImM
section
variable{H:Type}{enc:TypeId×Value→H}
theorem Wz{W:World}{a:Option Addr}{n c:Nat}{d:DataW H}{p:List MemPlace}(h:DataW.Trod enc Tryz.prog W 0 (fun _=>true) true 29 (.slice a n c) d p):
  ∃xs:List Int,n=xs.length∧Rd W a xs∧bN xs∧xs.length≤c∧c≤9223372036854775807:=by
 obtain⟨fuel,hf⟩:=h
 rcases open_ints Tryz.underlying29 Tryz.underlying3 Cu hf with⟨hcs,_⟩|⟨a',len,cap,zs,hcs,_,hl,hm,hz,_,hcell,hwf⟩
 ·simp[Value.cells]at hcs
  obtain⟨rfl,rfl,rfl⟩:=hcs
  exact⟨[],rfl,Rd.nil _ _,(fun _ h=>by cases h),by simp,by omega⟩
 ·simp[Value.cells]at hcs
  obtain⟨rfl,rfl,rfl⟩:=hcs
  simp only[if_true]at hz
  have ln:(zs.take n).length=n:=by simp;omega
  have hm':c≤9223372036854775807:=by unfold maxLen at hm;omega
  refine⟨zs.take n,ln.symm,⟨by omega,fun hp=>⟨a',rfl,?_,fun j u hj=>?_⟩⟩,fun x hx=>Na (hwf x (List.mem_of_mem_take hx)),by omega,hm'⟩
  ·have:=yu (hcell 0 (by omega))
   rwa [ah]at this
  ·have hj':j<n:=by have:=(List.getElem?_eq_some_iff.1 hj).1;omega
   rw[hcell j (by omega)]
   rw[List.getElem?_take,if_pos hj']at hj
   simp[List.getD,hj]
end
end Go.Proofs.YtdfknefcgijhmaaGreat
