import Derived.Test.YtdfknefcgijhmaaGreatGdM
import Derived.Test.YtdfknefcgijhmaaGreatTk
import Derived.Test.YtdfknefcgijhmaaGreatVjM
set_option maxHeartbeats 16000000
set_option maxRecDepth 100000
set_option linter.unusedVariables false
set_option linter.unusedSimpArgs false
namespace Go.Proofs.EvM
open Go.Proofs.ShM Go.Proofs.cF Go.Proofs.GrM Go.Proofs.InM Go.Proofs.ImM
open Go.Proofs.ShM Go.Proofs.cF Go.Proofs.GrM Go.Proofs.InM Go.Proofs.ImM
open Go.Proofs.ShM Go.Proofs.cF Go.Proofs.GrM Go.Proofs.InM Go.Proofs.ImM
theorem eP{h:List T}{i:Nat}(hi:i<h.length)(x:T):(h.set i x).getD i eT=x:=by
 rw[List.getD_eq_getElem?_getD,List.getElem?_set_self hi];rfl
theorem cQ(b:T):iS eT b=(b,0):=by unfold iS;rw[if_pos (show eT.2.length=0 from rfl)]
theorem Gt{L:List Int}{x:Int}(h:x∈L):¬L.contains x=false:=by simp[h]
theorem cT{l:List Nd}{vals:List T}{live:List Int}{i:Nat}{hang fD:List T}{h2 g2:List T}(h:(i:Int)∈live)(hd:dD (l.getD i nd0) vals hang fD i=((h2,g2),0)):gY l vals live (i+1) hang fD=gY l vals live i h2 g2:=by
 rw[gY,if_neg (Gt h),hd,if_pos rfl]
theorem lK(vals:List T):∀(l:List Nd) (i:Nat) (g:List T),(∀n∈l,n.1=2→(g.getD (n.2.2.getD 0 0).toNat eT).2.length≠0)→eY vals i l g=g
 | [],_,_,_=>rfl
 |n::l,i,g,h=>by
  rw[eY,if_neg (fun hh=>h n List.mem_cons_self hh.1 hh.2)]
  exact lK vals l (i+1) g fun m hm=>h m (List.mem_cons_of_mem _ hm)
open Go.Proofs.ShM Go.Proofs.cF Go.Proofs.GrM Go.Proofs.InM Go.Proofs.ImM
open Go.Proofs.ShM Go.Proofs.cF Go.Proofs.GrM Go.Proofs.InM Go.Proofs.ImM
end Go.Proofs.EvM
