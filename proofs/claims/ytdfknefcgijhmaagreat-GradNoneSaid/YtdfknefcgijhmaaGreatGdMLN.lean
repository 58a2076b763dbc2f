import Derived.Test.YtdfknefcgijhmaaGreatGdM
import Derived.Test.YtdfknefcgijhmaaGreatTk
import Derived.Test.YtdfknefcgijhmaaGreatVjM
set_option maxHeartbeats 16000000
set_option maxRecDepth 100000
set_option linter.unusedVariables false
set_option linter.unusedSimpArgs false
namespace Go.Proofs.EvM
open Go.Proofs.ShM Go.Proofs.cF Go.Proofs.GrM Go.Proofs.InM Go.Proofs.ImM
theorem ku(n:Int)(inp:T)(ps:List T):bq 3 [n] [] inp ps=(([],[n]),0):=by
 have h:aF 3 [n] (shT [])=([],0):=by
  unfold aF
  rw[if_pos ⟨by unfold gE aM;simp[ak],by rfl,rfl⟩]
  rfl
 unfold bq
 rw[if_neg (by simp),h,if_pos rfl]
 show aV 3 [n] _ _ [] inp ps=_
 unfold aV
 rw[if_neg (by decide),if_neg (by decide),if_pos rfl]
 unfold dm tnE
 rw[if_pos (by decide)]
 rfl
theorem tf(l:List Nd)(vals:List T)(live:List Int):∀(k:Nat) (hang fD:List T),(∀i:Nat,i<k→live.contains (i:Int)=false)→gY l vals live k hang fD=(fD,-1,0)
 |0,_,_,_=>rfl
 |k+1,hang,fD,h=>by
  rw[gY,if_pos (h k (Nat.lt_succ_self k))]
  exact tf l vals live k hang fD fun i hi=>h i (by omega)
theorem kT{l:List Nd}{n:Int}{vals:List T}(hc:aK (l++[(3,[],[n])])=true)(hv:vals.length=l.length):dB (l++[(3,[],[n])]) (vals++[([],[n])])=(List.replicate 8 eT,-1,0):=by
 have hl:=(aO.1 hc).2.1
 rw[List.length_append,List.length_singleton]at hl
 have hlv:fW (l++[(3,[],[n])])=[(l.length:Int)]:=by
  unfold fW
  rw[if_pos hc,yx]
  have e:d8 l l.length ((l.length:Int)::(3,([]:List Int),[n]).2.1)=[(l.length:Int)]:=BU fun j hj hm=>by
   rw[List.mem_singleton]at hm;omega
  rw[e,List.length_append,List.length_singleton,ja,if_pos (by simp),DX (fun j hj hm=>by rw[List.mem_singleton]at hm;omega)]
  rfl
 have hk:(vals++[([],[n])]).getD ((l++[(3,[],[n])]).length-1) eT=([],[n]):=by
  rw[List.length_append,List.length_singleton,Nat.add_sub_cancel,←hv,List.getD_eq_getElem?_getD,List.getElem?_append_right (Nat.le_refl _)]
  simp
 have hh:qx (l++[(3,[],[n])]) (vals++[([],[n])])=(List.replicate (l.length+1) eT).set l.length ([],[4294967296]):=by
  unfold qx
  rw[hk,List.length_append,List.length_singleton,Nat.add_sub_cancel]
  rfl
 unfold dB
 rw[hh,hlv,List.length_append,List.length_singleton,gY,if_neg (by simp)]
 have hg:((List.replicate (l.length+1) eT).set l.length ([],[4294967296])).getD l.length eT=([],[4294967296]):=by
  rw[List.getD_eq_getElem?_getD,List.getElem?_set_self (by simp)]
  rfl
 have hk2:(vals++[([],[n])]).getD l.length eT=([],[n]):=by rw[List.length_append,List.length_singleton,Nat.add_sub_cancel]at hk;exact hk
 have hb:bkG (3,[],[n]) (vals++[([],[n])]) ((List.replicate (l.length+1) eT).set l.length ([],[4294967296])) l.length=([],0):=by
  unfold bkG
  rw[hk2,hg]
  have h:aF 3 [n] (shT [])=([],0):=by
   unfold aF
   rw[if_pos ⟨by unfold gE aM;simp[ak],by rfl,rfl⟩]
   rfl
  show cU 3 [n] [] ([],[n]) ([],[4294967296])=_
  unfold cU
  rw[if_neg (by rintro(h|h|h)<;>revert h<;>simp[bO,aB,okS,au,ai]),h,if_neg (by simp),if_neg (by simp),if_pos (show([]:List T).length=0 from rfl)]
 have hd:dD ((l++[(3,[],[n])]).getD l.length nd0) (vals++[([],[n])]) ((List.replicate (l.length+1) eT).set l.length ([],[4294967296])) (List.replicate 8 eT) l.length=(((List.replicate (l.length+1) eT).set l.length ([],[4294967296]),List.replicate 8 eT),0):=by
  rw[sK]
  unfold dD
  rw[if_neg (show¬((3:Int)=2) by decide),hb,if_pos rfl]
  show(if(cI [] [] _).2=0 then _ else _)=_
  rw[cI,if_pos rfl]
 rw[hd,if_pos rfl]
 exact tf _ _ _ _ _ _ fun i hi=>by
  simp;omega
open Go.Proofs.ShM Go.Proofs.cF Go.Proofs.GrM Go.Proofs.InM Go.Proofs.ImM
open Go.Proofs.ShM Go.Proofs.cF Go.Proofs.GrM Go.Proofs.InM Go.Proofs.ImM
open Go.Proofs.ShM Go.Proofs.cF Go.Proofs.GrM Go.Proofs.InM Go.Proofs.ImM
open Go.Proofs.ShM Go.Proofs.cF Go.Proofs.GrM Go.Proofs.InM Go.Proofs.ImM
end Go.Proofs.EvM
