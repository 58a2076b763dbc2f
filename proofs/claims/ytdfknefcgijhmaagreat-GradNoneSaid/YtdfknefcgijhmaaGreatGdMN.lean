import Derived.Test.YtdfknefcgijhmaaGreatGdMLN
import Derived.Test.YtdfknefcgijhmaaGreatGdM
import Derived.Test.YtdfknefcgijhmaaGreatTk
import Derived.Test.YtdfknefcgijhmaaGreatVjM
set_option maxHeartbeats 16000000
set_option maxRecDepth 100000
set_option linter.unusedVariables false
set_option linter.unusedSimpArgs false
namespace Go.Proofs.EvM
open Go.Proofs.ShM Go.Proofs.cF Go.Proofs.GrM Go.Proofs.InM Go.Proofs.ImM
theorem Dz{l:List Nd}(n:Int)(inp:T)(ps:List T)(h1:1≤l.length)(h23:l.length≤23):(∃i e j:Int,fI l inp ps=([],i,e)∧e≠0∧fI (l++[(3,[],[n])]) inp ps=([],j,e))∨
  ∃t,fI l inp ps=(t,-1,0)∧t.length=l.length∧aK (l++[(3,[],[n])])=true∧fI (l++[(3,[],[n])]) inp ps=(t++[([],[n])],-1,0):=by
 cases hc:aK l with
 |false=>
  have e0:aK (l++[(3,[],[n])])=false:=by
   cases e:aK (l++[(3,[],[n])])with
   |false=>rfl
   |true=>
    have h:=oL e h1 (by simp)
    rw[List.take_left]at h
    rw[hc]at h;cases h
  have e1:aH l=([],-1,100):=by unfold aH;rw[if_neg (by simp[hc])]
  have e2:aH (l++[(3,[],[n])])=([],-1,100):=by unfold aH;rw[if_neg (by simp[e0])]
  refine .inl ⟨-1,100,-1,?_,by decide,?_⟩
  ·unfold fI;rw[e1,if_neg (by decide)]
  ·unfold fI;rw[e2,if_neg (by decide)]
 |true=>
  have hc2:aK (l++[(3,[],[n])])=true:=by rw[nr n hc];simp;omega
  have hs:aH l=shF l []:=by unfold aH;rw[if_pos hc]
  have hs2:aH (l++[(3,[],[n])])=shF (l++[(3,[],[n])]) []:=by unfold aH;rw[if_pos hc2]
  have m1:∀acc,aF 3 [n] (bY acc [])=([],0):=fun acc=>by
   unfold aF bY
   rw[if_pos ⟨by unfold gE aM;simp[ak],by rfl,rfl⟩]
   rfl
  rcases kX hc with⟨s,e1,e2,e3⟩|⟨i,e1,e2⟩
  ·have sm:(aH (l++[(3,[],[n])])).2.2=0:=by
    rw[hs2,vr,←hs,e1,if_pos rfl]
    rw[bA (n:=(3,[],[n])) (m1 _)]
    rfl
   have a1:fI l inp ps=evF inp ps l []:=by unfold fI;rw[e1,if_pos rfl]
   have a2:fI (l++[(3,[],[n])]) inp ps=evF inp ps (l++[(3,[],[n])]) []:=by unfold fI;rw[if_pos sm]
   rw[a1,a2,wK]
   rcases iJ inp ps l []with⟨t,f1,f2⟩|⟨j,e,f1,f2,_,_⟩
   ·rw[List.nil_append]at f1
    rw[f1,if_pos rfl]
    refine .inr ⟨t,rfl,f2,hc2,?_⟩
    rw[bV (n:=(3,[],[n])) (ku n inp ps)]
    rfl
   ·rw[f1,if_neg f2]
    exact .inl ⟨j,e,j,rfl,f2,rfl⟩
  ·have g0:¬(shF l []).2.2=0:=by rw[←hs,e1];show¬((20:Int)=0);decide
   have s2:aH (l++[(3,[],[n])])=([],(i:Int),20):=by rw[hs2,vr,if_neg g0,←hs,e1]
   refine .inl ⟨i,20,i,?_,by decide,?_⟩
   ·unfold fI;rw[e1,if_neg (show¬((20:Int)=0) by decide)]
   ·unfold fI;rw[s2,if_neg (show¬((20:Int)=0) by decide)]
theorem Ms(n:Int)(inp:T)(ps:List T):aK [(3,[],[n])]=true∧fI [(3,[],[n])] inp ps=([([],[n])],-1,0):=by
 have hc:aK [(3,[],[n])]=true:=by
  refine aO.2 ⟨by simp,by simp,fun i t ht=>?_⟩
  obtain⟨rfl,rfl⟩:i=0∧t=(3,[],[n]):=by
   rcases i with _|i
   ·exact⟨rfl,by simpa using ht.symm⟩
   ·simp at ht
  refine bh.2 ⟨by show(0:Int)≤ak 3;decide,by show(0:Int)=ak 3;decide,by unfold aM;simp,(fun a ha=>by cases ha),fun k hk=>dH (b:=(3,[],[n])) (by show(2:Int)<3;decide)⟩
 refine⟨hc,?_⟩
 have m1:∀acc,aF 3 [n] (bY acc [])=([],0):=fun acc=>by
  unfold aF bY
  rw[if_pos ⟨by unfold gE aM;simp[ak],by rfl,rfl⟩]
  rfl
 have sm:(aH [(3,[],[n])]).2.2=0:=by
  unfold aH
  rw[if_pos hc,bA (n:=(3,[],[n])) (m1 _)]
  rfl
 unfold fI
 rw[if_pos sm,bV (n:=(3,[],[n])) (ku n inp ps)]
 rfl
theorem jN(vals:List T):∀(l:List Nd) (i:Nat) (g:List T),(∀t∈g,∀x∈t.2,x=0)→(eY vals i l g).length=g.length∧∀t∈eY vals i l g,∀x∈t.2,x=0
 | [],_,g,h=>⟨rfl,h⟩
 |n::l,i,g,h=>by
  rw[eY]
  split
  ·have:=jN vals l (i+1) (g.set (n.2.2.getD 0 0).toNat (tnE (dm (vals.getD i eT).1 0)).1) (fun t ht=>by
    rcases List.mem_or_eq_of_mem_set ht with ht|rfl
    ·exact h t ht
    ·intro x hx
     unfold tnE dm at hx
     split at hx
     ·exact List.eq_of_mem_replicate hx
     ·cases hx)
   rw[List.length_set]at this
   exact this
  ·exact jN vals l (i+1) g h
theorem CN(l:List Nd)(n:Int)(inp:T)(ps:List T)(h23:l.length≤23):
  (1≤l.length∧∃i e j,fI l inp ps=([],i,e)∧e≠0∧jE (l++[(3,[],[n])]) inp ps=([],0,j,e))∨
  (((fI l inp ps).2.2=0∨l=[])∧∃g:List T,jE (l++[(3,[],[n])]) inp ps=(g,n,-1,0)∧g.length=8∧∀t∈g,∀x∈t.2,x=0):=by
 have fin:∀t:List T,t.length=l.length→aK (l++[(3,[],[n])])=true→fI (l++[(3,[],[n])]) inp ps=(t++[([],[n])],-1,0)→∃g:List T,jE (l++[(3,[],[n])]) inp ps=(g,n,-1,0)∧g.length=8∧∀t∈g,∀x∈t.2,x=0:=by
  intro t ht hc ha
  have hk:(t++[([],[n])]).getD ((l++[(3,[],[n])]).length-1) eT=([],[n]):=by
   rw[List.length_append,List.length_singleton,Nat.add_sub_cancel,←ht,List.getD_eq_getElem?_getD,List.getElem?_append_right (Nat.le_refl _)]
   simp
  have hg:=m6 ha (by rw[hk];rfl) (kT hc ht)
  rw[hk]at hg
  obtain⟨w1,w2⟩:=jN (t++[([],[n])]) (l++[(3,[],[n])]) 0 (List.replicate 8 eT) (fun t ht x hx=>by
   rw[List.eq_of_mem_replicate ht]at hx;cases hx)
  exact⟨_,hg,by rw[w1,List.length_replicate],w2⟩
 rcases Nat.eq_zero_or_pos l.length with h0|h1
 ·obtain rfl:=List.eq_nil_of_length_eq_zero h0
  obtain⟨c1,c2⟩:=Ms n inp ps
  exact .inr ⟨.inr rfl,fin [] rfl c1 c2⟩
 ·rcases Dz n inp ps h1 h23 with⟨i,e,j,a1,a2,a3⟩|⟨t,a1,a2,a3,a4⟩
  ·refine .inl ⟨h1,i,e,j,a1,a2,?_⟩
   unfold jE
   rw[a3,if_pos a2]
  ·exact .inr ⟨.inl (by rw[a1]),fin t a2 a3 a4⟩
open Go.Proofs.ShM Go.Proofs.cF Go.Proofs.GrM Go.Proofs.InM Go.Proofs.ImM
open Go.Proofs.ShM Go.Proofs.cF Go.Proofs.GrM Go.Proofs.InM Go.Proofs.ImM
open Go.Proofs.ShM Go.Proofs.cF Go.Proofs.GrM Go.Proofs.InM Go.Proofs.ImM
open Go.Proofs.ShM Go.Proofs.cF Go.Proofs.GrM Go.Proofs.InM Go.Proofs.ImM
end Go.Proofs.EvM
