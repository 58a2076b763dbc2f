import Derived.Test.YtdfknefcgijhmaaGreatGdMLWT
import Derived.Test.YtdfknefcgijhmaaGreatGdMLW
import Derived.Test.YtdfknefcgijhmaaGreatGdMLN
import Derived.Test.YtdfknefcgijhmaaGreatGdM
import Derived.Test.YtdfknefcgijhmaaGreatTk
import Derived.Test.YtdfknefcgijhmaaGreatVjM
set_option maxHeartbeats 16000000
set_option maxRecDepth 100000
set_option linter.unusedVariables false
set_option linter.unusedSimpArgs false
namespace Go.Proofs.EvM
open Go.Proofs.ShM Go.Proofs.cF Go.Proofs.GrM Go.Proofs.InM Go.Proofs.ImM
open Go.Proofs.ShM Go.Proofs.cF Go.Proofs.GrM Go.Proofs.InM Go.Proofs.ImM
theorem qJ{l:List Nd}{m:Nd}{inp:T}{ps t:List T}{u:T}(hc:aK (l++[m])=true)(h1:1≤l.length)(h:fI l inp ps=(t,-1,0))(hn:bq m.1 m.2.2 (cq t m.2.1) inp ps=(u,0)):fI (l++[m]) inp ps=(t++[u],-1,0):=by
 rcases DA l inp ps with⟨t',e1,e2,e3,e4,e5⟩|⟨i,e,e1,e2,e3⟩
 ·rw[h]at e1
  injection e1 with e1 _
  subst e1
  have hs:aH l=shF l []:=by unfold aH;rw[if_pos e3]
  have sm:(aH (l++[m])).2.2=0:=by
   unfold aH
   rw[if_pos hc,vr,←hs,e5,if_pos rfl]
   have hv:=(cA hn).1
   rw[←Dp]at hv
   rw[bA hv]
   rfl
  unfold fI
  rw[if_pos sm,wK,e4,if_pos rfl,bV hn]
  rfl
 ·rw[h]at e1
  injection e1 with _ e1
  injection e1 with _ e1
  exact absurd e1.symm e2
theorem Bm{a b:Int}(h: -9223372036854775808≤a+b∧a+b≤9223372036854775807)(inp:T)(ps:List T):bq 10 [] [([],[a]),([],[b])] inp ps=(([],[a+b]),0):=by
 have hj:bG [] []=([],0):=join_self (by decide)
 have hv:aF 10 [] (shT [([],[a]),([],[b])])=([],0):=by
  show aF 10 [] [[],[]]=_
  rw[lT (by decide)];exact hj
 unfold bq
 rw[if_neg (by simp[fV]),hv,if_pos rfl]
 show aV 10 [] ([],[a]) ([],[b]) [] inp ps=_
 unfold aV
 rw[if_neg (by decide),if_neg (by decide),if_neg (by decide),if_pos (by decide)]
 have h2:=tM (op:=10) (x:=b) (s:=[]) (xs:=[a]) (Z:=[a+b]) (by decide) (fV a) rfl (fun i hi=>by
  have:i=0:=by simpa using hi
  subst this
  show cY a b=(a+b,0)
  exact cO h.1 h.2)
 show tnE (bg 10 [] [a] [] [b])=_
 rw[h2];rfl
theorem FK(w:Int)(inp:T):bq 2 [0] [] inp [([],[w])]=(([],[w]),0):=by
 have h:aF 2 [0] (shT [])=([],0):=by
  unfold aF
  rw[if_pos ⟨by decide+kernel,by decide,rfl⟩]
  rfl
 unfold bq
 rw[if_neg (by simp),h,if_pos rfl]
 show aV 2 [0] _ _ [] inp _=_
 unfold aV
 rw[if_neg (by decide),if_pos rfl]
 show bL ([],[w]) []=_
 unfold bL
 rw[if_pos ⟨fV w,rfl⟩]
def lC(j:Nat):Nd:=(10,[0,(j:Int)+1],[])
def cK(k:Nat)(n:Int):List Nd:=(2,[],[0])::(3,[],[n])::(List.range k).map lC
def gP(k:Nat)(w n:Int):List T:=([],[w])::([],[n])::(List.range k).map fun j:Nat=>([],[((j:Int)+1)*w+n])
theorem jA(k:Nat)(n:Int):cK (k+1) n=cK k n++[lC k]:=by unfold cK;rw[List.range_succ,List.map_append];rfl
theorem yA(k:Nat)(w n:Int):gP (k+1) w n=gP k w n++[([],[((k:Int)+1)*w+n])]:=by unfold gP;rw[List.range_succ,List.map_append];rfl
theorem bk(k:Nat)(n:Int):(cK k n).length=k+2:=by simp[cK]
theorem dG(n:Int):∀k:Nat,k≤22→aK (cK k n)=true
 |0,_=>by
  have hc:aK [((2:Int),([]:List Int),[(0:Int)])]=true:=by decide+kernel
  have:=nr n hc
  show aK ([((2:Int),([]:List Int),[(0:Int)])]++[(3,[],[n])])=true
  rw[this];decide
 |k+1,h=>by
  rw[jA,oM (dG n k (by omega)),bk]
  have hn:gq (cK k n) (k+2) (lC k)=true:=bh.2 ⟨by show(0:Int)≤ak 10;decide,by show(2:Int)=ak 10;decide,by unfold aM lC;simp,fun a ha=>by
   unfold lC at ha;simp at ha;omega,fun m hm=>dH (by show(2:Int)<10;decide)⟩
  rw[hn,decide_eq_true (by omega)];rfl
theorem l7(k:Nat)(w n:Int){j:Nat}(h:j≤k):(gP k w n).getD (j+1) eT=([],[(j:Int)*w+n]):=by
 cases j with
 |zero=>show([],[n])=_;simp
 |succ j=>
  show((List.range k).map fun j:Nat=>(([]:List Int),[((j:Int)+1)*w+n])).getD j eT=_
  rw[List.getD_eq_getElem?_getD,List.getElem?_map,List.getElem?_range (by omega)]
  simp
theorem IX{w:Int}(hw: -1125899906842624≤w∧w≤1125899906842624){j:Int}(h0:0≤j)(h1:j≤24): -27021597764222976≤j*w∧j*w≤27021597764222976:=by
 constructor
 ·have:j*(-1125899906842624)≤j*w:=Int.mul_le_mul_of_nonneg_left hw.1 h0
  omega
 ·have:j*w≤j*1125899906842624:=Int.mul_le_mul_of_nonneg_left hw.2 h0
  omega
theorem vU{w n:Int}(hw: -1125899906842624≤w∧w≤1125899906842624)(hn: -1125899906842624≤n∧n≤1125899906842624)(inp:T):∀k:Nat,k≤22→fI (cK k n) inp [([],[w])]=(gP k w n,-1,0)
 |0,_=>by
  have hc:aK [((2:Int),([]:List Int),[(0:Int)])]=true:=by decide+kernel
  have hc2:=dG n 0 (by omega)
  have sm:aH [((2:Int),([]:List Int),[(0:Int)])]=([[]],-1,0):=by decide+kernel
  have h0:fI [((2:Int),([]:List Int),[(0:Int)])] inp [([],[w])]=([([],[w])],-1,0):=by
   unfold fI
   rw[sm,if_pos rfl,bV (n:=(2,[],[0])) (FK w inp)]
   rfl
  exact qJ (l:=[(2,[],[0])]) (m:=(3,[],[n])) hc2 (by simp) h0 (ku n _ _)
 |k+1,h=>by
  have hm:=IX hw (j:=(k:Int)+1) (by omega) (by omega)
  have e:((k:Int)+1)*w=w+(k:Int)*w:=by rw[Int.add_mul,Int.one_mul,Int.add_comm]
  rw[jA,yA]
  refine qJ (by rw[←jA];exact dG n (k+1) h) (by rw[bk];omega) (vU hw hn inp k (by omega)) ?_
  have ha:cq (gP k w n) (lC k).2.1=[([],[w]),([],[(k:Int)*w+n])]:=by
   unfold cq lC
   simp only[List.map_cons,List.map_nil]
   rw[show((k:Int)+1).toNat=k+1 by omega,l7 k w n (Nat.le_refl _)]
   rfl
  rw[ha,e,Int.add_assoc]
  exact Bm (by omega) _ _
theorem Ca(k:Nat)(n:Int){j:Nat}(h:j<k):(cK k n)[j+2]?=some (lC j):=by
 show((List.range k).map lC)[j]?=_
 rw[List.getElem?_map,List.getElem?_range h];rfl
theorem ig(n:Int){k:Nat}(h1:1≤k)(hk:k≤22):∀d i:Nat,i+d=k+1→(i:Int)∈fW (cK k n)
 |0,i,h=>(qi (dG n k hk) (by rw[bk];omega)).2 (.inl (by rw[bk];omega))
 |d+1,i,h=>by
  refine(qi (dG n k hk) (by rw[bk];omega)).2 (.inr ?_)
  have hu:∀j:Nat,j<k→(i=j+1∨(i=0∧j=0))→((j+2:Nat):Int)∈tL (cK k n) (i:Int):=fun j hj hij=>by
   unfold tL
   rw[if_pos (dG n k hk)]
   refine lU.2 ⟨j+2,lC j,Ca k n hj,?_,by omega⟩
   unfold lC
   simp;omega
  rcases i with _|i
  ·refine⟨_,hu 0 (by omega) (.inr ⟨rfl,rfl⟩),?_⟩
   by_cases hk1:k=1
   ·subst hk1
    exact(qi (dG n 1 hk) (by rw[bk];omega)).2 (.inl (by rw[bk]))
   ·exact ig n h1 hk (d-1) 2 (by omega)
  ·exact⟨_,hu i (by omega) (.inl rfl),ig n h1 hk d (i+2) (by omega)⟩
termination_by d=>d
open Go.Proofs.ShM Go.Proofs.cF Go.Proofs.GrM Go.Proofs.InM Go.Proofs.ImM
theorem kM{h:List T}{i j:Nat}(hij:i≠j)(x:T):(h.set i x).getD j eT=h.getD j eT:=by
 rw[List.getD_eq_getElem?_getD,List.getElem?_set_ne hij,←List.getD_eq_getElem?_getD]
theorem Fv{x y:Int}(h: -9223372036854775808≤x+y∧x+y≤9223372036854775807):iS ([],[x]) ([],[y])=(([],[x+y]),0):=by
 unfold iS
 rw[if_neg (by simp)]
 have h2:=tM (op:=10) (x:=y) (s:=[]) (xs:=[x]) (Z:=[x+y]) (by decide) (fV x) rfl (fun i hi=>by
  have:i=0:=by simpa using hi
  subst this
  exact cO h.1 h.2)
 show tnE (bg 10 [] [x] [] [y])=_
 rw[h2];rfl
theorem GY{x:Int}(h: -9223372036854775808≤x∧x≤9223372036854775807):dw [] [x] []=([],[x],0):=m7 (fV x) (fun y hy=>by rw[List.mem_singleton.1 hy];exact h)
theorem Ib(a b c:Int):cU 10 [] [([],[a]),([],[b])] ([],[c]) eH=([eH,eH],0):=by
 have hv:aF 10 [] (shT [([],[a]),([],[b])])=([],0):=by
  show aF 10 [] [[],[]]=_
  rw[lT (by decide)];exact join_self (by decide)
 have hf:=GY (x:=4294967296) (by omega)
 have e1:vjA 10 [] ([],[a]) ([],[b]) ([],[c]) eH=([],[4294967296],0):=by
  unfold vjA
  rw[if_pos (.inl rfl)]
  exact hf
 have e2:vjB 10 [] ([],[a]) ([],[b]) ([],[c]) eH=([],[4294967296],0):=by
  unfold vjB
  rw[if_pos rfl]
  exact hf
 unfold cU
 rw[if_neg (by simp[fV,eH]),hv,if_neg (by simp),if_neg (by simp[eH]),if_neg (by simp)]
 show(if(vjA 10 [] ([],[a]) ([],[b]) ([],[c]) eH).2.2≠0 then _ else if _ then _ else if(vjB 10 [] ([],[a]) ([],[b]) ([],[c]) eH).2.2≠0 then _ else _)=_
 rw[if_neg (by rw[e1];simp),if_neg (by simp),if_neg (by rw[e2];simp)]
 show([(tnE (vjA 10 [] ([],[a]) ([],[b]) ([],[c]) eH)).1,(tnE (vjB 10 [] ([],[a]) ([],[b]) ([],[c]) eH)).1],(0:Int))=_
 rw[e1,e2];rfl
theorem Ia(n c g:Int):cU 3 [n] [] ([],[c]) ([],[g])=([],0):=by
 have h:aF 3 [n] (shT [])=([],0):=by
  unfold aF
  rw[if_pos ⟨by unfold gE aM;simp[ak],by rfl,rfl⟩]
  rfl
 unfold cU
 rw[if_neg (by simp[fV]),h,if_neg (by simp),if_neg (by simp),if_pos (show([]:List T).length=0 from rfl)]
theorem qj(k:Nat)(n:Int){j:Nat}(h:j<k):(cK k n).getD (j+2) nd0=lC j:=by
 rw[List.getD_eq_getElem?_getD,Ca k n h];rfl
theorem Cc(k:Nat)(w n:Int){i:Nat}(h:i<k+2):∃c,(gP k w n).getD i eT=([],[c]):=by
 rcases i with _|i
 ·exact⟨w,rfl⟩
 ·exact⟨_,l7 k w n (by omega)⟩
theorem Cb(k:Nat)(w n:Int){j:Nat}(h:j<k):cq (gP k w n) (lC j).2.1=[([],[w]),([],[(j:Int)*w+n])]:=by
 unfold cq lC
 simp only[List.map_cons,List.map_nil]
 rw[show((j:Int)+1).toNat=j+1 by omega,l7 k w n (by omega)]
 rfl
theorem sj(w n:Int){k:Nat}(h1:1≤k)(hk:k≤22):∀(j:Nat) (hang:List T),j≤k→hang.length=k+2→hang.getD (j+1) eT=eH→(∀i,1≤i→i≤j→hang.getD i eT=eT)→hang.getD 0 eT=(if j=k then eT else([],[((k:Int)-j)*4294967296]))→
  gY (cK k n) (gP k w n) (fW (cK k n)) (j+2) hang (List.replicate 8 eT)=((List.replicate 8 eT).set 0 ([],[(k:Int)*4294967296]),-1,0)
 |0,hang,_,hl,ho,_,h0=>by
  have l1:((1:Nat):Int)∈fW (cK k n):=ig n h1 hk k 1 (by omega)
  have l0:((0:Nat):Int)∈fW (cK k n):=ig n h1 hk (k+1) 0 (by omega)
  rw[if_neg (by omega)]at h0
  have hb:bkG (3,[],[n]) (gP k w n) hang 1=([],0):=by
   unfold bkG
   rw[ho]
   show cU 3 [n] [] ([],[n]) eH=_
   exact Ia n n _
  have d1:dD ((cK k n).getD 1 nd0) (gP k w n) hang (List.replicate 8 eT) 1=((hang,List.replicate 8 eT),0):=by
   show dD (3,[],[n]) _ _ _ _=_
   unfold dD
   rw[if_neg (show¬((3:Int)=2) by decide),hb,if_pos rfl]
   show(if(cI [] [] hang).2=0 then _ else _)=_
   rw[cI,if_pos rfl]
  have hp:Kq (2,[],[0]) hang (List.replicate 8 eT) 0=(([],[(k:Int)*4294967296]),0):=by
   unfold Kq
   rw[h0]
   show iS eT _=_
   rw[cQ]
   simp
  have d0:dD ((cK k n).getD 0 nd0) (gP k w n) hang (List.replicate 8 eT) 0=((hang,(List.replicate 8 eT).set 0 ([],[(k:Int)*4294967296])),0):=by
   show dD (2,[],[0]) _ _ _ _=_
   unfold dD
   rw[if_pos rfl,hp,if_pos rfl]
   rfl
  rw[cT l1 d1,cT l0 d0]
  rfl
 |j+1,hang,hj,hl,ho,hz,h0=>by
  have lj:((j+2:Nat):Int)∈fW (cK k n):=ig n h1 hk (k-1-j) (j+2) (by omega)
  obtain⟨c,hc⟩:=Cc k w n (i:=j+2) (by omega)
  have hb:bkG (lC j) (gP k w n) hang (j+2)=([eH,eH],0):=by
   unfold bkG
   rw[Cb k w n (by omega),hc,ho]
   exact Ib _ _ _
  obtain⟨x,hx⟩:=eX ((([],[((k:Int)-j)*4294967296]):T))
  have hp0:iS (hang.getD 0 eT) eH=(x,0):=by
   rw[h0]
   split
   ·rename_i e
    rw[cQ,hx]
    have:(k:Int)-j=1:=by omega
    rw[this];rfl
   ·unfold eH
    rw[Fv (by omega),hx]
    congr 3
    omega
  have hp1:iS ((hang.set 0 x).getD (j+1) eT) eH=(eH,0):=by
   rw[kM (by omega),hz (j+1) (by omega) (Nat.le_refl _),cQ]
  have d:dD ((cK k n).getD (j+2) nd0) (gP k w n) hang (List.replicate 8 eT) (j+2)=((((hang.set 0 x).set (j+1) eH),List.replicate 8 eT),0):=by
   rw[qj k n (by omega)]
   unfold dD
   rw[if_neg (by show¬(10:Int)=2;decide),hb,if_pos rfl]
   have hpu:cI (lC j).2.1 [eH,eH] hang=((hang.set 0 x).set (j+1) eH,0):=by
    show cI [0,(j:Int)+1] [eH,eH] hang=_
    rw[cI,show(0:Int).toNat=0 from rfl,hp0,if_pos rfl,cI,show((j:Int)+1).toNat=j+1 by omega,hp1,if_pos rfl,cI]
   show(if(cI (lC j).2.1 [eH,eH] hang).2=0 then _ else _)=_
   rw[hpu,if_pos rfl]
  rw[show j+1+2=(j+2)+1 from rfl,cT lj d]
  refine sj w n h1 hk j _ (by omega) (by simp[hl]) (by rw[eP (by simp;omega)]) (fun i hi hij=>?_) ?_
  ·rw[kM (by omega),kM (by omega)]
   exact hz i hi (by omega)
  ·rw[kM (by omega),eP (by omega),if_neg (by omega),hx]
theorem yL{w n:Int}(hw: -1125899906842624≤w∧w≤1125899906842624)(hn: -1125899906842624≤n∧n≤1125899906842624)(inp:T)(k:Nat)(hk:k≤20):
  ∃g:List T,jE (cK k n) inp [([],[w])]=(g,(k:Int)*w+n,-1,0)∧g.length=8∧g.getD 0 eT=([],[(k:Int)*4294967296]):=by
 have ha:=vU hw hn inp k (by omega)
 have hlast:(gP k w n).getD ((cK k n).length-1) eT=([],[(k:Int)*w+n]):=by
  rw[bk]
  exact l7 k w n (Nat.le_refl _)
 rcases Nat.eq_zero_or_pos k with h0|h1
 ·subst h0
  have hs:dB (cK 0 n) (gP 0 w n)=(List.replicate 8 eT,-1,0):=kT (l:=[(2,[],[0])]) (vals:=[([],[w])]) (dG n 0 (by omega)) rfl
  have hg:=m6 ha (by rw[hlast];rfl) hs
  rw[hlast]at hg
  refine⟨_,hg,?_,?_⟩
  ·rfl
  ·show(eY [([],[w]),([],[n])] 0 [(2,[],[0]),(3,[],[n])] (List.replicate 8 eT)).getD 0 eT=_
   rw[eY,if_pos ⟨rfl,rfl⟩,eY,if_neg (fun h=>absurd h.1 (show¬((3:Int)=2) by decide)),eY]
   rw[show((2,[],[0]):Nd).2.2.getD 0 0=(0:Int)from rfl,show(0:Int).toNat=0 from rfl,eP (by simp)]
   have:dm [] 0=([],[0],0):=by decide+kernel
   show(tnE (dm [] 0)).1=_
   rw[this];rfl
 ·have hh:qx (cK k n) (gP k w n)=(List.replicate (k+2) eT).set (k+1) eH:=by
   unfold qx
   rw[hlast,bk]
   have:dm [] 4294967296=([],[4294967296],0):=by decide+kernel
   show(List.replicate (k+2) eT).set (k+1) (tnE (dm [] 4294967296)).1=_
   rw[this];rfl
  have TJ:∀i:Nat,(List.replicate (k+2) eT).getD i eT=eT:=fun i=>by
   rw[List.getD_eq_getElem?_getD,List.getElem?_replicate];split<;>rfl
  have hs:dB (cK k n) (gP k w n)=((List.replicate 8 eT).set 0 ([],[(k:Int)*4294967296]),-1,0):=by
   unfold dB
   rw[hh,bk]
   exact sj w n h1 (by omega) k _ (Nat.le_refl _) (by simp) (eP (by simp) _) (fun i hi hik=>by rw[kM (by omega),TJ]) (by rw[kM (by omega),TJ,if_pos rfl])
  have hg:=m6 ha (by rw[hlast];rfl) hs
  rw[hlast]at hg
  have hw2:eY (gP k w n) 0 (cK k n) ((List.replicate 8 eT).set 0 ([],[(k:Int)*4294967296]))=(List.replicate 8 eT).set 0 ([],[(k:Int)*4294967296]):=lK _ _ _ _ fun m hm h2=>by
   unfold cK at hm
   rcases List.mem_cons.1 hm with rfl|hm
   ·simp
   ·rcases List.mem_cons.1 hm with rfl|hm
    ·cases h2
    ·obtain⟨j,_,rfl⟩:=List.mem_map.1 hm
     cases h2
  rw[hw2]at hg
  exact⟨_,hg,by simp,eP (by simp) _⟩
open Go.Proofs.ShM Go.Proofs.cF Go.Proofs.GrM Go.Proofs.InM Go.Proofs.ImM
open Go.Proofs.ShM Go.Proofs.cF Go.Proofs.GrM Go.Proofs.InM Go.Proofs.ImM
end Go.Proofs.EvM
