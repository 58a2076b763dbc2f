import Derived.Test.YtdfknefcgijhmaaGreatGdMWT
import Derived.Test.YtdfknefcgijhmaaGreatGdMLWT
import Derived.Test.YtdfknefcgijhmaaGreatGdMLW
import Derived.Test.YtdfknefcgijhmaaGreatGdM
import Derived.Test.YtdfknefcgijhmaaGreatTk
import Derived.Test.YtdfknefcgijhmaaGreatVjM
set_option maxHeartbeats 16000000
set_option maxRecDepth 100000
set_option linter.unusedVariables false
set_option linter.unusedSimpArgs false
namespace Go.Proofs.EvM
open Go.Proofs.ShM Go.Proofs.cF Go.Proofs.GrM Go.Proofs.InM Go.Proofs.ImM
open Go.Proofs.ShM Go.Proofs.cF Go.Proofs.GrM Go.Proofs.InM Go.Proofs.ImM
open Go.Proofs.ShM Go.Proofs.cF Go.Proofs.GrM Go.Proofs.InM Go.Proofs.ImM
open Go.Proofs.ShM Go.Proofs.cF Go.Proofs.GrM Go.Proofs.InM Go.Proofs.ImM
theorem vf{op:Int}{s xs ys Z:List Int}(hop:10≤op∧op≤13)(h:aB s xs=true)(g:aB s ys=true)(hl:Z.length=xs.length)(hz:∀i,i<xs.length→ic op (xs.getD i 0) (ys.getD i 0)=(Z.getD i 0,0)):bg op s xs s ys=(s,Z,0):=by
 have ho:=(aW h).1
 have hsz:(au s).toNat=xs.length:=(aW h).2.1
 refine zB hop h g (join_self ho) (by rw[hl,hsz]) fun i hi=>?_
 unfold atN
 rw[zR h hi]
 exact hz i (by rw[←hsz];exact hi)
theorem mw{m:Nat}{x:List Int}(h1:1≤m)(h2:m≤16)(hx:x.length=m):bO ([(m:Int)],x)=true:=by
 have ho:okS [(m:Int)]=true:=aD.2 ⟨by simp,by simp[aX];omega,by simp[ai];omega⟩
 exact Go.Proofs.ShM.aA.2 ⟨ho,by show(x.length:Int)=ai [(m:Int)];simp[ai,hx]⟩
theorem vM{m:Nat}(h1:1≤m)(h2:m≤16):okS [(m:Int)]=true:=aD.2 ⟨by simp,by simp[aX];omega,by simp[ai];omega⟩
theorem JR{m:Nat}{p:List Int}(h1:1≤m)(h2:m≤16)(hp:p.length=m)(hb:∀y∈p,-1125899906842624≤y∧y≤1125899906842624):iM [(m:Int)] p 0=([],[p.sum],0):=by
 have ht:aB [(m:Int)] p=true:=mw h1 h2 hp
 have hl:aU [(m:Int)] p 0 0=p:=by
  have:∀i:Nat,(gI [(m:Int)] 0 0 i).toNat=i:=fun i=>by
   unfold gI ck
   simp[ai]
  unfold aU
  show(List.range ((m:Int)).toNat).map (fun i:Nat=>p.getD (gI [(m:Int)] 0 ((0:Nat):Int) i).toNat 0)=p
  rw[Int.toNat_natCast]
  refine LL (by simp[hp]) fun i hi=>?_
  have hi':i<m:=by simpa using hi
  rw[List.getD_eq_getElem?_getD,List.getElem?_map,List.getElem?_range hi']
  show p.getD (gI [(m:Int)] 0 0 i).toNat 0=_
  rw[this]
 have hk:=zH p 0 0 (by omega) hb (by simp) (by simp)
 rw[Int.zero_add]at hk
 have hg:oV cY 0 [(m:Int)] p 0=([p.sum],0):=by
  unfold oV
  show cL (fun q:Nat=>tkL cY 0 (aU [(m:Int)] p 0 q)) (List.range 1)=_
  have:cL (fun q:Nat=>tkL cY 0 (aU [(m:Int)] p 0 q)) (List.range 1)=((List.range 1).map fun _=>p.sum,0):=qg fun q hq=>by
   have:q=0:=by simpa using hq
   subst this
   rw[hl,hk]
  rw[this];rfl
 unfold iM gZ
 rw[if_neg (by rw[ht];decide),if_neg (by simp),show(0:Int).toNat=0 from rfl,hg,if_pos rfl]
 rfl
theorem GQ{m:Nat}(h1:1≤m)(h2:m≤16):bE [] [4294967296] 0 (m:Int)=([(m:Int)],List.replicate m 4294967296,0):=by
 have ho:=vM h1 h2
 unfold bE
 rw[if_neg (by rw[show aB [] [4294967296]=true from fV _];decide),show(0:Int).toNat=0 from rfl,mg,if_neg (by simp[ho])]
 congr 2
 unfold uN
 rw[mg,aL ho]
 have e:(ai [(m:Int)]).toNat=m:=by simp[ai]
 rw[e]
 refine LL (by simp) fun p hp=>?_
 have hp':p<m:=by simpa using hp
 rw[List.getD_eq_getElem?_getD,List.getElem?_map,List.getElem?_range hp',eN _ _ _ hp']
 have:(qOf [(m:Int)] 0 p).toNat=0:=by
  unfold qOf ck
  simp[ai]
  rw[Int.ediv_eq_zero_of_lt (by omega) (by omega)]
  omega
 show [4294967296].getD (qOf [(m:Int)] 0 p).toNat 0=_
 rw[this];rfl
def eW(m:Nat):List Nd:=[(1,[],[(m:Int)]),(2,[],[2,(m:Int)]),(12,[1,0],[]),(50,[2],[0])]
theorem qU{m:Nat}(h1:1≤m)(h2:m≤16):aK (eW m)=true:=by
 have ho:=vM h1 h2
 refine aO.2 ⟨by simp[eW],by simp[eW],fun i t ht=>?_⟩
 unfold eW at ht
 rcases i with _|_|_|_|i
 ·obtain rfl:(1,[],[(m:Int)])=t:=by simpa using ht
  refine bh.2 ⟨by show(0:Int)≤ak 1;decide,by show(0:Int)=ak 1;decide,by unfold aM;simpa using ho,(fun a ha=>by cases ha),fun k hk=>by simp at hk⟩
 ·obtain rfl:(2,[],[2,(m:Int)])=t:=by simpa using ht
  refine bh.2 ⟨by show(0:Int)≤ak 2;decide,by show(0:Int)=ak 2;decide,by unfold aM DM;simpa using ho,fun a ha=>by(try cases ha),fun k hk=>?_⟩
  have:k=(1,[],[(m:Int)]):=by simpa [eW]using hk
  subst this
  unfold cW;rw[if_pos (.inl (show(1:Int)≠2 by decide))]
 ·obtain rfl:(12,[1,0],[])=t:=by simpa using ht
  refine bh.2 ⟨by show(0:Int)≤ak 12;decide,by show(2:Int)=ak 12;decide,by unfold aM;simp,fun a ha=>by simp at ha;rcases ha with rfl|rfl<;>simp,fun k hk=>dH (by show(2:Int)<12;decide)⟩
 ·obtain rfl:(50,[2],[0])=t:=by simpa using ht
  refine bh.2 ⟨by show(0:Int)≤ak 50;decide,by show(1:Int)=ak 50;decide,by unfold aM;simp,fun a ha=>by simp at ha;subst ha;simp,fun k hk=>dH (by show(2:Int)<50;decide)⟩
 ·simp at ht
open Go.Proofs.ShM Go.Proofs.cF Go.Proofs.GrM Go.Proofs.InM Go.Proofs.ImM
theorem Bj{s w x p:List Int}(hw:aB s w=true)(hx:aB s x=true)(hl:p.length=w.length)(hp:∀i,i<w.length→dX (w.getD i 0) (x.getD i 0)=(p.getD i 0,0))(inp:T)(ps:List T):bq 12 [] [(s,w),(s,x)] inp ps=((s,p),0):=by
 have hv:aF 12 [] (shT [(s,w),(s,x)])=(s,0):=by
  show aF 12 [] [s,s]=_
  rw[lT (by decide)];exact join_self (aW hw).1
 unfold bq
 rw[if_neg (by simp[bO,hw,hx]),hv,if_pos rfl]
 show aV 12 [] (s,w) (s,x) s inp ps=_
 unfold aV
 rw[if_neg (by decide),if_neg (by decide),if_neg (by decide),if_pos (by decide)]
 show tnE (bg 12 s w s x)=_
 rw[vf (op:=12) (by decide) hw hx hl fun i hi=>hp i hi];rfl
theorem mul_ones{s:List Int}{k:Nat}{x:List Int}(h:aB s x=true)(hk:x.length=k)(hx:bN x):bg 12 s (List.replicate k 4294967296) s x=(s,x,0):=by
 have hr:aB s (List.replicate k 4294967296)=true:=by
  have:=Go.Proofs.ShM.aA.1 h
  exact Go.Proofs.ShM.aA.2 ⟨this.1,by rw[List.length_replicate,←hk];exact this.2⟩
 refine vf (by decide) hr h (by simp[hk]) fun i hi=>?_
 rw[List.length_replicate]at hi
 rw[eN _ _ _ hi]
 show dX 4294967296 (x.getD i 0)=_
 rw[mO]
 unfold dX
 rw[Int.mul_ediv_cancel _ (by omega)]
 exact vH _ (fS hx i)
theorem FZ{s:List Int}{k:Nat}{w x p:List Int}(hw:aB s w=true)(hx:aB s x=true)(hk:w.length=k)(iw:bN w)(ix:bN x)(hp:aB s p=true):cU 12 [] [(s,w),(s,x)] (s,p) (s,List.replicate k 4294967296)=([(s,x),(s,w)],0):=by
 have lw:=(Go.Proofs.ShM.aA.1 hw).2
 have lx:=(Go.Proofs.ShM.aA.1 hx).2
 have hr:aB s (List.replicate k 4294967296)=true:=Go.Proofs.ShM.aA.2 ⟨(aW hw).1,by rw[List.length_replicate,←hk];exact lw⟩
 have hv:aF 12 [] [s,s]=(s,0):=by rw[lT (by decide)];exact join_self (aW hw).1
 refine wW (x:=(s,x)) (y:=(s,w)) ⟨hw,hx,hp,hr⟩ hv rfl rfl ?_ ?_
 ·unfold vjA
  rw[if_neg (by decide),if_pos (.inl rfl)]
  show cG (bg 12 s (List.replicate k 4294967296) s x) s=_
  rw[mul_ones hx (by omega) ix]
  unfold cG
  rw[if_pos rfl]
  exact m7 hx ix
 ·unfold vjB
  rw[if_neg (by decide),if_neg (by decide),if_pos rfl]
  show cG (bg 12 s (List.replicate k 4294967296) s w) s=_
  rw[mul_ones hw hk iw]
  unfold cG
  rw[if_pos rfl]
  exact m7 hw iw
theorem m5{m:Nat}{p:List Int}(h1:1≤m)(h2:m≤16)(hp:p.length=m)(c:Int):cU 50 [0] [([(m:Int)],p)] ([],[c]) eH=([([(m:Int)],List.replicate m 4294967296)],0):=by
 have ht:aB [(m:Int)] p=true:=mw h1 h2 hp
 have hv:aF 50 [0] [[(m:Int)]]=([],0):=by
  unfold aF
  rw[if_pos ⟨by decide+kernel,by rfl,by simp[vM h1 h2]⟩]
  show aR 50 [0] [(m:Int)] []=_
  unfold aR
  rw[if_neg (by decide),if_neg (by decide),if_neg (by decide),if_neg (by decide),if_neg (by decide),if_neg (by decide),if_neg (by decide)]
  unfold dQ
  rw[if_neg (by decide),if_neg (by unfold eG;simp),if_neg (by decide),if_neg (by decide)]
  rfl
 refine wY (x:=([(m:Int)],List.replicate m 4294967296)) ⟨ht,fV c,fV _⟩ hv rfl rfl ?_
 unfold vjA
 rw[if_neg (by decide),if_neg (by decide),if_neg (by decide),if_neg (by decide),if_neg (by decide),if_neg (by decide),if_neg (by decide),if_neg (by decide),if_neg (by decide)]
 unfold vjX
 rw[if_neg (by decide),if_neg (by decide),if_pos rfl]
 exact GQ h1 h2
theorem yK{m:Nat}{w x p:List Int}(h1:1≤m)(h2:m≤16)(hw:w.length=m)(hx:x.length=m)(hp:p.length=m)(iw:bN w)(ix:bN x)(hm:∀i,i<m→dX (w.getD i 0) (x.getD i 0)=(p.getD i 0,0))(hb:∀y∈p,-1125899906842624≤y∧y≤1125899906842624):
  ∃g:List T,jE (eW m) ([(m:Int)],x) [eT,eT,([(m:Int)],w)]=(g,p.sum,-1,0)∧g.length=8∧g.getD 2 eT=([(m:Int)],x):=by
 have ho:=vM h1 h2
 have tw:bO ([(m:Int)],w)=true:=mw h1 h2 hw
 have tx:bO ([(m:Int)],x)=true:=mw h1 h2 hx
 have tp:bO ([(m:Int)],p)=true:=mw h1 h2 hp
 have hs:=JR h1 h2 hp hb
 obtain⟨n4,v4⟩:=rR (s:=[(m:Int)]) tp (by simp) hs ([(m:Int)],x) [eT,eT,([(m:Int)],w)] rfl
 have hc:=qU h1 h2
 obtain⟨S,hS⟩:=eX ([(m:Int)])
 rw[←hS]at ho tw tx tp hs n4 v4
 have hN:eW m=[(1,[],S),(2,[],2::S),(12,[1,0],[]),(50,[2],[0])]:=by rw[hS];rfl
 rw[hN]at hc
 rw[←hS,hN]
 have n1:=nZ ho tx [eT,eT,(S,w)]
 have n2:=nY (p:=2) (by omega) ho tw (S,x) (ps:=[eT,eT,(S,w)]) rfl
 have n3:=Bj (s:=S) (w:=w) (x:=x) (p:=p) tw tx (by omega) (fun i hi=>hm i (by omega)) (S,x) [eT,eT,(S,w)]
 have v1:aF 1 S []=(S,0):=(cA n1).1
 have v2:aF 2 (2::S) []=(S,0):=(cA n2).1
 have v3:aF 12 [] [S,S]=(S,0):=(cA n3).1
 have a3:cq ([]++[(S,x)]++[(S,w)]) [1,0]=[(S,w),(S,x)]:=rfl
 have n3':bq 12 [] (cq ([]++[(S,x)]++[(S,w)]) [1,0]) (S,x) [eT,eT,(S,w)]=((S,p),0):=by rw[a3];exact n3
 have c3:bY ([]++[S]++[S]) [1,0]=[S,S]:=rfl
 have v3':aF 12 [] (bY ([]++[S]++[S]) [1,0])=(S,0):=by rw[c3];exact v3
 have a4:cq ([]++[(S,x)]++[(S,w)]++[(S,p)]) [2]=[(S,p)]:=rfl
 have n4':bq 50 [0] (cq ([]++[(S,x)]++[(S,w)]++[(S,p)]) [2]) (S,x) [eT,eT,(S,w)]=(([],[p.sum]),0):=by rw[a4];exact n4
 have c4:bY ([]++[S]++[S]++[S]) [2]=[S]:=rfl
 have v4':aF 50 [0] (bY ([]++[S]++[S]++[S]) [2])=([],0):=by rw[c4];exact v4
 have e1:evF (S,x) [eT,eT,(S,w)] [(1,[],S),(2,[],2::S),(12,[1,0],[]),(50,[2],[0])] []=([(S,x),(S,w),(S,p),([],[p.sum])],-1,0):=by
  rw[bV (n:=(1,[],S)) (acc:=[]) n1,bV (n:=(2,[],2::S)) (acc:=[]++[(S,x)]) n2,bV (n:=(12,[1,0],[])) (acc:=[]++[(S,x)]++[(S,w)]) n3',bV (n:=(50,[2],[0])) (acc:=[]++[(S,x)]++[(S,w)]++[(S,p)]) n4']
  rfl
 have sm:(aH [(1,[],S),(2,[],2::S),(12,[1,0],[]),(50,[2],[0])]).2.2=0:=by
  unfold aH
  rw[if_pos hc,bA (n:=(1,[],S)) (acc:=[]) v1,bA (n:=(2,[],2::S)) (acc:=[]++[S]) v2,bA (n:=(12,[1,0],[])) (acc:=[]++[S]++[S]) v3',bA (n:=(50,[2],[0])) (acc:=[]++[S]++[S]++[S]) v4']
  rfl
 have ha:fI [(1,[],S),(2,[],2::S),(12,[1,0],[]),(50,[2],[0])] (S,x) [eT,eT,(S,w)]=([(S,x),(S,w),(S,p),([],[p.sum])],-1,0):=by
  unfold fI
  rw[if_pos sm,e1]
 have hlv:fW [(1,[],S),(2,[],2::S),(12,[1,0],[]),(50,[2],[0])]=[0,1,2,3]:=by
  unfold fW
  rw[if_pos hc]
  rfl
 have b3:cU 50 [0] [(S,p)] ([],[p.sum]) eH=([(S,List.replicate m 4294967296)],0):=by rw[hS];exact m5 h1 h2 hp _
 have b2:cU 12 [] [(S,w),(S,x)] (S,p) (S,List.replicate m 4294967296)=([(S,x),(S,w)],0):=FZ tw tx hw iw ix tp
 have b0:cU 1 S [] (S,x) (S,w)=([],0):=tg ⟨tx,tw⟩ v1 rfl rfl
 have hsl:dB [(1,[],S),(2,[],2::S),(12,[1,0],[]),(50,[2],[0])] [(S,x),(S,w),(S,p),([],[p.sum])]=((List.replicate 8 eT).set 2 (S,x),-1,0):=by
  have f1:dm [] 4294967296=([],[4294967296],0):=by decide+kernel
  have hh:qx [(1,[],S),(2,[],2::S),(12,[1,0],[]),(50,[2],[0])] [(S,x),(S,w),(S,p),([],[p.sum])]=[eT,eT,eT,eH]:=by
   unfold qx
   show(List.replicate 4 eT).set 3 (tnE (dm [] 4294967296)).1=_
   rw[f1];rfl
  unfold dB
  rw[hh,hlv]
  have d3:dD (50,[2],[0]) [(S,x),(S,w),(S,p),([],[p.sum])] [eT,eT,eT,eH] (List.replicate 8 eT) 3=(([eT,eT,(S,List.replicate m 4294967296),eH],List.replicate 8 eT),0):=by
   unfold dD
   rw[if_neg (by decide),show bkG (50,[2],[0]) [(S,x),(S,w),(S,p),([],[p.sum])] [eT,eT,eT,eH] 3=([(S,List.replicate m 4294967296)],0)from b3,if_pos rfl]
   have:cI [2] [(S,List.replicate m 4294967296)] [eT,eT,eT,eH]=([eT,eT,(S,List.replicate m 4294967296),eH],0):=by
    rw[cI,show([eT,eT,eT,eH]:List T).getD (2:Int).toNat eT=eT from rfl,cQ,if_pos rfl,cI];rfl
   show(if(cI [2] [(S,List.replicate m 4294967296)] [eT,eT,eT,eH]).2=0 then _ else _)=_
   rw[this,if_pos rfl]
  have d2:dD (12,[1,0],[]) [(S,x),(S,w),(S,p),([],[p.sum])] [eT,eT,(S,List.replicate m 4294967296),eH] (List.replicate 8 eT) 2=(([(S,w),(S,x),(S,List.replicate m 4294967296),eH],List.replicate 8 eT),0):=by
   unfold dD
   rw[if_neg (by decide),show bkG (12,[1,0],[]) [(S,x),(S,w),(S,p),([],[p.sum])] [eT,eT,(S,List.replicate m 4294967296),eH] 2=([(S,x),(S,w)],0)from b2,if_pos rfl]
   have:cI [1,0] [(S,x),(S,w)] [eT,eT,(S,List.replicate m 4294967296),eH]=([(S,w),(S,x),(S,List.replicate m 4294967296),eH],0):=by
    rw[cI,show([eT,eT,(S,List.replicate m 4294967296),eH]:List T).getD (1:Int).toNat eT=eT from rfl,cQ,if_pos rfl,cI]
    show(if(iS eT (S,w)).2=0 then _ else _)=_
    rw[cQ,if_pos rfl,cI];rfl
   show(if(cI [1,0] [(S,x),(S,w)] [eT,eT,(S,List.replicate m 4294967296),eH]).2=0 then _ else _)=_
   rw[this,if_pos rfl]
  have d1:dD (2,[],2::S) [(S,x),(S,w),(S,p),([],[p.sum])] [(S,w),(S,x),(S,List.replicate m 4294967296),eH] (List.replicate 8 eT) 1=(([(S,w),(S,x),(S,List.replicate m 4294967296),eH],(List.replicate 8 eT).set 2 (S,x)),0):=by
   unfold dD
   have:Kq (2,[],2::S) [(S,w),(S,x),(S,List.replicate m 4294967296),eH] (List.replicate 8 eT) 1=((S,x),0):=by
    show iS eT (S,x)=_
    exact cQ _
   rw[if_pos rfl,this,if_pos rfl];rfl
  have d0:dD (1,[],S) [(S,x),(S,w),(S,p),([],[p.sum])] [(S,w),(S,x),(S,List.replicate m 4294967296),eH] ((List.replicate 8 eT).set 2 (S,x)) 0=(([(S,w),(S,x),(S,List.replicate m 4294967296),eH],(List.replicate 8 eT).set 2 (S,x)),0):=by
   unfold dD
   rw[if_neg (show¬((1:Int)=2) by decide),show bkG (1,[],S) [(S,x),(S,w),(S,p),([],[p.sum])] [(S,w),(S,x),(S,List.replicate m 4294967296),eH] 0=([],0)from b0,if_pos rfl]
   show(if(cI [] [] [(S,w),(S,x),(S,List.replicate m 4294967296),eH]).2=0 then _ else _)=_
   rw[cI,if_pos rfl]
  show gY _ _ [0,1,2,3] (3+1) _ _=_
  rw[cT (l:=[(1,[],S),(2,[],2::S),(12,[1,0],[]),(50,[2],[0])]) (live:=[0,1,2,3]) (i:=3) (by decide) d3]
  show gY _ _ [0,1,2,3] (2+1) _ _=_
  rw[cT (l:=[(1,[],S),(2,[],2::S),(12,[1,0],[]),(50,[2],[0])]) (live:=[0,1,2,3]) (i:=2) (by decide) d2]
  show gY _ _ [0,1,2,3] (1+1) _ _=_
  rw[cT (l:=[(1,[],S),(2,[],2::S),(12,[1,0],[]),(50,[2],[0])]) (live:=[0,1,2,3]) (i:=1) (by decide) d1]
  show gY _ _ [0,1,2,3] (0+1) _ _=_
  rw[cT (l:=[(1,[],S),(2,[],2::S),(12,[1,0],[]),(50,[2],[0])]) (live:=[0,1,2,3]) (i:=0) (by decide) d0]
  rfl
 have hg:=m6 ha rfl hsl
 have hw2:eY [(S,x),(S,w),(S,p),([],[p.sum])] 0 [(1,[],S),(2,[],2::S),(12,[1,0],[]),(50,[2],[0])] ((List.replicate 8 eT).set 2 (S,x))=(List.replicate 8 eT).set 2 (S,x):=lK _ _ _ _ fun n hn h2'=>by
  simp only[List.mem_cons,List.not_mem_nil,or_false]at hn
  rcases hn with rfl|rfl|rfl|rfl
  ·cases h2'
  ·show(((List.replicate 8 eT).set 2 (S,x)).getD 2 eT).2.length≠0
   rw[eP (by simp)]
   show x.length≠0
   omega
  ·cases h2'
  ·cases h2'
 rw[hw2]at hg
 exact⟨_,hg,by simp,eP (by simp) _⟩
end Go.Proofs.EvM
