import Derived.Test.YtokeebkaamjliaaGreatMmAll
import Derived.Test.YtokeebkaamjliaaGreatImM
set_option maxHeartbeats 16000000
set_option maxRecDepth 100000
set_option linter.unusedVariables false
set_option linter.unusedSimpArgs false
namespace Go.Proofs.ShM
open cF
section
variable{op:Int}{s xs:BU}
theorem BL{f:Int->Int×Int}(h:(cL f xs).2=0){i:Nat}(hi:i<xs.length):f (xs.getD i 0)=((cL f xs).1.getD i 0,0):=by
 obtain⟨h1,h2⟩:=mR h;rw[h2];have e:xs.getD i 0=xs[i]:=by simp[List.getD,aaV hi]
 rw[e];have h3:=fH.1 h1 xs[i] (List.getElem_mem hi);refine Prod.ext ?_ h3;simp[List.getD,aa7,aaV hi]
theorem pT(hop:20<=op/\op<=23)(h:aB s xs=true):dS op s xs=DR s (cL (tC op) xs):=by
 unfold dS DR;rw[aaT oM,aaT (by simp[h])]
theorem rM(hop:20<=op/\op<=23)(h:aB s xs=false):dS op s xs=([],[],30):=by
 unfold dS;rw[aaT oM,aaW h]
theorem pS(hop:op<20∨23<op):dS op s xs=([],[],1):=by unfold dS;rw[aaW hop]
theorem ug(op:Int)(s xs:BU)(h:(dS op s xs).2.2≠0):dS op s xs=([],[],(dS op s xs).2.2):=by
 by_cases hop:op<20∨23<op
 ·rw[pS hop]
 ·have CA:20<=op/\op<=23:=by omega
  cases h1:aB s xs with
  |false=>rw[rM CA h1]
  |true=>
   rw[pT CA h1]at h⊢;unfold DR at *;by_cases c:(cL (tC op) xs).2=0
   ·rw[aaW c]at h;exact absurd rfl h
   ·rw[aaT c]
theorem iE(hop:20<=op/\op<=23)(h:(dS op s xs).2.2=0):∃Z,aB s xs=true/\dS op s xs=(s,Z,0)/\Z.length=xs.length/\aB s Z=true/\∀i,i<xs.length->tC op (xs.getD i 0)=(Z.getD i 0,0):=by
 cases h1:aB s xs with
 |false=>rw[rM hop h1]at h;cases h
 |true=>
  rw[pT hop h1]at h;obtain⟨z,e⟩:=sY h;have hl:=jx z;refine⟨_,rfl,by rw[pT hop h1,e],hl,?_,fun i hi=>BL z hi⟩;obtain⟨ho,h2⟩:=aA.1 h1;exact aA.2 ⟨ho,by rw[hl];exact h2⟩
end
theorem Ae{n k:Int}(h1:0<=n)(h2:n<=9223372036854775807): -9223372036854775808<=(gV n k).1/\(gV n k).1<=9223372036854775807:=by
 unfold gV;split
 ·have hd:(0:Int)<((2^(-k).toNat:Nat):Int):=by have:=Nat.two_pow_pos (-k).toNat;omega
  have g1:=Int.ediv_nonneg h1 (Int.le_of_lt hd);have g2:=Int.ediv_le_self ((2^(-k).toNat:Nat):Int) h1;dsimp only;omega
 ·exact iR _
theorem Ky(op:Int){x:Int}(h: -9223372036854775808<=x/\x<=9223372036854775807): -9223372036854775808<=(tC op x).1/\(tC op x).1<=9223372036854775807:=by
 unfold tC;split
 ·exact iR _
 ·split
  ·dsimp only;omega
  ·split
   ·unfold NU;exact Ae oM oM
   ·split
    ·unfold zV;split
     ·simp
     ·have hb:=IB (W:=x.natAbs*4294967296) oM;dsimp only;omega
    ·simp
theorem Kv(op:Int)(s:BU){xs:BU}(hx:bN xs):bN (dS op s xs).2.1:=by
 by_cases hop:op<20∨23<op
 ·rw[pS hop];exact bN.bU
 ·have CA:20<=op/\op<=23:=by omega
  by_cases h:(dS op s xs).2.2=0
  ·obtain⟨Z,_,e,hl,_,hz⟩:=iE CA h;rw[e];intro x hxz;obtain⟨i,hi,rfl⟩:=acv.1 hxz;have h1:=hz i (by rw[<-hl];exact hi);rw[show Z.getD i 0=Z[i] by simp[List.getD,aaV hi]]at h1;have h3:=Ky op (fS hx i);rw[h1]at h3;exact h3
  ·rw[ug op s xs h];exact bN.bU
theorem zQ{s:BU}(h:okS s=true){i:Nat}(hi:i<(au s).toNat):(ew [] s i).toNat=0:=by
 have hf:cw [] s=true:=fU.2 (Jn.bU h);have:=bW h;have h1:=q9 hf (p:=(i:Int)) oM oM;have h2:ai []=1:=rfl;omega
end Go.Proofs.ShM
namespace Go.Proofs.EvM
open ShM cF GrM InM ImM
abbrev Ev:=T×Int
def eT:T:=([],[])
def tnE(r:Tn):Ev:=((r.1,r.2.1),r.2.2)
def bL(t:T)(s:BU):Ev:=if bO t=true/\t.1=s then(t,0)else(eT,130)
def xX(ps:List T)(p:Int):T:=if 0<=p then ps.getD p.toNat eT else eT
def dY(op:Int)(nums:BU)(a b:T):Ev:=
 if op=30 then tnE (gu a.1 a.2 b.1 b.2)else if op=40 then tnE (aJ a.1 a.2 nums)else if op=41 then tnE (bF a.1 a.2)else
 if op=42 then tnE (aS a.1 a.2 (nums.getD 0 0) (nums.getD 1 0) (nums.getD 2 0))else if op=43 then tnE (eE a.1 a.2 b.1 b.2 (nums.getD 0 0))else
 if op=50 then tnE (iM a.1 a.2 (nums.getD 0 0))else if op=51 then tnE (fK a.1 a.2 (nums.getD 0 0))else tnE (uE a.1 a.2 (nums.getD 0 0))
def aV(op:Int)(nums:BU)(a b:T)(s:BU)(inp:T)(ps:List T):Ev:=
 if op=1 then bL inp s else if op=2 then bL (xX ps (nums.getD 0 0)) s else if op=3 then tnE (dm [] (nums.getD 0 0))else
 if 10<=op/\op<=13 then tnE (bg op a.1 a.2 b.1 b.2)else if 20<=op/\op<=23 then tnE (dS op a.1 a.2)else dY op nums a b
def shT(ts:List T):List (BU):=ts.map (·.1)
def bq(op:Int)(nums:BU)(ts:List T)(inp:T)(ps:List T):Ev:=
 if ts.all bO=false then(eT,30)else if(aF op nums (shT ts)).2=0 then aV op nums (ts.getD 0 eT) (ts.getD 1 eT) (aF op nums (shT ts)).1 inp ps else(eT,(aF op nums (shT ts)).2)
def cq(acc:List T)(l:BU):List T:=l.map fun a=>acc.getD a.toNat eT
def evF(inp:T)(ps:List T):List Nd->List T->List T×Int×Int
 | [],acc=>(acc,-1,0)
 |n::l,acc=>if(bq n.1 n.2.2 (cq acc n.2.1) inp ps).2=0 then evF inp ps l (acc++[(bq n.1 n.2.2 (cq acc n.2.1) inp ps).1])else([],(acc.length:Int),(bq n.1 n.2.2 (cq acc n.2.1) inp ps).2)
def fI(l:List Nd)(inp:T)(ps:List T):List T×Int×Int:=if(aH l).2.2=0 then evF inp ps l []else([],(aH l).2.1,(aH l).2.2)
theorem iX(ts:List T)(k:Nat):(shT ts).getD k []=(ts.getD k eT).1:=by
 unfold shT;rw[aaS,aaS,aa7]
 cases ts[k]?<;>rfl
theorem Dp(acc:List T)(l:BU):bY (shT acc) l=shT (cq acc l):=by
 unfold bY cq shT;rw[List.map_map];apply List.map_congr_left;intro a _;exact iX acc a.toNat
theorem fo{r:Tn}{t:T}(h:tnE r=(t,0)):r.2.2=0/\r.1=t.1/\r.2.1=t.2:=by
 unfold tnE at h;injection h with h1 h2
 rw[<-h1];exact⟨h2,rfl,rfl⟩
theorem oA{t u:T}{s:BU}(h:bL t s=(u,0)):u.1=s:=by
 unfold bL at h;split at h
 ·rename_i g;injection h with h _;rw[<-h];exact g.2
 ·injection h with _ h;cases h
theorem mz{f:Int->Int->Int×Int}{x0:Int}{s xs:BU}{aj:Int}(h:(gZ f x0 s xs aj).2.2=0):(gZ f x0 s xs aj).1=s.eraseIdx aj.toNat:=by
 unfold gZ at h⊢;split at h
 ·cases h
 ·rename_i g1;split at h
  ·cases h
  ·rename_i g2;rw[aaT g1,aaT g2];split
   ·rfl
   ·rename_i g3;rw[aaT g3]at h;exact absurd h g3
theorem ye{op:Int}{nums:BU}{a b:T}{s:BU}{t:T}(hop:op=30∨(40<=op/\op<=43)∨(50<=op/\op<=52))(h:dY op nums a b=(t,0))(hk:aR op nums a.1 b.1=(s,0)):t.1=s:=by
 have hk':(if op=40 then fe nums (decide (au nums=au a.1))else if op=41 then(a.1.reverse,0)else dQ op nums a.1 b.1)=(s,0):=by
  unfold aR at hk
  rwa [aaT oM,aaT oM,aaT oM,aaT oM,aaT oM]at hk
 clear hk;unfold dY at h;by_cases h30:op=30
 ·subst h30;rw[aaW rfl]at h;obtain⟨e1,e2,_⟩:=fo h;rw[aaT oM,aaT oM]at hk';unfold dQ fZ at hk';rw[aaW rfl]at hk';split at hk'
  ·rcases dF [a.1.getD 0 0,b.1.getD 1 0] true with⟨e,_,_⟩|e
   ·rw[e]at hk';injection hk' with hk' _
    rw[<-e2,<-hk'];unfold gu at e1⊢;split at e1
    ·cases e1
    ·rename_i g1;split at e1
     ·cases e1
     ·rename_i g2;rw[aaT g1,aaT g2];split
      ·rfl
      ·rename_i g3;rw[aaT g3]at e1;exact absurd e1 g3
   ·rw[e]at hk';injection hk' with _ hk';cases hk'
  ·injection hk' with _ hk';cases hk'
 rw[aaT h30]at h;by_cases h40:op=40
 ·subst h40;rw[aaW rfl]at h hk';obtain⟨e1,e2,_⟩:=fo h;rcases dF nums (decide (au nums=au a.1))with⟨e,_,_⟩|e
  ·rw[e]at hk';injection hk' with hk' _
   rw[<-e2,<-hk'];unfold aJ at e1⊢;split at e1
   ·cases e1
   ·rename_i g1;split at e1
    ·rename_i g2;rw[aaT g1,aaW g2]
    ·cases e1
  ·rw[e]at hk';injection hk' with _ hk';cases hk'
 rw[aaT h40]at h hk';by_cases h41:op=41
 ·subst h41;rw[aaW rfl]at h hk';obtain⟨e1,e2,_⟩:=fo h;injection hk' with hk' _
  rw[<-e2,<-hk'];unfold bF at e1⊢;split at e1
  ·cases e1
  ·rename_i g1;rw[aaT g1]
 rw[aaT h41]at h hk';unfold dQ at hk';rw[aaT h30]at hk';split at hk'
 ·injection hk' with _ hk';cases hk'
 by_cases h42:op=42
 ·subst h42;rw[aaW rfl]at h hk';obtain⟨e1,e2,_⟩:=fo h;rcases iD a.1 (nums.getD 0 0) (nums.getD 1 0) (nums.getD 2 0)with⟨e,_⟩|e
  ·rw[e]at hk';injection hk' with hk' _
   rw[<-e2,<-hk'];unfold aS at e1⊢;split at e1
   ·cases e1
   ·rename_i g1;split at e1
    ·cases e1
    ·rename_i g2;rw[aaT g1,aaT g2]
  ·rw[e]at hk';injection hk' with _ hk';cases hk'
 rw[aaT h42]at h hk';by_cases h43:op=43
 ·subst h43;rw[aaW rfl]at h hk';obtain⟨e1,e2,_⟩:=fo h;rcases gB a.1 b.1 (nums.getD 0 0)with⟨e,_⟩|e
  ·rw[e]at hk';injection hk' with hk' _
   rw[<-e2,<-hk'];unfold eE at e1⊢;split at e1
   ·cases e1
   ·rename_i g1;split at e1
    ·cases e1
    ·rename_i g2;rw[aaT g1,aaT g2]
  ·rw[e]at hk';injection hk' with _ hk';cases hk'
 rw[aaT h43]at h hk';injection hk' with hk' _
 rw[<-hk'];by_cases h50:op=50
 ·rw[aaW h50]at h;obtain⟨e1,e2,_⟩:=fo h;rw[<-e2];exact mz e1
 rw[aaT h50]at h;by_cases h51:op=51
 ·rw[aaW h51]at h;obtain⟨e1,e2,_⟩:=fo h;rw[<-e2];unfold fK at e1⊢;split at e1
  ·rename_i g1;rw[aaW g1];exact mz g1
  ·rename_i g1;exact absurd e1 g1
 ·rw[aaT h51]at h;obtain⟨e1,e2,_⟩:=fo h;rw[<-e2];exact mz e1
theorem nu{op:Int}(h:0<=ak op):(1<=op/\op<=3)∨(10<=op/\op<=13)∨(20<=op/\op<=23)∨op=30∨(40<=op/\op<=43)∨(50<=op/\op<=52):=by
 unfold ak at h;split at h
 ·omega
 ·split at h
  ·omega
  ·split at h
   ·omega
   ·omega
theorem yD{op:Int}{nums:BU}{a b:T}{s:BU}{inp:T}{ps:List T}{t:T}(hop:0<=ak op)(h:aV op nums a b s inp ps=(t,0))(hk:aR op nums a.1 b.1=(s,0)):t.1=s:=by
 unfold aV at h;by_cases h1:op=1
 ·rw[aaW h1]at h;exact oA h
 rw[aaT h1]at h;by_cases h2:op=2
 ·rw[aaW h2]at h;exact oA h
 rw[aaT h2]at h;by_cases h3:op=3
 ·subst h3;rw[aaW rfl]at h;obtain⟨e1,e2,_⟩:=fo h;unfold aR at hk;rw[aaT oM,aaT oM,aaW rfl]at hk;injection hk with hk _
  rw[<-e2,<-hk];rfl
 rw[aaT h3]at h;by_cases h10:10<=op/\op<=13
 ·rw[aaW h10]at h;obtain⟨e1,e2,_⟩:=fo h;obtain⟨j,Z,_,_,hj,hz,_⟩:=iB h10 e1;unfold aR at hk;rw[aaT h1,aaT h2,aaT h3,aaW h10,hj]at hk;injection hk with hk _
  rw[<-e2,<-hk,hz]
 rw[aaT h10]at h;by_cases h20:20<=op/\op<=23
 ·rw[aaW h20]at h;obtain⟨e1,e2,_⟩:=fo h;obtain⟨Z,_,hz,_⟩:=iE h20 e1;unfold aR at hk;rw[aaT h1,aaT h2,aaT h3,aaT h10,aaW h20]at hk;injection hk with hk _
  rw[<-e2,<-hk,hz]
 rw[aaT h20]at h;exact ye (by rcases nu hop with g|g|g|g|g|g<;>omega) h hk
theorem cA{op:Int}{nums:BU}{ts:List T}{inp:T}{ps:List T}{t:T}(h:bq op nums ts inp ps=(t,0)):aF op nums (shT ts)=(t.1,0)/\ts.all bO=true:=by
 unfold bq at h;split at h
 ·injection h with _ h;cases h
 ·rename_i g0;split at h
  ·rename_i g1;refine⟨?_,by simpa using g0⟩
   cases e:aF op nums (shT ts)with
   |mk s f=>
    rw[e]at g1 h;have g1:f=0:=g1;subst g1;have h:aV op nums (ts.getD 0 eT) (ts.getD 1 eT) s inp ps=(t,0):=h;unfold aF at e;split at e
    ·rename_i g2;rw[iX,iX]at e;have hop:0<=ak op:=by
      have:=g2.1;unfold gE at this;rw[abb,abE]at this;exact this.1
     rw[yD hop h e]
    ·injection e with _ e;cases e
  ·rename_i g1;injection h with _ h;exact absurd h g1
theorem wK(inp:T)(ps:List T):∀(l m:List Nd) (acc:List T),evF inp ps (l++m) acc=if(evF inp ps l acc).2.2=0 then evF inp ps m (evF inp ps l acc).1 else evF inp ps l acc
 | [],m,acc=>by simp[evF]
 |n::l,m,acc=>by
  rw[abX,evF,evF];by_cases h:(bq n.1 n.2.2 (cq acc n.2.1) inp ps).2=0
  ·rw[aaW h,aaW h];exact wK inp ps l m _
  ·rw[aaT h,aaT h,aaT h]
theorem iJ(inp:T)(ps:List T):∀(l:List Nd) (acc:List T),(∃t,evF inp ps l acc=(acc++t,-1,0)/\t.length=l.length)∨∃(i:Nat) (e:Int),evF inp ps l acc=([],(i:Int),e)/\e≠0/\acc.length<=i/\i<acc.length+l.length
 | [],acc=> .inl ⟨[],by simp[evF],rfl⟩
 |n::l,acc=>by
  rw[evF];by_cases h:(bq n.1 n.2.2 (cq acc n.2.1) inp ps).2=0
  ·rw[aaW h];rcases iJ inp ps l (acc++[(bq n.1 n.2.2 (cq acc n.2.1) inp ps).1])with⟨t,e1,e2⟩|⟨i,e,e1,e2,e3,e4⟩
   ·exact .inl ⟨(bq n.1 n.2.2 (cq acc n.2.1) inp ps).1::t,by rw[e1];simp,by simp[e2]⟩
   ·rw[abf,abI]at e3 e4;exact .inr ⟨i,e,e1,e2,oM,by rw[abg];omega⟩
  ·rw[aaT h];exact .inr ⟨acc.length,_,rfl,h,aaZ _,by rw[abg];omega⟩
theorem LM(inp:T)(ps:List T):∀(l:List Nd) (acc t:List T),evF inp ps l acc=(t,-1,0)->shF l (shT acc)=(shT t,-1,0)
 | [],acc,t,h=>by
  injection h with h _
  rw[<-h];rfl
 |n::l,acc,t,h=>by
  rw[evF]at h;by_cases g:(bq n.1 n.2.2 (cq acc n.2.1) inp ps).2=0
  ·rw[aaW g]at h;have e:=cA (t:=(bq n.1 n.2.2 (cq acc n.2.1) inp ps).1) (Prod.ext rfl g);rw[<-Dp]at e;have h2:=LM inp ps l _ t h;rw[bA e.1,<-h2];congr 1;unfold shT;rw[abK];rfl
  ·rw[aaT g]at h;injection h with _ h
   injection h with h _
   omega
theorem DA(l:List Nd)(inp:T)(ps:List T):(∃t,fI l inp ps=(t,-1,0)/\t.length=l.length/\aK l=true/\evF inp ps l []=(t,-1,0)/\aH l=(shT t,-1,0))∨∃(i e:Int),fI l inp ps=([],i,e)/\e≠0/\i<(l.length:Int):=by
 unfold fI
 cases hc:aK l with
 |false=>
  have:aH l=([],-1,100):=by unfold aH;rw[aaT (by simp[hc])]
  rw[this,aaT dG];exact .inr ⟨-1,100,rfl,dG,oM⟩
 |true=>
  have hs:aH l=shF l []:=by unfold aH;rw[aaW hc]
  rcases kX hc with⟨t,e1,e2,_⟩|⟨i,e1,e2⟩
  ·rw[e1,aaW rfl];rcases iJ inp ps l []with⟨t',f1,f2⟩|⟨j,e,f1,f2,_,f4⟩
   ·rw[acu]at f1;have h:=LM inp ps l [] t' f1;refine .inl ⟨t',f1,f2,rfl,f1,?_⟩;rw[<-e1,hs];exact h
   ·exact .inr ⟨j,e,f1,f2,by simp at f4;omega⟩
  ·rw[e1,aaT (show¬((20:Int)=0) by decide)];exact .inr ⟨i,20,rfl,dG,oM⟩
theorem C4{inp:T}{ps:List T}{l:List Nd}{t:List T}(h:evF inp ps l []=(t,-1,0))(hl:t.length=l.length){k:Nat}(hk:k<=l.length):evF inp ps (l.take k) []=(t.take k,-1,0)/\evF inp ps (l.drop k) (t.take k)=(t,-1,0):=by
 have e:=wK inp ps (l.take k) (l.drop k) [];rw[List.take_append_drop,h]at e;rcases iJ inp ps (l.take k) []with⟨t',f1,f2⟩|⟨j,e',f1,f2,_,_⟩
 ·rw[acu]at f1;rw[f1,aaW rfl]at e;have e:(t,(-1:Int),(0:Int))=evF inp ps (l.drop k) t':=e;rcases iJ inp ps (l.drop k) t' with⟨u,g1,g2⟩|⟨j,e',g1,g2,_,_⟩
  ·rw[g1]at e;injection e with e _
   have:t.take k=t':=by
    rw[e,List.take_left'];rw[f2,abv];omega
   rw[this];exact⟨f1,by rw[g1,e]⟩
  ·rw[g1]at e;injection e with _ e
   injection e with e _
   omega
 ·rw[f1,aaT f2]at e;injection e with _ e
  injection e with e _
  omega
theorem ny{t:List T}{k:Nat}{l:BU}(h:∀a∈l,0<=a/\a<(k:Int)):cq (t.take k) l=cq t l:=by
 unfold cq;apply List.map_congr_left;intro a ha;obtain⟨h0,h1⟩:=h a ha;rw[aaS,aaS,acQ,aaW oM]
theorem Sz{inp:T}{ps:List T}{l:List Nd}{t:List T}(hc:aK l=true)(h:evF inp ps l []=(t,-1,0))(hl:t.length=l.length){k:Nat}{n:Nd}(hn:l[k]?=some n):bq n.1 n.2.2 (cq t n.2.1) inp ps=(t.getD k eT,0):=by
 have hk:=(aaU.1 hn).1;obtain⟨_,e⟩:=C4 h hl (k:=k) oM;have ha:=(bh.1 ((aO.1 hc).2.2 k n hn)).2.2.2.1;have hd:l.drop k=n::l.drop (k+1):=by
  obtain⟨hb,ee⟩:=aaU.1 hn;rw[abW hb,ee]
 rw[hd,evF,ny ha]at e;by_cases g:(bq n.1 n.2.2 (cq t n.2.1) inp ps).2=0
 ·rw[aaW g]at e;rcases iJ inp ps (l.drop (k+1)) (t.take k++[(bq n.1 n.2.2 (cq t n.2.1) inp ps).1])with⟨u,g1,g2⟩|⟨j,e',g1,g2,_,_⟩
  ·rw[g1]at e;injection e with e _
   refine Prod.ext ?_ g;show _=t.getD k eT;have h3:(t.take k++[(bq n.1 n.2.2 (cq t n.2.1) inp ps).1]++u).getD k eT=t.getD k eT:=by rw[e]
   rw[aaS,acA,abz (by rw[abv];omega),abv,Nat.min_eq_left oM,Nat.sub_self]at h3;exact h3
  ·rw[g1]at e;injection e with _ e
   injection e with e _
   omega
 ·rw[aaT g]at e;injection e with e1 e
  injection e with e _
  omega
open ShM cF GrM InM ImM
theorem Qn{op:Int}{nums:BU}{ts:List T}{inp:T}{ps:List T}{t:T}(h:bq op nums ts inp ps=(t,0)):ts.all bO=true/\aV op nums (ts.getD 0 eT) (ts.getD 1 eT) (aF op nums (shT ts)).1 inp ps=(t,0):=by
 unfold bq at h;split at h
 ·injection h with _ h;cases h
 ·rename_i g0;split at h
  ·exact⟨by simpa using g0,h⟩
  ·rename_i g1;injection h with _ h;exact absurd h g1
def In64(x:Int):Prop:= -9223372036854775808<=x/\x<=9223372036854775807
theorem fC:In64 0:=by unfold In64;omega
theorem aE:N64 []:=fun x h=>by cases h
theorem gO{l:BU}(h:N64 l)(i:Nat):In64 (l.getD i 0):=by
 rw[aaS]
 cases e:l[i]? with
 |none=>exact fC
 |some x=>exact h x (aa1 e)
theorem gN{α:Type}{f:α->Int}{l:List α}(h:∀x∈l,In64 (f x)):N64 (l.map f):=fun x hx=>by
 obtain⟨y,hy,rfl⟩:=abN.1 hx;exact h y hy
theorem Bq{n:Nat}{x:Int}(h:In64 x):N64 (List.replicate n x):=fun y hy=>by
 rw[acs hy];exact h
theorem jr{α:Type}{f:α->Int×Int}{l:List α}(h:∀x∈l,In64 (f x).1):N64 (cL f l).1:=by
 unfold cL;split
 ·exact gN h
 ·exact aE
theorem mY(n:Int):In64 (put n).1:=by
 rcases dN n with⟨h1,h2,e⟩|⟨_,e⟩
 ·rw[e];exact⟨h1,h2⟩
 ·rw[e];exact fC
theorem Cx(a b:Int):In64 (cY a b).1:=mY _
theorem Jd(a b:Int):In64 (nE a b).1:=by
 unfold nE;split
 ·exact fC
 ·exact mY _
theorem OU{s d:BU}(h:N64 d)(t:BU):In64 (atV s d t).1:=by
 unfold atV;split
 ·exact gO h _
 ·exact fC
theorem Jc(f g:Nat->Int):∀k,In64 (gQ f g k).1
 |0=>fC
 |k+1=>by
  unfold gQ;split
  ·exact Jc f g k
  ·split
   ·exact fC
   ·exact Cx _ _
theorem OP{f:Int->Int->Int×Int}(hf:∀a b,In64 a->In64 b->In64 (f a b).1):∀(l:BU) (x:Int),In64 x->N64 l->In64 (tkL f x l).1
 | [],x,hx,_=>hx
 |y::l,x,hx,hl=>by
  rw[jQ];split
  ·exact OP hf l _ (hf x y hx (hl y List.mem_cons_self)) (fun z hz=>hl z (ab1 _ hz))
  ·exact fC
theorem FR{s xs:BU}(h:N64 xs)(a q:Nat):N64 (aU s xs a q):=gN fun _ _=>gO h _
theorem Bo{f:Int->Int->Int×Int}(hf:∀a b,In64 a->In64 b->In64 (f a b).1){x0:Int}(h0:In64 x0){s xs:BU}(h:N64 xs)(aj:Int):N64 (gZ f x0 s xs aj).2.1:=by
 unfold gZ;split
 ·exact aE
 ·split
  ·exact aE
  ·split
   ·exact jr fun q _=>OP hf _ _ h0 (FR h _ _)
   ·exact aE
theorem KJ{s xs:BU}(h:N64 xs)(aj:Int):N64 (iM s xs aj).2.1:=Bo (fun a b _ _=>Cx a b) fC h aj
theorem KP{s xs:BU}(h:N64 xs)(aj:Int):N64 (uE s xs aj).2.1:=
 Bo (fun a b ha hb=>by unfold In64 at *;show _<=max a b/\max a b<=_;omega) (by unfold In64;omega) h aj
theorem FP{s xs:BU}(aj:Int):N64 (fK s xs aj).2.1:=by
 unfold fK;split
 ·exact gN fun x _=>Jd _ _
 ·exact aE
theorem ux(s xs t ys:BU):N64 (gu s xs t ys).2.1:=by
 unfold gu;split
 ·exact aE
 ·split
  ·exact aE
  ·split
   ·exact jr fun q _=>Jc _ _ _
   ·exact aE
theorem mN{s xs:BU}(h:N64 xs)(g:BU):N64 (aJ s xs g).2.1:=by
 unfold aJ;split
 ·exact aE
 ·split
  ·exact h
  ·exact aE
theorem vR{s xs:BU}(h:N64 xs):N64 (bF s xs).2.1:=by
 unfold bF;split
 ·exact aE
 ·exact gN fun _ _=>OU h _
theorem jq{s xs:BU}(h:N64 xs)(g:BU)(k:Nat)(m:Int):N64 (dU s xs g k m):=gN fun _ _=>OU h _
theorem mM{s xs:BU}(h:N64 xs)(aj a b:Int):N64 (aS s xs aj a b).2.1:=by
 unfold aS;split
 ·exact aE
 ·split
  ·exact aE
  ·exact jq h _ _ _
theorem FU{s xs t ys:BU}(h:N64 xs)(g:N64 ys)(aj:Int):N64 (eE s xs t ys aj).2.1:=by
 unfold eE;split
 ·exact aE
 ·split
  ·exact aE
  ·refine gN fun i _=>?_
   split
   ·exact gO (jq h _ _ _) _
   ·exact gO (jq g _ _ _) _
theorem FV{n:Int}(h:In64 n)(s:BU):N64 (dm s n).2.1:=by
 unfold dm;split
 ·exact Bq h
 ·exact aE
theorem FO{op:Int}{nums:BU}{a b:T}(ha:N64 a.2)(hb:N64 b.2):N64 (dY op nums a b).1.2:=by
 unfold dY;split
 ·exact ux _ _ _ _
 ·split
  ·exact mN ha _
  ·split
   ·exact vR ha
   ·split
    ·exact mM ha _ _ _
    ·split
     ·exact FU ha hb _
     ·split
      ·exact KJ ha _
      ·split
       ·exact FP _
       ·exact KP ha _
theorem rV{t:T}(h:N64 t.2)(s:BU):N64 (bL t s).1.2:=by
 unfold bL;split
 ·exact h
 ·exact aE
theorem KM{ps:List T}(h:∀t∈ps,N64 t.2)(p:Int):N64 (xX ps p).2:=by
 unfold xX;split
 ·rw[aaS]
  cases e:ps[p.toNat]? with
  |none=>exact aE
  |some x=>exact h x (aa1 e)
 ·exact aE
theorem lp{ps:List T}(h:∀t∈ps,N64 t.2)(k:Nat):N64 (ps.getD k eT).2:=by
 rw[aaS]
 cases e:ps[k]? with
 |none=>exact aE
 |some x=>exact h x (aa1 e)
theorem pY{op:Int}{nums:BU}{ts:List T}{inp:T}{ps:List T}(h1:∀t∈ts,N64 t.2)(h2:N64 inp.2)(h3:∀t∈ps,N64 t.2)(h4:N64 nums):N64 (bq op nums ts inp ps).1.2:=by
 unfold bq;split
 ·exact aE
 ·split
  ·unfold aV;split
   ·exact rV h2 _
   ·split
    ·exact rV (KM h3 _) _
    ·split
     ·exact FV (gO h4 _) _
     ·split
      ·exact JG _ _ _ _ _
      ·split
       ·exact Kv _ _ (lp h1 0)
       ·exact FO (lp h1 0) (lp h1 1)
  ·exact aE
theorem qc{acc:List T}(h:∀t∈acc,N64 t.2)(l:BU):∀t∈cq acc l,N64 t.2:=fun t ht=>by
 obtain⟨a,_,rfl⟩:=abN.1 ht;exact lp h _
theorem Ot{inp:T}{ps:List T}(h2:N64 inp.2)(h3:∀t∈ps,N64 t.2):∀(l:List Nd) (acc:List T),(∀t∈acc,N64 t.2)->(∀n∈l,N64 n.2.2)->∀t∈(evF inp ps l acc).1,N64 t.2
 | [],acc,h,_=>h
 |n::l,acc,h,g=>by
  unfold evF;split
  ·refine Ot h2 h3 l _ (fun t ht=>?_) (fun m hm=>g m (ab1 _ hm));rcases acg.1 ht with ht|ht
   ·exact h t ht
   ·rw[abF.1 ht];exact pY (qc h _) h2 h3 (g n List.mem_cons_self)
  ·intro t ht
   cases ht
theorem zF{t:T}(h:bO t=true):t.1.length<=100/\t.2.length<=100/\N64 t.1:=by
 have h1:=Go.Proofs.ImM.Ec h;have h2:=(aD.1 (Go.Proofs.ImM.aA.1 h).1).2.1;refine⟨oM,oM,fun x hx=>?_⟩;have h3:=abn.1 h2 x hx;unfold aX at h3;simp at h3;omega
