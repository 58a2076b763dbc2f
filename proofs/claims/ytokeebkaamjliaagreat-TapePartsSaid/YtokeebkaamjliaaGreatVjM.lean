import Derived.Test.YtokeebkaamjliaaGreatEvPl
set_option maxHeartbeats 16000000
set_option maxRecDepth 100000
set_option linter.unusedVariables false
set_option linter.unusedSimpArgs false
namespace Go.Proofs.EvM
open ShM cF GrM InM ImM
def cG(r:Tn)(s:BU):Tn:=if r.2.2=0 then dw r.1 r.2.1 s else([],[],r.2.2)
def f9(a g:BU):BU:=(a.zip g).map fun p=>if 0<p.1 then p.2 else 0
def gH(a:T):Tn:=if(cL fu a.2).2=0 then(a.1,(cL fu a.2).1,0)else([],[],(cL fu a.2).2)
def fY(op:Int)(a:T)(r:Tn):Tn:=if r.2.2=0 then bg op a.1 a.2 r.1 r.2.1 else([],[],r.2.2)
def xg(op:Int)(r:Tn)(a:T):Tn:=if r.2.2=0 then bg op r.1 r.2.1 a.1 a.2 else([],[],r.2.2)
def DN(op:Int)(r:Tn):Tn:=if r.2.2=0 then dS op r.1 r.2.1 else([],[],r.2.2)
def uM(r:Tn)(aj n:Int):Tn:=if r.2.2=0 then bE r.1 r.2.1 aj n else([],[],r.2.2)
def CZ(a:T)(aj:Int):T:=((cH a.1 a.2 aj).1,(cH a.1 a.2 aj).2.1)
def vjB(op:Int)(nums:BU)(a b out g:T):Tn:=
 if op=10 then dw g.1 g.2 b.1 else if op=11 then cG (dS 20 g.1 g.2) b.1 else if op=12 then cG (bg 12 g.1 g.2 a.1 a.2) b.1 else
 if op=13 then cG (DN 20 (xg 13 (bg 12 g.1 g.2 out.1 out.2) b)) b.1 else if op=30 then di a.1 a.2 g.1 g.2 else
 aS g.1 g.2 (nums.getD 0 0) (a.1.getD (nums.getD 0 0).toNat 0) (a.1.getD (nums.getD 0 0).toNat 0+b.1.getD (nums.getD 0 0).toNat 0)
def vjX(op:Int)(at_:Int)(nums:BU)(a g:T):Tn:=
 if op=42 then lS g.1 g.2 at_ (nums.getD 1 0) (a.1.getD at_.toNat 0)else if op=43 then aS g.1 g.2 at_ 0 (a.1.getD at_.toNat 0)else
 if op=50 then bE g.1 g.2 at_ (a.1.getD at_.toNat 0)else if op=51 then uM (bg 13 g.1 g.2 [] [4294967296*a.1.getD at_.toNat 0]) at_ (a.1.getD at_.toNat 0)else
 xg 12 (bE g.1 g.2 at_ (a.1.getD at_.toNat 0)) (CZ a at_)
def vjA(op:Int)(nums:BU)(a b out g:T):Tn:=
 if op=10∨op=11 then dw g.1 g.2 a.1 else if op=12∨op=13 then cG (bg op g.1 g.2 b.1 b.2) a.1 else if op=20 then dS 20 g.1 g.2 else
 if op=21 then(g.1,f9 a.2 g.2,0)else if op=22 then fY 12 g (gH a)else if op=23 then fY 13 g (bg 10 out.1 out.2 out.1 out.2)else
 if op=30 then fL g.1 g.2 b.1 b.2 else if op=40 then aJ g.1 g.2 a.1 else if op=41 then bF g.1 g.2 else vjX op (nums.getD 0 0) nums a g
def cU(op:Int)(nums:BU)(args:List T)(out g:T):List T×Int:=
 if args.all bO=false∨bO out=false∨bO g=false then([],30)else
 if(aF op nums (shT args)).2≠0 then([],(aF op nums (shT args)).2)else
 if out.1≠(aF op nums (shT args)).1∨g.1≠(aF op nums (shT args)).1 then([],20)else
 if args.length=0 then([],0)else
 if(vjA op nums (args.getD 0 eT) (args.getD 1 eT) out g).2.2≠0 then([],(vjA op nums (args.getD 0 eT) (args.getD 1 eT) out g).2.2)else
 if args.length=1 then([(tnE (vjA op nums (args.getD 0 eT) (args.getD 1 eT) out g)).1],0)else
 if(vjB op nums (args.getD 0 eT) (args.getD 1 eT) out g).2.2≠0 then([],(vjB op nums (args.getD 0 eT) (args.getD 1 eT) out g).2.2)else
 ([(tnE (vjA op nums (args.getD 0 eT) (args.getD 1 eT) out g)).1,(tnE (vjB op nums (args.getD 0 eT) (args.getD 1 eT) out g)).1],0)
def Fit(r:Tn)(s:BU):Prop:=r.2.2=0->r.1=s/\aB s r.2.1=true
def Z0(l:BU):Prop:=∀x∈l,x=0
def Nul(r:Tn):Prop:=r.2.2=0->Z0 r.2.1
theorem qz(g d s:BU):Fit (dw g d s) s:=fun h=>by
 rcases oB g d s with⟨_,e⟩|⟨_,_,e⟩|⟨_,_,_,e⟩|⟨_,h1,h2,e⟩
 ·rw[e]at h;cases h
 ·rw[e]at h;cases h
 ·rename_i h0;rw[e]at h;exact absurd h h0
 ·rw[e];refine⟨rfl,?_⟩;have ho:=(dP h1).1;have h3:fF s g d=((fF s g d).1,0):=Prod.ext rfl h2;have h4:=(wE _ d _ 0 _ h3).1;rw[aa5]at h4;exact Go.Proofs.ShM.aA.2 ⟨ho,by rw[h4];exact bW ho⟩
theorem cu{e:Int}{s:BU}(h:e≠0):Fit ([],[],e) s:=fun h'=>absurd h' h
theorem jG(r:Tn)(s:BU):Fit (cG r s) s:=by
 unfold cG;split
 ·exact qz _ _ _
 ·rename_i h;exact cu h
theorem uU{op:Int}(hop:10<=op/\op<=13){s xs t ys j:BU}(hj:bG s t=(j,0)):Fit (bg op s xs t ys) j:=fun h=>by
 obtain⟨j',Z,_,_,hj',e,_,ht,_⟩:=iB hop h;rw[hj]at hj';injection hj' with hj' _
 subst hj';rw[e];exact⟨rfl,ht⟩
theorem LJ{op:Int}(hop:20<=op/\op<=23)(s xs:BU):Fit (dS op s xs) s:=fun h=>by
 obtain⟨Z,_,e,_,ht,_⟩:=iE hop h;rw[e];exact⟨rfl,ht⟩
theorem uW(s xs t ys:BU):Fit (gu s xs t ys) [s.getD 0 0,t.getD 1 0]:=by
 unfold gu;split
 ·exact cu dG
 ·split
  ·exact cu dG
  ·rename_i h1;split
   ·rename_i h2;refine fun _=>⟨rfl,?_⟩
    have ho:okS [s.getD 0 0,t.getD 1 0]=true:=by
     cases h:okS [s.getD 0 0,t.getD 1 0]with
     |true=>rfl
     |false=>exact absurd (.inr (.inr (.inr h))) h1
    refine Go.Proofs.ShM.aA.2 ⟨ho,?_⟩;have ha:=(aD.1 ho).2.1;have h3:=(jF ha (a:=0) sC).1;have h4:=(jF ha (a:=1) sC).1;have h3:1<=s.getD 0 0:=h3;have h4:1<=t.getD 1 0:=h4;show(((kz xs ys (s.getD 0 0).toNat (s.getD 1 0).toNat (t.getD 1 0).toNat).1.length:Nat):Int)=s.getD 0 0*(t.getD 1 0*1);unfold kz at h2⊢;rw[jx h2,abM,ab4,acB oM,acB oM,Int.mul_one]
   ·rename_i h2;exact cu h2
theorem m9(s xs g:BU)(h:okS g=true):Fit (aJ s xs g) g:=by
 unfold aJ;split
 ·exact cu dG
 ·split
  ·rename_i h1;exact fun _=>⟨rfl,Go.Proofs.ImM.aA (t:=(g,xs)).2 ⟨h,h1.symm⟩⟩
  ·exact cu dG
theorem wG{s xs:BU}:Fit (bF s xs) s.reverse:=by
 unfold bF;split
 ·exact cu dG
 ·rename_i h;refine fun _=>⟨rfl,?_⟩
  have h:aB s xs=true:=by simpa using h
  have ho:=AZ (aW h).1;refine Go.Proofs.ShM.aA.2 ⟨ho,?_⟩;show((((List.range xs.length).map _).length:Nat):Int)=_;rw[abA,abM,eA];exact(Go.Proofs.ShM.aA.1 h).2
theorem qW{s xs g:BU}{k:Nat}{m:Int}(h:okS g=true):aB g (dU s xs g k m)=true:=Go.Proofs.ShM.aA.2 ⟨h,by rw[Bv,bW h]⟩
theorem m8(s xs:BU)(aj a b:Int)(h:okS (s.set aj.toNat (b-a))=true):Fit (aS s xs aj a b) (s.set aj.toNat (b-a)):=by
 unfold aS;split
 ·exact cu dG
 ·split
  ·exact cu dG
  ·exact fun _=>⟨rfl,qW h⟩
theorem LH(s xs:BU)(aj a side:Int):Fit (lS s xs aj a side) (s.set aj.toNat side):=by
 unfold lS;split
 ·exact cu dG
 ·split
  ·exact cu dG
  ·rename_i h;refine fun _=>⟨rfl,qW ?_⟩
   cases h1:okS (s.set aj.toNat side)with
   |true=>rfl
   |false=>exact absurd (by simp[h1]) h
theorem wH(s xs:BU)(aj n:Int):Fit (bE s xs aj n) (inL s aj.toNat n):=by
 unfold bE;split
 ·exact cu dG
 ·split
  ·exact cu dG
  ·rename_i h;refine fun _=>⟨rfl,?_⟩
   have ho:okS (inL s aj.toNat n)=true:=by
    cases h1:okS (inL s aj.toNat n)with
    |true=>rfl
    |false=>exact absurd (.inr (.inr h1)) h
   refine Go.Proofs.ShM.aA.2 ⟨ho,?_⟩;show((((List.range (au (inL s aj.toNat n)).toNat).map _).length:Nat):Int)=_;rw[abA,abM];exact bW ho
theorem He{s a g:BU}(h:a.length=g.length)(hg:aB s g=true):Fit (s,f9 a g,0) s:=fun _=>⟨rfl,by
 obtain⟨h1,h2⟩:=Go.Proofs.ShM.aA.1 hg;refine Go.Proofs.ShM.aA.2 ⟨h1,?_⟩;show((((a.zip g).map _).length:Nat):Int)=_;rw[abA,List.length_zip,h,Nat.min_self];exact h2⟩
theorem Hg{op:Int}(hop:10<=op/\op<=13){r:Tn}{s:BU}{a:T}{j:BU}(h:Fit r s)(hj:bG s a.1=(j,0)):Fit (xg op r a) j:=by
 unfold xg;split
 ·rename_i h0;rw[(h h0).1];exact uU hop hj
 ·rename_i h0;exact cu h0
theorem sQ{op:Int}(hop:10<=op/\op<=13){r:Tn}{s:BU}{a:T}{j:BU}(h:r.2.2=0->r.1=s)(hj:bG a.1 s=(j,0)):Fit (fY op a r) j:=by
 unfold fY;split
 ·rename_i h0;rw[h h0];exact uU hop hj
 ·rename_i h0;exact cu h0
theorem mZ:∀{s:BU} {k:Nat},k<s.length->inL (s.eraseIdx k) k (s.getD k 0)=s
 |x::s,0,_=>rfl
 |x::s,k+1,h=>by
  rw[List.eraseIdx_cons_succ,wh];show x::inL (s.eraseIdx k) k (s.getD k 0)=_;rw[mZ (by simpa using h)]
theorem rB{l:BU}{k:Nat}(hk:k<l.length):l.set k (l.getD k 0)=l:=by
 rw[aaS,aaV hk];exact List.set_getElem_self hk
theorem rC:∀{a b:BU} {k:Nat},a.length=b.length->a.eraseIdx k=b.eraseIdx k->k<b.length->a.set k (b.getD k 0)=b
 |x::a,y::b,0,_,h,_=>by
  have h:a=b:=h;subst h;rfl
 |x::a,y::b,k+1,hl,h,hk=>by
  rw[List.eraseIdx_cons_succ,List.eraseIdx_cons_succ]at h;injection h with h1 h2
  subst h1;show x::a.set k (b.getD k 0)=_;rw[rC (by simpa using hl) h2 (by simpa using hk)]
 | [],b,_,hl,_,hk=>by have:b.length=0:=hl.symm;omega
 |x::a,[],_,hl,_,_=>by simp at hl
theorem vV{op:Int}{nums a b s:BU}(h:aR op nums a b=(s,0))(hop:20<=op/\op<=23):s=a:=by
 unfold aR at h;rw[aaT oM,aaT oM,aaT oM,aaT oM,aaW hop]at h;injection h with h;exact h.symm
theorem Cm{nums a b s:BU}(h:aR 41 nums a b=(s,0)):s=a.reverse:=by
 unfold aR at h;rw[aaT oM,aaT oM,aaT oM,aaT oM,aaT oM,aaT oM,aaW rfl]at h;injection h with h;exact h.symm
theorem sx{op:Int}{nums a b s:BU}(h:aR op nums a b=(s,0))(hop:op=30∨op=42∨op=43∨44<=op):dQ op nums a b=(s,0):=by
 unfold aR at h
 rwa [aaT oM,aaT oM,aaT oM,aaT oM,aaT oM,aaT oM,aaT oM]at h
theorem ou{nums a b s:BU}(h:aR 30 nums a b=(s,0)):s=[a.getD 0 0,b.getD 1 0]/\a.length=2/\b.length=2/\a.getD 1 0=b.getD 0 0:=by
 have h:=sx h (.inl rfl);unfold dQ fZ at h;rw[aaW rfl]at h;split at h
 ·rename_i h1;rcases dF [a.getD 0 0,b.getD 1 0] true with⟨e,_,_⟩|e
  ·rw[e]at h;injection h with h
   exact⟨h.symm,h1⟩
  ·rw[e]at h;injection h with _ h;cases h
 ·injection h with _ h;cases h
theorem gy{op:Int}{nums a b s:BU}(h:aR op nums a b=(s,0))(hop:op=42∨op=43∨44<=op):(nums.getD 0 0).toNat<a.length/\0<=nums.getD 0 0/\
  (if op=42 then pP a (nums.getD 0 0) (nums.getD 1 0) (nums.getD 2 0)else if op=43 then nI a b (nums.getD 0 0)else(a.eraseIdx (nums.getD 0 0).toNat,0))=(s,0):=by
 have h:=sx h oM;unfold dQ at h;rw[aaT oM]at h;split at h
 ·injection h with _ h;cases h
 ·rename_i h1;have h2:eG a (nums.getD 0 0)=true:=by simpa using h1
  obtain⟨h3,h4⟩:=eV.1 h2;exact⟨oM,h3,h⟩
theorem pH{a:BU}(h:a.length=2):a=[a.getD 0 0,a.getD 1 0]/\a.reverse.getD 0 0=a.getD 1 0/\a.reverse.getD 1 0=a.getD 0 0:=by
 match a,h with
 | [x,y],_=>exact⟨rfl,rfl,rfl⟩
section
variable{op:Int}{nums:BU}{a b out g:T}
theorem Sr(hop:(42<=op/\op<=43)∨(50<=op/\op<=52))(ha:bO a=true)(h:aR op nums a.1 b.1=(g.1,0)):Fit (vjX op (nums.getD 0 0) nums a g) a.1:=by
 obtain⟨hk,h0,hc⟩:=gy h oM;have hoa:=(Go.Proofs.ImM.aA.1 ha).1;unfold vjX;split
 ·rename_i h42;subst h42;rw[aaW rfl]at hc;rcases iD a.1 (nums.getD 0 0) (nums.getD 1 0) (nums.getD 2 0)with⟨e,_⟩|e
  ·rw[e]at hc;injection hc with hc
   have hf:=LH g.1 g.2 (nums.getD 0 0) (nums.getD 1 0) (a.1.getD (nums.getD 0 0).toNat 0);rw[show g.1.set (nums.getD 0 0).toNat (a.1.getD (nums.getD 0 0).toNat 0)=a.1 by rw[<-hc,List.set_set,rB hk]]at hf;exact hf
  ·rw[e]at hc;injection hc with _ hc;cases hc
 ·rename_i h42;rw[aaT h42]at hc;split
  ·rename_i h43;rw[aaW h43]at hc;rcases gB a.1 b.1 (nums.getD 0 0)with⟨e,_⟩|e
   ·rw[e]at hc;injection hc with hc
    have he:g.1.set (nums.getD 0 0).toNat (a.1.getD (nums.getD 0 0).toNat 0-0)=a.1:=by rw[<-hc,List.set_set,Int.sub_zero,rB hk]
    have hf:=m8 g.1 g.2 (nums.getD 0 0) 0 (a.1.getD (nums.getD 0 0).toNat 0) (by rw[he];exact hoa);rw[he]at hf;exact hf
   ·rw[e]at hc;injection hc with _ hc;cases hc
  ·rename_i h43;rw[aaT h43]at hc;injection hc with hc
   have he:inL g.1 (nums.getD 0 0).toNat (a.1.getD (nums.getD 0 0).toNat 0)=a.1:=by rw[<-hc,mZ hk]
   have hg:Fit (bE g.1 g.2 (nums.getD 0 0) (a.1.getD (nums.getD 0 0).toNat 0)) a.1:=by
    have hf:=wH g.1 g.2 (nums.getD 0 0) (a.1.getD (nums.getD 0 0).toNat 0)
    rwa [he]at hf
   split
   ·exact hg
   ·split
    ·unfold uM;split
     ·rename_i hz;obtain⟨j,Z,t1,t2,hj,e,_⟩:=iB oM hz;have hjg:j=g.1:=by
       have hJ:bG g.1 []=(g.1,0):=fR.2 (Jn.bU (aW t1).1).comm;rw[hJ]at hj;injection hj with hj
       exact hj.symm
      rw[e];subst hjg;have hf:=wH g.1 Z (nums.getD 0 0) (a.1.getD (nums.getD 0 0).toNat 0)
      rwa [he]at hf
     ·rename_i hz;exact cu hz
    ·refine Hg oM hg ?_;unfold CZ cH;have ht:¬aB a.1 a.2=false:=by
      have:aB a.1 a.2=true:=ha;simp[this]
     rw[aaT ht,aaT oM];exact join_self hoa
theorem Pp(hop:(10<=op/\op<=13)∨(20<=op/\op<=23)∨op=30∨(40<=op/\op<=43)∨(50<=op/\op<=52))(ha:bO a=true)(ho:bO out=true)(hg:bO g=true)(hs:out.1=g.1)(h:aR op nums a.1 b.1=(g.1,0)):Fit (vjA op nums a b out g) a.1:=by
 have hoa:=(Go.Proofs.ImM.aA.1 ha).1;unfold vjA;split
 ·exact qz _ _ _
 ·split
  ·exact jG _ _
  ·rename_i h1 h2;by_cases h20:20<=op/\op<=23
   ·have he:=vV h h20;split
    ·rw[<-he];exact LJ oM _ _
    ·split
     ·rw[<-he];refine He ?_ hg;have e1:=(aW (show aB a.1 a.2=true from ha)).2.1;have e2:=(aW (show aB g.1 g.2=true from hg)).2.1;rw[he]at e2;omega
     ·split
      ·refine sQ oM (s:=a.1) (fun hz=>?_) (by rw[he];exact join_self hoa);unfold gH at hz⊢;split
       ·rfl
       ·rename_i h3;rw[aaT h3]at hz;exact absurd hz h3
      ·rw[aaW oM];refine sQ oM (s:=a.1) (fun hz=>?_) (by rw[he];exact join_self hoa);have hj:bG out.1 out.1=(out.1,0):=join_self (Go.Proofs.ImM.aA.1 ho).1;have:=(uU oM hj hz).1;rw[this,hs,he]
   ·rw[aaT oM,aaT oM,aaT oM,aaT oM];split
    ·rename_i h30;subst h30;obtain⟨e1,e2,e3,e4⟩:=ou h;unfold fL;split
     ·exact cu dG
     ·rename_i t0;split
      ·exact cu dG
      ·have tb:aB b.1 b.2=true:=by
        cases e:aB b.1 b.2 with
        |true=>rfl
        |false=>exact absurd (.inr e) t0
       have et:(bF b.1 b.2).1=b.1.reverse:=by unfold bF;rw[aaT (by simp[tb])]
       rw[et];have hf:=uW g.1 g.2 b.1.reverse (bF b.1 b.2).2.1;rw[(pH e3).2.2,e1]at hf;rw[e1,(pH e2).1,e4];exact hf
    ·split
     ·exact m9 _ _ _ hoa
     ·split
      ·rename_i h41;subst h41;have he:=Cm h;have hf:=wG (s:=g.1) (xs:=g.2);rw[he,List.reverse_reverse]at hf;rw[he];exact hf
      ·exact Sr oM ha h
theorem Ss(hop:(10<=op/\op<=13)∨op=30∨op=43)(ha:bO a=true)(hb:bO b=true)(h:aR op nums a.1 b.1=(g.1,0)):Fit (vjB op nums a b out g) b.1:=by
 have hob:=(Go.Proofs.ImM.aA.1 hb).1;unfold vjB;split
 ·exact qz _ _ _
 ·split
  ·exact jG _ _
  ·split
   ·exact jG _ _
   ·split
    ·exact jG _ _
    ·split
     ·rename_i h30;subst h30;obtain⟨e1,e2,e3,e4⟩:=ou h;unfold di;split
      ·exact cu dG
      ·split
       ·exact cu dG
       ·have ta:aB a.1 a.2=true:=ha;have et:(bF a.1 a.2).1=a.1.reverse:=by unfold bF;rw[aaT (by simp[ta])]
        rw[et];have hf:=uW a.1.reverse (bF a.1 a.2).2.1 g.1 g.2;rw[(pH e2).2.1,e1]at hf;rw[e1,(pH e3).1,<-e4];exact hf
     ·have h43:op=43:=by omega
      subst h43;obtain⟨hk,h0,hc⟩:=gy h oM;rw[aaT oM,aaW rfl]at hc;rcases gB a.1 b.1 (nums.getD 0 0)with⟨e,hl,her,_⟩|e
      ·rw[e]at hc;injection hc with hc
       have he:g.1.set (nums.getD 0 0).toNat (a.1.getD (nums.getD 0 0).toNat 0+b.1.getD (nums.getD 0 0).toNat 0-a.1.getD (nums.getD 0 0).toNat 0)=b.1:=by
        rw[<-hc,List.set_set,show a.1.getD (nums.getD 0 0).toNat 0+b.1.getD (nums.getD 0 0).toNat 0-a.1.getD (nums.getD 0 0).toNat 0=b.1.getD (nums.getD 0 0).toNat 0 by omega];exact rC hl her oM
       have hf:=m8 g.1 g.2 (nums.getD 0 0) (a.1.getD (nums.getD 0 0).toNat 0) (a.1.getD (nums.getD 0 0).toNat 0+b.1.getD (nums.getD 0 0).toNat 0) (by rw[he];exact hob);rw[he]at hf;exact hf
      ·rw[e]at hc;injection hc with _ hc;cases hc
end
open ShM cF GrM InM ImM
theorem zk:Z0 []:=fun x h=>by cases h
theorem nM{l:BU}(h:Z0 l)(i:Nat):l.getD i 0=0:=by
 rw[aaS]
 cases e:l[i]? with
 |none=>rfl
 |some x=>exact h x (aa1 e)
theorem zm{α:Type}{f:α->Int}{l:List α}(h:∀x∈l,f x=0):Z0 (l.map f):=fun x hx=>by
 obtain⟨y,hy,rfl⟩:=abN.1 hx;exact h y hy
theorem M8{α:Type}{f:α->Int×Int}{l:List α}(h:∀x∈l,(f x).1=0):Z0 (cL f l).1:=by
 unfold cL;split
 ·exact zm h
 ·exact zk
theorem Ts{l:BU}(h:∀i,i<l.length->l.getD i 0=0):Z0 l:=fun x hx=>by
 obtain⟨i,hi,rfl⟩:=acv.1 hx;have:=h i hi
 rwa [aaS,aaV hi]at this
theorem QS{l:BU}(h:Z0 l):l=List.replicate l.length 0:=List.eq_replicate_iff.2 ⟨rfl,h⟩
theorem cn{e:Int}:Nul ([],[],e):=fun _=>zk
theorem mul_left(y:Int):dX 0 y=(0,0):=by
 unfold dX;rw[Int.zero_mul,Int.zero_ediv];exact cO oM oM
theorem mul_right(y:Int):dX y 0=(0,0):=by rw[mO];exact mul_left y
theorem Hu(y:Int):(nE 0 y).1=0:=by
 unfold nE;split
 ·rfl
 ·rw[Int.zero_mul,Int.zero_fdiv];exact abP Prod.fst (cO oM oM)
theorem pW{g d:BU}(s:BU)(h:Z0 d):Nul (dw g d s):=fun hz=>by
 rcases oB g d s with⟨_,e⟩|⟨_,_,e⟩|⟨_,_,_,e⟩|⟨ht,h1,h2,e⟩
 ·rw[e];exact zk
 ·rw[e];exact zk
 ·rw[e];exact zk
 ·have hd:d=List.replicate (au g).toNat 0:=by rw[(aW ht).2.1];exact QS h
  obtain⟨c,e2,hl,hc⟩:=CQ (n:=0) h1 oM;rw[<-hd]at e2;rw[e2];intro x hx;obtain⟨i,hi⟩:=abC.1 hx;have h3:=(hc i x hi).1;have h4:i<c.length:=(aaU.1 hi).1;rw[Int.zero_mul]at h3;rcases Int.mul_eq_zero.1 h3 with h3|h3
  ·exact h3
  ·omega
theorem jl{r:Tn}(s:BU)(h:Nul r):Nul (cG r s):=by
 unfold cG;split
 ·rename_i h0;exact pW s (h h0)
 ·exact cn
theorem ko{op:Int}(hop:op=12∨op=13){s xs t ys:BU}(h:Z0 xs):Nul (bg op s xs t ys):=fun hz=>by
 obtain⟨j,Z,_,_,_,e,hl,_,hi⟩:=iB oM hz;rw[e];refine Ts fun i hi'=>?_
 have h1:=hi i (by rw[<-hl];exact hi');unfold atN at h1;rw[nM h]at h1;have h2:(ic op 0 (ys.getD (ew t j i).toNat 0)).1=0:=by
  unfold ic;rcases hop with rfl|rfl
  ·rw[aaT oM,aaT oM]
   first|exact abP Prod.fst (mul_left _)|(rw[aaW rfl];exact abP Prod.fst (mul_left _))
  ·rw[aaT oM,aaT oM,aaT oM];exact Hu _
 rw[h1]at h2;exact h2
theorem vP{op:Int}(hop:op=12∨op=13){r:Tn}{a:T}(h:Nul r):Nul (xg op r a):=by
 unfold xg;split
 ·rename_i h0;exact ko hop (h h0)
 ·exact cn
theorem rP{op:Int}(hop:op=12∨op=13){a:T}{r:Tn}(h:Z0 a.2):Nul (fY op a r):=by
 unfold fY;split
 ·exact ko hop h
 ·exact cn
theorem uq{s xs:BU}(h:Z0 xs):Nul (dS 20 s xs):=fun hz=>by
 obtain⟨Z,_,e,hl,_,hi⟩:=iE oM hz;rw[e];refine Ts fun i hi'=>?_
 have h1:=hi i (by rw[<-hl];exact hi');rw[nM h]at h1;have h2:(tC 20 0).1=0:=by decide+kernel
 rw[h1]at h2;exact h2
theorem FI{r:Tn}(h:Nul r):Nul (DN 20 r):=by
 unfold DN;split
 ·rename_i h0;exact uq (h h0)
 ·exact cn
theorem MZ{a g:BU}(h:Z0 g):Z0 (f9 a g):=zm fun p hp=>by
 have hm:=(List.of_mem_zip (a:=p.1) (b:=p.2) hp).2;split
 ·exact h _ hm
 ·rfl
theorem wU{f g:Nat->Int}(h:∀k,f k=0):∀k,gQ f g k=(0,0)
 |0=>rfl
 |k+1=>by
  unfold gQ;rw[wU h k,h k,mul_left];rfl
theorem sZ{f g:Nat->Int}(h:∀k,g k=0):∀k,gQ f g k=(0,0)
 |0=>rfl
 |k+1=>by
  unfold gQ;rw[sZ h k,h k,mul_right];rfl
theorem Bd{s xs t ys:BU}(h:Z0 xs∨Z0 ys):Nul (gu s xs t ys):=by
 unfold gu;split
 ·exact cn
 ·split
  ·exact cn
  ·split
   ·refine fun _=>M8 fun q _=>?_
    unfold atQ;rcases h with h|h
    ·exact abP Prod.fst (wU (f:=qN xs _ _) (fun k=>nM h _) _)
    ·exact abP Prod.fst (sZ (g:=qO ys _ _) (fun k=>nM h _) _)
   ·exact cn
theorem Tt{s d:BU}(h:Z0 d)(t:BU):(atV s d t).1=0:=by
 unfold atV;split
 ·exact nM h _
 ·rfl
theorem FJ{g xs t ys:BU}(h:Z0 xs):Nul (fL g xs t ys):=by
 unfold fL;split
 ·exact cn
 ·split
  ·exact cn
  ·exact Bd (.inl h)
theorem Bc{s xs g ys:BU}(h:Z0 ys):Nul (di s xs g ys):=by
 unfold di;split
 ·exact cn
 ·split
  ·exact cn
  ·exact Bd (.inr h)
theorem um{s xs g:BU}(h:Z0 xs):Nul (aJ s xs g):=by
 unfold aJ;split
 ·exact cn
 ·split
  ·exact fun _=>h
  ·exact cn
theorem FH{s xs:BU}(h:Z0 xs):Nul (bF s xs):=by
 unfold bF;split
 ·exact cn
 ·exact fun _=>zm fun _ _=>Tt h _
theorem zl{s xs g:BU}{k:Nat}{m:Int}(h:Z0 xs):Z0 (dU s xs g k m):=zm fun _ _=>Tt h _
theorem rQ{s xs:BU}{aj a b:Int}(h:Z0 xs):Nul (aS s xs aj a b):=by
 unfold aS;split
 ·exact cn
 ·split
  ·exact cn
  ·exact fun _=>zl h
theorem KE{s xs:BU}{aj a side:Int}(h:Z0 xs):Nul (lS s xs aj a side):=by
 unfold lS;split
 ·exact cn
 ·split
  ·exact cn
  ·exact fun _=>zl h
theorem pV{s xs:BU}{aj n:Int}(h:Z0 xs):Nul (bE s xs aj n):=by
 unfold bE;split
 ·exact cn
 ·split
  ·exact cn
  ·exact fun _=>zm fun _ _=>nM h _
theorem Be{r:Tn}{aj n:Int}(h:Nul r):Nul (uM r aj n):=by
 unfold uM;split
 ·rename_i h0;exact pV (h h0)
 ·exact cn
section
variable{op:Int}{nums:BU}{a b out g:T}
theorem Rl(h:Z0 g.2):Nul (vjB op nums a b out g):=by
 unfold vjB;split
 ·exact pW _ h
 ·split
  ·exact jl _ (uq h)
  ·split
   ·exact jl _ (ko (.inl rfl) h)
   ·split
    ·exact jl _ (FI (vP (.inr rfl) (ko (.inl rfl) h)))
    ·split
     ·exact Bc h
     ·exact rQ h
theorem Oq(h:Z0 g.2):Nul (vjA op nums a b out g):=by
 unfold vjA;split
 ·exact pW _ h
 ·split
  ·rename_i h1;exact jl _ (ko h1 h)
  ·split
   ·exact uq h
   ·split
    ·exact fun _=>MZ h
    ·split
     ·exact rP (.inl rfl) h
     ·split
      ·exact rP (.inr rfl) h
      ·split
       ·exact FJ h
       ·split
        ·exact um h
        ·split
         ·exact FH h
         ·unfold vjX;split
          ·exact KE h
          ·split
           ·exact rQ h
           ·split
            ·exact pV h
            ·split
             ·exact Be (ko (.inr rfl) h)
             ·exact vP (.inl rfl) (pV h)
end
theorem uV{r:Tn}{s:BU}(h:r.1=s/\aB s r.2.1=true):bO (tnE r).1=true:=by
 show aB r.1 r.2.1=true;rw[h.1];exact h.2
theorem MU{op:Int}{nums:BU}{args:List T}{out g:T}{inp:T}{ps:List T}(hop:10<=op)(h:bq op nums args inp ps=(out,0)):
  ((cU op nums args out g).2≠0->(cU op nums args out g).1=[])/\
  ((cU op nums args out g).2=0->(cU op nums args out g).1.length=args.length/\(∀(k:Nat) (t:T),(cU op nums args out g).1[k]?=some t->bO t=true/\∃a:T,args[k]?=some a/\t.1=a.1)/\
   (Z0 g.2->∀t∈(cU op nums args out g).1,Z0 t.2)):=by
 obtain⟨hn,hall⟩:=cA h;have hn2:=hn;unfold aF at hn2;split at hn2
 ·rename_i hc;rw[iX,iX]at hn2;have hal:((shT args).length:Int)=ak op:=hc.2.1;have hlen:(args.length:Int)=ak op:=by unfold shT at hal;rwa [abA]at hal
  have har:0<=ak op:=by rw[<-hlen];omega
  have WD:=nu har;unfold cU;split
  ·exact⟨fun _=>rfl,fun h=>by cases h⟩
  ·rename_i h1;have hto:bO out=true:=by
    cases e:bO out with
    |true=>rfl
    |false=>exact absurd (.inr (.inl e)) h1
   have htg:bO g=true:=by
    cases e:bO g with
    |true=>rfl
    |false=>exact absurd (.inr (.inr e)) h1
   rw[hn];rw[aaT sC];split
   ·exact⟨fun _=>rfl,fun h=>by cases h⟩
   ·rename_i h2;have hog:g.1=out.1:=by
     by_cases e:g.1=out.1
     ·exact e
     ·exact absurd (.inr e) h2
    rw[<-hog]at hn2;have ar2:ak op=if 10<=op/\op<=13∨op=30∨op=43 then 2 else 1:=by
     unfold ak;rw[aaT oM];by_cases e:10<=op/\op<=13∨op=30∨op=43
     ·rw[aaW oM,aaW e]
     ·rw[aaT oM,aaT e,aaW oM]
    rw[aaT (by split at ar2<;>omega)];split
    ·exact⟨fun _=>rfl,fun h=>absurd h (by assumption)⟩
    ·rename_i h3;have h3:(vjA op nums (args.getD 0 eT) (args.getD 1 eT) out g).2.2=0:=by simpa using h3
     split
     ·rename_i h4;obtain⟨a,rfl⟩:∃a,args=[a]:=List.length_eq_one_iff.1 h4;have hta:bO a=true:=abn.1 hall a sC;refine⟨fun h=>absurd rfl h,fun _=>⟨rfl,fun k t hk=>?_,fun hz t ht=>?_⟩⟩
      ·match k,hk with
       |0,hk=>
        injection hk with hk
        subst hk;have hf:=Pp (nums:=nums) (b:=eT) oM hta hto htg hog.symm hn2 h3;exact⟨uV hf,a,rfl,hf.1⟩
       |k+1,hk=>cases hk
      ·rw[abF.1 ht];exact Oq hz h3
     ·rename_i h4;split
      ·exact⟨fun _=>rfl,fun h=>absurd h (by assumption)⟩
      ·rename_i h5;have h5:(vjB op nums (args.getD 0 eT) (args.getD 1 eT) out g).2.2=0:=by simpa using h5
       have hop2:10<=op/\op<=13∨op=30∨op=43:=by
        by_cases e:10<=op/\op<=13∨op=30∨op=43
        ·exact e
        ·rw[aaT e]at ar2;omega
       rw[aaW hop2]at ar2;obtain⟨a,b,rfl⟩:∃a b,args=[a,b]:=by
        match args,(show args.length=2 by omega)with
        | [a,b],_=>exact⟨a,b,rfl⟩
       have hta:bO a=true:=abn.1 hall a sC;have htb:bO b=true:=abn.1 hall b sC;refine⟨fun h=>absurd rfl h,fun _=>⟨rfl,fun k t hk=>?_,fun hz t ht=>?_⟩⟩
       ·match k,hk with
        |0,hk=>
         injection hk with hk
         subst hk;have hf:=Pp (nums:=nums) (b:=b) oM hta hto htg hog.symm hn2 h3;exact⟨uV hf,a,rfl,hf.1⟩
        |1,hk=>
         injection hk with hk
         subst hk;have hf:=Ss (nums:=nums) (a:=a) (b:=b) (out:=out) oM hta htb hn2 h5;exact⟨uV hf,b,rfl,hf.1⟩
        |k+2,hk=>cases hk
       ·rcases abD.1 ht with ht|ht
        ·rw[ht];exact Oq hz h3
        ·rw[abF.1 ht];exact Rl hz h5
 ·injection hn2 with _ hn2;cases hn2
open ShM cF GrM InM ImM
open ShM cF GrM InM ImM
section
variable{s t x y d:BU}
theorem JJ(h:¬aB s x=false):aB s x=true:=by
 cases e:aB s x with
 |true=>rfl
 |false=>exact absurd e h
end
open ShM cF GrM InM ImM
def Eok(r:Ev):Prop:=(r.2≠0->r.1=eT)/\(r.2=0->bO r.1=true)
def Rok(r:Tn):Prop:=(r.2.2≠0->r.1=[]/\r.2.1=[])/\(r.2.2=0->aB r.1 r.2.1=true)
theorem jU{e:Int}(h:e≠0):Rok ([],[],e):=⟨fun _=>⟨rfl,rfl⟩,fun h'=>absurd h' h⟩
theorem iy{r:Tn}(h:Rok r):Eok (tnE r):=⟨fun h'=>by
 obtain⟨e1,e2⟩:=h.1 h';show(r.1,r.2.1)=([],[]);rw[e1,e2],h.2⟩
theorem pG{r:Tn}{s:BU}(h:Fit r s)(g:r.2.2≠0->r.1=[]/\r.2.1=[]):Rok r:=⟨g,fun h'=>by
 obtain⟨e1,e2⟩:=h h';rw[e1];exact e2⟩
theorem Ka(op:Int)(s xs t ys:BU):Rok (bg op s xs t ys):=by
 refine⟨fun h=>?_,fun h=>?_⟩
 ·rw[tN op s xs t ys h];exact⟨rfl,rfl⟩
 ·by_cases hop:op<10∨13<op
  ·rw[oR hop]at h;cases h
  ·obtain⟨j,Z,_,_,_,e,_,ht,_⟩:=iB oM h;rw[e];exact ht
theorem Kb(op:Int)(s xs:BU):Rok (dS op s xs):=by
 refine⟨fun h=>?_,fun h=>?_⟩
 ·rw[ug op s xs h];exact⟨rfl,rfl⟩
 ·by_cases hop:op<20∨23<op
  ·rw[pS hop]at h;cases h
  ·obtain⟨Z,_,e,_,ht,_⟩:=iE oM h;rw[e];exact ht
theorem E5(n:Int):Rok (dm [] n):=⟨fun h=>absurd (show(dm [] n).2.2=0 from rfl) h,fun _=>wB (s:=[]) n (show okS []=true by decide)⟩
theorem Ke(s xs t ys:BU):Rok (gu s xs t ys):=pG (uW s xs t ys) (by
 unfold gu;split
 ·exact fun _=>⟨rfl,rfl⟩
 ·split
  ·exact fun _=>⟨rfl,rfl⟩
  ·split
   ·exact fun h=>absurd rfl h
   ·exact fun _=>⟨rfl,rfl⟩)
theorem t7(s xs g:BU)(h:okS g=true):Rok (aJ s xs g):=pG (m9 s xs g h) (by
 unfold aJ;split
 ·exact fun _=>⟨rfl,rfl⟩
 ·split
  ·exact fun h=>absurd rfl h
  ·exact fun _=>⟨rfl,rfl⟩)
theorem E0(s xs:BU):Rok (bF s xs):=pG wG (by
 unfold bF;split
 ·exact fun _=>⟨rfl,rfl⟩
 ·exact fun h=>absurd rfl h)
theorem Ak(s xs:BU)(aj a b:Int)(h:okS (s.set aj.toNat (b-a))=true):Rok (aS s xs aj a b):=pG (m8 s xs aj a b h) (by
 unfold aS;split
 ·exact fun _=>⟨rfl,rfl⟩
 ·split
  ·exact fun _=>⟨rfl,rfl⟩
  ·exact fun h=>absurd rfl h)
theorem E3(s xs t ys:BU)(aj:Int):Rok (eE s xs t ys aj):=by
 unfold eE;split
 ·exact jU dG
 ·split
  ·exact jU dG
  ·rename_i h;refine⟨fun h=>absurd rfl h,fun _=>H9 ?_⟩
   cases e:okS (s.set aj.toNat (s.getD aj.toNat 0+t.getD aj.toNat 0))with
   |true=>rfl
   |false=>exact absurd (.inr (.inr (.inr (.inr e)))) h
theorem tZ(f:Int->Int->Int×Int)(x0:Int)(s xs:BU)(aj:Int):Rok (gZ f x0 s xs aj):=by
 unfold gZ;split
 ·exact jU dG
 ·rename_i h0;split
  ·exact jU dG
  ·rename_i h1;split
   ·rename_i h2;refine⟨fun h=>absurd rfl h,fun _=>?_⟩;have ht:=JJ h0;have ho:okS (s.eraseIdx aj.toNat)=true:=rO (aW ht).1 oM;refine Go.Proofs.ShM.aA.2 ⟨ho,?_⟩;show(((oV f x0 s xs aj.toNat).1.length:Nat):Int)=_;unfold oV at h2⊢;rw[jx h2,abM];exact bW ho
   ·rename_i h2;exact jU h2
theorem E1(s xs:BU)(aj:Int):Rok (fK s xs aj):=by
 have h:=tZ cY 0 s xs aj;have h:Rok (iM s xs aj):=h;unfold fK;split
 ·rename_i h0;refine⟨fun h=>absurd rfl h,fun _=>?_⟩;obtain⟨h1,h2⟩:=Go.Proofs.ShM.aA.1 (h.2 h0);refine Go.Proofs.ShM.aA.2 ⟨h1,?_⟩;show((((iM s xs aj).2.1.map _).length:Nat):Int)=_;rw[abA];exact h2
 ·rename_i h0;exact jU h0
theorem sW(t:T)(s:BU):Eok (bL t s):=by
 unfold bL;split
 ·rename_i h;exact⟨fun h'=>absurd rfl h',fun _=>h.1⟩
 ·exact⟨fun _=>rfl,fun h=>by cases h⟩
theorem Hj(op:Int)(nums:BU)(ts:List T)(inp:T)(ps:List T):Eok (bq op nums ts inp ps):=by
 unfold bq;split
 ·exact⟨fun _=>rfl,fun h=>by cases h⟩
 ·split
  ·rename_i h0 h1;rcases iF op nums (shT ts)with⟨s,hs,ho⟩|hs
   ·rw[hs];have hs2:=hs;unfold aF at hs2;split at hs2
    ·rename_i hc;rw[iX,iX]at hs2;unfold aV;split
     ·exact sW _ _
     ·split
      ·exact sW _ _
      ·split
       ·exact iy (E5 _)
       ·split
        ·exact iy (Ka _ _ _ _ _)
        ·split
         ·exact iy (Kb _ _ _)
         ·unfold dY;split
          ·exact iy (Ke _ _ _ _)
          ·split
           ·rename_i h40;subst h40;refine iy (t7 _ _ _ ?_);unfold aR at hs2;rw[aaT oM,aaT oM,aaT oM,aaT oM,aaT oM,aaW rfl]at hs2;rcases dF nums (decide (au nums=au (ts.getD 0 eT).1))with⟨_,_,e⟩|e
            ·exact e
            ·rw[e]at hs2;injection hs2 with _ hs2;cases hs2
           ·split
            ·exact iy (E0 _ _)
            ·split
             ·rename_i h42;subst h42;refine iy (Ak _ _ _ _ _ ?_);obtain⟨hk,_,hcc⟩:=gy hs2 oM;rw[aaW rfl]at hcc;rcases iD (ts.getD 0 eT).1 (nums.getD 0 0) (nums.getD 1 0) (nums.getD 2 0)with⟨e,_⟩|e
              ·rw[e]at hcc;injection hcc with hcc
               rw[hcc];exact ho
              ·rw[e]at hcc;injection hcc with _ hcc;cases hcc
             ·split
              ·exact iy (E3 _ _ _ _ _)
              ·split
               ·exact iy (tZ _ _ _ _ _)
               ·split
                ·exact iy (E1 _ _ _)
                ·exact iy (tZ _ _ _ _ _)
    ·injection hs2 with _ hs2;cases hs2
   ·rw[hs]at h1;cases h1
  ·rename_i h1;exact⟨fun _=>rfl,fun h=>absurd h h1⟩
open ShM cF GrM InM ImM
theorem KL{l:BU}(h:N64 l)(k:Nat){x:Int}(hx:In64 x):N64 (l.set k x):=fun y hy=>by
 rcases acE hy with h1|h1
 ·exact h y h1
 ·rw[h1];exact hx
theorem rW(f:Nat->Nat):∀(d:BU) (k:Nat) (zs:BU),N64 zs->N64 (fG f zs k d).1
 | [],_,zs,h=>h
 |x::d,k,zs,h=>by
  unfold fG;split
  ·exact rW f d (k+1) _ (KL h _ (Cx _ _))
  ·exact aE
theorem p9(g d s:BU):N64 (dw g d s).2.1:=by
 unfold dw;split
 ·split
  ·split
   ·exact rW _ _ _ _ (Bq fC)
   ·exact aE
  ·exact aE
 ·exact aE
theorem js(r:Tn)(s:BU):N64 (cG r s).2.1:=by
 unfold cG;split
 ·exact p9 _ _ _
 ·exact aE
theorem Lk(op a b:Int):In64 (ic op a b).1:=by
 unfold ic;split
 ·exact mY _
 ·split
  ·exact mY _
  ·split
   ·exact mY _
   ·split
    ·exact Jd _ _
    ·exact fC
theorem gM(op:Int)(s xs g ys:BU):N64 (bg op s xs g ys).2.1:=by
 unfold bg;split
 ·exact aE
 ·split
  ·exact aE
  ·split
   ·exact aE
   ·split
    ·exact jr fun p _=>Lk op p.1 p.2
    ·exact aE
theorem rU(op:Int)(a:T)(r:Tn):N64 (fY op a r).2.1:=by
 unfold fY;split
 ·exact gM _ _ _ _ _
 ·exact aE
theorem FX(op:Int)(r:Tn)(a:T):N64 (xg op r a).2.1:=by
 unfold xg;split
 ·exact gM _ _ _ _ _
 ·exact aE
theorem uw(s xs:BU):N64 (dS 20 s xs).2.1:=by
 unfold dS;split
 ·exact aE
 ·split
  ·exact aE
  ·split
   ·exact jr fun x _=>mY _
   ·exact aE
theorem FM(a:BU){g:BU}(h:N64 g):N64 (f9 a g):=by
 unfold f9;refine gN fun p hp=>?_
 split
 ·exact h p.2 (List.of_mem_zip hp).2
 ·exact fC
theorem KN{s xs:BU}(h:N64 xs)(aj a side:Int):N64 (lS s xs aj a side).2.1:=by
 unfold lS;split
 ·exact aE
 ·split
  ·exact aE
  ·exact jq h _ _ _
theorem FT(g xs t ys:BU):N64 (fL g xs t ys).2.1:=by
 unfold fL;split
 ·exact aE
 ·split
  ·exact aE
  ·exact ux _ _ _ _
theorem Bp(g xs t ys:BU):N64 (di g xs t ys).2.1:=by
 unfold di;split
 ·exact aE
 ·split
  ·exact aE
  ·exact ux _ _ _ _
theorem pZ{s xs:BU}(h:N64 xs)(aj n:Int):N64 (bE s xs aj n).2.1:=by
 unfold bE;split
 ·exact aE
 ·split
  ·exact aE
  ·exact gN fun _ _=>gO h _
theorem Br{r:Tn}(h:N64 r.2.1)(aj n:Int):N64 (uM r aj n).2.1:=by
 unfold uM;split
 ·exact pZ h _ _
 ·exact aE
theorem Bn(op:Int)(nums:BU)(a b out:T){g:T}(h:N64 g.2):N64 (vjA op nums a b out g).2.1:=by
 unfold vjA
 repeat' split
 ·exact p9 _ _ _
 ·exact js _ _
 ·exact uw _ _
 ·exact FM _ h
 ·exact rU _ _ _
 ·exact rU _ _ _
 ·exact FT _ _ _ _
 ·exact mN h _
 ·exact vR h
 ·unfold vjX
  repeat' split
  ·exact KN h _ _ _
  ·exact mM h _ _ _
  ·exact pZ h _ _
  ·exact Br (gM _ _ _ _ _) _ _
  ·exact FX _ _ _
theorem KI(op:Int)(nums:BU)(a b out:T){g:T}(h:N64 g.2):N64 (vjB op nums a b out g).2.1:=by
 unfold vjB
 repeat' split
 ·exact p9 _ _ _
 ·exact js _ _
 ·exact js _ _
 ·exact js _ _
 ·exact Bp _ _ _ _
 ·exact mM h _ _ _
theorem Qq(op:Int)(nums:BU)(args:List T)(out:T){g:T}(h:N64 g.2):∀z∈(cU op nums args out g).1,N64 z.2:=by
 unfold cU
 repeat' split
 ·exact fun z hz=>by cases hz
 ·exact fun z hz=>by cases hz
 ·exact fun z hz=>by cases hz
 ·exact fun z hz=>by cases hz
 ·exact fun z hz=>by cases hz
 ·intro z hz;rw[abF.1 hz];exact Bn _ _ _ _ _ h
 ·exact fun z hz=>by cases hz
 ·intro z hz;rcases abD.1 hz with rfl|hz
  ·exact Bn _ _ _ _ _ h
  ·rw[abF.1 hz];exact KI _ _ _ _ _ h
