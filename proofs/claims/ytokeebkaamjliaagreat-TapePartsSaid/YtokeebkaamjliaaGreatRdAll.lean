import Derived.Test.YtokeebkaamjliaaGreatElAll
import Derived.Shelf.Slices.Delete
import Derived.Shelf.Spec.SlicesInsertGrow
import Derived.Test.YtokeebkaamjliaaGreatPvAll
set_option maxHeartbeats 16000000
set_option maxRecDepth 100000
set_option linter.unusedVariables false
set_option linter.unusedSimpArgs false
namespace Go.Proofs.ShM
open cF
def inL(xs:BU)(k:Nat)(x:Int):BU:=xs.take k++x::xs.drop k
theorem kK{xs:BU}{k:Nat}{x:Int}(h:k<=xs.length):(inL xs k x).length=xs.length+1:=by unfold inL;simp;omega
theorem OV{xs:BU}{k:Nat}{x:Int}(h:k<=xs.length){j:Nat}(hj:j<k):(inL xs k x)[j]?=xs[j]?:=by
 unfold inL;rw[aco (by simp;omega),acQ,aaW hj]
theorem Je{xs:BU}{k:Nat}{x:Int}(h:k<=xs.length):(inL xs k x)[k]?=some x:=by
 unfold inL;rw[abz (by simp;omega)];simp[Nat.min_eq_left h]
theorem OX{xs:BU}{k:Nat}{x:Int}(h:k<=xs.length)(i:Nat):(inL xs k x)[k+1+i]?=xs[k+i]?:=by
 unfold inL;rw[abz (by simp;omega)];simp only[abv,Nat.min_eq_left h,show k+1+i-k=i+1 by omega,List.getElem?_cons_succ,acH]
theorem wh(y:Int)(xs:BU)(k:Nat)(x:Int):inL (y::xs) (k+1) x=y::inL xs k x:=rfl
theorem nj{xs:BU}:∀{k:Nat} {x:Int},k<=xs.length->(inL xs k x).eraseIdx k=xs:=by
 induction xs with
 |nil=>
      intro k x h;have:k=0:=by simpa using h
      subst this;rfl
 |cons y xs ih=>
  intro k x h
  cases k with
  |zero=>rfl
  |succ k=>rw[wh,List.eraseIdx_cons_succ,ih (by simpa using h)]
theorem mh{xs:BU}{k:Nat}{x:Int}(h:k<=xs.length):(inL xs k x).getD k 0=x:=by rw[List.getD,Je h];rfl
def ck(s:BU)(a:Nat):Int:=ai (s.drop (a+1))
def gI(s:BU)(a:Nat)(q i:Int):Int:=(q/ck s a*s.getD a 0+i)*ck s a+q%ck s a
def qOf(s:BU)(a:Nat)(p:Int):Int:=p/(ck s a*s.getD a 0)*ck s a+p%ck s a
def iOf(s:BU)(a:Nat)(p:Int):Int:=p/ck s a%s.getD a 0
theorem Dx{s:BU}(h:s.all aX=true)(a:Nat):(s.eraseIdx a).all aX=true:=by
 rw[abn]at *;exact fun x hx=>h x (List.mem_of_mem_eraseIdx hx)
theorem dK{s:BU}(h:s.all aX=true){a:Nat}(ha:a<s.length):1<=s.getD a 0/\s.getD a 0<=16:=by
 have hx:s[a]?=some s[a]:=aaV ha;rw[List.getD,hx];exact cN h hx
theorem step_pos{s:BU}(h:s.all aX=true)(a:Nat):1<=ck s a:=aY (dA h _)
theorem gh:∀{s:BU} {a:Nat},a<s.length->ai s=ai (s.take a)*(s.getD a 0*ck s a)/\ai (s.eraseIdx a)=ai (s.take a)*ck s a
 | [],a,h=>by simp at h
 |x::r,0,h=>by simp[ck,ai]
 |x::r,a+1,h=>by
  obtain⟨h1,h2⟩:=gh (s:=r) (a:=a) (by simpa using h);refine⟨?_,?_⟩
  ·show x*ai r=x*ai (r.take a)*(r.getD a 0*ck r a);rw[h1,acy]
  ·show x*ai (r.eraseIdx a)=x*ai (r.take a)*ck r a;rw[h2,acy]
theorem fQ{s:BU}(h:okS s=true){a:Nat}(ha:a<s.length):okS (s.eraseIdx a)=true:=by
 obtain⟨h1,h2,h3⟩:=aD.1 h;refine aD.2 ⟨by have:=List.length_eraseIdx_le s a;omega,Dx h2 a,?_⟩;obtain⟨e1,e2⟩:=gh ha;have t:=aY (iL h2 a);have st:=step_pos h2 a;have sd:=(dK h2 ha).1;have t2:=abL sd (show 0<=ai (s.take a)*ck s a from Int.mul_nonneg oM oM);rw[Int.mul_one]at t2;rw[e2];have e3:ai (s.take a)*ck s a*s.getD a 0=ai s:=by rw[e1,acy,acn (ck s a)]
 omega
theorem Ba{s:BU}(h:okS s=true)(k:Nat):okS (s.drop k)=true:=by
 obtain⟨h1,h2,h3⟩:=aD.1 h;have e:ai s=ai (s.take k)*ai (s.drop k):=by rw[<-prod_append,List.take_append_drop]
 have t:=aY (iL h2 k);have d:=aY (dA h2 k);have t2:=abY t (show 0<=ai (s.drop k) by omega);rw[Int.one_mul]at t2;exact aD.2 ⟨by simp;omega,dA h2 k,oM⟩
theorem zO{s:BU}(h:okS s=true)(a:Nat):au (s.drop (a+1))=ck s a:=aL (Ba h _)
theorem JU{s:BU}(h:okS s=true)(a:Nat):1<=ck s a/\ck s a<=64:=bT (Ba h _)
theorem gb{s:BU}(h:s.all aX=true){a:Nat}(ha:a<s.length){q i:Int}(q0:0<=q)(q1:q<ai (s.eraseIdx a))(i0:0<=i)(i1:i<s.getD a 0):
  0<=gI s a q i/\gI s a q i<ai s/\gI s a q i/ck s a=q/ck s a*s.getD a 0+i/\gI s a q i%ck s a=q%ck s a:=by
 obtain⟨e1,e2⟩:=gh ha;have st:=step_pos h a;have sd:=(dK h ha).1;rw[e2]at q1;obtain⟨a1,a2,a3,a4⟩:=mH st q0 q1;obtain⟨b1,b2,_,_⟩:=mU sd a1 a2 i0 i1;obtain⟨c1,c2,c3,c4⟩:=mU st b1 b2 a3 a4;refine⟨c1,?_,c3,c4⟩;rw[e1,<-acy];exact c2
theorem jW{s:BU}(h:s.all aX=true){a:Nat}(ha:a<s.length){p:Int}(p0:0<=p)(p1:p<ai s):
  0<=qOf s a p/\qOf s a p<ai (s.eraseIdx a)/\0<=iOf s a p/\iOf s a p<s.getD a 0/\gI s a (qOf s a p) (iOf s a p)=p:=by
 obtain⟨e1,e2⟩:=gh ha;have st:=step_pos h a;have sd:=(dK h ha).1;rw[e1,<-acy]at p1;obtain⟨a1,a2,a3,a4⟩:=mH st p0 p1;obtain⟨b1,b2,b3,b4⟩:=mH sd a1 a2;have e3:p/(ck s a*s.getD a 0)=p/ck s a/s.getD a 0:=(Int.ediv_ediv_of_nonneg oM).symm;unfold qOf iOf;rw[e3];obtain⟨c1,c2,c3,c4⟩:=mU st b1 b2 a3 a4;refine⟨c1,by rw[e2];exact c2,b3,b4,?_⟩;unfold gI;rw[c3,c4];have f1:=acG (p/ck s a) (s.getD a 0);rw[acn]at f1;rw[f1];have f2:=acG p (ck s a);rw[acn]at f2;exact f2
theorem Q9{s:BU}(h:s.all aX=true){a:Nat}(ha:a<s.length){q i:Int}(q0:0<=q)(q1:q<ai (s.eraseIdx a))(i0:0<=i)(i1:i<s.getD a 0):
  qOf s a (gI s a q i)=q/\iOf s a (gI s a q i)=i:=by
 obtain⟨_,e2⟩:=gh ha;have st:=step_pos h a;have sd:=(dK h ha).1;obtain⟨_,_,c3,c4⟩:=gb h ha q0 q1 i0 i1;rw[e2]at q1;obtain⟨a1,a2,a3,a4⟩:=mH st q0 q1;obtain⟨_,_,b3,b4⟩:=mU sd a1 a2 i0 i1;have e3:∀p:Int,p/(ck s a*s.getD a 0)=p/ck s a/s.getD a 0:=fun p=>(Int.ediv_ediv_of_nonneg oM).symm
 unfold qOf iOf;rw[e3,c3,c4,b3,b4];have f2:=acG q (ck s a);rw[acn]at f2;exact⟨f2,rfl⟩
theorem Aw{s:BU}(h:s.all aX=true){a:Nat}(ha:a<s.length){q i p:Int}(q0:0<=q)(q1:q<ai (s.eraseIdx a))(i0:0<=i)(i1:i<s.getD a 0)(p0:0<=p)(p1:p<ai s):
  p=gI s a q i↔qOf s a p=q/\iOf s a p=i:=by
 constructor
 ·rintro rfl;exact Q9 h ha q0 q1 i0 i1
 ·rintro⟨rfl,rfl⟩;exact(jW h ha p0 p1).2.2.2.2.symm
def aU(s xs:BU)(a q:Nat):BU:=(List.range (s.getD a 0).toNat).map fun i:Nat=>xs.getD (gI s a q i).toNat 0
theorem bk(s xs:BU)(a q:Nat):(aU s xs a q).length=(s.getD a 0).toNat:=by unfold aU;simp
theorem qj{s xs:BU}{a q i:Nat}(hi:i<(s.getD a 0).toNat):(aU s xs a q)[i]?=some (xs.getD (gI s a q i).toNat 0):=by
 unfold aU;rw[aa7,abm hi];rfl
theorem Av{s xs:BU}(h:aB s xs=true){a q i:Nat}(ha:a<s.length)(hq:(q:Int)<au (s.eraseIdx a))(hi:(i:Int)<s.getD a 0):
  ∃m:Nat,gI s a q i=(m:Int)/\m<xs.length/\(aU s xs a q)[i]?=some (xs.getD m 0)/\xs[m]?=some (xs.getD m 0):=by
 obtain⟨ho,hl⟩:=aA.1 h;have hs:=bI ho;rw[aL (fQ ho ha)]at hq;obtain⟨r1,r2,_,_⟩:=gb hs ha (q:=q) (i:=i) oM hq oM hi;have hm:(gI s a q i).toNat<xs.length:=by omega
 refine⟨(gI s a q i).toNat,oM,hm,qj oM,?_⟩;rw[List.getD,aaV hm];rfl
def tkL(f:Int->Int->Int×Int):Int->BU->Int×Int
 |x,[]=>(x,0)
 |x,y::l=>if(f x y).2=0 then tkL f (f x y).1 l else(0,(f x y).2)
def oV(f:Int->Int->Int×Int)(x0:Int)(s xs:BU)(a:Nat):BU×Int:=cL (fun q:Nat=>tkL f x0 (aU s xs a q)) (List.range (au (s.eraseIdx a)).toNat)
def gZ(f:Int->Int->Int×Int)(x0:Int)(s xs:BU)(aj:Int):Tn:=
 if aB s xs=false then([],[],30)else if aj<0∨(s.length:Int)<=aj then([],[],20)else
  if(oV f x0 s xs aj.toNat).2=0 then(s.eraseIdx aj.toNat,(oV f x0 s xs aj.toNat).1,0)else([],[],(oV f x0 s xs aj.toNat).2)
def dI(a b:Int):Int×Int:=(max a b,0)
def iM(s xs:BU)(aj:Int):Tn:=gZ cY 0 s xs aj
def uE(s xs:BU)(aj:Int):Tn:=gZ dI (-9223372036854775808) s xs aj
def fK(s xs:BU)(aj:Int):Tn:=
 if(iM s xs aj).2.2=0 then((iM s xs aj).1,(iM s xs aj).2.1.map fun x=>(nE x (s.getD aj.toNat 0*4294967296)).1,0)else([],[],(iM s xs aj).2.2)
theorem jQ(f:Int->Int->Int×Int)(x y:Int)(l:BU):tkL f x (y::l)=if(f x y).2=0 then tkL f (f x y).1 l else(0,(f x y).2):=rfl
def Tk(f:Int->Int->Int×Int)(l:BU)(r:Int×Int)(k:Nat)(x:Int):Prop:=k<=l.length/\tkL f x (l.drop k)=r
theorem Eh(f:Int->Int->Int×Int)(x0:Int)(l:BU):Tk f l (tkL f x0 l) 0 x0:=⟨aa6 _,rfl⟩
theorem JN{f:Int->Int->Int×Int}{l:BU}{r:Int×Int}{k:Nat}{x y:Int}(h:Tk f l r k x)(hy:l[k]?=some y)(he:(f x y).2=0):Tk f l r (k+1) (f x y).1:=by
 obtain⟨h1,h2⟩:=h;rw[bP hy,jQ,aaW he]at h2;exact⟨(aaU.1 hy).1,h2⟩
theorem Nq{f:Int->Int->Int×Int}{l:BU}{r:Int×Int}{k:Nat}{x y:Int}(h:Tk f l r k x)(hy:l[k]?=some y)(he:(f x y).2≠0):r=(0,(f x y).2):=by
 obtain⟨h1,h2⟩:=h;rw[bP hy,jQ,aaT he]at h2;exact h2.symm
theorem Np{f:Int->Int->Int×Int}{l:BU}{r:Int×Int}{k:Nat}{x:Int}(h:Tk f l r k x)(hk:¬k<l.length):r=(x,0):=by
 obtain⟨h1,h2⟩:=h;rw[abU oM]at h2;exact h2.symm
theorem Iy{f:Int->Int->Int×Int}{P:Int->Prop}(hf:∀a b,P a->P b->(f a b).2=0->P (f a b).1):∀{l:BU} {x:Int},P x->(∀y∈l,P y)->(tkL f x l).2=0->P (tkL f x l).1
 | [],x,hx,_,_=>hx
 |y::l,x,hx,hl,he=>by
  rw[jQ]at he⊢;by_cases c:(f x y).2=0
  ·rw[aaW c]at he⊢;exact Iy hf (hf x y hx (hl y sC) c) (fun z hz=>hl z (by simp[hz])) he
  ·rw[aaT c]at he;exact absurd he c
def fmI:BU->Nat
 | []=>0
 |x::l=>if l.all (fun y=>decide (y<=x))=true then 0 else fmI l+1
def Ur(l:BU)(k:Nat):Prop:=∃x,l[k]?=some x/\(∀(j:Nat) (y:Int),l[j]?=some y->y<=x)/\∀(j:Nat) (y:Int),j<k->l[j]?=some y->y<x
theorem G6:∀{l:BU},l≠ []->Ur l (fmI l)
 | [],h=>absurd rfl h
 |x::l,_=>by
  unfold fmI;by_cases c:l.all (fun y=>decide (y<=x))=true
  ·rw[aaW c];rw[abn]at c;refine⟨x,rfl,fun j y hy=>?_,fun j y hj=>by omega⟩
   cases j with
   |zero=>injection hy with hy;omega
   |succ j=>exact of_decide_eq_true (c y (aa1 hy))
  ·rw[aaT c];have hne:l≠ []:=by rintro rfl;exact c rfl
   obtain⟨z,h1,h2,h3⟩:=G6 hne;have hx:x<z:=by
    rw[Bool.not_eq_true,List.all_eq_false]at c;obtain⟨y,hy,hc⟩:=c;obtain⟨j,hj,rfl⟩:=acv.1 hy;have:=h2 j _ (aaV hj);have hc':¬l[j]<=x:=by simpa using hc
    omega
   refine⟨z,h1,fun j y hy=>?_,fun j y hj hy=>?_⟩
   ·cases j with
    |zero=>injection hy with hy;omega
    |succ j=>exact h2 j y hy
   ·cases j with
    |zero=>injection hy with hy;omega
    |succ j=>exact h3 j y oM hy
theorem Po{l:BU}(h:l≠ []):fmI l<l.length:=by
 obtain⟨x,hx,_⟩:=G6 h;exact(aaU.1 hx).1
theorem Ei{l:BU}:∀{x0:Int},(tkL dI x0 l).2=0/\x0<=(tkL dI x0 l).1/\(∀y∈l,y<=(tkL dI x0 l).1)/\((tkL dI x0 l).1=x0∨(tkL dI x0 l).1∈l):=by
 induction l with
 |nil=>intro x0;exact⟨rfl,Int.le_refl _,by simp, .inl rfl⟩
 |cons y l ih=>
  intro x0;rw[jQ,aaW (by rfl)];show(tkL dI (max x0 y) l).2=0/\x0<=(tkL dI (max x0 y) l).1/\(∀z∈y::l,z<=(tkL dI (max x0 y) l).1)/\((tkL dI (max x0 y) l).1=x0∨(tkL dI (max x0 y) l).1∈y::l);obtain⟨h1,h2,h3,h4⟩:= @ih (max x0 y);refine⟨h1,oM,fun z hz=>?_,?_⟩
  ·rcases abD.1 hz with rfl|hz
   ·omega
   ·exact h3 z hz
  ·rcases h4 with h4|h4
   ·by_cases c:x0<=y
    ·right;rw[h4,show max x0 y=y by omega];simp
    ·left;rw[h4];omega
   ·right;simp[h4]
theorem Nn{l:BU}(hl:l≠ [])(h:∀y∈l,-9223372036854775808<=y):tkL dI (-9223372036854775808) l=(l.getD (fmI l) 0,0):=by
 obtain⟨h1,h2,h3,h4⟩:= @Ei l (-9223372036854775808);obtain⟨x,x1,x2,x3⟩:=G6 hl;refine Prod.ext ?_ h1;show _=l.getD (fmI l) 0;rw[List.getD,x1];show _=x;have a:=h3 x (aa1 x1);rcases h4 with h4|h4
 ·have:=h x (aa1 x1);omega
 ·obtain⟨j,hj,e⟩:=acv.1 h4;have:=x2 j _ (aaV hj);omega
def oI(s xs:BU)(a:Nat):BU:=(List.range xs.length).map fun p:Nat=>if(fmI (aU s xs a (qOf s a p).toNat):Int)=iOf s a p then 4294967296 else 0
def cH(s xs:BU)(aj:Int):Tn:=if aB s xs=false then([],[],30)else if aj<0∨(s.length:Int)<=aj then([],[],20)else(s,oI s xs aj.toNat,0)
def Fs(s xs:BU)(a k:Nat)(zs:BU):Prop:=
 k<=(au (s.eraseIdx a)).toNat/\zs.length=xs.length/\∀p:Nat,p<xs.length->zs.getD p 0=if qOf s a p<k/\(fmI (aU s xs a (qOf s a p).toNat):Int)=iOf s a p then 4294967296 else 0
theorem GV{s xs:BU}(h:aB s xs=true){a:Nat}(ha:a<s.length):Fs s xs a 0 (List.replicate xs.length 0):=by
 obtain⟨ho,hl⟩:=aA.1 h;refine⟨aa6 _,by simp,fun p hp=>?_⟩;have:=jW (bI ho) ha (p:=p) oM (by first|omega|(rw[<-aL ho];omega));rw[aaT oM,eN _ _ _ hp]
theorem wu{zs:BU}{m p:Nat}{x:Int}(hm:m<zs.length):(zs.set m x).getD p 0=if p=m then x else zs.getD p 0:=by
 simp only[List.getD];by_cases c:p=m
 ·subst c;rw[abt hm,aaW rfl];rfl
 ·rw[ab2 oM,aaT c]
theorem LA{s xs zs:BU}(h:aB s xs=true){a k m:Nat}(ha:a<s.length)(hF:Fs s xs a k zs)(hk:k<(au (s.eraseIdx a)).toNat)(hm:gI s a k (fmI (aU s xs a k))=(m:Int)):Fs s xs a (k+1) (zs.set m 4294967296):=by
 obtain⟨ho,hl⟩:=aA.1 h;have hs:=bI ho;have he:=fQ ho ha;obtain⟨_,h2,h3⟩:=hF;have hsd:=dK hs ha;have hln:aU s xs a k≠ []:=by
  intro e;have:=bk s xs a k;rw[e,acC]at this;omega
 have hfl:=Po hln;rw[bk]at hfl;rw[aL he]at hk;have hq1:(k:Int)<ai (s.eraseIdx a):=by omega
 obtain⟨r1,r2,_,_⟩:=gb hs ha (q:=k) (i:=(fmI (aU s xs a k):Int)) oM hq1 oM oM;rw[hm]at r1 r2;have hml:m<zs.length:=by rw[h2];have:=aL ho;omega
 refine⟨by rw[aL he];omega,by simpa using h2,fun p hp=>?_⟩;rw[wu hml];have hp1:(p:Int)<ai s:=by omega
 have hj:=Aw hs ha (q:=k) (i:=(fmI (aU s xs a k):Int)) (p:=p) oM hq1 oM oM oM hp1;rw[hm]at hj;by_cases c:p=m
 ·rw[aaW c];obtain⟨j1,j2⟩:=hj.1 oM;rw[aaW ⟨oM,by rw[j1,j2,aa2]⟩]
 ·rw[aaT c,h3 p hp];by_cases d:qOf s a p=k
  ·have hne:¬(fmI (aU s xs a (qOf s a p).toNat):Int)=iOf s a p:=by
    intro e;rw[d,aa2]at e;have:=hj.2 ⟨d,e.symm⟩;omega
   rw[aaT (fun x=>hne x.2),aaT (fun x=>hne x.2)]
  ·have e:(qOf s a p<(k:Int))↔(qOf s a p<((k+1:Nat):Int)):=by omega
   simp only[e]
theorem Pm{s xs zs:BU}(h:aB s xs=true){a k:Nat}(ha:a<s.length)(hF:Fs s xs a k zs)(hk:¬k<(au (s.eraseIdx a)).toNat):zs=oI s xs a:=by
 obtain⟨ho,hl⟩:=aA.1 h;obtain⟨h1,h2,h3⟩:=hF;refine LL (by rw[h2];unfold oI;simp) fun p hp=>?_
 rw[h2]at hp;rw[h3 p hp];have r:=jW (bI ho) ha (p:=p) oM (by first|omega|(rw[<-aL ho];omega));rw[<-aL (fQ ho ha)]at r;unfold oI;have e:qOf s a p<k:=by omega
 simp[List.getD,aa7,abm hp,e]
def uN(s xs:BU)(a:Nat)(n:Int):BU:=(List.range (au (inL s a n)).toNat).map fun p:Nat=>xs.getD (qOf (inL s a n) a p).toNat 0
def bE(s xs:BU)(aj n:Int):Tn:=
 if aB s xs=false then([],[],30)else if aj<0∨(s.length:Int)<aj∨okS (inL s aj.toNat n)=false then([],[],20)else(inL s aj.toNat n,uN s xs aj.toNat n,0)
def Gs(g xs:BU)(a k i:Nat)(zs:BU):Prop:=
 k<=xs.length/\zs.length=(au g).toNat/\∀p:Nat,p<zs.length->zs.getD p 0=if qOf g a p<k∨(qOf g a p=k/\iOf g a p<i)then xs.getD (qOf g a p).toNat 0 else 0
theorem GP{g:BU}(xs:BU)(h:okS g=true){a:Nat}(ha:a<g.length):Gs g xs a 0 0 (List.replicate (au g).toNat 0):=by
 refine⟨aa6 _,by simp,fun p hp=>?_⟩;rw[aa5]at hp;have:=jW (bI h) ha (p:=p) oM (by rw[<-aL h];omega);rw[aaT oM,eN _ _ _ hp]
theorem Pf{g xs zs:BU}(h:okS g=true){a k i m:Nat}{x:Int}(ha:a<g.length)(hG:Gs g xs a k i zs)(hx:xs[k]?=some x)(hk:(k:Int)<ai (g.eraseIdx a))(hi:(i:Int)<g.getD a 0)(hm:gI g a k i=(m:Int)):m<zs.length/\Gs g xs a k (i+1) (zs.set m x):=by
 have hs:=bI h;obtain⟨h1,h2,h3⟩:=hG;obtain⟨r1,r2,_,_⟩:=gb hs ha (q:=k) (i:=i) oM hk oM hi;rw[hm]at r1 r2;have hml:m<zs.length:=by rw[h2];have:=aL h;omega
 refine⟨hml,h1,by simpa using h2,fun p hp=>?_⟩;rw[abr]at hp;rw[wu hml];have hp1:(p:Int)<ai g:=by rw[<-aL h];omega
 have hj:=Aw hs ha (q:=k) (i:=i) (p:=p) oM hk oM hi oM hp1;rw[hm]at hj;by_cases c:p=m
 ·rw[aaW c];obtain⟨j1,j2⟩:=hj.1 oM;rw[aaW (.inr ⟨j1,oM⟩),j1,aa2,List.getD,hx];rfl
 ·rw[aaT c,h3 p hp];have hne:¬(qOf g a p=k/\iOf g a p=i):=fun e=>c (by have:=hj.2 e;omega)
  by_cases d:qOf g a p<k∨(qOf g a p=k/\iOf g a p<i)
  ·rw[aaW d,aaW oM]
  ·rw[aaT d,aaT oM]
theorem Lu{g xs zs:BU}(h:okS g=true){a k i:Nat}(ha:a<g.length)(hG:Gs g xs a k i zs)(hk:k<xs.length)(hi:¬(i:Int)<g.getD a 0):Gs g xs a (k+1) 0 zs:=by
 obtain⟨h1,h2,h3⟩:=hG;refine⟨hk,h2,fun p hp=>?_⟩;have:=jW (bI h) ha (p:=p) oM (by rw[<-aL h];omega);rw[h3 p hp];by_cases d:qOf g a p<k∨(qOf g a p=k/\iOf g a p<i)
 ·rw[aaW d,aaW oM]
 ·rw[aaT d,aaT oM]
theorem Pg{s xs zs:BU}{n:Int}(h:aB s xs=true){a k i:Nat}(ha:a<=s.length)(ho:okS (inL s a n)=true)(hG:Gs (inL s a n) xs a k i zs)(hk:¬k<xs.length):zs=uN s xs a n:=by
 obtain⟨h1,h2,h3⟩:=hG;obtain⟨hs,hl⟩:=aA.1 h;refine LL (by rw[h2];unfold uN;simp) fun p hp=>?_
 have hp':=hp;rw[h2]at hp;have r:=jW (bI ho) (a:=a) (by rw[kK ha];omega) (p:=p) oM (by first|omega|(rw[<-aL ho];omega));rw[nj ha]at r;rw[h3 p hp',aaW oM];unfold uN;simp[List.getD,aa7,abm hp]
end Go.Proofs.ShM
namespace Go.Proofs.YtokeebkaamjliaaGreat
open RowKit Shelf ShM
def Q5:Nat->Nat
 |23=>73
 |n=>n
def rof:Nat->Nat
 |21=>193
 |27=>199
 |28=>200
 |35=>202
 |39=>75
 |n=>n
def rot:Nat->Nat
 |0=>0
 |3=>3
 |4=>4
 |22=>23
 |n=>n
def roD:Ren:=⟨Q5,rot,fun g=>g⟩
def ro:Ren:=⟨rof,rot,fun g=>g⟩
theorem Cj:Lays2.n23 Tryz.prog roD where
 mixed:=by kernel_rfl
 f23:=Tryz.func73.trans (abP some kM)
 t0:=Tryz.underlying0
 a0:=Tryz.isAgg0
 z0:=Tryz.sizeOf0
 v0:=Tryz.zeroValue0
 t3:=Tryz.underlying3
 a3:=Tryz.isAgg3
 z3:=Tryz.sizeOf3
 v3:=Tryz.zeroValue3
 t4:=Tryz.underlying4
 a4:=Tryz.isAgg4
 z4:=Tryz.sizeOf4
 v4:=Tryz.zeroValue4
 t22:=Tryz.underlying23
 a22:=Tryz.isAgg23
 z22:=Tryz.sizeOf23
 v22:=Tryz.zeroValue23
 i3:=by kernel_rfl
theorem I4:Lays2.n21 Tryz.prog ro where
 mixed:=by kernel_rfl
 f21:=Tryz.func193.trans (abP some kM)
 f27:=Tryz.func199.trans (abP some kM)
 f28:=Tryz.func200.trans (abP some kM)
 f35:=Tryz.func202.trans (abP some kM)
 f39:=Tryz.func75.trans (abP some kM)
 t0:=Tryz.underlying0
 a0:=Tryz.isAgg0
 z0:=Tryz.sizeOf0
 v0:=Tryz.zeroValue0
 t3:=Tryz.underlying3
 a3:=Tryz.isAgg3
 z3:=Tryz.sizeOf3
 v3:=Tryz.zeroValue3
 t4:=Tryz.underlying4
 a4:=Tryz.isAgg4
 z4:=Tryz.sizeOf4
 v4:=Tryz.zeroValue4
 t22:=Tryz.underlying23
 a22:=Tryz.isAgg23
 z22:=Tryz.sizeOf23
 v22:=Tryz.zeroValue23
 i3:=by kernel_rfl
theorem Own.row{B n c:Nat}{A:DV}{xs:BU}{w:World}(h:Own B w (.slice A n c) xs)(hn:0<xs.length):
  ∃g cur,A=some ⟨g,0,none⟩/\n=xs.length/\B<=g/\w.heap[g]?=some (.cells cur 3 (0,0))/\n<=c/\c<=maxLen/\cur.size=c/\cur.toList.take n=xs.map (Value.int .i64):=by
 obtain⟨A',c',e,_⟩:=h.form;injection e with e1 e2 e3;obtain⟨h1,h2⟩:=h;rcases h2 with⟨e,h0⟩|⟨g,cap,cur,e,hb,hh,hnc,hc,hs,ht⟩
 ·omega
 ·injection e with f1 f2 f3
  subst f1 f3;refine⟨g,cur,rfl,e2,hb,hh,oM,hc,by simpa using hs,by simpa [e2]using ht⟩
theorem below_setCells{B:Nat}{a:World}(b:Nat)(hb:B<=b):∀(vs:List Value) (o:Nat) (w:World),Below B a w->Below B a (w.setCells b o vs)
 | [],_,_,h=>h
 |v::r,o,w,h=>below_setCells b hb r (o+1) _ (h.setCell (p:=⟨b,o,none⟩) hb v)
theorem iz{B g q:Nat}{w:World}(d:Array Int)(hb:B<=g):Below B w (Go.Sort.putRow (Value.int .i64) (Go.Sort.ahead w q) g 0 d) where
 os:=rfl
 tape:=rfl
 output:=rfl
 size:=by rw[Go.Sort.size_putRow];exact aaZ _
 block:=fun k hk=>by
  show(Array.modify _ g _)[k]?=_;rw[Array.getElem?_modify,aaT oM];rfl
theorem uf(A:DV)(c B k:Nat)(xs:BU)(w:World)(h:Own B w (.slice A xs.length c) xs)(hk:k<xs.length)(hl:xs.length<=1000):
  CJ 73 #[.slice A xs.length c, .int .i64 (k:Int), .int .i64 ((k:Int)+1)] w fun e w'=>e= .returned (.slice A (xs.eraseIdx k).length c)/\Sl w' A c (xs.eraseIdx k)/\Below B w w':=by
 obtain⟨g,cur,rfl,_,hB,hh,h1,h2,h3,h4⟩:=h.row oM;have hm:c<=9223372036854775807:=by unfold maxLen at h2;omega
 have hH:Go.Sort.Holds (Value.int .i64) w g 0 xs.toArray:=fun j hj=>by
  have hj':j<xs.length:=by simpa using hj
  rw[abw];refine⟨?_,h.fE j⟩;rw[h.cell_ (u:=xs[j]) (aaV hj')];simp[hj']
 have hd:=Any.slices_Delete_int Cj g 0 c k (k+1) xs w hH h1 hm oM oM;have hel:(xs.eraseIdx k).length=xs.length-1:=List.length_eraseIdx_of_lt hk;refine hd.mono ?_;rintro e w' ⟨rfl,q,rfl⟩;have hlen:(xs.take k++xs.drop (k+1)++List.replicate (k+1-k) (0:Int)).length=xs.length:=by simp;omega
 have hP:=Go.Sort.holds_putRow (Value.int .i64) (Go.Sort.ahead w q) g 0 xs.toArray (xs.take k++xs.drop (k+1)++List.replicate (k+1-k) 0).toArray (Go.Sort.holds_ahead _ w q g 0 _ hH) (by simp only[acd];exact hlen);have hbl:=iz (w:=w) (q:=q) (xs.take k++xs.drop (k+1)++List.replicate (k+1-k) (0:Int)).toArray hB;refine⟨by rw[hel,show k+1-k=1 by omega],⟨⟨by rw[hel];omega,fun hn=>⟨⟨g,0,none⟩,rfl,?_,fun j u hu=>?_⟩⟩,by rw[hel];omega,hm⟩,hbl⟩
 ·rw[Go.Sort.size_putRow];exact(aa0.1 hh).1
 ·have hj:j<xs.length-1:=by rw[<-hel];exact(aaU.1 hu).1
  have:=(hP j (by simp only[acd];rw[hlen];omega)).1;rw[abh,this];congr 2;have e1:xs.eraseIdx k=xs.take k++xs.drop (k+1):=List.eraseIdx_eq_take_drop_succ ..;rw[e1]at hu;have hj2:j<(xs.take k++xs.drop (k+1)).length:=(aaU.1 hu).1;rw[getElem!_pos _ j (by simp only[acd];rw[hlen];omega)];simp only[List.getElem_toArray];rw[List.getElem_append_left hj2];exact(aaU.1 hu).2
theorem IJ{w':World}{g k c:Nat}{x:Int}{xs:BU}(hk:k<=xs.length)(hl:xs.length<=1000)(hg:g<w'.heap.size)(hc:xs.length+1<=c)(hc2:c<=9223372036854775807)
  (h1:∀j,j<k->∀u,xs[j]?=some u->w'.cell? ⟨g,j,none⟩=some (.int .i64 u))(h2:w'.cell? ⟨g,k,none⟩=some (.int .i64 x))(h3:∀i u,xs[k+i]?=some u->w'.cell? ⟨g,k+1+i,none⟩=some (.int .i64 u)):
  Sl w' (some ⟨g,0,none⟩) c (inL xs k x):=by
 refine⟨⟨by rw[kK hk];omega,fun _=>⟨_,rfl,hg,fun j u hu=>?_⟩⟩,by rw[kK hk];exact hc,hc2⟩;rw[abh,abw];rcases Nat.lt_trichotomy j k with hj|rfl|hj
 ·rw[OV hk hj]at hu;exact h1 j hj u hu
 ·rw[Je hk]at hu;injection hu with hu;rw[<-hu];exact h2
 ·obtain⟨i,rfl⟩:∃i,j=k+1+i:=⟨j-(k+1),oM⟩
  rw[OX hk]at hu;exact h3 i u hu
theorem dJ(b:Nat):∀(vs:List Value) (o:Nat) (w:World),(w.setCells b o vs).heap.size=w.heap.size
 | [],_,_=>rfl
 |v::r,o,w=>by rw[World.setCells,dJ b r];simp[World.setCell]
theorem sD{cs:BU}{j:Nat}{u:Int}(h:cs[j]?=some u):(cs.map (Value.int .i64))[j]?=some (.int .i64 u):=by rw[aa7,h];rfl
theorem sE{cs:BU}{j:Nat}{v:Value}(h:(cs.map (Value.int .i64))[j]?=some v):∃u,cs[j]?=some u/\v= .int .i64 u:=by
 rw[aa7,ab0]at h;obtain⟨u,h1,h2⟩:=h;exact⟨u,h1,h2.symm⟩
theorem vZ(cs:BU):∀v∈cs.map (Value.int .i64),v.oneCell'=true:=by
 intro v hv;obtain⟨x,_,rfl⟩:=abN.1 hv;rfl
def cZ(B:Nat)(ys:BU)(w:World)(e:Ending)(w':World):Prop:=∃A c,e= .returned (.slice A ys.length c)/\Sw B w' A c ys/\Below B w w'
theorem uc(A:DV)(c B vb:Nat)(xs:BU)(x:Int)(w:World)(h:Own B w (.slice A xs.length c) xs)(hl:xs.length<=1000)(hB:B<=w.heap.size)
  (hv:w.heap[vb]?=some (.cells #[.int .i64 x] 3 (0,0))):
  CJ 193 #[.slice A xs.length c, .int .i64 (xs.length:Int), .slice (some ⟨vb,0,none⟩) 1 1] w (cZ B (inL xs xs.length x) w):=by
 have HR:Hid (Rd w (some ⟨vb,0,none⟩) [x]):=⟨by simp,fun _=>⟨_,rfl,(aa0.1 hv).1,fun j u hu=>by
  cases j with
  |zero=>
   injection hu with hu
   subst hu;rw[abh,abw];simp[World.cell?,hv]
  |succ j=>simp at hu⟩⟩
 have HO:=lH h;have HL:Hid (xs.length+1<=1000000):=by show xs.length+1<=1000000;omega
 have HBB:Hid (B<=w.heap.size):=hB;have hr0:=h.sl;have hc1:=hr0.le;have hc2:=hr0.cap;have b1:(0:Int)<=(xs.length:Int):=by omega
 have b2:(xs.length:Int)<=(xs.length:Int):=by omega
 clear h hr0 hv hB hl;go_enter Tryz.func193,Tryz.ntmps193;go_wp2_with (at_builtin;refine dW (B:=B) (A:=some ⟨vb,0,none⟩) (c:=1) (ys:=[x]) (n:=1) rfl (.tmp 23) (.tmp 24) rfl (.slice A xs.length c) xs rfl HO.out rfl rfl HR.out (by simpa using HL.out) HBB.out ?_;intro zs A1 c1 w1 HZ o1 bl1;have K1:=lH bl1;have R1:=lH o1;clear o1 bl1)
 all_goals
  go_ret;have hz:zs=inL xs xs.length x:=by rw[HZ.out];unfold inL;simp
  subst hz;exact⟨A1,c1,rfl,R1.out.sw (aaZ _),K1.out⟩
theorem pN(g c B vb k:Nat)(xs:BU)(x:Int)(w:World)(h:Own B w (.slice (some ⟨g,0,none⟩) xs.length c) xs)(hl:xs.length<=1000)(hk:k<xs.length)(hroom:xs.length+1<=c)
  (hv:w.heap[vb]?=some (.cells #[.int .i64 x] 3 (0,0)))(hne:vb≠g):
  CJ 193 #[.slice (some ⟨g,0,none⟩) xs.length c, .int .i64 (k:Int), .slice (some ⟨vb,0,none⟩) 1 1] w (cZ B (inL xs k x) w):=by
 obtain⟨g',cur,e,_,hB,hh,h1,h2,h3,h4⟩:=h.row oM;obtain rfl:g=g':=by injection e with e;injection e
 have hm:c<=9223372036854775807:=by unfold maxLen at h2;omega
 have hlt:=(aa0.1 hh).1;have hcell:∀j,(hj:j<c)->w.cell? ⟨g,j,none⟩=some (cur[j]'oM):=fun j hj=>by simp[World.cell?,hh,show j<cur.size by omega]
 have hfr:∀j,w.frozen? ⟨g,j,none⟩=false:=fun j=>by simp[World.frozen?,hh]
 have hcs:∀j v,(xs.map (Value.int .i64))[j]?=some v->w.cell? ⟨g,0+j,none⟩=some v:=fun j v hj=>by
  obtain⟨u,hu,rfl⟩:=sE hj;rw[abw];exact h.cell_ hu
 have hvs:∀j v,([Value.int .i64 x])[j]?=some v->w.cell? ⟨vb,0+j,none⟩=some v:=fun j v hj=>by
  cases j with
  |zero=>injection hj with hj;subst hj;simp[World.cell?,hv]
  |succ j=>simp at hj
 have hi:=Any2.slices_Insert_int_shift I4 g 0 xs.length c k vb 0 1 1 (xs.map (Value.int .i64)) [.int .i64 x] w hk oM hroom hm hne sC rfl hcs
  (fun j hj=>by rw[abw,hcell j oM];rfl) (fun j _=>hfr _) hvs (vZ xs) (by simp[Value.oneCell']) 3 3 1 c (by simp[World.shape?,hv]) (by simp[World.shape?,hh,h3]) oM (by simp[World.frozen?,hv]) (by simp[World.frozen?,hv])
 refine hi.mono ?_;rintro e w' ⟨rfl,rfl⟩;refine⟨_,c,by rw[kK oM],?_,?_⟩
 ·refine⟨?_,fun _ ad e0=>by(injection e0 with e0;subst e0;exact hB)⟩;have hd:(List.drop k (xs.map (Value.int .i64))).length=xs.length-k:=by simp
  refine IJ oM hl ?_ hroom hm (fun j hj u hu=>?_) ?_ (fun i u hu=>?_)
  ·rw[dJ,dJ];exact hlt
  ·rw[ab9 _ _ _ _ _ (fun _ _=>Or.inl (by show j<0+k;omega)),ab9 _ _ _ _ _ (fun _ _=>Or.inl (by show j<0+(k+1);omega))];exact h.cell_ hu
  ·have:=World.cell?_setCells_in g [Value.int .i64 x] (0+k) ((w.drew).setCells g (0+(k+1)) (List.drop k (xs.map (Value.int .i64)))) (fun j hj=>by
    have:j=0:=by simpa using hj
    subst this;rw[ab9 _ _ _ _ _ (fun _ _=>Or.inl (by show 0+k+0<0+(k+1);omega))];show(w.cell? _).isSome=true;rw[show 0+k+0=k by omega,hcell k oM];rfl) 0 sC
   rw[show 0+k+0=k by omega]at this;exact this
  ·have hi2:i<xs.length-k:=by have:=(aaU.1 hu).1;omega
   rw[ab9 _ _ _ _ _ (fun _ _=>Or.inr (by show 0+k+[Value.int .i64 x].length<=k+1+i;simp only[abg,acC];omega))];have:=World.cell?_setCells_in g (List.drop k (xs.map (Value.int .i64))) (0+(k+1)) w.drew (fun j hj=>by
    rw[hd]at hj;show(w.cell? _).isSome=true;rw[show 0+(k+1)+j=k+1+j by omega,hcell (k+1+j) oM];rfl) i (by rw[hd];exact hi2)
   rw[show 0+(k+1)+i=k+1+i by omega]at this;rw[this];congr 1;have e2:(List.drop k (xs.map (Value.int .i64)))[i]?=some (Value.int .i64 u):=by rw[acH];exact sD hu
   exact(aaU.1 e2).2
 ·exact below_setCells g hB _ _ _ (below_setCells g hB _ _ _ (aa3 (abu _ _)))
theorem rK(g c B vb k:Nat)(xs:BU)(x:Int)(w:World)(h:Own B w (.slice (some ⟨g,0,none⟩) xs.length c) xs)(hl:xs.length<=1000)(hk:k<xs.length)(hroom:c<xs.length+1)(hBw:B<=w.heap.size)
  (hv:w.heap[vb]?=some (.cells #[.int .i64 x] 3 (0,0))):
  CJ 193 #[.slice (some ⟨g,0,none⟩) xs.length c, .int .i64 (k:Int), .slice (some ⟨vb,0,none⟩) 1 1] w (cZ B (inL xs k x) w):=by
 obtain⟨g',cur,e,_,hB,hh,h1,h2,h3,h4⟩:=h.row oM;obtain rfl:g=g':=by injection e with e;injection e
 have hcs:∀j v,(xs.map (Value.int .i64))[j]?=some v->w.cell? ⟨g,0+j,none⟩=some v:=fun j v hj=>by
  obtain⟨u,hu,rfl⟩:=sE hj;rw[abw];exact h.cell_ hu
 have hvs:∀j v,([Value.int .i64 x])[j]?=some v->w.cell? ⟨vb,0+j,none⟩=some v:=fun j v hj=>by
  cases j with
  |zero=>injection hj with hj;subst hj;simp[World.cell?,hv]
  |succ j=>simp at hj
 have hi:=Any2.slices_Insert_int_grow I4 g 0 xs.length c k vb 0 1 1 (xs.map (Value.int .i64)) [.int .i64 x] w hk oM h1 hroom oM sC rfl hcs hvs (vZ xs) (by simp[Value.oneCell']);refine hi.mono ?_;rintro e w' ⟨rfl,rfl⟩;have hG:=grownCap_ge w (xs.length+1) c (ro.t 3);have hG2:=grownCap_le_maxLen w (xs.length+1) c (ro.t 3) (by unfold maxLen;omega);generalize grownCap w (xs.length+1) c (ro.t 3)=G at *;have hG3:G<=9223372036854775807:=by unfold maxLen at hG2;omega
 obtain⟨ROW,hROW⟩:∃ROW:Array Value,ROW=(List.take k (xs.map (Value.int .i64))).toArray++Builtin.zeroCells (Value.int .i64 0).cells (xs.length+1-k)++Builtin.zeroCells (Value.int .i64 0).cells (G-(xs.length+1)):=⟨_,rfl⟩
 have hRl:xs.length+1<=ROW.size:=by
  rw[hROW];simp[Builtin.zeroCells,Value.cells];omega
 have hRt:∀j u,j<k->xs[j]?=some u->ROW[j]?=some (.int .i64 u):=fun j u hj hu=>by
  rw[hROW,Array.getElem?_append_left (by simp[Builtin.zeroCells,Value.cells];omega),Array.getElem?_append_left (by simp;omega)];simp[hj,hu]
 rw[<-hROW];clear hROW;obtain⟨W1,hW1⟩:=eX ((w.alloc (.cells ROW (ro.t 3))).drew);have hC:∀j v,ROW[j]?=some v->W1.cell? ⟨w.heap.size,j,none⟩=some v:=fun j v hj=>by
  rw[hW1];show(w.alloc _).cell? _=_;rw[abB ROW _ w.heap.size j rfl];exact hj
 have hBW:Below B w W1:=by rw[hW1];exact aa3 ((abu _ _).alloc hBw _)
 have hsz:W1.heap.size=w.heap.size+1:=by rw[hW1];show(w.alloc _).heap.size=_;simp
 rw[<-hW1];clear hW1;refine⟨_,G,by rw[kK oM],?_,?_⟩
 ·refine⟨?_,fun _ ad e0=>by(injection e0 with e0;subst e0;exact hBw)⟩;have hd:(List.drop k (xs.map (Value.int .i64))).length=xs.length-k:=by simp
  refine IJ oM hl ?_ hG hG3 (fun j hj u hu=>?_) ?_ (fun i u hu=>?_)
  ·rw[dJ];show w.heap.size<(W1.setCells _ _ _).heap.size;rw[dJ];omega
  ·rw[ab9 _ _ _ _ _ (fun _ _=>Or.inl (by show j<k+1;omega))];show(W1.setCells _ _ _).cell? _=_;rw[ab9 _ _ _ _ _ (fun _ _=>Or.inl (by show j<k;omega))];exact hC j _ (hRt j u hj hu)
  ·rw[ab9 _ _ _ _ _ (fun _ _=>Or.inl (by show k<k+1;omega))];show(W1.setCells _ _ _).cell? _=_;have:=World.cell?_setCells_in w.heap.size [Value.int .i64 x] k W1 (fun j hj=>by
    have:j=0:=by simpa using hj
    subst this;rw[show k+0=k by omega,hC k _ (acS oM)];rfl) 0 sC
   rw[show k+0=k by omega]at this;exact this
  ·have hi2:i<xs.length-k:=by have:=(aaU.1 hu).1;omega
   have:=World.cell?_setCells_in w.heap.size (List.drop k (xs.map (Value.int .i64))) (k+1) (W1.setCells w.heap.size k [Value.int .i64 x]).drew (fun j hj=>by
    rw[hd]at hj;show((W1.setCells _ _ _).cell? _).isSome=true;rw[ab9 _ _ _ _ _ (fun _ _=>Or.inr (by show k+[Value.int .i64 x].length<=k+1+j;simp only[abg,acC];omega)),hC _ _ (acS oM)];rfl) i (by rw[hd];exact hi2)
   rw[this];congr 1;have e2:(List.drop k (xs.map (Value.int .i64)))[i]?=some (Value.int .i64 u):=by rw[acH];exact sD hu
   exact(aaU.1 e2).2
 ·exact below_setCells _ hBw _ _ _ (aa3 (below_setCells _ hBw _ _ _ hBW))
theorem ud(A:DV)(c B vb k:Nat)(xs:BU)(x:Int)(w:World)(h:Own B w (.slice A xs.length c) xs)(hl:xs.length<=1000)(hk:k<=xs.length)(hB:B<=w.heap.size)
  (hv:w.heap[vb]?=some (.cells #[.int .i64 x] 3 (0,0)))(hne:∀g,A=some ⟨g,0,none⟩->vb≠g):
  CJ 193 #[.slice A xs.length c, .int .i64 (k:Int), .slice (some ⟨vb,0,none⟩) 1 1] w (cZ B (inL xs k x) w):=by
 by_cases e:k=xs.length
 ·subst e;exact uc A c B vb xs x w h hl hB hv
 ·obtain⟨g,cur,rfl,_⟩:=h.row oM;by_cases hr:xs.length+1<=c
  ·exact pN g c B vb k xs x w h hl oM hr hv (hne g rfl)
  ·exact rK g c B vb k xs x w h hl oM oM hB hv
open cF
theorem uO(a b:Int)(w:World):
  CJ 129 #[.int .i64 a, .int .i64 b] w fun e w'=>e= .returned (.tuple #[.int .i64 (dI a b).1, .int .i64 (dI a b).2])/\w=w':=by
 obtain⟨n,hn⟩:=eX (max a b);have hm:∀(W:World) (ts:Array TypeId) (t:TypeId),(Builtin.max_ ts t #[.int .i64 a, .int .i64 b]).run Tryz.prog W= .ok (.int .i64 n) W:=fun W ts t=>ShH.mx a b n hn W ts t
 have HF:Hid (dI a b=(n,0)):=by show dI a b=_;rw[hn];rfl
 clear hn;go_enter Tryz.func129,Tryz.ntmps129;go_wp2;go_ret2;exact⟨dM HF.out,rfl⟩
theorem kpH{A B:World}(k:Kp A B){j:Nat}{o:Obj}(h:A.heap[j]?=some o):B.heap[j]?=some o:=(k.block j (aa0.1 h).1).trans h
structure Plc(s:BU)(a:Nat)(b1 b2:Nat)(W:World):Prop where
 step:Boxed W b1 3 (.int .i64 (ck s a))
 side:Boxed W b2 3 (.int .i64 (s.getD a 0))
theorem Plc.kp{s:BU}{a b1 b2:Nat}{W W':World}(h:Plc s a b1 b2 W)(k:Kp W W'):Plc s a b1 b2 W':=⟨kpH k h.step,kpH k h.side⟩
def UK(b1 b2:Nat):Value:= .func (.func 188) #[] #[pX b1 0, pX b2 0]
theorem iT(s:BU)(a b1 b2:Nat)(q i:Nat)(W:World)(ho:okS s=true)(ha:a<s.length)(hq:(q:Int)<au (s.eraseIdx a))(hi:(i:Int)<s.getD a 0)(h:Plc s a b1 b2 W):
  CJ 188 #[.int .i64 (q:Int), .int .i64 (i:Int), pX b1 0, pX b2 0] W fun e W'=>e= .returned (.int .i64 (gI s a q i))/\∃n,W'=W.drewN n:=by
 have c1:=h.step.cell;have c2:=h.side.cell;have hs:=bI ho;rw[aL (fQ ho ha)]at hq;obtain⟨r1,r2,_,_⟩:=gb hs ha (q:=q) (i:=i) oM hq oM hi;have st:=JU ho a;have sd:=dK hs ha;have hp:=bT ho;have he:=bT (fQ ho ha);have HF:Hid (gI s a q i=((q:Int)/ck s a*s.getD a 0+i)*ck s a+(q:Int)%ck s a):=rfl;rw[HF.out]at r1 r2⊢;generalize ck s a=S at *;generalize s.getD a 0=D at *;have d0:0<=(q:Int)/S:=Int.ediv_nonneg oM oM;have d1:(q:Int)/S<=64:=Int.le_trans (Int.ediv_le_self _ oM) oM;have e0:0<=(q:Int)/S*D:=Int.mul_nonneg d0 oM;have e1:(q:Int)/S*D<=64*16:=acR d1 sd.2 oM oM;have f0:0<=((q:Int)/S*D+i)*S:=Int.mul_nonneg oM oM;have f1:((q:Int)/S*D+i)*S<=(64*16+16)*64:=acR oM st.2 oM oM;have m0:=Int.emod_nonneg (q:Int) (show S≠0 by omega);have HW:Hid (wrap64 (wrap64 (wrap64 (wrap64 (wrap64 ((q:Int)/S)*D)+i)*S)+(q:Int)%S)=((q:Int)/S*D+i)*S+(q:Int)%S):=by
  show wrap64 _=_;rw[IntWalk.wrap64_in ((q:Int)/S) oM,IntWalk.wrap64_in ((q:Int)/S*D) oM,IntWalk.wrap64_in ((q:Int)/S*D+i) oM,IntWalk.wrap64_in (((q:Int)/S*D+i)*S) oM,IntWalk.wrap64_in _ oM]
 have s0:1<=S:=st.1;have s1:S<=64:=st.2;have q0:(0:Int)<=(q:Int):=by omega
 clear h ho ha hs hp he r1 r2 sd st HF e0 e1 f0 f1 hq hi d0 d1 m0;go_enter Tryz.func188,Tryz.ntmps188;go_wp2;go_quiet (fail);go_wp2;go_ret;exact⟨by rw[<-HW.out];rfl,_,rfl⟩
theorem PB(w:World)(v:Value)(t:TypeId)(o:Obj):Boxed ((w.alloc (.cells #[v] t)).alloc o).drew w.heap.size t v:=(Boxed.new w t v).alloc o
theorem PA(w:World)(v:Value)(t:TypeId)(o:Obj):Boxed ((w.alloc o).alloc (.cells #[v] t)).drew (w.heap.size+1) t v:=by
 have h:=Boxed.new (w.alloc o) t v;rw[aaY]at h;exact h
theorem jY(A:DV)(c:Nat)(s:BU)(a:Nat)(w:World)(h:Rd w A s)(hc:s.length<=c)(ho:okS s=true)(ha:a<s.length):
  CJ 166 #[.slice A s.length c, .int .i64 (a:Int)] w fun e w'=>∃b1 b2,e= .returned (UK b1 b2)/\Plc s a b1 b2 w'/\Kp w w':=by
 have hs3:=(aD.1 ho).1;obtain⟨ad,x,rfl,hlt,hx,hcl⟩:=h.at_ ha;have hgd:s.getD a 0=x:=by rw[List.getD,hx];rfl
 obtain⟨k,hk⟩:∃k:Nat,k=a+1:=⟨_,rfl⟩
 have w1:IntKind.i64.wrap ((a:Int)+1)=(k:Int):=by rw[IntWalk.i64_in _ oM];omega
 have hkl:k<=s.length:=by omega
 have hss:au (s.drop k)=ck s a:=by rw[hk];exact zO ho a
 obtain⟨A3,hA3⟩:=eX (LY (some ad) c k);obtain⟨c3,hc3⟩:=eX (c-k);obtain⟨n3,hn3⟩:=eX (s.length-k);have hcut:∀W,(Instr.sliceAt 23 (.slice (some ad) s.length c) (some (.int .i64 (k:Int))) none none).run Tryz.prog W= .ok (.slice A3 n3 c3) W:=fun W=>by
  rw[hA3,hc3,hn3,Ag W (some ad) s.length c k hkl]
 have HS:Hid (∀W,Kp w W->CJ 70 #[.slice A3 n3 c3] W fun e w'=>e= .returned (.int .i64 (ck s a))/\W=w'):=fun W kw=>by
  rw[hA3,hn3];exact IE (s.drop k) ((h.kp kw).cut hc) sC hss
 have HC:Hid (∀W,Kp w W->W.cell? (ad.add a)=some (.int .i64 x)):=fun W q=>(q.cell (p:=ad.add a) (by rw[ah];exact hlt)).trans hcl
 have HP:Hid (∀b1 b2 W,Boxed W b1 3 (.int .i64 (ck s a))->Boxed W b2 3 (.int .i64 x)->Plc s a b1 b2 W):=fun b1 b2 W p q=>⟨p,by rw[hgd];exact q⟩
 have hc1:=HC.out w (Kp.refl _);have hb1:(ad.add a).block<w.heap.size:=by rw[ah];exact hlt
 have hb2:¬(ad.add a).block=w.heap.size:=by omega
 have hb3:¬(ad.add a).block=w.heap.size+1:=by omega
 have j1:(0:Int)<=(a:Int):=by omega
 have j2:(a:Int)<(s.length:Int):=by omega
 generalize ck s a=S at HS HP;have HK:Hid (∀V,Kp w V->V.cell? (ad.add a)=some (.int .i64 x)):=HC.out;clear h hc ho hx hcl hgd hA3 hc3 hn3 hlt hk hss;go_enter Tryz.func166,Tryz.ntmps166;go_wp2
 go_region_with (first|(refine(HS.out _ (by first|exact aa3 (Kp.refl _)|exact aa3 (Kp.af _ _)|exact aa3 ((Kp.af _ _).al _))).mono ?_;rintro e w1 ⟨rfl,rfl⟩))
 all_goals
  go_wp2;go_ret;exact⟨_,_,rfl,HP.out _ _ _ (by first|exact PB _ _ _ _|exact PA _ _ _ _) (by first|exact PB _ _ _ _|exact PA _ _ _ _),aa3 ((Kp.af _ _).al _)⟩
def iQ(s xs:BU)(aj:Int):Int:=if aB s xs=false then 30 else if aj<0∨(s.length:Int)<=aj then 20 else 0
structure Tg(w:World)(A:DV)(n c:Nat)(B:DV)(m d:Nat)(x0:Int)(F:Nat)(W:World):Prop where
 kp:Kp w W
 t:Bk W w.heap.size A n c B m d
 y:W.heap[w.heap.size+1]?=some (.cells #[.int .i64 x0, .func (.func F) #[] #[]] 150 (0,0))
 r:Bk W (w.heap.size+1+1) none 0 0 none 0 0
section
variable{w W W':World}{A B:DV}{n c m d:Nat}{x0:Int}{F:Nat}
theorem Tg.tr(h:Tg w A n c B m d x0 F W)(k:Kp W W'):Tg w A n c B m d x0 F W':=⟨h.kp.tr k,h.t.kp k,kpH k h.y,h.r.kp k⟩
theorem Tg.mk_(w:World)(A:DV)(n c:Nat)(B:DV)(m d:Nat)(x0:Int)(F:Nat):
  Tg w A n c B m d x0 F (((w.alloc (.cells #[.slice A n c, .slice B m d] 25)).alloc (.cells #[.int .i64 x0, .func (.func F) #[] #[]] 150)).alloc (.cells #[zS, zS] 25)) where
 kp:=((Kp.af _ _).al _).al _
 t:=((Bk.new rfl).af _).af _
 y:=by
  have h:=kpH (Kp.af _ (.cells #[zS, zS] 25)) (World.alloc_heap_new (w.alloc (.cells #[.slice A n c, .slice B m d] 25)) (.cells #[.int .i64 x0, .func (.func F) #[] #[]] 150));rw[aaY]at h;exact h
 r:=Bk.new sC
theorem Tg.y0(h:Tg w A n c B m d x0 F W):W.cell? ⟨w.heap.size+1,0,none⟩=some (.int .i64 x0):=by simp[World.cell?,h.y]
theorem Tg.y1(h:Tg w A n c B m d x0 F W):W.cell? ⟨w.heap.size+1,1,none⟩=some (.func (.func F) #[] #[]):=by simp[World.cell?,h.y]
theorem Tg.end_(h:Tg w A n c B m d x0 F W)(x y:Value):Kp w ((W.setCell ⟨w.heap.size+1+1,0,none⟩ x).setCell ⟨w.heap.size+1+1,1,none⟩ y):=
 (h.kp.setCell (p:=⟨w.heap.size+1+1,0,none⟩) (by show w.heap.size<=w.heap.size+1+1;omega) x).setCell (p:=⟨w.heap.size+1+1,1,none⟩) (by show w.heap.size<=w.heap.size+1+1;omega) y
end
def oP(r:Tn)(w:World)(e:Ending)(w':World):Prop:=
 ∃A c B d b,e= .returned (.tuple #[.agg #[.slice A r.1.length c, .slice B r.2.1.length d], .int .i64 r.2.2])/\Sw w.heap.size w' A c r.1/\w.heap.size<=b/\Own b w' (.slice B r.2.1.length d) r.2.1/\(∀ad,A=some ad->ad.block<b)/\Kp w w'
theorem oP.err{r:Tn}{err:Int}{w w':World}(h:r=([],[],err))(k:Kp w w'):oP r w (.returned (.tuple #[.agg #[zS, zS], .int .i64 err])) w':=by
 subst h;exact⟨none,0,none,0,w.heap.size,rfl,⟨Sl.bU _,Nw.bU _ _⟩,aaZ _,Own.bU _ _,fun _ h=>by(cases h),k⟩
theorem quiet_of{f:FuncId}{args:Array Value}{w:World}{n:Nat}{v:Value}(h:CJ f args (w.drewN n) fun e w'=>e= .returned v/\∃m,w'=(w.drewN n).drewN m):
  CJ f args (w.drewN n) fun e w''=>e= .returned v/\∃m,w''=w.drewN m:=h.mono fun _ _ ⟨he,m,hm⟩=>⟨he,n+m,by rw[hm];exact World.drewN_drewN _ _ _⟩
theorem JK(f:Int->Int->Int×Int)(x0:Int)(F:Nat)(A B:DV)(c d:Nat)(s xs:BU)(aj:Int)(w:World)(hA:Sl w A c s)(hB:Rd w B xs)(ht:aB s xs=false):
  CJ 126 #[.agg #[.slice A s.length c, .slice B xs.length d], .int .i64 aj, .agg #[.int .i64 x0, .func (.func F) #[] #[]]] w (oP (gZ f x0 s xs aj) w):=by
 have hlA:=hA.rd.len;have hlB:=hB.len;have F0:=lH (Tg.mk_ w A s.length c B xs.length d x0 F);have HT:=lH (av A B c d s xs _ (hA.rd.kp F0.out.kp) (hB.kp F0.out.kp));rw[ht]at HT;have HF:Hid (gZ f x0 s xs aj=([],[],30)):=by show gZ f x0 s xs aj=_;unfold gZ;rw[aaW ht]
 clear hA hB ht;go_enter Tryz.func126,Tryz.ntmps126;go_wp2_with fail;refine(aa9 (Hid.out HT)) ?_;rintro e0 w1 ⟨rfl,k1⟩;have F1:=lH (F0.out.tr k1);clear k1;have r0:=F1.out.r.c0;have r1:=F1.out.r.c1;have u0:=F1.out.r.f0 0;have u1:=F1.out.r.f0 1;go_wp2;refine aaX (v:= .tuple #[.agg #[zS, zS], .int .i64 30]) (by simp[results,Tryz.results126,go_sem,r0,r1];try rfl) rfl ?_;exact oP.err HF.out (F1.out.end_ _ _)
theorem Eg(f:Int->Int->Int×Int)(x0:Int)(F:Nat)(A B:DV)(c d:Nat)(s xs:BU)(aj:Int)(w:World)(hA:Sl w A c s)(hB:Rd w B xs)(ht:aB s xs=true)(hx:aj<0∨(s.length:Int)<=aj):
  CJ 126 #[.agg #[.slice A s.length c, .slice B xs.length d], .int .i64 aj, .agg #[.int .i64 x0, .func (.func F) #[] #[]]] w (oP (gZ f x0 s xs aj) w):=by
 have hlA:=hA.rd.len;have hlB:=hB.len;have F0:=lH (Tg.mk_ w A s.length c B xs.length d x0 F);have HT:=lH (av A B c d s xs _ (hA.rd.kp F0.out.kp) (hB.kp F0.out.kp));rw[ht]at HT;have HF:Hid (gZ f x0 s xs aj=([],[],20)):=by show gZ f x0 s xs aj=_;unfold gZ;rw[aaT (by simp[ht]),aaW hx]
 clear hA hB ht;by_cases h0:aj<0
 ·clear hx;go_enter Tryz.func126,Tryz.ntmps126;go_wp2_with fail;refine(aa9 (Hid.out HT)) ?_;rintro e0 w1 ⟨rfl,k1⟩;have F1:=lH (F0.out.tr k1);clear k1;have t0:=F1.out.t.c0;have t1:=F1.out.t.c1;have r0:=F1.out.r.c0;have r1:=F1.out.r.c1;have u0:=F1.out.r.f0 0;have u1:=F1.out.r.f0 1;go_wp2;refine aaX (v:= .tuple #[.agg #[zS, zS], .int .i64 20]) (by simp[results,Tryz.results126,go_sem,r0,r1];try rfl) rfl ?_;exact oP.err HF.out (F1.out.end_ _ _)
 ·have h1:(s.length:Int)<=aj:=by omega
  clear hx;go_enter Tryz.func126,Tryz.ntmps126;go_wp2_with fail;refine(aa9 (Hid.out HT)) ?_;rintro e0 w1 ⟨rfl,k1⟩;have F1:=lH (F0.out.tr k1);clear k1;have t0:=F1.out.t.c0;have t1:=F1.out.t.c1;have r0:=F1.out.r.c0;have r1:=F1.out.r.c1;have u0:=F1.out.r.f0 0;have u1:=F1.out.r.f0 1;go_wp2;refine aaX (v:= .tuple #[.agg #[zS, zS], .int .i64 20]) (by simp[results,Tryz.results126,go_sem,r0,r1];try rfl) rfl ?_;exact oP.err HF.out (F1.out.end_ _ _)
theorem Nl(f:Int->Int->Int×Int)(x0:Int)(F:Nat)(A B:DV)(c d:Nat)(s xs:BU)(a:Nat)(w:World)(hA:Sl w A c s)(hB:Rd w B xs)(hi:bN xs)(h0:I64 x0)(hf:∀x y,I64 x->I64 y->(f x y).2=0->I64 (f x y).1)
  (HF:∀args W,(callFunc F args).run Tryz.prog W= .ok (.enter F args) W)
  (hN:∀x y,I64 x->I64 y->∀W,CJ F #[.int .i64 x, .int .i64 y] W fun e W'=>e= .returned (.tuple #[.int .i64 (f x y).1, .int .i64 (f x y).2])/\W=W')
  (ht:aB s xs=true)(ha:a<s.length):
  CJ 126 #[.agg #[.slice A s.length c, .slice B xs.length d], .int .i64 (a:Int), .agg #[.int .i64 x0, .func (.func F) #[] #[]]] w (oP (gZ f x0 s xs a) w):=by
 have hlA:=hA.rd.len;have hlB:=hB.len;obtain⟨ho,hxl⟩:=aA.1 ht;have hs3:=(aD.1 ho).1;have hsd:=dK (bI ho) ha;have hel:=List.length_eraseIdx_of_lt ha;have hoe:=fQ ho ha;have hpe:=bT hoe;have hsz:=aL hoe;have F0:=lH (Tg.mk_ w A s.length c B xs.length d x0 F);have HT:=lH (av A B c d s xs _ (hA.rd.kp F0.out.kp) (hB.kp F0.out.kp));rw[ht]at HT;have HCL:Hid (∀W,Kp w W->CJ 23 #[.slice A s.length c] W (oQ s W)):=fun W k=>cv A c s W (hA.rd.kp k) oM
 have HDE:Hid (∀W A1 c1 b,Own b W (.slice A1 s.length c1) s->CJ 73 #[.slice A1 s.length c1, .int .i64 (a:Int), .int .i64 ((a:Int)+1)] W fun e w'=>e= .returned (.slice A1 (s.eraseIdx a).length c1)/\Sl w' A1 c1 (s.eraseIdx a)/\Below b W w'):=fun W A1 c1 b h=>uf A1 c1 b a s W h ha oM
 have HPL:Hid (∀W,Kp w W->CJ 166 #[.slice A s.length c, .int .i64 (a:Int)] W fun e w'=>∃b1 b2,e= .returned (.func (.func 188) #[] #[pX b1 0, pX b2 0])/\Plc s a b1 b2 w'/\Kp W w'):=fun W k=>jY A c s a W (hA.rd.kp k) hA.le ho ha
 obtain⟨N,hNN⟩:∃N:Nat,au (s.eraseIdx a)=(N:Int):=⟨(au (s.eraseIdx a)).toNat,oM⟩
 have HSZ:Hid (∀W A1 c1,Rd W A1 (s.eraseIdx a)->CJ 70 #[.slice A1 (s.eraseIdx a).length c1] W fun e w'=>e= .returned (.int .i64 (N:Int))/\W=w'):=fun W A1 c1 r=>by
  have hh:=bC A1 c1 (s.eraseIdx a) W r;rw[hNN]at hh;exact hh
 have HP1:Hid (∀(q i:Nat) W b1 b2,q<N->(i:Int)<s.getD a 0->Plc s a b1 b2 W->CJ 188 #[.int .i64 (q:Int), .int .i64 (i:Int), pX b1 0, pX b2 0] W fun e W'=>e= .returned (.int .i64 (gI s a q i))/\∃n,W'=W.drewN n):=
  fun q i W b1 b2 hq hi h=>iT s a b1 b2 q i W ho ha oM hi h
 have HPN:Hid (∀(q i:Nat),q<N->(i:Int)<s.getD a 0->∃m:Nat,gI s a q i=(m:Int)/\m<xs.length/\(aU s xs a q)[i]?=some (xs.getD m 0)/\xs[m]?=some (xs.getD m 0)):=fun q i hq hi=>Av ht ha oM hi
 have HLL:Hid (∀q,(aU s xs a q).length=(s.getD a 0).toNat):=fun q=>bk s xs a q
 obtain⟨D,hD⟩:∃D:Nat,s.getD a 0=(D:Int):=⟨(s.getD a 0).toNat,oM⟩
 rw[hD]at HP1 HPN HLL;obtain⟨ad,x,hAe,hbx,hx,hc⟩:=hA.rd.at_ ha;have hxD:x=(D:Int):=by rw[<-hD,List.getD,hx];rfl
 subst hxD;have HAX:Hid (∀W,Kp w W->W.cell? (ad.add a)=some (.int .i64 (D:Int))):=fun W k=>(k.cell (p:=ad.add a) (by rw[ah];exact hbx)).trans hc
 have HRB:Hid (Rd w B xs):=hB;have HII:Hid (bN xs):=hi;have HX0:Hid (I64 x0):=h0;have HFF:=lH hf;have HNF:=lH hN;have QN:Hid (N<=64):=by show N<=64;omega
 have Qa:Hid (D<=16):=by show D<=16;omega
 have ME:Hid (gZ f x0 s xs a=if(cL (fun q:Nat=>tkL f x0 (aU s xs a q)) (List.range N)).2=0 then(s.eraseIdx a,(cL (fun q:Nat=>tkL f x0 (aU s xs a q)) (List.range N)).1,0)else([],[],(cL (fun q:Nat=>tkL f x0 (aU s xs a q)) (List.range N)).2)):=by
  show gZ f x0 s xs a=_;unfold gZ oV;rw[aaT (by simp[ht]),aaT oM,aa2,hNN,aa2]
 obtain⟨cs,hmk,hown⟩:=mk_ N oM;have HO:=lH hown;have HS:=lH (mo (f:=fun q:Nat=>tkL f x0 (aU s xs a q)) (l:=List.range N));obtain⟨S,hS⟩:=eX (s.eraseIdx a);rw[<-hS]at HDE HSZ ME;have w1a:IntKind.i64.wrap ((a:Int)+1)=(a:Int)+1:=by rw[IntWalk.i64_in _ oM]
 have j0:¬(a:Int)<0:=by omega
 have j1:(0:Int)<=(a:Int):=by omega
 have j2:(a:Int)<(s.length:Int):=by omega
 have j3:¬(s.length:Int)<=(a:Int):=by omega
 subst hAe;generalize gZ f x0 s xs a=R at ME⊢;clear hA hB ht ho hsd hx hc hbx hel hi h0 hf hN hxl hoe hpe hsz hNN hD hown hS;go_enter Tryz.func126,Tryz.ntmps126;go_wp2_with fail;refine(aa9 (Hid.out HT)) ?_;rintro e0 w1 ⟨rfl,k1⟩;have F1:=lH (F0.out.tr k1);clear k1;have t0:=F1.out.t.c0;have t1:=F1.out.t.c1;go_wp2_with fail;refine(HCL.out _ F1.out.kp).mono ?_;rintro e0 w2 ⟨A2,c2,rfl,o2,k2⟩;have K2:=lH k2;have F2:=lH (F1.out.tr k2);have O2:=lH o2;have HNA:Hid (∀ad,A2=some ad->w.heap.size<=ad.block):=fun ad h=>ab3 F1.out.kp.size (o2.ad h).1;have HAD:Hid (∀ad,A2=some ad->ad.block<w2.heap.size):=fun ad h=>(o2.ad h).2
 clear k2 o2 t0 t1;have t0:=F2.out.t.c0;have t1:=F2.out.t.c1;go_wp2_with fail;refine(HDE.out _ _ _ _ O2.out).mono ?_;rintro e0 w3 ⟨rfl,s3,k3⟩;have F3:=lH (F1.out.tr (K2.out.trans k3));have S3:=lH s3;have HAD:Hid (∀ad,A2=some ad->ad.block<w3.heap.size):=fun ad h=>abj (HAD.out ad h) k3.size
 clear k3 s3 t0 t1;have t0:=F3.out.t.c0;have t1:=F3.out.t.c1;go_wp2_with fail;refine(HPL.out _ F3.out.kp).mono ?_;rintro e0 w4 ⟨b1,b2,rfl,p4,k4⟩;have F4:=lH (F3.out.tr k4);have S4:=lH (S3.out.kp k4);have P4:=lH p4;have HAD:Hid (∀ad,A2=some ad->ad.block<w4.heap.size):=fun ad h=>abj (HAD.out ad h) k4.size
 clear k4 p4 t0 t1;go_wp2_with (go_at_call 70;refine(HSZ.out _ _ _ (by first|exact S4.out.rd|exact S4.out.rd.af _)).mono ?_;rintro e0 w5 ⟨rfl,rfl⟩)
 go_loopw [45] (fun i wr=>∃(k:Nat) (zs:BU),i= .int .i64 k/\Hid (Ee (fun q:Nat=>tkL f x0 (aU s xs a q)) (List.range N) k zs)/\Hid (Own w4.heap.size wr (.slice (some ⟨w4.heap.size,0,none⟩) N N) zs)/\Hid (Kp w4 wr)) (fun i _=>N-(intOf i).toNat)
 case atStart=>
  refine⟨0,_,rfl,HS.out,?_,Kp.af _ _⟩;have hh:=HO.out w4 w4.heap.size (aaZ _);have e:(List.range N).length=N:=by simp
  rw[e];exact hh
 case round=>
  obtain⟨k,zs,rfl,hr,hown,hk⟩:=hrel;obtain⟨wo,hwo⟩:∃wo:World,wo=wr:=⟨_,rfl⟩
  subst hwo;have F5:=lH (F4.out.tr hk.out);have P5:=lH (P4.out.kp hk.out);have Sg:N<=64:=QN.out;have Ui:D<=16:=Qa.out;have hkl:k<=N:=by have:=hr.out.1;rwa [abM]at this
  by_cases hlt:k<N
  ·have hlt':(k:Int)<(N:Int):=by omega
   have hx:=HAX.out _ F5.out.kp;have t0:=F5.out.t.c0;have t1:=F5.out.t.c1;have y0:=F5.out.y0;have y1:=F5.out.y1;have HT0:=lH (Eh f x0 (aU s xs a k));have HLK:Hid ((aU s xs a k).length=D):=by show _=D;rw[HLL.out];rfl
   have hrk:(List.range N)[k]?=some k:=abm hlt;have hzk:k<zs.length:=by have:=hr.out.2.1;rw[abM]at this;omega
   have HP2:Hid (∀(i:Nat) W,i<D->Kp wo W->CJ 188 #[.int .i64 (k:Int), .int .i64 (i:Int), pX b1 0, pX b2 0] W fun e W'=>e= .returned (.int .i64 (gI s a k i))/\∃n,W'=W.drewN n):=
    fun i W hi kw=>HP1.out k i W b1 b2 hlt oM (P5.out.kp kw)
   have HPK:Hid (∀(i:Nat),i<D->∃m:Nat,gI s a k i=(m:Int)/\m<xs.length/\(aU s xs a k)[i]?=some (xs.getD m 0)/\xs[m]?=some (xs.getD m 0)):=fun i hi=>HPN.out k i hlt oM
   obtain⟨r,hrr⟩:=eX (tkL f x0 (aU s xs a k));rw[<-hrr]at HT0;have VO:Hid (∀y,r=(y,0)->Ee (fun q:Nat=>tkL f x0 (aU s xs a q)) (List.range N) (k+1) (zs.set k y)):=fun y e=>by
    have hh:=qF hr.out hrk (by show(tkL f x0 (aU s xs a k)).2=0;rw[<-hrr,e]);have e2:(tkL f x0 (aU s xs a k)).1=y:=by rw[<-hrr,e]
    simp only[e2]at hh;exact hh
   have S9:Hid (∀er,r=(0,er)->er≠0->R=([],[],er)):=fun er e he=>by
    have hh:=wO hr.out hrk (by show(tkL f x0 (aU s xs a k)).2≠0;rw[<-hrr,e];exact he);have e2:(tkL f x0 (aU s xs a k)).2=er:=by rw[<-hrr,e]
    simp only[e2]at hh;rw[ME.out,hh,aaT he]
   obtain⟨L,hL⟩:=eX (aU s xs a k);rw[<-hL]at HT0 HLK HPK;clear hrk hrr hL;go_wp2
   go_loopw [12,13,55] (fun v e i wx=>∃(j:Nat) (y:Int),v= .int .i64 y/\e= .int .i64 0/\i= .int .i64 j/\Hid (Tk f L r j y)/\Hid (I64 y)/\Hid (∃n,wx=wo.drewN n)) (fun _ _ i _=>D-(intOf i).toNat)
   case atStart=>exact⟨0,x0,rfl,rfl,rfl,HT0.out,HX0.out,⟨0,rfl⟩⟩
   case round=>
    obtain⟨j,y,rfl,rfl,rfl,hT,hy,hn⟩:=hrel;have KX:Hid (Kp wo wr):=by obtain⟨n,e⟩:=hn.out;show Kp wo wr;rw[e];exact Kp.aI _ _
    have F6:=lH (F5.out.tr KX.out);clear t0 t1 y0 y1 hx;have t0:=F6.out.t.c0;have t1:=F6.out.t.c1;have y1:=F6.out.y1;by_cases hj:j<D
    ·have hj':(j:Int)<(D:Int):=by omega
     obtain⟨m,hm1,hm2,hm3,hm4⟩:=HPK.out j hj;obtain⟨bd,v,hBe,hbv,hv,hcv⟩:=HRB.out.at_ hm2;have hvv:xs.getD m 0=v:=by rw[hv]at hm4;injection hm4 with e;exact e.symm
     rw[hvv]at hm3 hm4;have T9:wr.cell? (bd.add m)=some (.int .i64 v):=(F6.out.kp.cell (p:=bd.add m) (by rw[ah];exact hbv)).trans hcv;have TI:I64 v:=HII.out.get hm4;have HQ2:Hid (∀m',CJ 188 #[.int .i64 (k:Int), .int .i64 (j:Int), pX b1 0, pX b2 0] (wr.drewN m') fun e W'=>e= .returned (.int .i64 (m:Int))/\∃n',W'=(wr.drewN m').drewN n'):=fun m'=>by
      have hh:=HP2.out j (wr.drewN m') hj (KX.out.tr (Kp.aI _ _));rw[hm1]at hh;exact hh
     have HG:=lH (fun W=>HNF.out y v hy.out TI W);have i1:(0:Int)<=(m:Int):=by omega
     have i2:(m:Int)<(xs.length:Int):=by omega
     subst hBe;by_cases he:(f y v).2=0
     ·have HST:=lH (JN hT.out hm3 he);have HI2:Hid (I64 (f y v).1):=HFF.out y v hy.out TI he;rw[he]at HG;generalize (f y v).1=z at HST HI2 HG;clear hm1 hm3 hm4 hv hcv hvv he;go_wp2;go_quiet (first|(go_at_call 188;exact quiet_of (HQ2.out _))|(exact bM (HG.out _)));go_wp2;go_roundw
      case rel=>exact⟨j+1,z,rfl,rfl,by go_num,HST.out,HI2.out,by obtain⟨n,e⟩:=hn.out;exact⟨_,by rw[e];exact World.drewN_drewN _ _ _⟩⟩
      case measure=>simp[intOf];omega
     ·have HBD:=lH (S9.out _ (Nq hT.out hm3 he) he);have he':((f y v).2 !=0)=true:=by simpa using he
      generalize (f y v).2=er at HG HBD he';generalize (f y v).1=z at HG;have r0:=F6.out.r.c0;have r1:=F6.out.r.c1;have u0:=F6.out.r.f0 0;have u1:=F6.out.r.f0 1;clear hm1 hm3 hm4 hv hcv hvv he;go_wp2;go_quiet (first|(go_at_call 188;exact quiet_of (HQ2.out _))|(exact bM (HG.out _)));go_wp2;refine aaX (v:= .tuple #[.agg #[zS, zS], .int .i64 er]) (by simp[results,Tryz.results126,go_sem,r0,r1];try rfl) rfl ?_;exact oP.err HBD.out ((F6.out.tr (Kp.aI _ _)).end_ _ _)
    ·have hj':¬(j:Int)<(D:Int):=by omega
     have HEN:=lH (VO.out y (Np hT.out (by rw[HLK.out];exact hj)));have HW:=lH (hown.out.kp KX.out);have hcz:=HW.out.cell_ (j:=k) (aaV hzk);have hfz:=HW.out.fE k;have HK5:=lH (hk.out.tr KX.out);clear t0 t1 y1;go_wp2;go_roundw
     case rel=>exact⟨k+1,_,by go_num,HEN.out,HW.out.kY _ _,HK5.out.setCell (p:=⟨w4.heap.size,k,none⟩) (aaZ _) _⟩
     case measure=>simp[intOf];omega
  ·have hlt':¬(k:Int)<(N:Int):=by omega
   have HE:=lH (wN hr.out (by rw[abM];exact hlt));have HFR:Hid (R=(S,zs,0)):=by show R=_;rw[ME.out,HE.out,aaW rfl]
   have hzl:zs.length=N:=by have:=hr.out.2.1;rwa [abM]at this
   have HZL:=lH hzl;have r0:=F5.out.r.c0;have r1:=F5.out.r.c1;have u0:=F5.out.r.f0 0;have u1:=F5.out.r.f0 1;clear hzl;go_wp2;refine aaX (v:= .tuple #[.agg #[.slice A2 S.length c2, .slice (some ⟨w4.heap.size,0,none⟩) N N], .int .i64 0]) (by simp[results,Tryz.results126,go_sem,r0,r1];try rfl) rfl ?_;have Qw:w.heap.size+1+1<w4.heap.size:=F4.out.r.lt;have hS:=(S4.out.kp hk.out)
   rw[HFR.out];refine⟨A2,c2,some ⟨w4.heap.size,0,none⟩,N,w4.heap.size,?_,⟨⟨(hS.rd.past F5.out.r _ _),hS.le,hS.cap⟩,fun _=>HNA.out⟩,F4.out.kp.size,?_,HAD.out,F5.out.end_ _ _⟩
   ·rw[HZL.out]
   ·rw[HZL.out];exact(hown.out.gW (p:=⟨w.heap.size+1+1,0,none⟩) Qw _).gW (p:=⟨w.heap.size+1+1,1,none⟩) Qw _
theorem kR(f:Int->Int->Int×Int)(x0:Int)(F:Nat)(A B:DV)(c d:Nat)(s xs:BU)(aj:Int)(w:World)(hA:Sl w A c s)(hB:Rd w B xs)(hi:bN xs)(h0:I64 x0)(hf:∀x y,I64 x->I64 y->(f x y).2=0->I64 (f x y).1)
  (HF:∀args W,(callFunc F args).run Tryz.prog W= .ok (.enter F args) W)
  (hN:∀x y,I64 x->I64 y->∀W,CJ F #[.int .i64 x, .int .i64 y] W fun e W'=>e= .returned (.tuple #[.int .i64 (f x y).1, .int .i64 (f x y).2])/\W=W'):
  CJ 126 #[.agg #[.slice A s.length c, .slice B xs.length d], .int .i64 aj, .agg #[.int .i64 x0, .func (.func F) #[] #[]]] w (oP (gZ f x0 s xs aj) w):=by
 cases ht:aB s xs with
 |false=>exact JK f x0 F A B c d s xs aj w hA hB ht
 |true=>
  by_cases hx:aj<0∨(s.length:Int)<=aj
  ·exact Eg f x0 F A B c d s xs aj w hA hB ht hx
  ·obtain⟨a,rfl⟩:∃a:Nat,aj=(a:Int):=⟨aj.toNat,oM⟩
   exact Nl f x0 F A B c d s xs a w hA hB hi h0 hf HF hN ht oM
theorem pq{s xs:BU}{aj:Int}(h:iQ s xs aj≠0)(f:Int->Int->Int×Int)(x0:Int):gZ f x0 s xs aj=([],[],iQ s xs aj):=by
 unfold iQ gZ at *;by_cases h1:aB s xs=false
 ·rw[aaW h1,aaW h1]
 ·rw[aaT h1]at h⊢;rw[aaT h1];by_cases h2:aj<0∨(s.length:Int)<=aj
  ·rw[aaW h2,aaW h2]
  ·rw[aaT h2]at h;exact absurd rfl h
theorem jS{s xs:BU}{aj:Int}(h:iQ s xs aj=0):aB s xs=true/\∃a:Nat,aj=(a:Int)/\a<s.length:=by
 unfold iQ at h;by_cases h1:aB s xs=false
 ·rw[aaW h1]at h;cases h
 ·rw[aaT h1]at h;by_cases h2:aj<0∨(s.length:Int)<=aj
  ·rw[aaW h2]at h;cases h
  ·exact⟨by simpa using h1,aj.toNat,oM,oM⟩
structure Rg(w:World)(A:DV)(n c:Nat)(B:DV)(m d:Nat)(W:World):Prop where
 kp:Kp w W
 t:Bk W w.heap.size A n c B m d
 o:Bk W (w.heap.size+1) none 0 0 none 0 0
theorem Rg.tr{w W W':World}{A B:DV}{n c m d:Nat}(h:Rg w A n c B m d W)(k:Kp W W'):Rg w A n c B m d W':=⟨h.kp.tr k,h.t.kp k,h.o.kp k⟩
theorem Rg.mk_(w:World)(A:DV)(n c:Nat)(B:DV)(m d:Nat):Rg w A n c B m d ((w.alloc (.cells #[.slice A n c, .slice B m d] 25)).alloc (.cells #[zS, zS] 25)):=
 ⟨(Kp.af _ _).al _,(Bk.new rfl).af _,Bk.new (aaY _ _).symm⟩
theorem Rg.end_{w W:World}{A B:DV}{n c m d:Nat}(h:Rg w A n c B m d W)(x y:Value):Kp w ((W.setCell ⟨w.heap.size+1,0,none⟩ x).setCell ⟨w.heap.size+1,1,none⟩ y):=
 (h.kp.setCell (p:=⟨w.heap.size+1,0,none⟩) (abe _) x).setCell (p:=⟨w.heap.size+1,1,none⟩) (abe _) y
theorem H7:∀args W,(callFunc 127 args).run Tryz.prog W= .ok (.enter 127 args) W:=fun args W=>MuLone.run_callFunc_enter Tryz.func127 kM rfl args W
theorem yV:∀args W,(callFunc 129 args).run Tryz.prog W= .ok (.enter 129 args) W:=fun args W=>MuLone.run_callFunc_enter Tryz.func129 kM rfl args W
theorem wi:I64 0:=by unfold I64;omega
theorem Cy:I64 (-9223372036854775808):=by unfold I64;omega
theorem JM(A B:DV)(c d:Nat)(s xs:BU)(aj:Int)(w:World)(hA:Sl w A c s)(hB:Rd w B xs)(hi:bN xs):
  CJ 126 #[.agg #[.slice A s.length c, .slice B xs.length d], .int .i64 aj, .agg #[.int .i64 0, .func (.func 127) #[] #[]]] w (oP (iM s xs aj) w):=
 kR cY 0 127 A B c d s xs aj w hA hB hi wi (fun _ _ _ _ _=>iR _) H7 (fun x y hx hy W=>nA x y hx hy W)
theorem zG(A B:DV)(c d:Nat)(s xs:BU)(aj:Int)(w:World)(hA:Sl w A c s)(hB:Rd w B xs)(hi:bN xs):
  CJ 126 #[.agg #[.slice A s.length c, .slice B xs.length d], .int .i64 aj, .agg #[.int .i64 (-9223372036854775808), .func (.func 129) #[] #[]]] w (oP (uE s xs aj) w):=
 kR dI _ 129 A B c d s xs aj w hA hB hi Cy (fun x y hx hy _=>by unfold dI I64 at *;show _<=max x y/\max x y<=_;omega) yV (fun x y _ _ W=>uO x y W)
theorem oP.box{r:Tn}{w W':World}{A B A2 B2:DV}{n c m d c2 d2 b:Nat}{l k:BU}{e:Int}(hr:r=(l,k,e))(F:Rg w A n c B m d W')(hs:Sw w.heap.size W' A2 c2 l)(hb:w.heap.size+1<b)(o:Own b W' (.slice B2 k.length d2) k)(ha:∀ad,A2=some ad->ad.block<b):
  oP r w (.returned (.tuple #[.agg #[.slice A2 l.length c2, .slice B2 k.length d2], .int .i64 e])) ((W'.setCell ⟨w.heap.size+1,0,none⟩ (.slice A2 l.length c2)).setCell ⟨w.heap.size+1,1,none⟩ (.slice B2 k.length d2)):=by
 subst hr;exact⟨A2,c2,B2,d2,b,rfl,⟨⟨hs.toSl.rd.past F.o _ _,hs.toSl.le,hs.toSl.cap⟩,hs.nw⟩,oM,(o.gW (p:=⟨w.heap.size+1,0,none⟩) hb _).gW (p:=⟨w.heap.size+1,1,none⟩) hb _,ha,F.end_ _ _⟩
theorem vI(A B:DV)(c d:Nat)(s xs:BU)(aj:Int)(w:World)(hA:Sl w A c s)(hB:Rd w B xs)(hi:bN xs):
  CJ 100 #[.agg #[.slice A s.length c, .slice B xs.length d], .int .i64 aj] w (oP (iM s xs aj) w):=by
 have F0:=lH (Rg.mk_ w A s.length c B xs.length d);have HT:=lH (fun W (k:Kp w W)=>JM A B c d s xs aj W (hA.kp k) (hB.kp k) hi);obtain⟨l,k,er,hr⟩:∃l k er,iM s xs aj=(l,k,er):=⟨_,_,_,rfl⟩
 rw[hr]at HT;have HR:=lH hr;clear hA hB hi hr;go_enter Tryz.func100,Tryz.ntmps100;go_wp2_with fail;refine(HT.out _ F0.out.kp).mono ?_;rintro e0 w1 ⟨A2,c2,B2,d2,b,rfl,s2,hb,o2,ha,k1⟩;have F1:=lH (F0.out.tr k1);have HB:Hid (w.heap.size+1<b):=by
  show _<_;rw[aaY,aaY]at hb;omega
 have H2:=lH (And.intro s2 (And.intro o2 ha));clear k1 s2 hb o2 ha;have r0:=F1.out.o.c0;have r1:=F1.out.o.c1;have u0:=F1.out.o.f0 0;have u1:=F1.out.o.f0 1;dsimp only;go_wp2;refine aaX (v:= .tuple #[.agg #[.slice A2 l.length c2, .slice B2 k.length d2], .int .i64 er]) (by simp[results,Tryz.results100,go_sem,r0,r1];try rfl) rfl ?_;exact oP.box HR.out F1.out (H2.out.1.mo F0.out.kp.size) HB.out H2.out.2.1 H2.out.2.2
theorem pK(A B:DV)(c d:Nat)(s xs:BU)(aj:Int)(w:World)(hA:Sl w A c s)(hB:Rd w B xs)(hi:bN xs):
  CJ 104 #[.agg #[.slice A s.length c, .slice B xs.length d], .int .i64 aj] w (oP (uE s xs aj) w):=by
 have F0:=lH (Rg.mk_ w A s.length c B xs.length d);have HT:=lH (fun W (k:Kp w W)=>zG A B c d s xs aj W (hA.kp k) (hB.kp k) hi);obtain⟨l,k,er,hr⟩:∃l k er,uE s xs aj=(l,k,er):=⟨_,_,_,rfl⟩
 rw[hr]at HT;have HR:=lH hr;clear hA hB hi hr;go_enter Tryz.func104,Tryz.ntmps104;go_wp2_with fail;refine(HT.out _ F0.out.kp).mono ?_;rintro e0 w1 ⟨A2,c2,B2,d2,b,rfl,s2,hb,o2,ha,k1⟩;have F1:=lH (F0.out.tr k1);have HB:Hid (w.heap.size+1<b):=by
  show _<_;rw[aaY,aaY]at hb;omega
 have H2:=lH (And.intro s2 (And.intro o2 ha));clear k1 s2 hb o2 ha;have r0:=F1.out.o.c0;have r1:=F1.out.o.c1;have u0:=F1.out.o.f0 0;have u1:=F1.out.o.f0 1;dsimp only;go_wp2;refine aaX (v:= .tuple #[.agg #[.slice A2 l.length c2, .slice B2 k.length d2], .int .i64 er]) (by simp[results,Tryz.results104,go_sem,r0,r1];try rfl) rfl ?_;exact oP.box HR.out F1.out (H2.out.1.mo F0.out.kp.size) HB.out H2.out.2.1 H2.out.2.2
def Mdn(g:Int->Int)(xs:BU)(k:Nat)(zs:BU):Prop:=k<=xs.length/\zs=(xs.take k).map g++xs.drop k
theorem Ge(g:Int->Int)(xs:BU):Mdn g xs 0 xs:=⟨aa6 _,by simp⟩
theorem IY{g:Int->Int}{xs zs:BU}{k:Nat}(h:Mdn g xs k zs):zs.length=xs.length:=by obtain⟨h1,rfl⟩:=h;simp;omega
theorem Rn{g:Int->Int}{xs zs:BU}{k:Nat}{x:Int}(h:Mdn g xs k zs)(hx:xs[k]?=some x):zs[k]?=some x:=by
 obtain⟨h1,rfl⟩:=h;rw[abz (by simp;omega)];simp only[abA,abv,Nat.min_eq_left h1,Nat.sub_self,acH,Nat.add_zero];exact hx
theorem KS{g:Int->Int}{xs zs:BU}{k:Nat}{x:Int}(h:Mdn g xs k zs)(hx:xs[k]?=some x):Mdn g xs (k+1) (zs.set k (g x)):=by
 obtain⟨h1,rfl⟩:=h;have hk:=(aaU.1 hx).1;refine⟨hk,?_⟩;rw[cr hx,abK,acF _ _ (by simp;omega),bP hx];simp[Nat.min_eq_left h1]
theorem Ox{g:Int->Int}{xs zs:BU}{k:Nat}(h:Mdn g xs k zs)(hk:¬k<xs.length):zs=xs.map g:=by
 obtain⟨h1,rfl⟩:=h;rw[abS oM,abU oM,List.append_nil]
theorem Nu{s xs:BU}{aj:Int}(h:(iM s xs aj).2.2=0):aB s xs=true/\∃a:Nat,aj=(a:Int)/\a<s.length:=by
 by_cases g:iQ s xs aj=0
 ·exact jS g
 ·have e:=pq g cY 0;unfold iM at h;rw[e]at h;exact absurd h g
theorem oU{f:Int->Int->Int×Int}{x0:Int}{s xs:BU}{a:Nat}(ht:aB s xs=true)(ha:a<s.length):gZ f x0 s xs a=if(oV f x0 s xs a).2=0 then(s.eraseIdx a,(oV f x0 s xs a).1,0)else([],[],(oV f x0 s xs a).2):=by
 unfold gZ;rw[aaT (by simp[ht]),aaT oM,aa2]
theorem Ed{f:Int->Int->Int×Int}{x0:Int}{s xs:BU}{a:Nat}(ht:aB s xs=true)(ha:a<s.length)(h:(gZ f x0 s xs a).2.2=0):∃k,gZ f x0 s xs a=(s.eraseIdx a,k,0)/\(k.length:Int)=au (s.eraseIdx a)/\0<k.length:=by
 rw[oU ht ha]at h⊢;by_cases e:(oV f x0 s xs a).2=0
 ·rw[aaW e];have ho:=fQ (aA.1 ht).1 ha;have hl:(oV f x0 s xs a).1.length=(au (s.eraseIdx a)).toNat:=by
   unfold oV at e⊢;rw[jx e];simp
  have:=bT ho;have:=aL ho;exact⟨_,rfl,oM,oM⟩
 ·rw[aaT e]at h;exact absurd h e
theorem JL{f:Int->Int->Int×Int}{x0:Int}{s xs:BU}{aj:Int}(hi:bN xs)(h0:I64 x0)(hf:∀x y,I64 x->I64 y->(f x y).2=0->I64 (f x y).1):bN (gZ f x0 s xs aj).2.1:=by
 by_cases g:iQ s xs aj=0
 ·obtain⟨ht,a,rfl,ha⟩:=jS g;rw[oU ht ha];by_cases e:(oV f x0 s xs a).2=0
  ·rw[aaW e];intro y hy;unfold oV at e hy;obtain⟨e1,e2⟩:=mR e;rw[e2]at hy;obtain⟨q,hq,rfl⟩:=abN.1 hy;refine Iy hf h0 (fun z hz=>?_) (fH.1 e1 q hq);unfold aU at hz;obtain⟨i,_,rfl⟩:=abN.1 hz;exact fS hi _
  ·rw[aaT e];exact bN.bU
 ·rw[pq g f x0];exact bN.bU
theorem JS{s xs:BU}{aj:Int}(hi:bN xs):bN (iM s xs aj).2.1:=JL hi wi fun _ _ _ _ _=>iR _
theorem Rg.tb{w W W':World}{A B:DV}{n c m d b:Nat}(h:Rg w A n c B m d W)(k:Below b W W')(hb:w.heap.size+1<b):Rg w A n c B m d W':=⟨h.kp.trans (k.mono oM),h.t.tb k oM,h.o.tb k hb⟩
theorem Fk{b:Nat}{W W':World}{A:DV}{xs:BU}(h:Rd W A xs)(k:Below b W W')(ha:∀ad,A=some ad->ad.block<b):Rd W' A xs:=
 ⟨h.1,fun hn=>by
  obtain⟨ad,e,hb,hc⟩:=h.2 hn;exact⟨ad,e,abj hb k.size,fun j u hu=>(k.cell (by rw[ah];exact ha ad e)).trans (hc j u hu)⟩⟩
theorem AG(A B:DV)(c d:Nat)(s xs:BU)(aj:Int)(w:World)(hA:Sl w A c s)(hB:Rd w B xs)(hi:bN xs):
  CJ 102 #[.agg #[.slice A s.length c, .slice B xs.length d], .int .i64 aj] w (aG (fK s xs aj) w):=by
 have F0:=lH (Rg.mk_ w A s.length c B xs.length d);have HT:=lH (fun W (k:Kp w W)=>vI A B c d s xs aj W (hA.kp k) (hB.kp k) hi);by_cases hz:(iM s xs aj).2.2=0
 ·obtain⟨ht,a,rfl,ha⟩:=Nu hz;obtain⟨k,hr,hkl,hk0⟩:=Ed (f:=cY) (x0:=0) ht ha hz;have TV:bN k:=by
   have:=JS (aj:=(a:Int)) (s:=s) hi;unfold iM at this;rw[hr]at this;exact this
  have ho:=(aA.1 ht).1;have hsd:=dK (bI ho) ha;obtain⟨ad,x,hAe,hbx,hx,hc⟩:=hA.rd.at_ ha;have hxD:s.getD a 0=x:=by rw[List.getD,hx];rfl
  rw[hxD]at hsd;have HF:Hid (fK s xs a=(s.eraseIdx a,k.map fun y=>(nE y (x*4294967296)).1,0)):=by
   show fK s xs a=_;unfold fK;rw[aaW hz];unfold iM;rw[hr,aa2,hxD]
  have hr':iM s xs a=(s.eraseIdx a,k,0):=hr;rw[hr']at HT;have HX:Hid (∀W,Kp w W->W.cell? (ad.add a)=some (.int .i64 x)):=fun W k=>(k.cell (p:=ad.add a) (by rw[ah];exact hbx)).trans hc
  have hby:I64 (x*4294967296):=by unfold I64;omega
  have HDV:Hid (∀y W,I64 y->CJ 128 #[.int .i64 y, .int .i64 (x*4294967296)] W fun e W'=>e= .returned (.tuple #[.int .i64 (nE y (x*4294967296)).1, .int .i64 (nE y (x*4294967296)).2])/\Kp W W'):=fun y W hy=>(Fx.Dd y (x*4294967296) hy hby W).mono fun e w' ⟨h1,h2⟩=>⟨h1,h2.below⟩
  obtain⟨by_,Sd⟩:∃z,z=x*4294967296:=⟨_,rfl⟩
  rw[<-Sd]at HF HDV;have w1a:IntKind.i64.wrap (x*4294967296)=by_:=by rw[Sd];exact IntWalk.i64_in _ oM
  have HS0:=lH (Ge (fun y=>(nE y by_).1) k);have Vo:k.length<=64:=by have:=size_le (s.eraseIdx a);omega
  have HK:=lH (And.intro TV hk0);obtain⟨S,hS⟩:=eX (s.eraseIdx a);rw[<-hS]at HT HF;generalize fK s xs a=R at HF⊢;have j1:(0:Int)<=(a:Int):=by omega
  have j2:(a:Int)<(s.length:Int):=by omega
  subst hAe;clear hA hB hi hz ht hr hr' hkl hk0 TV ho hsd hx hc hxD Sd hby hS hbx;go_enter Tryz.func102,Tryz.ntmps102;go_wp2_with fail;refine(HT.out _ F0.out.kp).mono ?_;rintro e0 w1 ⟨A2,c2,B2,d2,b,rfl,s2,hb,o2,ha2,k1⟩;have F1:=lH (F0.out.tr k1);have HB:Hid (w.heap.size+1<b):=by
   show _<_;rw[aaY,aaY]at hb;omega
  obtain⟨g,rfl,hg1,hg2⟩:=o2.addr HK.out.2;have HGB:=lH (And.intro hg1 hg2);have S2:=lH s2;have O2:=lH o2;have HA2:=lH ha2;clear k1 s2 hb o2 ha2 hg1 hg2;have t0:=F1.out.t.c0;have t1:=F1.out.t.c1;have hx1:=HX.out _ F1.out.kp;have hbl:(ad.add a).block<w1.heap.size:=by
   unfold World.cell? at hx1;rcases Nat.lt_or_ge (ad.add a).block w1.heap.size with h|h
   ·exact h
   ·rw[Array.getElem?_eq_none h]at hx1;cases hx1
  have htl:w.heap.size<w1.heap.size:=F1.out.t.lt;dsimp only;go_wp2
  go_loopw [30] (fun i wr=>∃(j:Nat) (zs:BU),i= .int .i64 j/\Hid (Mdn (fun y=>(nE y by_).1) k j zs)/\Hid (Own b wr (.slice (some ⟨g,0,none⟩) k.length d2) zs)/\Hid (Bk wr w1.heap.size A2 S.length c2 (some ⟨g,0,none⟩) k.length d2)/\Hid (Below b w1 wr)) (fun i _=>k.length-(intOf i).toNat)
  case atStart=>exact⟨0,k,rfl,HS0.out,O2.out.kp (Kp.af _ _),Bk.new rfl,(abu _ _).alloc (Nat.le_of_lt (Nat.lt_of_le_of_lt HGB.out.1 HGB.out.2)) _⟩
  case round=>
   obtain⟨j,zs,rfl,hr,hown,hbk,ze⟩:=hrel;clear t0 t1 hx1 hbl htl;have hjl:=hr.out.1;have b0:=hbk.out.c0;have b1:=hbk.out.c1;have F2:Hid (Rg w (some ad) s.length c B xs.length d wr):=F1.out.tb ze.out HB.out;by_cases hj:j<k.length
   ·have hj':(j:Int)<(k.length:Int):=by omega
    have i1:(0:Int)<=(j:Int):=by omega
    obtain⟨y,hy⟩:∃y,k[j]?=some y:=⟨k[j],aaV hj⟩
    have hzy:=Rn hr.out hy;have hyc:=hown.out.cell_ hzy;have hyf:=hown.out.fE j;have HST:=lH (KS hr.out hy);have HDY:=lH (fun W=>HDV.out y W (HK.out.1.get hy));have hzl:=IY hr.out;have gl:g<wr.heap.size:=(hown.out.Ir rfl).2;have ml:w1.heap.size<wr.heap.size:=hbk.out.lt;generalize (nE y by_).2=e2 at HDY;generalize (nE y by_).1=z at HDY HST;have HKX:Hid (∀V,Kp wr.drew V->Hid (Kp wr V)/\V.cell? ⟨w1.heap.size,1,none⟩=some (.slice (some ⟨g,0,none⟩) k.length d2)/\V.cell? ⟨g,j,none⟩=some (.int .i64 y)/\V.frozen? ⟨g,j,none⟩=false):=fun V kV=>
     ⟨bZ kV,(hbk.out.kp (bZ kV)).c1,((bZ kV).cell (p:=⟨g,j,none⟩) gl).trans hyc,((bZ kV).frozen (p:=⟨g,j,none⟩) gl).trans hyf⟩
    clear hy hzy;go_wp2
    go_region_with (refine(HDY.out _).mono ?_;rintro e0 w9 ⟨rfl,k9⟩;obtain⟨K9,q1,q2,q3⟩:=HKX.out _ k9;clear k9)
    all_goals
     go_wp2;go_roundw
     case rel=>
      have hw:∀V,Hid (Kp wr V)->Own b (V.setCell ⟨g,j,none⟩ (.int .i64 z)) (.slice (some ⟨g,0,none⟩) k.length d2) (zs.set j z)/\Bk (V.setCell ⟨g,j,none⟩ (.int .i64 z)) w1.heap.size A2 S.length c2 (some ⟨g,0,none⟩) k.length d2/\Below b w1 (V.setCell ⟨g,j,none⟩ (.int .i64 z)):=fun V KV=>
       ⟨(hown.out.kp KV.out).kY j z,(abq _ _ _ w1.heap.size (by show w1.heap.size≠g;have:=HGB.out.2;omega)).trans (hbk.out.kp KV.out),(ze.out.trans (KV.out.mono (by have:=HGB.out;have:=ze.out.size;omega))).setCell (p:=⟨g,j,none⟩) HGB.out.1 _⟩
      obtain⟨h1,h2,h3⟩:=hw _ K9;exact⟨j+1,_,by go_num,HST.out,h1,h2,h3⟩
     case measure=>simp[intOf];omega
   ·have hj':¬(j:Int)<(k.length:Int):=by omega
    have HE:=lH (Ox hr.out hj);have HZL:=lH (IY hr.out);have r0:=F2.out.o.c0;have r1:=F2.out.o.c1;have u0:=F2.out.o.f0 0;have u1:=F2.out.o.f0 1;have hne:¬w1.heap.size=w.heap.size+1:=by have:=HGB.out;have:=HB.out;omega
    go_wp2;refine aaX (v:= .tuple #[.agg #[.slice A2 S.length c2, .slice (some ⟨g,0,none⟩) k.length d2], .int .i64 0]) (by simp[results,Tryz.results102,go_sem,r0,r1];try rfl) rfl ?_;refine aG.on (by rw[HF.out,<-HE.out]) rfl HZL.out.symm ?_ ?_ (F2.out.end_ _ _) (S2.out.nw.mo F0.out.kp.size) (hown.out.nw (by have:=HB.out;omega))
    ·exact Sl.past (Sl.of (Fk S2.out.rd ze.out HA2.out) ⟨S2.out.le,S2.out.cap⟩) F2.out.o _ _
    ·exact(hown.out.sl.past F2.out.o _ _)
 ·have HF:Hid (fK s xs aj=([],[],(iM s xs aj).2.2)):=by show fK s xs aj=_;unfold fK;rw[aaT hz]
  obtain⟨l,k,er,hr⟩:∃l k er,iM s xs aj=(l,k,er):=⟨_,_,_,rfl⟩
  rw[hr]at HT HF hz;have he:(er !=0)=true:=by simpa using hz
  clear hA hB hi hr hz;go_enter Tryz.func102,Tryz.ntmps102;go_wp2_with fail;refine(HT.out _ F0.out.kp).mono ?_;rintro e0 w1 ⟨A2,c2,B2,d2,b,rfl,s2,hb,o2,ha2,k1⟩;have F1:=lH (F0.out.tr k1);clear k1 s2 hb o2 ha2;have rl:=F1.out.o.lt;have F9:Hid (Rg w A s.length c B xs.length d (w1.alloc (.cells #[.slice A2 l.length c2, .slice B2 k.length d2] 25))):=F1.out.tr (Kp.af _ _);have v0:=F1.out.o.c0;have v1:=F1.out.o.c1;have v2:=F1.out.o.f0 0;have v3:=F1.out.o.f0 1;have r0:=F9.out.o.c0;have r1:=F9.out.o.c1;have rne:¬w.heap.size+1=w1.heap.size:=by omega
  dsimp only;go_wp2;refine aaX (v:= .tuple #[.agg #[zS, zS], .int .i64 er]) (by simp[results,Tryz.results102,go_sem,v0,v1,rl];try rfl) rfl ?_;exact aG.err HF.out ((F1.out.end_ _ _).al _)
theorem Gf{s xs:BU}{a:Nat}(hi:bN xs)(ht:aB s xs=true)(ha:a<s.length):
  uE s xs a=(s.eraseIdx a,(List.range (au (s.eraseIdx a)).toNat).map fun q:Nat=>(aU s xs a q).getD (fmI (aU s xs a q)) 0,0):=by
 have hsd:=dK (bI (aA.1 ht).1) ha;have hk:∀q∈List.range (au (s.eraseIdx a)).toNat,(fun q:Nat=>tkL dI (-9223372036854775808) (aU s xs a q)) q=((fun q:Nat=>(aU s xs a q).getD (fmI (aU s xs a q)) 0) q,0):=fun q _=>by
  refine Nn (fun e=>?_) fun y hy=>?_
  ·have:=bk s xs a q;rw[e,acC]at this;omega
  ·unfold aU at hy;obtain⟨i,_,rfl⟩:=abN.1 hy;exact(fS hi _).1
 unfold uE;rw[oU ht ha];unfold oV;rw[qg hk,aaW rfl]
theorem yO{s xs:BU}{a:Nat}(ht:aB s xs=true)(ha:a<s.length):cH s xs a=(s,oI s xs a,0):=by
 unfold cH;rw[aaT (by simp[ht]),aaT oM,aa2]
theorem CY{s xs:BU}{aj:Int}(h:iQ s xs aj≠0):cH s xs aj=([],[],iQ s xs aj):=by
 unfold iQ cH at *;by_cases h1:aB s xs=false
 ·rw[aaW h1,aaW h1]
 ·rw[aaT h1]at h⊢;rw[aaT h1];by_cases h2:aj<0∨(s.length:Int)<=aj
  ·rw[aaW h2,aaW h2]
  ·rw[aaT h2]at h;exact absurd rfl h
structure Rf(w:World)(A:DV)(n c:Nat)(B:DV)(m d:Nat)(g:Nat)(C:DV)(o e:Nat)(D:DV)(p f:Nat)(W:World):Prop where
 r:Rg w A n c B m d W
 x:Bk W g C o e D p f
theorem Rf.tr{w W W':World}{A B C D:DV}{n c m d g o e p f:Nat}(h:Rf w A n c B m d g C o e D p f W)(k:Kp W W'):Rf w A n c B m d g C o e D p f W':=⟨h.r.tr k,h.x.kp k⟩
theorem AV(A B:DV)(c d:Nat)(s xs:BU)(a:Nat)(w:World)(hA:Sl w A c s)(hB:Rd w B xs)(hi:bN xs)(ht:aB s xs=true)(ha:a<s.length):
  CJ 179 #[.agg #[.slice A s.length c, .slice B xs.length d], .int .i64 (a:Int)] w (aG (cH s xs a) w):=by
 have hlA:=hA.rd.len;obtain⟨ho,hxl⟩:=aA.1 ht;have hs3:=(aD.1 ho).1;have hpo:=bT ho;have hsd:=dK (bI ho) ha;have hoe:=fQ ho ha;have hpe:=bT hoe;have hsz:=aL hoe;have F0:=lH (Rg.mk_ w A s.length c B xs.length d);have HT:=lH (fun W (k:Kp w W)=>pK A B c d s xs a W (hA.kp k) (hB.kp k) hi);obtain⟨N,hNN⟩:∃N:Nat,au (s.eraseIdx a)=(N:Int):=⟨(au (s.eraseIdx a)).toNat,oM⟩
 have hmx:=Gf hi ht ha;rw[hNN,aa2]at hmx;obtain⟨M,hM⟩:=eX ((List.range N).map fun q:Nat=>(aU s xs a q).getD (fmI (aU s xs a q)) 0);rw[<-hM]at hmx;rw[hmx]at HT;have HML:Hid (M.length=N):=by show _=N;rw[hM];simp
 have HMG:Hid (∀q,q<N->M[q]?=some ((aU s xs a q).getD (fmI (aU s xs a q)) 0)):=fun q hq=>by rw[hM,aa7,abm hq];rfl
 have HCL:Hid (∀W,Kp w W->CJ 23 #[.slice A s.length c] W (oQ s W)):=fun W k=>cv A c s W (hA.rd.kp k) oM
 have HPL:Hid (∀W,Kp w W->CJ 166 #[.slice A s.length c, .int .i64 (a:Int)] W fun e w'=>∃b1 b2,e= .returned (.func (.func 188) #[] #[pX b1 0, pX b2 0])/\Plc s a b1 b2 w'/\Kp W w'):=fun W k=>jY A c s a W (hA.rd.kp k) hA.le ho ha
 have HP1:Hid (∀(q i:Nat) W b1 b2,q<N->(i:Int)<s.getD a 0->Plc s a b1 b2 W->CJ 188 #[.int .i64 (q:Int), .int .i64 (i:Int), pX b1 0, pX b2 0] W fun e W'=>e= .returned (.int .i64 (gI s a q i))/\∃n,W'=W.drewN n):=
  fun q i W b1 b2 hq hi h=>iT s a b1 b2 q i W ho ha oM hi h
 have HPN:Hid (∀(q i:Nat),q<N->(i:Int)<s.getD a 0->∃m:Nat,gI s a q i=(m:Int)/\m<xs.length/\(aU s xs a q)[i]?=some (xs.getD m 0)/\xs[m]?=some (xs.getD m 0)):=fun q i hq hi=>Av ht ha oM hi
 have HLL:Hid (∀q,(aU s xs a q).length=(s.getD a 0).toNat):=fun q=>bk s xs a q
 obtain⟨D,hD⟩:∃D:Nat,s.getD a 0=(D:Int):=⟨(s.getD a 0).toNat,oM⟩
 rw[hD]at HP1 HPN HLL;have HFM:Hid (∀q,Ur (aU s xs a q) (fmI (aU s xs a q))/\fmI (aU s xs a q)<D):=fun q=>by
  have hne:aU s xs a q≠ []:=fun e=>by
   have:=HLL.out q;rw[e,acC]at this;omega
  have:=Po hne;rw[HLL.out q]at this;exact⟨G6 hne,by simpa using this⟩
 have VI:Hid (∀k zs m,ShM.Fs s xs a k zs->k<N->gI s a k (fmI (aU s xs a k))=((m:Nat):Int)->ShM.Fs s xs a (k+1) (zs.set m 4294967296)):=fun k zs m h hk hm=>LA ht ha h oM hm
 have MY:Hid (∀k zs,ShM.Fs s xs a k zs->¬k<N->cH s xs a=(s,zs,0)):=fun k zs h hk=>by
  rw[yO ht ha,Pm ht ha h oM]
 have VP:=lH (GV ht ha);have MN:xs.length<=64:=by omega
 obtain⟨cs,hmk,hown⟩:=mk_ xs.length oM;have HO:=lH hown;have HRB:Hid (Rd w B xs):=hB;have Qa:Hid (D<=16/\0<N/\N<=64):=by show _/\_;omega
 have HXL:Hid (xs.length<=64/\∀k zs,ShM.Fs s xs a k zs->k<=N/\zs.length=xs.length):=⟨MN,fun k zs h=>⟨by have:=h.1;rw[hNN]at this;exact this,h.2.1⟩⟩
 have j1:(0:Int)<=(a:Int):=by omega
 have j2:(a:Int)<(s.length:Int):=by omega
 obtain⟨S,hS⟩:=eX (s.eraseIdx a);rw[<-hS]at HT;generalize cH s xs a=R at MY⊢;clear hA hB ht ho hsd hi hxl hoe hpe hsz hNN hD hown hS hM hmx hpo;go_enter Tryz.func179,Tryz.ntmps179;go_wp2_with fail;refine(HT.out _ F0.out.kp).mono ?_;rintro e0 w1 ⟨A2,c2,B2,d2,b,rfl,s2,hb,o2,ha2,k1⟩;have F1:=lH (F0.out.tr k1);have X1:Hid (Rf w A s.length c B xs.length d w1.heap.size A2 S.length c2 B2 M.length d2 (w1.alloc (.cells #[.slice A2 S.length c2, .slice B2 M.length d2] 25))):=⟨F1.out.tr (Kp.af _ _),Bk.new rfl⟩
 have RM:Hid (Rd (w1.alloc (.cells #[.slice A2 S.length c2, .slice B2 M.length d2] 25)) B2 M):=o2.sl.rd.kp (Kp.af _ _);have t0:=F1.out.t.c0;have t1:=F1.out.t.c1;have tl:w.heap.size<w1.heap.size:=F1.out.t.lt;clear k1 s2 hb o2 ha2;dsimp only;go_wp2_with fail;refine(HPL.out _ X1.out.r.kp).mono ?_;rintro e0 w4 ⟨b1,b2,rfl,p4,k4⟩;have F4:=lH (X1.out.tr k4);have P4:=lH p4;have RM4:=lH (RM.out.kp k4);clear k4 p4 t0 t1 tl F1 X1 RM;have t0:=F4.out.r.t.c0;have t1:=F4.out.r.t.c1;have x1:=F4.out.x.c1;have tl:w.heap.size<w4.heap.size:=F4.out.r.t.lt;have xl:w1.heap.size<w4.heap.size:=F4.out.x.lt;go_wp2
 go_loopw [34] (fun i wr=>∃(k:Nat) (zs:BU),i= .int .i64 k/\Hid (ShM.Fs s xs a k zs)/\Hid (Own w4.heap.size wr (.slice (some ⟨w4.heap.size,0,none⟩) xs.length xs.length) zs)/\Hid (Kp w4 wr)) (fun i _=>N-(intOf i).toNat)
 case atStart=>exact⟨0,_,rfl,VP.out,HO.out w4 w4.heap.size (aaZ _),Kp.af _ _⟩
 case round=>
  obtain⟨k,zs,rfl,hr,hown,hk⟩:=hrel;obtain⟨wo,hwo⟩:∃wo:World,wo=wr:=⟨_,rfl⟩
  subst hwo;have F5:=lH (F4.out.tr hk.out);have P5:=lH (P4.out.kp hk.out);obtain⟨hkl,hzl⟩:=HXL.out.2 k zs hr.out;have MN:=HXL.out.1;have Ui:=Qa.out;clear t0 t1 x1 tl xl;by_cases hlt:k<N
  ·have hlt':(k:Int)<(M.length:Int):=by rw[HML.out];omega
   obtain⟨v,hv⟩:=eX ((aU s xs a k).getD (fmI (aU s xs a k)) 0);have hMk:=HMG.out k hlt;rw[<-hv]at hMk;obtain⟨md,v',rfl,hbm,hmv,hmc⟩:=RM4.out.at_ (k:=k) (by rw[HML.out];exact hlt);obtain rfl:v=v':=by rw[hMk]at hmv;exact abR hmv
   have WE:wo.cell? (md.add k)=some (.int .i64 v):=(hk.out.cell (p:=md.add k) (by rw[ah];exact hbm)).trans hmc;obtain⟨⟨y,hy1,_,hy3⟩,hfD⟩:=HFM.out k;have hyv:y=v:=by rw[hv,List.getD,hy1];rfl
   subst hyv;have HPK:Hid (∀(i:Nat),i<D->∃m:Nat,gI s a k i=(m:Int)/\m<xs.length/\(aU s xs a k)[i]?=some (xs.getD m 0)/\xs[m]?=some (xs.getD m 0)):=fun i hi=>HPN.out k i hlt oM
   have HP2:Hid (∀(i:Nat) W,i<D->Kp wo W->CJ 188 #[.int .i64 (k:Int), .int .i64 (i:Int), pX b1 0, pX b2 0] W fun e W'=>e= .returned (.int .i64 (gI s a k i))/\∃n,W'=W.drewN n):=
    fun i W hi kw=>HP1.out k i W b1 b2 hlt oM (P5.out.kp kw)
   have HST:=lH (fun m hm=>VI.out k zs m hr.out hlt hm);have HL3:Hid (∀(j:Nat) (u:Int),j<fmI (aU s xs a k)->(aU s xs a k)[j]?=some u->u<y):=fun j u h1 h2=>hy3 j u h1 h2
   have HL1:Hid ((aU s xs a k)[fmI (aU s xs a k)]?=some y):=hy1;generalize fmI (aU s xs a k)=f at hfD HST HL3 HL1;have t0:=F5.out.r.t.c0;have t1:=F5.out.r.t.c1;clear hv hMk hmv hmc hbm hy1 hy3;go_wp2
   go_loopw [12] (fun i wx=>∃(j:Nat),i= .int .i64 j/\Hid (j<=f)/\Hid (∃n,wx=wo.drewN n)) (fun i _=>f-(intOf i).toNat)
   case atStart=>exact⟨0,rfl,aa6 _,⟨0,rfl⟩⟩
   case round=>
    obtain⟨j,rfl,hj,hn⟩:=hrel;have KX:Hid (Kp wo wr):=by obtain⟨n,e⟩:=hn.out;show Kp wo wr;rw[e];exact Kp.aI _ _
    have F6:=lH (F5.out.tr KX.out);have hjf:j<=f:=hj.out;clear t0 t1;have t0:=F6.out.r.t.c0;have t1:=F6.out.r.t.c1;obtain⟨m,hm1,hm2,hm3,hm4⟩:=HPK.out j oM;obtain⟨bd,u,hBe,hbv,hu,hcv⟩:=HRB.out.at_ hm2;have huu:xs.getD m 0=u:=by rw[hu]at hm4;injection hm4 with e;exact e.symm
    rw[huu]at hm3 hm4;have T9:wr.cell? (bd.add m)=some (.int .i64 u):=(F6.out.r.kp.cell (p:=bd.add m) (by rw[ah];exact hbv)).trans hcv;have HQ2:Hid (∀m',CJ 188 #[.int .i64 (k:Int), .int .i64 (j:Int), pX b1 0, pX b2 0] (wr.drewN m') fun e W'=>e= .returned (.int .i64 (m:Int))/\∃n',W'=(wr.drewN m').drewN n'):=fun m'=>by
     have hh:=HP2.out j (wr.drewN m') oM (KX.out.tr (Kp.aI _ _));rw[hm1]at hh;exact hh
    have i1:(0:Int)<=(m:Int):=by omega
    have i2:(m:Int)<(xs.length:Int):=by omega
    subst hBe;by_cases Vq:j=f
    ·subst Vq;obtain rfl:u=y:=by have:=HL1.out;rw[hm3]at this;exact abR this
     have hne:(u !=u)=false:=by simp
     have HS2:=lH (HST.out m hm1);have HW:=lH (hown.out.kp KX.out);have hzm:m<zs.length:=by omega
     have HK5:=lH (hk.out.tr KX.out);clear hm1 hm3 hm4 hu hcv huu;go_wp2;go_quiet (first|(go_at_call 188;exact quiet_of (HQ2.out _)));go_wp2_with fail;refine(HQ2.out _).mono ?_;rintro e0 w9 ⟨rfl,n9,hw9⟩;have KW9:Hid (Kp wr w9):=by show Kp wr w9;rw[hw9];exact(Kp.aI _ _).tr (Kp.aI _ _)
     clear hw9;have HW:=lH (HW.out.kp KW9.out);have hcz:=HW.out.cell_ (j:=m) (aaV hzm);have hfz:=HW.out.fE m;have HK5:=lH (HK5.out.tr KW9.out);go_wp2;go_roundw
     case rel=>exact⟨k+1,_,by go_num,HS2.out,HW.out.kY _ _,HK5.out.setCell (p:=⟨w4.heap.size,m,none⟩) (aaZ _) _⟩
     case measure=>simp[intOf];omega
    ·have Jg:=HL3.out j u oM hm3;have hne:(u !=y)=true:=by rw[bne_iff_ne];omega
     clear hm1 hm3 hm4 hu hcv huu;go_wp2;go_quiet (first|(go_at_call 188;exact quiet_of (HQ2.out _)));go_wp2;go_roundw
     case rel=>exact⟨j+1,by go_num,lH oM,by obtain⟨n,e⟩:=hn.out;exact⟨_,by rw[e];exact World.drewN_drewN _ _ _⟩⟩
     case measure=>simp[intOf];omega
  ·have hlt':¬(k:Int)<(M.length:Int):=by rw[HML.out];omega
   have HE:=lH (MY.out k zs hr.out hlt);have HZL:=lH hzl;have t0:=F5.out.r.t.c0;have t1:=F5.out.r.t.c1;clear hzl;go_wp2_with fail;refine(HCL.out _ F5.out.r.kp).mono ?_;rintro e0 w6 ⟨A6,c6,rfl,o6,k6⟩;have N6:Hid (Nw w.heap.size A6 s):=o6.nw F5.out.r.kp.size;have F7:=lH (F5.out.tr k6);have R6:=lH o6.sl;have W6:=lH (hown.out.kp k6).sl;clear k6 o6 t0 t1;have r0:=F7.out.r.o.c0;have r1:=F7.out.r.o.c1;have u0:=F7.out.r.o.f0 0;have u1:=F7.out.r.o.f0 1;go_wp2;refine aaX (v:= .tuple #[.agg #[.slice A6 s.length c6, .slice (some ⟨w4.heap.size,0,none⟩) xs.length xs.length], .int .i64 0]) (by simp[results,Tryz.results179,go_sem,r0,r1];try rfl) rfl ?_;exact aG.on HE.out rfl HZL.out.symm (Sl.past R6.out F7.out.r.o _ _) (Sl.past W6.out F7.out.r.o _ _) (F7.out.r.end_ _ _) N6.out (hown.out.nw (by first|exact F4.out.r.kp.size|exact F4.out.kp.size|omega))
theorem xV(A B:DV)(c d:Nat)(s xs:BU)(aj:Int)(w:World)(hA:Sl w A c s)(hB:Rd w B xs)(hi:bN xs)(h:iQ s xs aj≠0):
  CJ 179 #[.agg #[.slice A s.length c, .slice B xs.length d], .int .i64 aj] w (aG (cH s xs aj) w):=by
 have F0:=lH (Rg.mk_ w A s.length c B xs.length d);have HT:=lH (fun W (k:Kp w W)=>pK A B c d s xs aj W (hA.kp k) (hB.kp k) hi);have HF:Hid (cH s xs aj=([],[],iQ s xs aj)):=CY h;have hm:uE s xs aj=([],[],iQ s xs aj):=pq h dI _;rw[hm]at HT;generalize iQ s xs aj=er at HT HF h;have he:(er !=0)=true:=by simpa using h
 clear hA hB hi hm h;go_enter Tryz.func179,Tryz.ntmps179;go_wp2_with fail;refine(HT.out _ F0.out.kp).mono ?_;rintro e0 w1 ⟨A2,c2,B2,d2,b,rfl,s2,hb,o2,ha2,k1⟩;have F1:=lH (F0.out.tr k1);clear k1 s2 hb o2 ha2;have rl:=F1.out.o.lt;have v0:=F1.out.o.c0;have v1:=F1.out.o.c1;have v2:=F1.out.o.f0 0;have v3:=F1.out.o.f0 1;have rne:¬w.heap.size+1=w1.heap.size:=by omega
 dsimp only;go_wp2;refine aaX (v:= .tuple #[.agg #[zS, zS], .int .i64 er]) (by simp[results,Tryz.results179,go_sem,v0,v1,rl];try rfl) rfl ?_;exact aG.err HF.out ((F1.out.end_ _ _).al _)
theorem xW(A B:DV)(c d:Nat)(s xs:BU)(aj:Int)(w:World)(hA:Sl w A c s)(hB:Rd w B xs)(hi:bN xs):
  CJ 179 #[.agg #[.slice A s.length c, .slice B xs.length d], .int .i64 aj] w (aG (cH s xs aj) w):=by
 by_cases h:iQ s xs aj=0
 ·obtain⟨ht,a,rfl,ha⟩:=jS h;exact AV A B c d s xs a w hA hB hi ht ha
 ·exact xV A B c d s xs aj w hA hB hi h
theorem AU(A B:DV)(c d:Nat)(s xs:BU)(aj n:Int)(w:World)(hA:Rd w A s)(hB:Rd w B xs)(ht:aB s xs=false):
  CJ 178 #[.agg #[.slice A s.length c, .slice B xs.length d], .int .i64 aj, .int .i64 n] w (aG (bE s xs aj n) w):=by
 have hlA:=hA.len;have hlB:=hB.len;have F0:=lH (Rg.mk_ w A s.length c B xs.length d);have HT:=lH (av A B c d s xs _ (hA.kp F0.out.kp) (hB.kp F0.out.kp));rw[ht]at HT;have HF:Hid (bE s xs aj n=([],[],30)):=by show bE s xs aj n=_;unfold bE;rw[aaW ht]
 clear hA hB ht;go_enter Tryz.func178,Tryz.ntmps178;go_wp2_with fail;refine(aa9 (Hid.out HT)) ?_;rintro e0 w1 ⟨rfl,k1⟩;have F1:=lH (F0.out.tr k1);clear k1;have r0:=F1.out.o.c0;have r1:=F1.out.o.c1;have u0:=F1.out.o.f0 0;have u1:=F1.out.o.f0 1;go_wp2;refine aaX (v:= .tuple #[.agg #[zS, zS], .int .i64 30]) (by simp[results,Tryz.results178,go_sem,r0,r1];try rfl) rfl ?_;exact aG.err HF.out (F1.out.end_ _ _)
theorem xU(A B:DV)(c d:Nat)(s xs:BU)(aj n:Int)(w:World)(hA:Rd w A s)(hB:Rd w B xs)(ht:aB s xs=true)(hx:aj<0∨(s.length:Int)<aj):
  CJ 178 #[.agg #[.slice A s.length c, .slice B xs.length d], .int .i64 aj, .int .i64 n] w (aG (bE s xs aj n) w):=by
 have hlA:=hA.len;have hlB:=hB.len;have F0:=lH (Rg.mk_ w A s.length c B xs.length d);have HT:=lH (av A B c d s xs _ (hA.kp F0.out.kp) (hB.kp F0.out.kp));rw[ht]at HT;have HF:Hid (bE s xs aj n=([],[],20)):=by show bE s xs aj n=_;unfold bE;rw[aaT (by simp[ht]),aaW oM]
 clear hA hB ht;by_cases h0:aj<0
 ·clear hx;go_enter Tryz.func178,Tryz.ntmps178;go_wp2_with fail;refine(aa9 (Hid.out HT)) ?_;rintro e0 w1 ⟨rfl,k1⟩;have F1:=lH (F0.out.tr k1);clear k1;have t0:=F1.out.t.c0;have t1:=F1.out.t.c1;have r0:=F1.out.o.c0;have r1:=F1.out.o.c1;have u0:=F1.out.o.f0 0;have u1:=F1.out.o.f0 1;go_wp2;refine aaX (v:= .tuple #[.agg #[zS, zS], .int .i64 20]) (by simp[results,Tryz.results178,go_sem,r0,r1];try rfl) rfl ?_;exact aG.err HF.out (F1.out.end_ _ _)
 ·have h1:(s.length:Int)<aj:=by omega
  clear hx;go_enter Tryz.func178,Tryz.ntmps178;go_wp2_with fail;refine(aa9 (Hid.out HT)) ?_;rintro e0 w1 ⟨rfl,k1⟩;have F1:=lH (F0.out.tr k1);clear k1;have t0:=F1.out.t.c0;have t1:=F1.out.t.c1;have r0:=F1.out.o.c0;have r1:=F1.out.o.c1;have u0:=F1.out.o.f0 0;have u1:=F1.out.o.f0 1;go_wp2;refine aaX (v:= .tuple #[.agg #[zS, zS], .int .i64 20]) (by simp[results,Tryz.results178,go_sem,r0,r1];try rfl) rfl ?_;exact aG.err HF.out (F1.out.end_ _ _)
theorem FA(A B:DV)(c d:Nat)(s xs:BU)(a:Nat)(n:Int)(w:World)(hA:Rd w A s)(hB:Rd w B xs)(ht:aB s xs=true)(ha:a<=s.length):
  CJ 178 #[.agg #[.slice A s.length c, .slice B xs.length d], .int .i64 (a:Int), .int .i64 n] w (aG (bE s xs a n) w):=by
 have hlA:=hA.len;have hlB:=hB.len;obtain⟨hos,hxl⟩:=aA.1 ht;have hs3:=(aD.1 hos).1;have F0:=lH (Rg.mk_ w A s.length c B xs.length d);have HT:=lH (av A B c d s xs _ (hA.kp F0.out.kp) (hB.kp F0.out.kp));rw[ht]at HT;have HCL:Hid (∀W,Kp w W->CJ 23 #[.slice A s.length c] W (oQ s W)):=fun W k=>cv A c s W (hA.kp k) oM
 have HIN:Hid (∀W A1 c1 b vb,Own b W (.slice A1 s.length c1) s->b<=W.heap.size->W.heap[vb]?=some (.cells #[.int .i64 n] 3 (0,0))->(∀g,A1=some ⟨g,0,none⟩->vb≠g)->CJ 193 #[.slice A1 s.length c1, .int .i64 (a:Int), .slice (some ⟨vb,0,none⟩) 1 1] W (cZ b (inL s a n) W)):=
  fun W A1 c1 b vb h hb hv hne=>ud A1 c1 b vb a s n W h oM ha hb hv hne
 have HCK:Hid (∀W A1 c1,Rd W A1 (inL s a n)->CJ 44 #[.slice A1 (inL s a n).length c1] W fun e w'=>e= .returned (.bool (okS (inL s a n)))/\W=w'):=fun W A1 c1 r=>bQ A1 c1 _ W r
 have j0:¬(a:Int)<0:=by omega
 have j1:(0:Int)<=(a:Int):=by omega
 have j3:¬(s.length:Int)<(a:Int):=by omega
 cases hog:okS (inL s a n)with
 |false=>
  rw[hog]at HCK;have HF:Hid (bE s xs a n=([],[],20)):=by show bE s xs a n=_;unfold bE;rw[aaT (by simp[ht]),aaW (by rw[aa2];exact .inr (.inr hog))]
  generalize inL s a n=G at HIN HCK;clear hA hB ht hos hxl hog;go_enter Tryz.func178,Tryz.ntmps178;go_wp2_with fail;refine(aa9 (Hid.out HT)) ?_;rintro e0 w1 ⟨rfl,k1⟩;have F1:=lH (F0.out.tr k1);clear k1;have t0:=F1.out.t.c0;have t1:=F1.out.t.c1;go_wp2_with fail;refine(HCL.out _ F1.out.kp).mono ?_;rintro e0 w2 ⟨A2,c2,rfl,o2,k2⟩;have K2:=lH k2;have O2:=lH o2;clear k2 o2 t0 t1;go_wp2_with fail;refine(HIN.out _ A2 c2 w1.heap.size w2.heap.size (O2.out.kp (Kp.af _ _)) (K2.out.al _).size (World.alloc_heap_new w2 _) (fun g e=>by have:=(O2.out.ad e).2;have h2:g<w2.heap.size:=this;omega)).mono ?_;rintro e0 w3 ⟨A3,c3,rfl,s3,k3⟩;have F3:=lH (F1.out.tr ((K2.out.al _).trans k3));have S3:=lH s3;clear k3 s3;go_wp2_with fail;refine(HCK.out _ _ _ S3.out.rd).mono ?_;rintro e0 w4 ⟨rfl,rfl⟩;have r0:=F3.out.o.c0;have r1:=F3.out.o.c1;have u0:=F3.out.o.f0 0;have u1:=F3.out.o.f0 1;go_wp2;refine aaX (v:= .tuple #[.agg #[zS, zS], .int .i64 20]) (by simp[results,Tryz.results178,go_sem,r0,r1];try rfl) rfl ?_;exact aG.err HF.out (F3.out.end_ _ _)
 |true=>
  rw[hog]at HCK;have hal:a<(inL s a n).length:=by rw[kK ha];omega
  have hsd:=dK (bI hog) hal;rw[mh ha]at hsd;have hpg:=bT hog;have hsg:=aL hog;obtain⟨D,rfl⟩:∃D:Nat,n=(D:Int):=⟨n.toNat,oM⟩
  have HF:Hid (bE s xs a D=(inL s a D,uN s xs a D,0)):=by show bE s xs a D=_;unfold bE;rw[aaT (by simp[ht]),aa2,aaT (fun h=>by rcases h with h|h|h<;>first|omega|(rw[hog]at h;cases h))]
  obtain⟨N,hNN⟩:∃N:Nat,au (inL s a D)=(N:Int):=⟨(au (inL s a D)).toNat,oM⟩
  have HPL:Hid (∀W A1 c1,Sl W A1 c1 (inL s a D)->CJ 166 #[.slice A1 (inL s a D).length c1, .int .i64 (a:Int)] W fun e w'=>∃b1 b2,e= .returned (.func (.func 188) #[] #[pX b1 0, pX b2 0])/\Plc (inL s a D) a b1 b2 w'/\Kp W w'):=fun W A1 c1 h=>jY A1 c1 _ a W h.rd h.le hog hal
  have HSZ:Hid (∀W A1 c1,Rd W A1 (inL s a D)->CJ 70 #[.slice A1 (inL s a D).length c1] W fun e w'=>e= .returned (.int .i64 (N:Int))/\W=w'):=fun W A1 c1 r=>by
   have hh:=bC A1 c1 (inL s a D) W r;rw[hNN]at hh;exact hh
  have heq:au ((inL s a D).eraseIdx a)=(xs.length:Int):=by rw[nj ha,aL hos];exact hxl.symm
  have HP1:Hid (∀(q i:Nat) W b1 b2,q<xs.length->i<D->Plc (inL s a D) a b1 b2 W->CJ 188 #[.int .i64 (q:Int), .int .i64 (i:Int), pX b1 0, pX b2 0] W fun e W'=>e= .returned (.int .i64 (gI (inL s a D) a q i))/\∃n,W'=W.drewN n):=
   fun q i W b1 b2 hq hi h=>iT (inL s a D) a b1 b2 q i W hog hal oM (by rw[mh ha];omega) h
  have Ut:Hid (∀(k i:Nat) zs x,Gs (inL s a D) xs a k i zs->xs[k]?=some x->i<D->∃m:Nat,gI (inL s a D) a k i=(m:Int)/\m<zs.length/\Gs (inL s a D) xs a k (i+1) (zs.set m x)):=fun k i zs x h hx hi=>by
   have hk:=(aaU.1 hx).1;have hk2:(k:Int)<ai ((inL s a D).eraseIdx a):=by rw[nj ha];omega
   have hi2:(i:Int)<(inL s a D).getD a 0:=by rw[mh ha];omega
   obtain⟨r1,r2,_,_⟩:=gb (bI hog) hal (q:=k) (i:=i) oM hk2 oM hi2;have hm:gI (inL s a D) a k i=((gI (inL s a D) a k i).toNat:Int):=by omega
   obtain⟨h1,h2⟩:=Pf hog hal h hx hk2 hi2 hm;exact⟨_,hm,h1,h2⟩
  have HNX:Hid (∀(k i:Nat) zs,Gs (inL s a D) xs a k i zs->k<xs.length->¬i<D->Gs (inL s a D) xs a (k+1) 0 zs):=fun k i zs h hk hi=>Lu hog hal h hk (by rw[mh ha];omega)
  have MY:Hid (∀(k i:Nat) zs,Gs (inL s a D) xs a k i zs->¬k<xs.length->bE s xs a D=(inL s a D,zs,0)):=fun k i zs h hk=>by rw[HF.out,Pg ht ha hog h hk]
  have HG0:Hid (Gs (inL s a D) xs a 0 0 (List.replicate N 0)):=by
   have:=GP xs hog hal;rw[hNN,aa2]at this;exact this
  have HGL:Hid (∀(k i:Nat) zs,Gs (inL s a D) xs a k i zs->k<=xs.length/\zs.length=N):=fun k i zs h=>⟨h.1,by have:=h.2.1;rw[hNN]at this;exact this⟩
  obtain⟨cs,hmk,hown⟩:=mk_ N oM;have HO:=lH hown;have HRB:Hid (Rd w B xs):=hB;have Qa:Hid (D<=16/\N<=64/\xs.length<=64):=by
   have:=bT hos;show _/\_/\_;omega
  obtain⟨G,hG⟩:=eX (inL s a D);rw[<-hG]at HIN HCK HPL HSZ HP1 Ut HNX MY HG0 HGL;generalize bE s xs a D=R at MY⊢;clear hA hB ht hos hxl hog hal hsd hpg hsg HF hNN heq hG hown;go_enter Tryz.func178,Tryz.ntmps178;go_wp2_with fail;refine(aa9 (Hid.out HT)) ?_;rintro e0 w1 ⟨rfl,k1⟩;have F1:=lH (F0.out.tr k1);clear k1;have t0:=F1.out.t.c0;have t1:=F1.out.t.c1;go_wp2_with fail;refine(HCL.out _ F1.out.kp).mono ?_;rintro e0 w2 ⟨A2,c2,rfl,o2,k2⟩;have K2:=lH k2;have O2:=lH o2;clear k2 o2 t0 t1;go_wp2_with fail;refine(HIN.out _ A2 c2 w1.heap.size w2.heap.size (O2.out.kp (Kp.af _ _)) (K2.out.al _).size (World.alloc_heap_new w2 _) (fun g e=>by have:=(O2.out.ad e).2;have h2:g<w2.heap.size:=this;omega)).mono ?_;rintro e0 w3 ⟨A3,c3,rfl,s3,k3⟩;have F3:=lH (F1.out.tr ((K2.out.al _).trans k3));have S3:=lH s3;clear k3 s3;go_wp2_with fail;refine(HCK.out _ _ _ S3.out.rd).mono ?_;rintro e0 w4 ⟨rfl,rfl⟩;go_wp2_with fail;refine(HPL.out _ _ _ S3.out.toSl).mono ?_;rintro e0 w4 ⟨b1,b2,rfl,p4,k4⟩;have F4:=lH (F3.out.tr k4);have S4:=lH (S3.out.kp k4);have P4:=lH p4;clear k4 p4;go_wp2_with fail;refine(HSZ.out _ _ _ S4.out.rd).mono ?_;rintro e0 w5 ⟨rfl,rfl⟩;have t0:=F4.out.t.c0;have t1:=F4.out.t.c1;have tl:w.heap.size<w4.heap.size:=F4.out.t.lt;go_wp2
  go_loopw [48] (fun i wr=>∃(k:Nat) (zs:BU),i= .int .i64 k/\Hid (Gs G xs a k 0 zs)/\Hid (Own w4.heap.size wr (.slice (some ⟨w4.heap.size,0,none⟩) N N) zs)/\Hid (Kp w4 wr)) (fun i _=>xs.length-(intOf i).toNat)
  case atStart=>exact⟨0,_,rfl,HG0.out,HO.out w4 w4.heap.size (aaZ _),Kp.af _ _⟩
  case round=>
   obtain⟨k,zs,rfl,hr,hown,hk⟩:=hrel;clear t0 t1 tl;have F5:=lH (F4.out.tr hk.out);obtain⟨hkl,hzl⟩:=HGL.out k 0 zs hr.out;have Ui:=Qa.out;by_cases hlt:k<xs.length
   ·have hlt':(k:Int)<(xs.length:Int):=by omega
    obtain⟨bd,x,hBe,hbv,hx,hcv⟩:=HRB.out.at_ hlt;have T9:wr.cell? (bd.add k)=some (.int .i64 x):=(F5.out.kp.cell (p:=bd.add k) (by rw[ah];exact hbv)).trans hcv;have HX:=lH hx;subst hBe;clear hcv hbv hx;go_wp2
    go_loopw [54] (fun i wx=>∃(j:Nat) (ys:BU),i= .int .i64 j/\Hid (Gs G xs a k j ys)/\Hid (j<=D)/\Hid (Own w4.heap.size wx (.slice (some ⟨w4.heap.size,0,none⟩) N N) ys)/\Hid (Kp w4 wx)) (fun i _=>D-(intOf i).toNat)
    case atStart=>exact⟨0,zs,rfl,hr.out,aa6 _,hown.out,hk.out⟩
    case round=>
     obtain⟨j,ys,rfl,hg,hjD,ho,hk2⟩:=hrel;have hjl:j<=D:=hjD.out;have P6:=lH (P4.out.kp hk2.out);by_cases hj:j<D
     ·have hj':(j:Int)<(D:Int):=by omega
      obtain⟨m,hm1,hm2,hm3⟩:=Ut.out k j ys x hg.out HX.out hj;have HG3:=lH hm3;have hyl:=(HGL.out k j ys hg.out).2;have HQ:=lH (HP1.out k j wr b1 b2 hlt hj P6.out);rw[hm1]at HQ;have i1:(0:Int)<=(m:Int):=by omega
      have i2:(m:Int)<(N:Int):=by omega
      clear hm1 hm3;go_wp2_with fail;refine HQ.out.mono ?_;rintro e0 w9 ⟨rfl,n9,rfl⟩;have HW:=lH (ho.out.drewN n9);have hcz:=HW.out.cell_ (j:=m) (aaV hm2);have hfz:=HW.out.fE m;have HK5:=lH (hk2.out.tr (Kp.aI _ n9));clear hyl;go_wp2;go_roundw
      case rel=>exact⟨j+1,_,by go_num,HG3.out,lH oM,HW.out.kY _ _,HK5.out.setCell (p:=⟨w4.heap.size,m,none⟩) (aaZ _) _⟩
      case measure=>simp[intOf];omega
     ·have hj':¬(j:Int)<(D:Int):=by omega
      have HG3:=lH (HNX.out k j ys hg.out hlt hj);go_wp2;go_roundw
      case rel=>exact⟨k+1,ys,by go_num,HG3.out,ho.out,hk2.out⟩
      case measure=>simp[intOf];omega
   ·have hlt':¬(k:Int)<(xs.length:Int):=by omega
    have HE:=lH (MY.out k 0 zs hr.out hlt);have HZL:=lH hzl;have r0:=F5.out.o.c0;have r1:=F5.out.o.c1;have u0:=F5.out.o.f0 0;have u1:=F5.out.o.f0 1;clear hzl;go_wp2;refine aaX (v:= .tuple #[.agg #[.slice A3 G.length c3, .slice (some ⟨w4.heap.size,0,none⟩) N N], .int .i64 0]) (by simp[results,Tryz.results178,go_sem,r0,r1];try rfl) rfl ?_;exact aG.on HE.out rfl HZL.out.symm (Sl.past (S4.out.toSl.kp hk.out) F5.out.o _ _) (hown.out.sl.past F5.out.o _ _) (F5.out.end_ _ _) (S4.out.nw.mo F1.out.kp.size) (hown.out.nw F4.out.kp.size)
theorem rL(A B:DV)(c d:Nat)(s xs:BU)(aj n:Int)(w:World)(hA:Rd w A s)(hB:Rd w B xs):
  CJ 178 #[.agg #[.slice A s.length c, .slice B xs.length d], .int .i64 aj, .int .i64 n] w (aG (bE s xs aj n) w):=by
 cases ht:aB s xs with
 |false=>exact AU A B c d s xs aj n w hA hB ht
 |true=>
  by_cases hx:aj<0∨(s.length:Int)<aj
  ·exact xU A B c d s xs aj n w hA hB ht hx
  ·obtain⟨a,rfl⟩:∃a:Nat,aj=(a:Int):=⟨aj.toNat,oM⟩
   exact FA A B c d s xs a n w hA hB ht oM
open ChangeShapes WideShapes ChangeAt
theorem oP.weak{r:Tn}{w w':World}{e:Ending}(h:oP r w e w'):aG r w e w':=by
 obtain⟨A,c,B,d,b,e1,h1,hb,h2,_,h3⟩:=h;exact⟨A,c,B,d,e1,h1,h2.sw hb,h3⟩
