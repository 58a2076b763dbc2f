/- Plain facts of layer 16: a graph and its slopes, step by step. No program stands here. -/
import Derived.Test.YtokeebkaamjliaaGreatGdP
set_option maxHeartbeats 16000000
set_option maxRecDepth 100000
set_option linter.unusedVariables false
set_option linter.unusedSimpArgs false
namespace Go.Proofs.EvM
open ShM cF GrM InM ImM
structure Tpe where
 l:List Nd
 inp:T
 ps:List T
 phase:Int
 at_:Int
 vals:List T
 hang:List T
 fD:List T
 err:Int
def iw(l:List Nd)(inp:T)(ps:List T)(a e:Int):Tpe:=⟨l,inp,ps,4,a,[],[],[],e⟩
def eM(l:List Nd)(inp:T)(ps:List T):Tpe:=if(aH l).2.2=0 then⟨l,inp,ps,1,0,[],[],[],0⟩else iw l inp ps (aH l).2.1 (aH l).2.2
def YR(t:Tpe):Nd:=t.l.getD t.at_.toNat nd0
def RW(t:Tpe)(r:Ev):Tpe:=
 if r.2≠0 then iw t.l t.inp t.ps t.at_ r.2 else
 if t.at_+1<(t.l.length:Int)then⟨t.l,t.inp,t.ps,t.phase,t.at_+1,t.vals++[r.1],t.hang,t.fD,t.err⟩else
 if 1<r.1.2.length then iw t.l t.inp t.ps ((t.l.length:Int)-1) 150 else
 ⟨t.l,t.inp,t.ps,2,(t.l.length:Int)-1,t.vals++[r.1],qx t.l (t.vals++[r.1]),List.replicate 8 eT,t.err⟩
def E6(t:Tpe):Tpe:=RW t (bq (YR t).1 (YR t).2.2 (cq t.vals (YR t).2.1) t.inp t.ps)
/-- The greatest live one below. -/
def tw(live:BU)(a:Int):Int:=live.foldl (fun n x=>if x<a then x else n) (-1)
def VG(t:Tpe)(d:(List T×List T)×Int):Tpe:=
 if d.2≠0 then iw t.l t.inp t.ps t.at_ d.2 else
 if tw (fW t.l) t.at_<0 then⟨t.l,t.inp,t.ps,3,-1,t.vals,d.1.1,eY t.vals 0 t.l d.1.2,t.err⟩else
 ⟨t.l,t.inp,t.ps,t.phase,tw (fW t.l) t.at_,t.vals,d.1.1,d.1.2,t.err⟩
def YH(t:Tpe):Tpe:=VG t (dD (YR t) t.vals t.hang t.fD t.at_.toNat)
def lF(t:Tpe):Tpe:=if t.phase=1 then E6 t else if t.phase=2 then YH t else t
def gS:Nat->Tpe->Tpe
 |0,t=>t
 |k+1,t=>gS k (lF t)
theorem ql:∀(a b:Nat) (t:Tpe),gS (a+b) t=gS b (gS a t)
 |0,b,t=>by rw[abw];rfl
 |a+1,b,t=>by
  rw[show a+1+b=(a+b)+1 by omega];show gS (a+b) (lF t)=gS b (gS a (lF t));exact ql a b _
theorem W8{t:Tpe}(h:3<=t.phase):lF t=t:=by
 unfold lF;rw[aaT oM,aaT oM]
theorem gD{t:Tpe}(h:3<=t.phase):∀k:Nat,gS k t=t
 |0=>rfl
 |k+1=>by
  show gS k (lF t)=t;rw[W8 h];exact gD h k
theorem YC(l:List Nd)(inp:T)(ps:List T):∀(m pre:List Nd) (acc:List T),l=pre++m->pre.length=acc.length->m≠ []->
  (∃i e,evF inp ps m acc=([],i,e)/\e≠0/\gS m.length ⟨l,inp,ps,1,(acc.length:Int),acc,[],[],0⟩=iw l inp ps i e)∨
  ∃v,evF inp ps m acc=(v,-1,0)/\gS m.length ⟨l,inp,ps,1,(acc.length:Int),acc,[],[],0⟩=if 1<(v.getD (l.length-1) eT).2.length then iw l inp ps ((l.length:Int)-1) 150 else⟨l,inp,ps,2,(l.length:Int)-1,v,qx l v,List.replicate 8 eT,0⟩
 | [],_,_,_,_,h=>absurd rfl h
 |n::m,pre,acc,hl,hp,_=>by
  have hn:l.getD acc.length nd0=n:=by
   rw[hl,<-hp,aaS,abz (aaZ _),Nat.sub_self];rfl
  have hll:l.length=acc.length+(m.length+1):=by rw[hl,abf,hp,abg]
  obtain⟨r,hr⟩:∃r,bq n.1 n.2.2 (cq acc n.2.1) inp ps=r:=⟨_,rfl⟩
  have hs:lF ⟨l,inp,ps,1,(acc.length:Int),acc,[],[],0⟩=RW ⟨l,inp,ps,1,(acc.length:Int),acc,[],[],0⟩ r:=by
   unfold lF;rw[aaW rfl];unfold E6 YR;show RW _ (bq (l.getD ((acc.length:Int)).toNat nd0).1 (l.getD ((acc.length:Int)).toNat nd0).2.2 (cq acc (l.getD ((acc.length:Int)).toNat nd0).2.1) inp ps)=_;rw[aa2,hn,hr]
  have hR:gS (n::m).length ⟨l,inp,ps,1,(acc.length:Int),acc,[],[],0⟩=gS m.length (RW ⟨l,inp,ps,1,(acc.length:Int),acc,[],[],0⟩ r):=by
   rw[abg];show gS m.length (lF _)=_;rw[hs]
  rw[hR];by_cases h0:r.2=0
  · have he:evF inp ps (n::m) acc=evF inp ps m (acc++[r.1]):=by rw[evF,hr,aaW h0]
    rw[he];by_cases hm:m=[]
    · subst hm
      refine .inr ⟨acc++[r.1],rfl,?_⟩;have hg:(acc++[r.1]).getD (l.length-1) eT=r.1:=by
       rw[hll,aaS];simp
      rw[hg];show RW _ r=_;unfold RW;rw[aaT (by simp[h0]),aaT (by show¬((acc.length:Int)+1<(l.length:Int));rw[hll,acC];omega)]
    · have hm1:1<=m.length:=by
       cases m with
       |nil=>exact absurd rfl hm
       |cons _ _=>simp
      have hf:RW ⟨l,inp,ps,1,(acc.length:Int),acc,[],[],0⟩ r=⟨l,inp,ps,1,((acc++[r.1]).length:Int),acc++[r.1],[],[],0⟩:=by
       unfold RW;rw[aaT (by simp[h0]),aaW (by show(acc.length:Int)+1<(l.length:Int);omega)];simp
      rw[hf];exact YC l inp ps m (pre++[n]) (acc++[r.1]) (by rw[hl];simp) (by simp[hp]) hm
  · have he:evF inp ps (n::m) acc=([],(acc.length:Int),r.2):=by rw[evF,hr,aaT h0]
    have hf:RW ⟨l,inp,ps,1,(acc.length:Int),acc,[],[],0⟩ r=iw l inp ps (acc.length:Int) r.2:=by
     unfold RW;rw[aaW h0]
    rw[he,hf];exact .inl ⟨_,_,rfl,h0,gD (by show(3:Int)<=4;omega) _⟩
theorem Oz{l:List Nd}(h:aK l=true):∃r,fW l=r++[(l.length:Int)-1]:=by
 have h1:=(aO.1 h).1;obtain⟨n,hn⟩:∃n,l.length=n+1:=⟨l.length-1,oM⟩
 unfold fW;rw[aaW h,hn,ja];have hm:(n:Int)∈uH l:=lY l (by simp;omega);rw[aaW (by simpa using hm)];exact⟨upTo n (uH l),by rw[show((n+1:Nat):Int)-1=(n:Int) by push_cast;omega]⟩
def Chain(live:BU):BU->Prop
 | []=>True
 |x::R=>0<=x/\tw live x=R.headD (-1)/\Chain live R
theorem YS(x:Int):∀(A:BU) (n:Int),(∀y∈A,y<x)->A.foldl (fun n y=>if y<x then y else n) n=A.reverse.headD n
 | [],n,_=>rfl
 |y::A,n,h=>by
  rw[List.foldl_cons,aaW (h y sC),YS x A y (fun z hz=>h z (ab1 _ hz)),List.reverse_cons]
  cases A.reverse with
  |nil=>rfl
  |cons _ _=>rfl
theorem YF(x:Int):∀(B:BU) (n:Int),(∀y∈B,x<=y)->B.foldl (fun n y=>if y<x then y else n) n=n
 | [],n,_=>rfl
 |y::B,n,h=>by
  rw[List.foldl_cons,aaT (by have:=h y sC;omega)];exact YF x B n fun z hz=>h z (ab1 _ hz)
theorem YV{lv:BU}(hs:lv.Pairwise (· < ·))(h0:∀x∈lv,0<=x):∀(k:Nat) (A B:BU),A.length=k->lv=A++B->Chain lv A.reverse:=by
 intro k
 induction k with
 |zero=>
  intro A B hk _;rw[abd hk]
  trivial
 |succ k ih=>
  intro A B hk e;obtain⟨A',x,rfl⟩:∃A' x,A=A'++[x]:=by
   refine⟨A.dropLast,A.getLast (by intro h;rw[h]at hk;cases hk),(List.dropLast_concat_getLast _).symm⟩
  have e2:lv=A'++(x::B):=by rw[e];simp
  rw[List.reverse_append];show Chain lv (x::A'.reverse);have hp:=hs;rw[e2,List.pairwise_append]at hp;refine⟨h0 x (by rw[e2];simp),?_,ih A' (x::B) (by simpa using hk) e2⟩;unfold tw
  conv=>lhs;rw[e2,List.foldl_append]
  rw[YS x A' (-1) (fun y hy=>hp.2.2 y hy x sC),YF x (x::B) _ (fun y hy=>by
   by_cases h:y=x
   · omega
   · have:=(List.pairwise_cons.1 hp.2.1).1 y ((abD.1 hy).resolve_left h)
     omega)]
theorem YP(l:List Nd)(inp:T)(ps vals:List T):∀(R:BU) (x:Int) (hang fD:List T),Chain (fW l) (x::R)->
  (∃a e,WQ l vals (x::R) hang fD=([],a,e)/\e≠0/\gS (R.length+1) ⟨l,inp,ps,2,x,vals,hang,fD,0⟩=iw l inp ps a e)∨
  ∃g h,WQ l vals (x::R) hang fD=(g,-1,0)/\gS (R.length+1) ⟨l,inp,ps,2,x,vals,hang,fD,0⟩=⟨l,inp,ps,3,-1,vals,h,eY vals 0 l g,0⟩
 |R,x,hang,fD,hc=>by
  obtain⟨h1,h2,h3⟩:=hc;obtain⟨d,hd⟩:∃d,dD (l.getD x.toNat nd0) vals hang fD x.toNat=d:=⟨_,rfl⟩
  have hs:lF ⟨l,inp,ps,2,x,vals,hang,fD,0⟩=VG ⟨l,inp,ps,2,x,vals,hang,fD,0⟩ d:=by
   unfold lF;rw[aaT (show¬((2:Int)=1) by decide),aaW rfl];unfold YH YR;show VG _ (dD (l.getD x.toNat nd0) vals hang fD x.toNat)=_;rw[hd]
  have hR:gS (R.length+1) ⟨l,inp,ps,2,x,vals,hang,fD,0⟩=gS R.length (VG ⟨l,inp,ps,2,x,vals,hang,fD,0⟩ d):=by
   show gS R.length (lF _)=_;rw[hs]
  rw[hR,WQ,hd];by_cases h0:d.2=0
  · rw[aaW h0]
    cases R with
    |nil=>
     refine .inr ⟨d.1.2,d.1.1,rfl,?_⟩;show VG _ d=_;unfold VG;rw[aaT (by simp[h0]),aaW (by show tw (fW l) x<0;rw[h2];decide)]
    |cons y R=>
     have hb:VG ⟨l,inp,ps,2,x,vals,hang,fD,0⟩ d=⟨l,inp,ps,2,y,vals,d.1.1,d.1.2,0⟩:=by
      unfold VG;have e:tw (fW l) x=y:=h2;have h4:0<=y:=h3.1;rw[aaT (by simp[h0]),aaT (by show¬tw (fW l) x<0;rw[e];omega)];show(⟨l,inp,ps,2,tw (fW l) x,vals,d.1.1,d.1.2,0⟩:Tpe)=_;rw[e]
     rw[hb,abg];exact YP l inp ps vals R y d.1.1 d.1.2 h3
  · rw[aaT h0]
    refine .inl ⟨x,d.2,rfl,h0,?_⟩;have hb:VG ⟨l,inp,ps,2,x,vals,hang,fD,0⟩ d=iw l inp ps x d.2:=by unfold VG;rw[aaW h0]
    rw[hb];exact gD (by show(3:Int)<=4;omega) _
/-- All that TapeEnds wants: whatever was stepped enough has come to what gradV tells. -/
theorem Zc(l:List Nd)(inp:T)(ps:List T){N:Nat}(hN:l.length+(fW l).length<=N):
  (∃a e,jE l inp ps=([],0,a,e)/\e≠0/\gS N (eM l inp ps)=iw l inp ps a e)∨
  ∃g h v x,jE l inp ps=(g,x,-1,0)/\gS N (eM l inp ps)=⟨l,inp,ps,3,-1,v,h,g,0⟩/\v.length=l.length/\1<=l.length/\(v.getD (l.length-1) eT).2=[x]:=by
 by_cases hsh:(aH l).2.2=0
 · have hck:aK l=true:=by
    cases e:aK l with
    |true=>rfl
    |false=>unfold aH at hsh;rw[aaT (by simp[e])]at hsh;cases hsh
   have h1:=(aO.1 hck).1;have hb:eM l inp ps=⟨l,inp,ps,1,0,[],[],[],0⟩:=by unfold eM;rw[aaW hsh]
   have ha:fI l inp ps=evF inp ps l []:=by unfold fI;rw[aaW hsh]
   rw[hb];obtain⟨M,rfl⟩:∃M,N=l.length+M:=⟨N-l.length,oM⟩
   rw[ql];have hne:l≠ []:=fun e=>by rw[e]at h1;exact absurd h1 dG
   rcases YC l inp ps l [] [] rfl rfl hne with⟨i,e,e1,e2,e3⟩|⟨v,e1,e3⟩
   · rw[show gS l.length ⟨l,inp,ps,1,0,[],[],[],0⟩=iw l inp ps i e from e3,gD (by show(3:Int)<=4;omega)]
     refine .inl ⟨i,e,?_,e2,rfl⟩;unfold jE;rw[ha,e1,aaW e2]
   · rw[show gS l.length ⟨l,inp,ps,1,0,[],[],[],0⟩=_ from e3]
     by_cases hbig:1<(v.getD (l.length-1) eT).2.length
     · rw[aaW hbig,gD (by show(3:Int)<=4;omega)]
       refine .inl ⟨_,150,?_,dG,rfl⟩;unfold jE;rw[ha,e1,aaT sC,aaW hbig]
     · rw[aaT hbig]
       have hG:jE l inp ps=if(dB l v).2.2≠0 then([],0,(dB l v).2.1,(dB l v).2.2)else(eY v 0 l (dB l v).1,(v.getD (l.length-1) eT).2.getD 0 0,-1,0):=by
        unfold jE;rw[ha,e1,aaT sC,aaT hbig]
       rw[Xj hck]at hG;obtain⟨r,hr⟩:=Oz hck;have hrev:(fW l).reverse=((l.length:Int)-1)::r.reverse:=by rw[hr];simp
       have hlen:(fW l).length=r.reverse.length+1:=by rw[hr];simp
       have hch:Chain (fW l) (fW l).reverse:=YV (by rw[<-Xb hck];exact Xv _ _) (fun x hx=>by
        rw[<-Xb hck]at hx;obtain⟨⟨i,_,rfl⟩,_⟩:=Gd.1 hx;omega) _ (fW l) [] rfl sC
       rw[hrev]at hch hG;obtain⟨M2,rfl⟩:∃M2,M=(r.reverse.length+1)+M2:=⟨M-(r.reverse.length+1),oM⟩
       rw[ql];rcases YP l inp ps v r.reverse _ (qx l v) (List.replicate 8 eT) hch with⟨a,e,f1,f2,f3⟩|⟨g,h,f1,f3⟩
       · rw[f3,gD (by show(3:Int)<=4;omega)]
         rw[f1,aaW f2]at hG;exact .inl ⟨a,e,hG,f2,rfl⟩
       · rw[f3,gD (by show(3:Int)<=3;omega)]
         rw[f1,aaT sC]at hG;have hvl:v.length=l.length:=by
          rcases DA l inp ps with⟨t,q1,q2,_⟩|⟨_,_,q1,q2,_⟩
          · rw[ha,e1]at q1
            obtain⟨rfl,_⟩:=Prod.mk.inj q1;exact q2
          · rw[ha,e1]at q1
            injection q1 with _ q1
            injection q1 with _ q1
            exact absurd q1.symm q2
         refine .inr ⟨_,h,v,_,hG,rfl,hvl,h1,?_⟩;have hn:l[l.length-1]?=some (l[l.length-1]' oM):=aaV _;have h5:=Sz hck e1 hvl hn;have h6:=(Hj (l[l.length-1]' oM).1 (l[l.length-1]' oM).2.2 (cq v (l[l.length-1]' oM).2.1) inp ps).2 (by rw[h5]);rw[h5]at h6;have h7:=WN h6
         match ho:(v.getD (l.length-1) eT).2,h7,hbig with
         | [x],_,_=>rfl
         | [],h,_=>exact absurd rfl h
         |_::_::_,_,h=>exact absurd sC h
 · have hb:eM l inp ps=iw l inp ps (aH l).2.1 (aH l).2.2:=by unfold eM;rw[aaT hsh]
   rw[hb,gD (by show(3:Int)<=4;omega)];refine .inl ⟨_,_,?_,hsh,rfl⟩;unfold jE fI;rw[aaT hsh,aaW hsh]
