import Derived.Test.YtokeebkaamjliaaGreatShAll
import Derived.Deep.DeepCutAuto
import Derived.Lib.Mul64
import Derived.Lib.BitFns
import Derived.Laws.CopyOwn
import Derived.RangeFuncNested
import Derived.RangeFuncBound
import Derived.Shelf.RegionOpen
import Derived.OwnWalkIn
import Derived.LoopNIn
import Derived.LoopIn
import Derived.StillTailTactics
import Derived.Lib.SmallJoins
set_option maxHeartbeats 16000000
set_option maxRecDepth 100000
set_option linter.unusedVariables false
set_option linter.unusedSimpArgs false
namespace Go.Proofs.ShM
open cF (cY cO fw dN)
def eC:BU->BU->BU
 |x::s,i::t=>(if x=1 then 0 else i)::eC s t
 |_,_=> []
def ew(s g:BU)(p:Int):Int:=plc s (eC s ((dR g p).drop (g.length-s.length)))
def aB(s d:BU):Bool:=okS s&&decide ((d.length:Int)=au s)
abbrev Tn:=BU×BU×Int
def dm(s:BU)(n:Int):Tn:=if okS s=true then(s,List.replicate (au s).toNat n,0)else([],[],20)
def pO(s d t:BU):Int×Int:=if aB s d=true then gn s t else(0,30)
def atV(s d t:BU):Int×Int:=if(pO s d t).2=0 then(d.getD (pO s d t).1.toNat 0,0)else(0,(pO s d t).2)
def bK(s d g:BU)(k:Nat):BU:=(List.range k).map fun i:Nat=>d.getD (ew s g i).toNat 0
def cm(s d g:BU):Tn:=
 if aB s d=true then(if cw s g=true then(g,bK s d g (au g).toNat,0)else([],[],20))else([],[],30)
def fG(f:Nat->Nat):BU->Nat->BU->BU×Int
 |zs,_,[]=>(zs,0)
 |zs,k,x::d=>if(cY (zs.getD (f k) 0) x).2=0 then fG f (zs.set (f k) (cY (zs.getD (f k) 0) x).1) (k+1) d else([],(cY (zs.getD (f k) 0) x).2)
def fF(s g d:BU):BU×Int:=fG (fun i=>(ew s g i).toNat) (List.replicate (au s).toNat 0) 0 d
def dw(g d s:BU):Tn:=
 if aB g d=true then(if cw s g=true then(if(fF s g d).2=0 then(s,(fF s g d).1,0)else([],[],(fF s g d).2))else([],[],20))else([],[],30)
def AL:BU->BU->Prop
 |x::s,y::g=>(x=1∨x=y)/\AL s g
 | [],[]=>True
 |_,_=>False
def lI:BU->BU->Int->Int
 |x::s,_::g,p=>(if x=1 then 0 else p/ai g)*ai s+lI s g (p%ai g)
 |_,_,_=>0
theorem RA{x y:Int}(h:jn x y=some y):x=1∨x=y:=by
 unfold jn at h;split at h
 ·injection h with h;exact .inr h
 ·split at h
  ·exact .inl (by assumption)
  ·cases h
theorem GI{s:BU}:∀{g:BU},s.length=g.length->kJ s g=some g->AL s g:=by
 induction s with
 |nil=>intro g h _;cases g with
  |nil=>trivial
  |cons _ _=>simp at h
 |cons x s ih=>
  intro g h hj
  cases g with
  |nil=>simp at h
  |cons y g=>
   simp only[kJ,acL,ab0]at hj;obtain⟨z,hz,l,hl,e⟩:=hj;injection e with e1 e2
   subst e1 e2;exact⟨RA hz,ih (by simpa using h) hl⟩
theorem vK{n:Nat}{s:BU}(h:n<=s.length):pad n s=s:=by unfold pad;rw[show n-s.length=0 by omega];rfl
theorem pQ(n:Nat)(s:BU):ai (pad n s)=ai s:=by
 unfold pad;generalize n-s.length=k
 induction k with
 |zero=>rfl
 |succ k ih=>rw[acY,abX];simp[ai,ih]
theorem dP{s g:BU}(h:cw s g=true):okS s=true/\okS g=true/\s.length<=g.length/\AL (pad g.length s) g:=by
 have j:=fU.1 h;have hl:=j.sizes.2;refine⟨j.1,j.2.1,hl,?_⟩;have e:bG s g=(g,0):=fR.2 j;unfold bG at e;rw[aaW (by simp[j.1,j.2.1])]at e
 cases hj:kI s g with
 |none=>rw[hj]at e;simp at e
 |some l=>
  rw[hj]at e;simp only at e;split at e
  ·injection e with e1 _
   subst e1;unfold kI at hj;rw[show max s.length l.length=l.length by omega,vK (s:=l) (aaZ _)]at hj;exact GI (Ks hl) hj
  ·simp at e
theorem JW(s:BU):∀(g:BU) (p:Int),s.length=g.length->lI s g p=plc s (eC s (dR g p)):=by
 induction s with
 |nil=>intro g p h;cases g<;>simp[lI,plc]
 |cons x s ih=>
  intro g p h
  cases g with
  |nil=>simp at h
  |cons y g=>simp only[lI,dR,eC,plc];rw[ih g _ (by simpa using h)]
theorem Et(s:BU)(k:Nat):∀(g:BU) (p:Int),s.length+k=g.length->lI (List.replicate k 1++s) g p=plc s (eC s ((dR g p).drop k)):=by
 induction k with
 |zero=>intro g p h;exact JW s g p h
 |succ k ih=>
  intro g p h
  cases g with
  |nil=>simp at h
  |cons y g=>
   rw[acY,abX];simp only[lI,if_true,dR,List.drop_succ_cons,Int.zero_mul,Int.zero_add];exact ih g _ (by simp at h;omega)
theorem zS{s g:BU}(h:s.length<=g.length)(p:Int):ew s g p=lI (pad g.length s) g p:=by
 unfold ew pad;rw[Et s _ g p oM]
theorem mH{y P p:Int}(hP:1<=P)(h0:0<=p)(h1:p<y*P):0<=p/P/\p/P<y/\0<=p%P/\p%P<P:=
 ⟨Int.ediv_nonneg h0 oM,Int.ediv_lt_of_lt_mul oM h1,Int.emod_nonneg _ oM,Int.emod_lt_of_pos _ oM⟩
theorem mU{q r x P:Int}(hP:1<=P)(h0:0<=q)(h1:q<x)(h2:0<=r)(h3:r<P):0<=q*P+r/\q*P+r<x*P/\(q*P+r)/P=q/\(q*P+r)%P=r:=by
 have a:=Int.mul_nonneg h0 (show 0<=P by omega);have b:=abY (show q+1<=x by omega) (show 0<=P by omega);rw[Int.add_mul,Int.one_mul]at b;refine⟨oM,oM,?_,?_⟩
 ·rw[Int.add_comm,Int.add_mul_ediv_right _ _ oM,acO h2 h3];omega
 ·rw[Int.add_comm,Int.add_mul_emod_self_right,Int.emod_eq_of_lt h2 h3]
theorem tO{s:BU}:∀{g:BU} {p:Int},AL s g->g.all aX=true->0<=p->p<ai g->0<=lI s g p/\lI s g p<ai s/\1<=ai s:=by
 induction s with
 |nil=>intro g p h _ _ _;cases g with
  |nil=>simp[lI,ai]
  |cons _ _=>exact h.elim
 |cons x s ih=>
  intro g p h hg h0 h1
  cases g with
  |nil=>exact h.elim
  |cons y g=>
   simp only[ach,abb]at hg;have hp:=aY hg.2;have hy:=ct.1 hg.1;obtain⟨a,b,c,d⟩:=mH hp h0 (by simpa [ai]using h1);obtain⟨i1,i2,i3⟩:=ih h.2 hg.2 c d;simp only[lI,ai];have hx:1<=x:=by rcases h.1 with e|e<;>omega
   have hq:0<=(if x=1 then 0 else p/ai g)/\(if x=1 then 0 else p/ai g)<x:=by
    split
    ·omega
    ·rcases h.1 with e|e
     ·contradiction
     ·omega
   obtain⟨l1,l2,_,_⟩:=mU i3 hq.1 hq.2 i1 i2;have:=acR hx i3 oM oM;exact⟨l1,l2,oM⟩
theorem zU{s:BU}:∀{p:Int},s.all aX=true->0<=p->p<ai s->lI s s p=p:=by
 induction s with
 |nil=>intro p _ h0 h1;simp[ai]at h1;show(0:Int)=p;omega
 |cons x s ih=>
  intro p hs h0 h1;simp only[ach,abb]at hs;have hp:=aY hs.2;obtain⟨a,b,c,d⟩:=mH hp h0 (by simpa [ai]using h1);simp only[lI,ih hs.2 c d];have e:=acG p (ai s);rw[acn]at e;split
  ·have:p/ai s=0:=by omega
   rw[this]at e;omega
  ·exact e
theorem bI{s:BU}(h:okS s=true):s.all aX=true:=(aD.1 h).2.1
theorem q9{s g:BU}(h:cw s g=true){p:Int}(h0:0<=p)(h1:p<ai g):0<=ew s g p/\ew s g p<ai s:=by
 obtain⟨_,b,c,d⟩:=dP h;rw[zS c];obtain⟨e,f,_⟩:=tO d (bI b) h0 h1;rw[pQ]at f;exact⟨e,f⟩
theorem vp{s:BU}(h:okS s=true){p:Int}(h0:0<=p)(h1:p<ai s):ew s s p=p:=by
 rw[zS (aaZ _),vK (aaZ _),zU (bI h) h0 h1]
theorem KU{s:BU}:∀{g:BU} {t:BU},AL s g->g.all aX=true->aZ g t=true->aZ s (eC s t)=true:=by
 induction s with
 |nil=>intro g t _ _ _;cases t<;>rfl
 |cons x s ih=>
  intro g t h hg ht
  cases g with
  |nil=>exact h.elim
  |cons y g=>
   cases t with
   |nil=>simp[aZ]at ht
   |cons i t=>
    simp only[ach,abb]at hg;simp only[aZ,abb,acz]at ht;have hy:=ct.1 hg.1;simp only[eC,aZ,abb,acz];refine⟨?_,ih h.2 hg.2 ht.2⟩;split
    ·omega
    ·rcases h.1 with e|e
     ·contradiction
     ·omega
theorem Mu(k:Nat):∀{s g:BU},AL (List.replicate k 1++s) g->AL s (g.drop k):=by
 induction k with
 |zero=>intro s g h;exact h
 |succ k ih=>intro s g h;cases g with
  |nil=>exact h.elim
  |cons y g=>exact ih h.2
theorem Ll{g:BU}(k:Nat):∀{t:BU},k<=g.length->aZ g t=true->aZ (g.drop k) (t.drop k)=true:=by
 induction k generalizing g with
 |zero=>intro t _ h;exact h
 |succ k ih=>intro t hk h;cases g with
  |nil=>simp at hk
  |cons y g=>cases t with
   |nil=>simp[aZ]at h
   |cons i t=>
    simp only[aZ,abb]at h;exact ih (by simpa using hk) h.2
theorem LB{s g t:BU}(h:cw s g=true)(ht:aZ g t=true):aZ s (eC s (t.drop (g.length-s.length)))=true:=by
 obtain⟨a,b,c,d⟩:=dP h;exact KU (Mu _ d) (dA (bI b) _) (Ll _ oM ht)
theorem zP{s g:BU}(h:cw s g=true){p:Int}(h0:0<=p)(h1:p<ai g):gn s (eC s ((dR g p).drop (g.length-s.length)))=(ew s g p,0):=by
 obtain⟨a,b,c,d⟩:=dP h;exact jj a (LB h (uY (bI b) h0 h1).1)
def sg:Nat->(Nat->Int)->Int
 |0,_=>0
 |n+1,F=>sg n F+F n
theorem ez{n:Nat}{F G:Nat->Int}(h:∀i,i<n->F i=G i):sg n F=sg n G:=by
 induction n with
 |zero=>rfl
 |succ n ih=>simp only[sg];rw[ih fun i hi=>h i oM,h n oM]
theorem Ad(n:Nat):sg n (fun _=>0)=0:=by
 induction n with
 |zero=>rfl
 |succ n ih=>simp only[sg,ih];omega
theorem Ny(n:Nat)(F:Nat->Int)(c:Int):sg n (fun i=>F i*c)=sg n F*c:=by
 induction n with
 |zero=>simp[sg]
 |succ n ih=>simp only[sg,ih];rw[Int.add_mul]
theorem Nx{n k:Nat}(hk:k<n)(c:Int):sg n (fun j=>if k=j then c else 0)=c:=by
 induction n with
 |zero=>omega
 |succ n ih=>
  simp only[sg];by_cases h:k=n
  ·subst h;rw[ez (G:=fun _=>0) fun i hi=>aaT oM,Ad];simp
  ·rw[ih oM,aaT h];omega
theorem vv(a b:Nat)(F:Nat->Int):sg (a+b) F=sg a F+sg b fun i=>F (a+i):=by
 induction b with
 |zero=>simp[sg]
 |succ b ih=>rw[<-Nat.add_assoc];simp only[sg,ih];omega
theorem JZ(y P:Nat)(F:Nat->Int):sg (y*P) F=sg y fun q=>sg P fun r=>F (q*P+r):=by
 induction y with
 |zero=>simp[sg]
 |succ y ih=>rw[Nat.succ_mul,vv,ih];rfl
theorem zT{s:BU}:∀{g:BU} {p:Int},AL s g->g.all aX=true->0<=p->p<ai s->sg (ai g).toNat (fun i=>if lI s g i=p then 1 else 0)*ai s=ai g:=by
 induction s with
 |nil=>
  intro g p h _ h0 h1
  cases g with
  |nil=>
       simp[ai]at h1⊢;have:p=0:=by omega
       subst this;simp[sg,lI]
  |cons _ _=>exact h.elim
 |cons x s ih=>
  intro g p h hg h0 h1
  cases g with
  |nil=>exact h.elim
  |cons y g=>
   simp only[ach,abb]at hg;have hP:=aY hg.2;have hy:=ct.1 hg.1;have hQ:1<=ai s:=(tO h.2 hg.2 (Int.le_refl 0) oM).2.2;have e1:(ai (y::g)).toNat=y.toNat*(ai g).toNat:=by simp only[ai];rw[Int.toNat_mul oM oM]
   rw[e1,JZ];have hd:∀q r:Nat,r<(ai g).toNat->((q*(ai g).toNat+r:Nat):Int)/ai g=q/\((q*(ai g).toNat+r:Nat):Int)%ai g=r:=by
    intro q r hr;have:=mU (P:=ai g) (q:=q) (r:=r) (x:=(q:Int)+1) hP oM oM oM oM;have e:((q*(ai g).toNat+r:Nat):Int)=(q:Int)*ai g+r:=by
     rw[Int.natCast_add,ab4,acB oM]
    rw[e];exact⟨this.2.2.1,this.2.2.2⟩
   obtain⟨a,b,c,d⟩:=mH hQ h0 (by simpa [ai]using h1);have hp:=acG p (ai s);rw[acn]at hp;have hin:=ih h.2 hg.2 c d;by_cases hx:x=1
   ·subst hx;have hp0:p/ai s=0:=by omega
    have e2:(sg y.toNat fun q=>sg (ai g).toNat fun r=>if lI (1::s) (y::g) ((q*(ai g).toNat+r:Nat):Int)=p then 1 else 0)=
      sg y.toNat fun _=>sg (ai g).toNat fun r=>if lI s g r=p%ai s then 1 else 0:=by
     refine ez fun q _=>ez fun r hr=>?_
     simp only[lI,(hd q r hr).2,if_true,Int.zero_mul,Int.zero_add];rw[show p%ai s=p by rw[hp0]at hp;omega]
    rw[e2];have e3:∀(n:Nat) (c:Int),sg n (fun _=>c)=n*c:=by
     intro n c
     induction n with
     |zero=>simp[sg]
     |succ n ih=>simp only[sg,ih,Int.natCast_succ,Int.add_mul,Int.one_mul]
    rw[e3];simp only[ai,Int.one_mul];rw[acy,hin,acB oM]
   ·have hxy:x=y:=by
                rcases h.1 with e|e
                ·contradiction
                ·exact e
    subst hxy;have e2:(sg x.toNat fun q=>sg (ai g).toNat fun r=>if lI (x::s) (x::g) ((q*(ai g).toNat+r:Nat):Int)=p then 1 else 0)=
      sg x.toNat fun q=>if(p/ai s).toNat=q then(sg (ai g).toNat fun r=>if lI s g r=p%ai s then 1 else 0)else 0:=by
     refine ez fun q hq=>?_
     have hs:∀r:Nat,r<(ai g).toNat->lI (x::s) (x::g) ((q*(ai g).toNat+r:Nat):Int)=q*ai s+lI s g r:=by
      intro r hr;simp only[lI,(hd q r hr).1,(hd q r hr).2,aaT hx]
     split
     ·refine ez fun r hr=>?_
      rw[hs r hr];have hq':(q:Int)=p/ai s:=by omega
      rw[hq'];by_cases e:lI s g r=p%ai s
      ·rw[aaW (by rw[e];exact hp),aaW e]
      ·rw[aaT oM,aaT e]
     ·rename_i hne;refine(ez (G:=fun _=>0) fun r hr=>?_).trans (Ad _);rw[hs r hr,aaT];intro e;obtain⟨i1,i2,_⟩:=tO (p:=(r:Int)) h.2 hg.2 oM oM;have:=(mU (q:=(q:Int)) (x:=(q:Int)+1) hQ oM oM i1 i2).2.2.1;rw[e]at this;omega
    rw[e2,Nx oM];simp only[ai];rw[acn x,<-acy,hin,acn]
theorem Di{s g:BU}(h:cw s g=true){p:Int}(h0:0<=p)(h1:p<ai s):sg (ai g).toNat (fun i=>if ew s g i=p then 1 else 0)*ai s=ai g:=by
 obtain⟨a,b,c,d⟩:=dP h;have:=zT d (bI b) h0 (by rw[pQ];exact h1);rw[pQ]at this;rw[ez (G:=fun i=>if lI (pad g.length s) g i=p then 1 else 0) fun i _=>by rw[zS c]];exact this
theorem wE(f:Nat->Nat)(d:BU):∀(zs:BU) (k:Nat) (ys:BU),fG f zs k d=(ys,0)->ys.length=zs.length/\
  ∀p,p<zs.length->ys.getD p 0=zs.getD p 0+sg d.length fun i=>if f (k+i)=p then d.getD i 0 else 0:=by
 induction d with
 |nil=>intro zs k ys h;simp only[fG]at h;injection h with h _;subst h;exact⟨rfl,fun p _=>by simp[sg]⟩
 |cons x d ih=>
  intro zs k ys h;simp only[fG]at h;split at h
  ·rename_i he;obtain⟨h1,h2⟩:=ih _ _ _ h;have MO:(cY (zs.getD (f k) 0) x).1=zs.getD (f k) 0+x:=by
    rcases dN (zs.getD (f k) 0+x)with⟨_,_,e⟩|⟨_,e⟩
    ·unfold cY;rw[e]
    ·unfold cY at he;rw[e]at he;simp at he
   refine⟨by simpa using h1,fun p hp=>?_⟩;rw[h2 p (by simpa using hp),MO];have e:sg (d.length+1) (fun i=>if f (k+i)=p then(x::d).getD i 0 else 0)=(if f k=p then x else 0)+sg d.length fun i=>if f (k+1+i)=p then d.getD i 0 else 0:=by
    rw[Nat.add_comm d.length 1,vv];simp only[sg,Nat.add_zero,List.getD_cons_zero,Int.zero_add];congr 1;exact ez fun i _=>by rw[show k+(1+i)=k+1+i by omega,Nat.add_comm 1 i,List.getD_cons_succ]
   rw[abg,e];by_cases hf:f k=p
   ·subst hf;rw[aaW rfl];simp only[aaS,abt hp,ab5];omega
   ·rw[aaT hf];simp only[aaS,ab2 hf];omega
  ·rename_i he;injection h with _ h2
   exact absurd h2 he
theorem yN(f:Nat->Nat)(d:BU):∀(zs:BU) (k:Nat) (c:Int),0<=c->(∀p,p<zs.length-> -(c*k)<=zs.getD p 0/\zs.getD p 0<=c*k)->(∀i,i<d.length-> -c<=d.getD i 0/\d.getD i 0<=c)->
  (∀i,i<d.length->f (k+i)<zs.length)->c*(k+d.length:Nat)<=9223372036854775807->(fG f zs k d).2=0:=by
 induction d with
 |nil=>intros;rfl
 |cons x d ih=>
  intro zs k c hc hz hd hf hb;have hfk:=hf 0 sC;rw[Nat.add_zero]at hfk;have h1:=hz (f k) hfk;have h2:=hd 0 sC;rw[List.getD_cons_zero]at h2;have e1:c*((k+1:Nat):Int)=c*k+c:=by rw[Int.natCast_add,Int.mul_add];simp
  have hmon:c*((k+1:Nat):Int)<=c*(k+(x::d).length:Nat):=abL (by simp;omega) hc;have e:cY (zs.getD (f k) 0) x=(zs.getD (f k) 0+x,0):=cO oM oM;simp only[fG,e,if_true];refine ih _ (k+1) c hc (fun p hp=>?_) (fun i hi=>?_) (fun i hi=>?_) (by rw[show k+1+d.length=k+(x::d).length by simp;omega];exact hb)
  ·rw[abr]at hp;by_cases hfp:f k=p
   ·subst hfp;simp only[aaS,abt hp,ab5]at h1⊢;omega
   ·have:=hz p hp;simp only[aaS,ab2 hfp]at this⊢;omega
  ·have:=hd (i+1) (by simpa using hi);simpa using this
  ·have:=hf (i+1) (by simpa using hi);rw[show k+(i+1)=k+1+i by omega]at this;simpa using this
def bN(xs:BU):Prop:=∀x∈xs,-9223372036854775808<=x/\x<=9223372036854775807
theorem bN.bU:bN []:=fun x h=>by cases h
theorem bN.get{xs:BU}(h:bN xs){i:Nat}{x:Int}(hx:xs[i]?=some x): -9223372036854775808<=x/\x<=9223372036854775807:=h x (aa1 hx)
theorem bN.rep{n:Nat}{x:Int}(h: -9223372036854775808<=x/\x<=9223372036854775807):bN (List.replicate n x):=fun y hy=>by
 obtain⟨_,rfl⟩:=List.mem_replicate.1 hy;exact h
theorem bN.kY{xs:BU}(h:bN xs)(j:Nat){x:Int}(hx: -9223372036854775808<=x/\x<=9223372036854775807):bN (xs.set j x):=fun y hy=>by
 rcases acE hy with h'|rfl
 ·exact h y h'
 ·exact hx
theorem PK{a b:Int}: -9223372036854775808<=(cY a b).1/\(cY a b).1<=9223372036854775807:=by
 unfold cY;rcases dN (a+b)with⟨h1,h2,e⟩|⟨_,e⟩
 ·rw[e];exact⟨h1,h2⟩
 ·rw[e];simp
theorem aA{s d:BU}:aB s d=true↔okS s=true/\(d.length:Int)=ai s:=by
 unfold aB;simp only[abb,acz];exact⟨fun⟨a,b⟩=>⟨a,by rw[<-aL a];exact b⟩,fun⟨a,b⟩=>⟨a,by rw[aL a];exact b⟩⟩
theorem aW{s d:BU}(h:aB s d=true):okS s=true/\(au s).toNat=d.length/\1<=d.length/\d.length<=64:=by
 obtain⟨a,b⟩:=aA.1 h;have:=bT a;rw[aL a];exact⟨a,oM,oM,oM⟩
theorem nQ(s d g:BU)(k:Nat):(bK s d g k).length=k:=by simp[bK]
theorem bW{g:BU}(h:okS g=true):((au g).toNat:Int)=ai g:=by
 have:=bT h;rw[aL h];omega
theorem LL{a b:BU}(h:a.length=b.length)(k:∀i,i<a.length->a.getD i 0=b.getD i 0):a=b:=by
 refine List.ext_getElem h fun i h1 h2=>?_
 have:=k i h1;simpa [aaS,h1,h2]using this
theorem oB(g d s:BU):(aB g d=false/\dw g d s=([],[],30))∨(aB g d=true/\cw s g=false/\dw g d s=([],[],20))∨
  (aB g d=true/\cw s g=true/\(fF s g d).2≠0/\dw g d s=([],[],(fF s g d).2))∨
  (aB g d=true/\cw s g=true/\(fF s g d).2=0/\dw g d s=(s,(fF s g d).1,0)):=by
 unfold dw
 cases aB g d<;>cases cw s g<;>by_cases h:(fF s g d).2=0<;>simp[h]
theorem CW{s g d:BU}(h:cw s g=true)(k:(fF s g d).2=0):
  ((fF s g d).1.length:Int)=ai s/\∀p:Nat,(p:Int)<ai s->(fF s g d).1.getD p 0=sg d.length fun i=>if(ew s g i).toNat=p then d.getD i 0 else 0:=by
 have hn:=bW (dP h).1;have e:fF s g d=((fF s g d).1,0):=Prod.ext rfl k;obtain⟨h1,h2⟩:=wE _ d _ 0 _ e;rw[aa5]at h1 h2;refine⟨oM,fun p hp=>?_⟩;rw[h2 p oM];have:(List.replicate (au s).toNat (0:Int)).getD p 0=0:=by
  rw[aaS,abV];split<;>rfl
 rw[this,Int.zero_add];exact ez fun i _=>by rw[abw]
theorem uS{s g d:BU}(h:cw s g=true)(hd:(d.length:Int)=ai g)(hb:∀i,i<d.length-> -1099511627776<=d.getD i 0/\d.getD i 0<=1099511627776):(fF s g d).2=0:=by
 have hn:=bW (dP h).1;have hg:=bT (dP h).2.1;refine yN _ d _ 0 1099511627776 oM (fun p hp=>?_) hb (fun i hi=>?_) oM
 ·have:(List.replicate (au s).toNat (0:Int)).getD p 0=0:=by
   rw[aaS,abV];split<;>rfl
  rw[this];omega
 ·have:=q9 h (p:=((0+i:Nat):Int)) oM oM;rw[aa5];show(ew s g ((0+i:Nat):Int)).toNat<_;omega
theorem eN(n:Nat)(x:Int)(i:Nat)(h:i<n):(List.replicate n x).getD i 0=x:=by
 rw[aaS,abV,aaW h];rfl
theorem wB{s:BU}(n:Int)(h:okS s=true):aB s (List.replicate (au s).toNat n)=true:=aA.2 ⟨h,by rw[aa5,bW h]⟩
theorem CQ{s u:BU}{n:Int}(h:cw u s=true)(hn: -1099511627776<=n/\n<=1099511627776):
  ∃c:BU,dw s (List.replicate (au s).toNat n) u=(u,c,0)/\c.length=(au u).toNat/\∀(i:Nat) (x:Int),c[i]?=some x->x*c.length=n*(au s).toNat/\ -70368744177664<=x/\x<=70368744177664:=by
 obtain⟨b,a,_,_⟩:=dP h;have ha:=bW a;have hb:=bW b;have hd:((List.replicate (au s).toNat n).length:Int)=ai s:=by rw[aa5];exact ha
 have h3:=uS h hd (fun i hi=>by rw[aa5]at hi;rw[eN _ _ _ hi];exact hn);obtain⟨f1,f2⟩:=CW h h3;refine⟨(fF u s (List.replicate (au s).toNat n)).1,?_,oM,fun i x hx=>?_⟩
 ·unfold dw;rw[aaW (wB n a),aaW h,aaW h3]
 ·have hi:=(aaU.1 hx).1;have e:=f2 i oM;rw[aaS,hx,ab5,aa5]at e;have e2:(sg (au s).toNat fun j=>if(ew u s j).toNat=i then(List.replicate (au s).toNat n).getD j 0 else 0)=(sg (ai s).toNat fun j=>if ew u s j=i then 1 else 0)*n:=by
   rw[<-Ny,<-aL a];refine ez fun j hj=>?_
   have:=q9 h (p:=(j:Int)) oM oM;rw[eN _ _ _ hj];by_cases hc:ew u s j=i
   ·rw[aaW oM,aaW hc];simp
   ·rw[aaT oM,aaT hc];simp
  have hc:=Di h (p:=(i:Int)) oM oM;rw[e2]at e;generalize (sg (ai s).toNat fun j=>if ew u s j=i then(1:Int)else 0)=c at e hc;have p1:=bT a;have p2:=bT b;have c0:0<=c:=by
   rcases(show c<0∨0<=c by omega)with h|h
   ·have:=abY (show c<= -1 by omega) (show 0<=ai u by omega);omega
   ·exact h
  have c1:c<=64:=by
   have:=abL (show 1<=ai u by omega) c0;omega
  subst e;rw[f1,ha,<-hc];refine⟨by rw[acn c n,acy],?_,?_⟩
  ·have:=abL hn.1 c0;omega
  ·have:=abL hn.2 c0;omega
end Go.Proofs.ShM
namespace Go.Proofs.YtokeebkaamjliaaGreat
open RowKit ShM
namespace TnA
theorem Nj{s d:BU}(h:okS s=false):aB s d=false:=by unfold aB;rw[h];rfl
theorem Nk{s d:BU}(h:okS s=true):aB s d=((d.length:Int)==au s):=by
 unfold aB;rw[h,acD];simp
end TnA
theorem bM{f:FuncId}{args:Array Value}{w:World}{n:Nat}{v:Value}(h:CJ f args (w.drewN n) fun e w'=>e= .returned v/\w.drewN n=w'):
  CJ f args (w.drewN n) fun e w''=>e= .returned v/\∃m,w''=w.drewN m:=h.mono fun _ _ ⟨he,hm⟩=>⟨he,n,hm.symm⟩
theorem av(A B:DV)(c d:Nat)(s xs:BU)(w:World)(h:Rd w A s)(g:Rd w B xs):
  CJ 77 #[.agg #[.slice A s.length c, .slice B xs.length d]] w fun e w'=>e= .returned (.bool (aB s xs))/\Kp w w':=by
 have hl:=h.len;have gl:=g.len;have HC:Hid (∀W,Kp w W->CJ 44 #[.slice A s.length c] W fun e w'=>e= .returned (.bool (okS s))/\W=w'):=fun W k=>bQ A c s W (h.kp k)
 have HS:Hid (∀W,Kp w W->CJ 70 #[.slice A s.length c] W fun e w'=>e= .returned (.int .i64 (au s))/\W=w'):=fun W k=>bC A c s W (h.kp k)
 have K0:Hid (Kp w (w.alloc (.cells #[.slice A s.length c, .slice B xs.length d] 25))):=Kp.af _ _
 cases ho:okS s with
 |false=>
  rw[ho]at HC;have HF:=lH (TnA.Nj (d:=xs) ho);clear ho;go_enter Tryz.func77,Tryz.ntmps77;go_wp2;go_quiet ((go_at_call 44;exact bM (HC.out _ (K0.out.tr (Kp.aI _ _)))));go_wp2;go_ret;exact⟨cV HF.out.symm,K0.out.tr (Kp.aI _ _)⟩
 |true=>
  rw[ho]at HC;have HF:=lH (TnA.Nk (d:=xs) ho);clear ho;go_enter Tryz.func77,Tryz.ntmps77;go_wp2;go_quiet (first|(go_at_call 44;exact bM (HC.out _ (K0.out.tr (Kp.aI _ _))))|(go_at_call 70;exact bM (HS.out _ (K0.out.tr (Kp.aI _ _)))));go_wp2;go_ret;exact⟨cV HF.out.symm,K0.out.tr (Kp.aI _ _)⟩
def sS(n m:Nat):Bool:=decide (n<=100)&&decide (m<=100)
theorem C3(A B:DV)(c d n m:Nat)(w:World)(h:n<=9223372036854775807)(g:m<=9223372036854775807):
  CJ 13 #[.agg #[.slice A n c, .slice B m d]] w fun e w'=>e= .returned (.bool (sS n m))/\Kp w w':=by
 have K0:Hid (Kp w (w.alloc (.cells #[.slice A n c, .slice B m d] 25))):=Kp.af _ _;by_cases h1:n<=100
 ·have HF:Hid (decide ((m:Int)<=100)=sS n m):=by show _=sS n m;unfold sS;simp[h1];omega
  go_enter Tryz.func13,Tryz.ntmps13;go_wp2;go_ret;exact⟨cV HF.out,K0.out⟩
 ·have HF:Hid (sS n m=false):=by show sS n m=false;unfold sS;simp[h1]
  go_enter Tryz.func13,Tryz.ntmps13;go_wp2;go_ret;exact⟨cV HF.out.symm,K0.out⟩
def oQ(xs:BU)(w:World)(e:Ending)(w':World):Prop:=∃A c,e= .returned (.slice A xs.length c)/\Own w.heap.size w' (.slice A xs.length c) xs/\Kp w w'
theorem cv(A:DV)(c:Nat)(xs:BU)(w:World)(h:Rd w A xs)(hs:xs.length<=1000000):
  CJ 23 #[.slice A xs.length c] w (oQ xs w):=by
 have qT:∀(w:World) (a:DV) (n c:Nat),(binOp .eql 23 (.slice a n c) (zS)).run Tryz.prog w= .ok (.bool a.isNone) w:=fun w a n c=>Lib.run_eql_slice_nil w _ _ a n c 0 0 Tryz.underlying23
 cases A with
 |none=>
  obtain rfl:xs=[]:=by
   cases xs with
   |nil=>rfl
   |cons x xs=>obtain⟨ad,e,_⟩:=h.2 sC;cases e
  go_enter Tryz.func23,Tryz.ntmps23;go_wp2;go_ret;exact⟨none,0,rfl,Own.bU _ _,Kp.refl _⟩
 |some ad=>
  go_enter Tryz.func23,Tryz.ntmps23;go_wp2_with (at_builtin;refine dW rfl (.tmp 5) (.tmp 6) rfl _ [] rfl (Own.zero w (aaZ _)) (some ad) c xs _ rfl rfl (h.af _) (by simpa using hs) sC ?_;intro z1 A1 c1 w1 HZ o1 b1;have K1:=lH ((Kp.af w _).trans b1);have R1:=lH o1;clear o1 b1);go_ret;have hz:z1=xs:=by have:=HZ.out;simpa using this
  subst hz;exact⟨A1,c1,rfl,R1.out,K1.out⟩
open RowKit ShM
namespace TnB
theorem AQ(s d t:BU):(∃e:Int,(e=30∨e=20)/\pO s d t=(0,e))∨∃k:Nat,k<d.length/\pO s d t=((k:Int),0)/\aB s d=true:=by
 cases h:aB s d with
 |false=>exact .inl ⟨30, .inl rfl,by unfold pO;rw[h];rfl⟩
 |true=>
  obtain⟨a,b⟩:=aA.1 h;have e:pO s d t=gn s t:=by unfold pO;rw[aaW h]
  cases ht:aZ s t with
  |false=>exact .inl ⟨20, .inr rfl,by rw[e];exact jk (.inr ht)⟩
  |true=>
   obtain⟨p0,p1,_⟩:=IL (bI a) ht;refine .inr ⟨(plc s t).toNat,oM,?_,rfl⟩;rw[e,jj a ht,acB p0]
theorem PE{s d t:BU}{k:Nat}{x:Int}(h:pO s d t=((k:Int),0))(hx:d[k]?=some x):atV s d t=(x,0):=by
 unfold atV;rw[h];simp[hx]
theorem Dm{s d t:BU}{e:Int}(h:pO s d t=(0,e))(he:e=30∨e=20):atV s d t=(0,e):=by
 unfold atV;rw[h];rcases he with rfl|rfl<;>rfl
theorem NW{s d:BU}(t:BU)(h:aB s d=false):pO s d t=(0,30):=by unfold pO;rw[h];rfl
theorem NX{s d:BU}(t:BU)(h:aB s d=true):pO s d t=gn s t:=by unfold pO;rw[h];rfl
end TnB
theorem Jz.of{r:Int×Int}{n err:Int}{w w':World}(h:r=(n,err))(k:Kp w w'):Jz r.1 r.2 w (.returned (.tuple #[.int .i64 n, .int .i64 err])) w':=⟨by rw[h],k⟩
theorem Kk(A B C:DV)(c d g:Nat)(s xs t:BU)(w:World)(hA:Rd w A s)(hB:Rd w B xs)(hC:Rd w C t):
  CJ 187 #[.agg #[.slice A s.length c, .slice B xs.length d], .slice C t.length g] w (Jz (pO s xs t).1 (pO s xs t).2 w):=by
 have hl:=hA.len;have gl:=hB.len;have kl:=hC.len;have K0:Hid (Kp w (w.alloc (.cells #[.slice A s.length c, .slice B xs.length d] 25))):=Kp.af _ _;have HT:=lH (av A B c d s xs _ (hA.kp K0.out) (hB.kp K0.out))
 cases ht:aB s xs with
 |false=>
  rw[ht]at HT;have HF:=lH (TnB.NW t ht);clear ht;go_enter Tryz.func187,Tryz.ntmps187;go_wp2_with fail;refine(aa9 (Hid.out HT)) ?_;rintro e w1 ⟨rfl,k1⟩;go_wp2;go_ret2;exact Jz.of HF.out (K0.out.tr k1)
 |true=>
  rw[ht]at HT;have HF:=lH (TnB.NX t ht);clear ht;obtain⟨p,hp⟩:=eX (gn s t);have HP:Hid (∀W,Kp w W->CJ 197 #[.slice A s.length c, .slice C t.length g] W (SN p W)):=fun W k=>by rw[hp];exact rJ A C c g s t W (hA.kp k) (hC.kp k)
  rw[<-hp]at HF;clear hp;go_enter Tryz.func187,Tryz.ntmps187;go_wp2_with fail;refine(aa9 (Hid.out HT)) ?_;rintro e w1 ⟨rfl,k1⟩;have c0:w1.cell? ⟨w.heap.size,0,none⟩=some (.slice A s.length c):=(k1.cell (p:=⟨w.heap.size,0,none⟩) sC).trans (abB _ _ _ 0 rfl);have K1:=lH (K0.out.tr k1);clear k1;go_wp2_with fail;refine(aa9 (HP.out _ K1.out)) ?_;rintro e w2 ⟨rfl,n,rfl⟩;go_wp2;go_ret2;exact Jz.of HF.out (K1.out.tr (Kp.aI _ _))
theorem PF(A B C:DV)(c d g:Nat)(s xs t:BU)(w:World)(hA:Rd w A s)(hB:Rd w B xs)(hC:Rd w C t):
  CJ 165 #[.agg #[.slice A s.length c, .slice B xs.length d], .slice C t.length g] w (Jz (atV s xs t).1 (atV s xs t).2 w):=by
 have hl:=hA.len;have gl:=hB.len;have kl:=hC.len;have K0:Hid (Kp w (w.alloc (.cells #[.slice A s.length c, .slice B xs.length d] 25))):=Kp.af _ _;have HT:=lH (Kk A B C c d g s xs t _ (hA.kp K0.out) (hB.kp K0.out) (hC.kp K0.out));rcases TnB.AQ s xs t with⟨e,he,hp⟩|⟨k,hk,hp,_⟩
 ·rw[hp]at HT;have HF:=lH (TnB.Dm hp he);clear hp;rcases he with rfl|rfl
  all_goals
   go_enter Tryz.func165,Tryz.ntmps165;go_wp2_with fail;refine(aa9 (Hid.out HT)) ?_;rintro e w1 ⟨rfl,k1⟩;go_wp2;go_ret2;exact Jz.of HF.out (K0.out.tr k1)
 ·rw[hp]at HT;obtain⟨bd,x,rfl,hlt,hx,hc⟩:=hB.at_ hk;have HF:=lH (TnB.PE hp hx);clear hp hx;go_enter Tryz.func165,Tryz.ntmps165;go_wp2_with fail;refine(aa9 (Hid.out HT)) ?_;rintro e w1 ⟨rfl,k1⟩;have c0:w1.cell? ⟨w.heap.size,1,none⟩=some (.slice (some bd) xs.length d):=(k1.cell (p:=⟨w.heap.size,1,none⟩) sC).trans (abB _ _ _ 1 rfl);have c1:w1.cell? (bd.add k)=some (.int .i64 x):=((K0.out.tr k1).cell (by rw[ah];exact hlt)).trans hc;have K1:=lH (K0.out.tr k1);clear k1 hc;go_wp2;go_ret2;exact Jz.of HF.out K1.out
open RowKit ShM
section
variable{w w':World}{A B:DV}{xs:BU}{v:Value}{b n c:Nat}
theorem Rd.gW(h:Rd w A xs){p:Addr}(hp:∀ad,A=some ad->ad.block≠p.block)(u:Value):Rd (w.setCell p u) A xs:=
 ⟨h.1,fun hn=>by
  obtain⟨ad,e,hb,hc⟩:=h.2 hn;refine⟨ad,e,by rw[abG];exact hb,fun j x hx=>?_⟩;rw[World.cell?_setCell_other]
  ·exact hc j x hx
  ·intro e';exact hp ad e (by rw[e',ah])⟩
theorem Own.gW(h:Own b w v xs){p:Addr}(hp:p.block<b)(u:Value):Own b (w.setCell p u) v xs:=
 h.of_block fun g hg=>by
  have:=h.from_ hg;exact abq _ _ _ g oM
theorem Own.addr(h:Own b w (.slice A n c) xs)(hx:0<xs.length):∃g,A=some ⟨g,0,none⟩/\b<=g/\g<w.heap.size:=by
 rcases h.2 with⟨e,h0⟩|⟨g,cap,cur,e,hb,hh,_⟩
 ·omega
 ·injection e with e1 _ _
  exact⟨g,e1,hb,(aa0.1 hh).1⟩
theorem Own.Ir(h:Own b w v xs){g:Nat}(hg:v.ownBlock=some g):b<=g/\g<w.heap.size:=by
 rcases h.2 with⟨rfl,_⟩|⟨g',cap,cur,rfl,hb,hh,_⟩
 ·cases hg
 ·injection hg with hg
  subst hg;exact⟨hb,(aa0.1 hh).1⟩
theorem Own.ad(h:Own b w (.slice A n c) xs){ad:Addr}(hA:A=some ad):b<=ad.block/\ad.block<w.heap.size:=by
 subst hA;exact h.Ir rfl
theorem Sl.gW(h:Sl w A c xs){p:Addr}(hp:∀ad,A=some ad->ad.block≠p.block)(u:Value):Sl (w.setCell p u) A c xs:=⟨h.rd.gW hp u,h.le,h.cap⟩
theorem Sl.of(h:Rd w A xs)(hc:xs.length<=c/\c<=9223372036854775807):Sl w A c xs:=⟨h,hc.1,hc.2⟩
theorem Sl.room(h:Sl w A c xs):xs.length<=c/\c<=9223372036854775807:=⟨h.le,h.cap⟩
theorem Sl.af(h:Sl w A c xs)(o:Obj):Sl (w.alloc o) A c xs:=h.kp (Kp.af _ _)
theorem Kp.al(h:Kp w w')(o:Obj):Kp w (w'.alloc o):=h.tr (Kp.af _ _)
end
/-- Where numbers lie, if there are any: not ahead of a place. -/
def Nw(B:Nat)(A:DV)(xs:BU):Prop:=0<xs.length->∀ad,A=some ad->B<=ad.block
theorem Nw.mo{B B':Nat}{A:DV}{xs:BU}(h:Nw B A xs)(hb:B'<=B):Nw B' A xs:=fun h0 ad e=>ab3 hb (h h0 ad e)
theorem Nw.bU(B:Nat)(A:DV):Nw B A []:=fun h=>absurd h sC
theorem Own.nw{B b:Nat}{w:World}{A:DV}{n c:Nat}{xs:BU}(h:Own B w (.slice A n c) xs)(hb:b<=B):Nw b A xs:=fun h0 ad e=>by
 subst e;exact ab3 hb (h.Ir rfl).1
/-- Numbers with room that lie so. -/
structure Sw(B:Nat)(w:World)(A:DV)(c:Nat)(xs:BU):Prop extends Sl w A c xs where
 nw:Nw B A xs
instance {B:Nat} {w:World} {A:DV} {c:Nat} {xs:BU}:CoeOut (Sw B w A c xs) (Sl w A c xs):=⟨Sw.toSl⟩
theorem Sw.kp{B:Nat}{w w':World}{A:DV}{c:Nat}{xs:BU}(h:Sw B w A c xs)(k:Kp w w'):Sw B w' A c xs:=⟨h.toSl.kp k,h.nw⟩
theorem Sw.mo{B b:Nat}{w:World}{A:DV}{c:Nat}{xs:BU}(h:Sw B w A c xs)(hb:b<=B):Sw b w A c xs:=⟨h.toSl,h.nw.mo hb⟩
theorem Own.sw{B b:Nat}{w:World}{A:DV}{n c:Nat}{xs:BU}(h:Own B w (.slice A n c) xs)(hb:b<=B):Sw b w A c xs:=⟨h.sl,h.nw hb⟩
/-- A tensor and its error, whose numbers lie so. -/
def Za(b0:Nat)(r:Tn)(w:World)(e:Ending)(w':World):Prop:=
 ∃A c B d,e= .returned (.tuple #[.agg #[.slice A r.1.length c, .slice B r.2.1.length d], .int .i64 r.2.2])/\Sw b0 w' A c r.1/\Sw b0 w' B d r.2.1/\Kp w w'
abbrev aG(r:Tn)(w:World)(e:Ending)(w':World):Prop:=Za w.heap.size r w e w'
theorem aG.of{b0:Nat}{r:Tn}{l m:BU}{err:Int}{w w':World}{A B:DV}{c d:Nat}(h:r=(l,m,err))(hA:Sl w' A c l)(hB:Sl w' B d m)(k:Kp w w')(nA:Nw b0 A l)(nB:Nw b0 B m):
  Za b0 r w (.returned (.tuple #[.agg #[.slice A l.length c, .slice B m.length d], .int .i64 err])) w':=by
 subst h;exact⟨A,c,B,d,rfl,⟨hA,nA⟩,⟨hB,nB⟩,k⟩
theorem aG.on{b0:Nat}{r:Tn}{l m:BU}{a b:Nat}{err:Int}{w w':World}{A B:DV}{c d:Nat}(h:r=(l,m,err))(ha:a=l.length)(hb:b=m.length)(hA:Sl w' A c l)(hB:Sl w' B d m)(k:Kp w w')(nA:Nw b0 A l)(nB:Nw b0 B m):
  Za b0 r w (.returned (.tuple #[.agg #[.slice A a c, .slice B b d], .int .i64 err])) w':=by
 subst ha hb;exact aG.of h hA hB k nA nB
theorem aG.err{b0:Nat}{r:Tn}{err:Int}{w w':World}(h:r=([],[],err))(k:Kp w w'):Za b0 r w (.returned (.tuple #[.agg #[zS, zS], .int .i64 err])) w':=
 aG.of (A:=none) (B:=none) h (Sl.bU _) (Sl.bU _) k (Nw.bU _ _) (Nw.bU _ _)
theorem Za.mo{b0 b1:Nat}{r:Tn}{w:World}{e:Ending}{w':World}(h:Za b0 r w e w')(hb:b1<=b0):Za b1 r w e w':=by
 obtain⟨A,c,B,d,e,hA,hB,k⟩:=h;exact⟨A,c,B,d,e,⟨hA.toSl,hA.nw.mo hb⟩,⟨hB.toSl,hB.nw.mo hb⟩,k⟩
structure Fr(w:World)(A:DV)(n c:Nat)(B:DV)(m d:Nat)(w':World):Prop where
 kp:Kp w w'
 b0:w'.cell? ⟨w.heap.size,0,none⟩=some (.slice A n c)
 b1:w'.cell? ⟨w.heap.size,1,none⟩=some (.slice B m d)
 r0:w'.cell? ⟨w.heap.size+1,0,none⟩=some (zS)
 r1:w'.cell? ⟨w.heap.size+1,1,none⟩=some (zS)
 f0:w'.frozen? ⟨w.heap.size+1,0,none⟩=false
 f1:w'.frozen? ⟨w.heap.size+1,1,none⟩=false
 sz:w.heap.size+2<=w'.heap.size
theorem Fr.tr{w:World}{A:DV}{n c:Nat}{B:DV}{m d:Nat}{a b:World}(h:Fr w A n c B m d a)(k:Kp a b):Fr w A n c B m d b where
 kp:=h.kp.tr k
 b0:=(k.cell (p:=⟨w.heap.size,0,none⟩) (by have:=h.sz;show w.heap.size<_;omega)).trans h.b0
 b1:=(k.cell (p:=⟨w.heap.size,1,none⟩) (by have:=h.sz;show w.heap.size<_;omega)).trans h.b1
 r0:=(k.cell (p:=⟨w.heap.size+1,0,none⟩) (by have:=h.sz;show w.heap.size+1<_;omega)).trans h.r0
 r1:=(k.cell (p:=⟨w.heap.size+1,1,none⟩) (by have:=h.sz;show w.heap.size+1<_;omega)).trans h.r1
 f0:=(k.frozen (p:=⟨w.heap.size+1,0,none⟩) (by have:=h.sz;show w.heap.size+1<_;omega)).trans h.f0
 f1:=(k.frozen (p:=⟨w.heap.size+1,1,none⟩) (by have:=h.sz;show w.heap.size+1<_;omega)).trans h.f1
 sz:=ab3 h.sz k.size
theorem Fr.mk_(w:World)(A:DV)(n c:Nat)(B:DV)(m d:Nat)(t:TypeId):Fr w A n c B m d ((w.alloc (.cells #[.slice A n c, .slice B m d] t)).alloc (.cells #[zS, zS] t)) where
 kp:=(Kp.af _ _).tr (Kp.af _ _)
 b0:=by simp
 b1:=by simp
 r0:=by simp
 r1:=by simp
 f0:=by simp
 f1:=by simp
 sz:=by simp
theorem Fr.end_{w:World}{A:DV}{n c:Nat}{B:DV}{m d:Nat}{a:World}(h:Fr w A n c B m d a)(x y:Value):Kp w ((a.setCell ⟨w.heap.size+1,0,none⟩ x).setCell ⟨w.heap.size+1,1,none⟩ y):=
 (h.kp.setCell (p:=⟨w.heap.size+1,0,none⟩) sC x).setCell (p:=⟨w.heap.size+1,1,none⟩) sC y
theorem bp{w:World}{p q:Addr}{u v:Value}(h:p≠q)(hc:w.cell? q=some v):(w.setCell p u).cell? q=some v:=by
 rw[World.cell?_setCell_other]
 ·exact hc
 ·exact h
theorem mB{w:World}{p q:Addr}{u:Value}(h:p≠q)(hc:(w.cell? q).isSome=true):((w.setCell p u).cell? q).isSome=true:=by
 rw[World.cell?_setCell_other]
 ·exact hc
 ·exact h
namespace TnD
end TnD
open RowKit
namespace dh
theorem mask(a:Nat)(ha:a<18446744073709551616):bits .and .u64 (a:Int) 4294967295=((a%4294967296:Nat):Int):=by
 have h:=bits_and_u64_nat a 4294967295 ha oM;rw[show a&&&4294967295=a%4294967296 from Nat.and_two_pow_sub_one_eq_mod a 32]at h;exact h
theorem SE(a:Nat):(a:Int)/4294967296=((a/4294967296:Nat):Int):=by omega
theorem uy(a b:Nat):(a:Int)*(b:Int)=((a*b:Nat):Int):=(ab4 a b).symm
theorem QI(a b:Nat):(a:Int)+(b:Int)=((a+b:Nat):Int):=(Int.natCast_add a b).symm
theorem fX(a:Nat)(ha:a<18446744073709551616):IntKind.u64.wrap (a:Int)=(a:Int):=by rw[IntKind.wrap_u64];omega
theorem DU(a:Nat):IntKind.u64.wrap (a:Int)=((a%18446744073709551616:Nat):Int):=by rw[IntKind.wrap_u64];omega
end dh
theorem mP(x y:Nat)(hx:x<18446744073709551616)(hy:y<18446744073709551616)(w:World):
  CJ 171 #[.int .u64 x, .int .u64 y] w fun e w'=>e= .returned (.tuple #[.int .u64 ((x*y/18446744073709551616:Nat):Int), .int .u64 ((x*y%18446744073709551616:Nat):Int)])/\w=w':=by
 obtain⟨bd,bt,bw,hhi⟩:=Lib.mul64_hi x y hx hy;have ba:=Lib.half_mul_le (a:=x/4294967296) (b:=y/4294967296) oM oM;have bb:=Lib.half_mul_le (a:=x/4294967296) (b:=y%4294967296) oM oM;have bc:=Lib.half_mul_le (a:=x%4294967296) (b:=y/4294967296) oM oM;have ba':x/4294967296*(y/4294967296)<18446744073709551616:=by omega
 have bb':x/4294967296*(y%4294967296)<18446744073709551616:=by omega
 have bc':x%4294967296*(y/4294967296)<18446744073709551616:=by omega
 have b1:x/4294967296*(y/4294967296)+(x/4294967296*(y%4294967296)+x%4294967296*(y%4294967296)/4294967296)/4294967296<18446744073709551616:=by omega
 have b2:x/4294967296*(y/4294967296)+(x/4294967296*(y%4294967296)+x%4294967296*(y%4294967296)/4294967296)/4294967296+((x/4294967296*(y%4294967296)+x%4294967296*(y%4294967296)/4294967296)%4294967296+x%4294967296*(y/4294967296))/4294967296<18446744073709551616:=by omega
 go_enter Tryz.func171,Tryz.ntmps171;go_wp2;simp only[dh.mask x hx,dh.mask y hy,dh.SE,dh.uy,dh.QI,dh.fX _ bd,dh.fX _ bb',dh.fX _ bt,dh.mask _ bt,dh.fX _ bc',dh.fX _ bw,dh.fX _ ba',dh.fX _ b1,dh.fX _ b2,dh.DU (x*y)];rw[hhi];go_ret2;exact⟨rfl,rfl⟩
theorem qd(x y:Nat)(hx:x<18446744073709551616)(hy:y<18446744073709551616)(w:World):
  CJ 130 #[.int .u64 x, .int .u64 y] w fun e w'=>e= .returned (.tuple #[.int .u64 ((x*y/18446744073709551616:Nat):Int), .int .u64 ((x*y%18446744073709551616:Nat):Int)])/\w=w':=by
 have HC:=lH (mP x y hx hy w);generalize ((x*y/18446744073709551616:Nat):Int)=p at *;generalize ((x*y%18446744073709551616:Nat):Int)=q at *;clear hx hy;go_enter Tryz.func130,Tryz.ntmps130;go_wp2_with fail;refine(aa9 (Hid.out HC)) ?_;rintro e w1 ⟨rfl,rfl⟩;go_wp2;go_ret2;exact⟨rfl,rfl⟩
open RowKit ShM
def IG(n:Int)(m k:Nat):BU:=List.replicate m n++List.replicate (k-m) 0
theorem E9{n:Int}{m k:Nat}(h:m<=k):(IG n m k).length=k:=by unfold IG;simp;omega
theorem Fa(n:Int)(k:Nat):IG n k k=List.replicate k n:=by unfold IG;simp
def vG(n:Int)(m k:Nat):List Value:=(IG n m k).map (Value.int .i64)
theorem vF{n:Int}{m k:Nat}(h:m<=k):(vG n m k).length=k:=by unfold vG;rw[abA,E9 h]
theorem Ap(n:Int)(k:Nat):List.replicate k (Value.int .i64 0)=vG n 0 k:=by unfold vG IG;simp
theorem nU(n:Int)(m k c:Nat):splice (vG n m k) m (List.replicate c (Value.int .i64 n))=vG n (m+c) k:=by
 unfold splice vG IG;simp only[abK,List.map_replicate,aa5];rw[List.take_append_of_le_length sC,abS sC,List.drop_append];simp only[aa5,List.drop_replicate];rw[show m-(m+c)=0 by omega,show m+c-m=c by omega,show k-m-c=k-(m+c) by omega,<-acA,List.replicate_append_replicate];rfl
theorem Kf{n:Int}{m k j:Nat}(h:j<m):(vG n m k)[j]?=some (Value.int .i64 n):=by
 unfold vG IG;rw[aa7,aco (by simpa using h),abV,aaW h];rfl
theorem Ds(w:World)(o:Obj):(w.alloc o).heap[w.heap.size]?=some o:=by
 show(w.heap.push o)[w.heap.size]?=some o;simp
theorem cell_of_row{w:World}{g:Nat}{cs:List Value}{t:TypeId}(h:w.heap[g]?=some (.cells cs.toArray t (0,0)))(j:Nat){v:Value}(hv:cs[j]?=some v):w.cell? ⟨g,j,none⟩=some v:=by
 simp[World.cell?,h,hv]
theorem Own.Om{B g k:Nat}{w:World}{xs:BU}(hg:w.heap[g]?=some (.cells (xs.map (Value.int .i64)).toArray 3 (0,0)))(hB:B<=g)(hk:xs.length=k)(hm:k<=1000000):Own B w (.slice (some ⟨g,0,none⟩) k k) xs:=by
 subst hk;exact⟨by simp, .inr ⟨g,xs.length,_,rfl,hB,hg,aaZ _,by unfold maxLen;omega,by simp,by rw[Nat.mul_one];exact abS sC⟩⟩
theorem oQ.on{xs:BU}{n c:Nat}{A:DV}{w w':World}(hn:n=xs.length)(h:Own w.heap.size w' (.slice A n c) xs)(k:Kp w w'):oQ xs w (.returned (.slice A n c)) w':=by
 subst hn;exact⟨A,c,rfl,h,k⟩
theorem xL(n:Int)(k:Nat)(b:Nat)(w:World)(h0:0<k)(hk:k<=64)(hb:b<w.heap.size)(hc:w.cell? ⟨b,0,none⟩=some (.int .i64 n)):
  CJ 105 #[.slice (some ⟨b,0,none⟩) 1 1, .int .i64 (k:Int)] w (oQ (List.replicate k n) w):=by
 have HM:Hid (CJ 130 #[.int .u64 1, .int .u64 (k:Int)] w fun e w'=>e= .returned (.tuple #[.int .u64 0, .int .u64 (k:Int)])/\w=w'):=by
  have hh:=qd 1 k oM oM w;rw[show 1*k/18446744073709551616=0 by omega,show 1*k%18446744073709551616=k by omega]at hh;exact hh
 have e1:IntKind.u64.wrap (k:Int)=k:=IntWalk.u64_in _ oM;have e2:IntKind.i64.wrap (k:Int)=k:=IntWalk.i64_in _ oM;have d1:decide ((9223372036854775807:Int)<(k:Int))=false:=by simp;omega
 have hmk:=fun W=>run_mk W k oM
 obtain⟨cs,hcs⟩:=eX ((List.replicate k (Value.int .i64 0)).toArray);rw[<-hcs]at hmk;have HCS:=lH hcs;have HC:=lH hc;clear hcs hc;go_enter Tryz.func105,Tryz.ntmps105;go_wp2_with fail;refine(aa9 (Hid.out HM)) ?_;rintro e w1 ⟨rfl,rfl⟩
 go_upto_region 7 with fail
 have hs1:(Tryz.prog.info? 3).map (·.size)=some 1:=by kernel_rfl
 have hrow:(w.alloc (.cells cs 3)).heap[w.heap.size]?=some (.cells (vG n 0 k).toArray 3 (0,0)):=by rw[HCS.out,Ap n];exact Ds w _
 have hsrc:(w.alloc (.cells cs 3)).cell? ⟨b,0,none⟩=some (.int .i64 n):=((Kp.af w _).cell (p:=⟨b,0,none⟩) hb).trans HC.out;have hpos:0<(List.replicate 1 (Value.int .i64 n)).length->some (⟨w.heap.size,0,none⟩:Addr)=some ⟨w.heap.size,0,none⟩/\∃ad,some (⟨b,0,none⟩:Addr)=some ad/\∀j v,(List.replicate 1 (Value.int .i64 n))[j]?=some v->(w.alloc (.cells cs 3)).cell? (ad.add j)=some v:=fun _=>⟨rfl,⟨b,0,none⟩,rfl,fun j v hv=>by
  cases j with
  |zero=>injection hv with hv;rw[<-hv];exact hsrc
  |succ j=>simp at hv⟩
 go_wp2_with (refine wpList_copy_splice rfl (.tmp 31) (.tmp 32) 23 23 rfl 3 Tryz.underlying23 hs1 _ _ _ _ _ _ rfl rfl w.heap.size 0 (vG n 0 k) 3 hrow (List.replicate 1 (Value.int .i64 n)) (by show 1=min 1 k;omega) hpos (by rw[vF (aa6 _)];simp;omega) (by simp[Value.oneCell']) w.heap.size w (Kp.af w _) (aaZ _) ?_;intro w2 HR hB);clear hpos hrow hsrc d1 e1 e2 hmk
 go_loopw [8] (fun i wr=>∃m:Nat,i= .int .i64 m/\m<=k/\1<=m/\Hid (wr.heap[w.heap.size]?=some (.cells (vG n m k).toArray 3 (0,0)))/\Hid (Below w.heap.size w wr)) (fun i _=>k-(intOf i).toNat)
 case atStart=>exact⟨1,rfl,h0,aaZ _,by have:=HR.out;rw[nU n 0 k 1]at this;exact this,hB⟩
 case round=>
  obtain⟨m,rfl,hm,hm1,hr,hbl⟩:=hrel;by_cases hlt:m<k
  ·obtain⟨c,hcn⟩:=eX (min m (k-m));have hc1:c<=m:=by omega
   have hc2:m+c<=k:=by omega
   have hc3:1<=c:=by omega
   have HCN:=lH hcn;have hne:¬k=m:=by omega
   clear hcn;have hone:∀v∈List.replicate c (Value.int .i64 n),v.oneCell'=true:=fun v hv=>by obtain⟨_,rfl⟩:=List.mem_replicate.1 hv;rfl
   have hsrc:∀j v,(List.replicate c (Value.int .i64 n))[j]?=some v->wr.drew.cell? ((⟨w.heap.size,0,none⟩:Addr).add j)=some v:=fun j v hv=>by
    rw[abh,abw];have hj:j<c:=by simpa using(aaU.1 hv).1
    rw[abV,aaW hj]at hv;exact(cell_of_row hr.out j (Kf oM)).trans hv
   have HO:=lH (And.intro hone hsrc);clear hone hsrc;go_wp2
   go_region_law (refine step_copy_splice rfl (.tmp 41) (.tmp 44) 23 23 rfl 3 Tryz.underlying23 hs1 (some ⟨w.heap.size,m,none⟩) (some ⟨w.heap.size,0,none⟩) (k-m) (k-m) m k (by simp[Act.eval,Act.put]) (by simp[Act.eval,Act.put]) w.heap.size m (vG n m k) 3 hr.out (List.replicate c (Value.int .i64 n)) (by simpa using HCN.out) (fun _=>⟨rfl,_,rfl,HO.out.2⟩) (by rw[vF hm];simpa using hc2) HO.out.1 w.heap.size w hbl.out.drew (aaZ _) ?_;intro w4 HG4 hb4)
   have HB:=lH hb4;clear hb4;have e1:IntKind.i64.wrap ((m:Int)+(c:Int))=(m:Int)+(c:Int):=IntWalk.i64_in _ oM;go_wp2;go_roundw
   case rel=>
    repeat apply Exists.intro
    refine⟨⟨m+c,?_,hc2,oM,by have:=HG4.out;rw[nU n m k c]at this;exact this,HB.out⟩,rfl⟩;simp[e1]
   case measure=>simp[intOf,Act.put,e1];omega
  ·obtain rfl:m=k:=by omega
   have HR2:=lH hr.out;go_wp2;go_ret;have hrow:=hr.out;unfold vG at hrow;rw[Fa]at hrow;exact oQ.on sC (Own.Om hrow (aaZ _) sC oM) hbl.out
namespace TnE
theorem Ly{s:BU}(n:Int)(h:okS s=false):dm s n=([],[],20):=by unfold dm;rw[h];rfl
theorem GU{s:BU}(n:Int)(h:okS s=true):dm s n=(s,List.replicate (au s).toNat n,0):=by unfold dm;rw[aaW h]
end TnE
structure Fs(w:World)(w':World):Prop where
 kp:Kp w w'
 r0:w'.cell? ⟨w.heap.size,0,none⟩=some (zS)
 r1:w'.cell? ⟨w.heap.size,1,none⟩=some (zS)
 f0:w'.frozen? ⟨w.heap.size,0,none⟩=false
 f1:w'.frozen? ⟨w.heap.size,1,none⟩=false
 sz:w.heap.size<w'.heap.size
theorem Fs.tb{w a b:World}(h:Fs w a)(k:Below (w.heap.size+1) a b):Fs w b where
 kp:=h.kp.trans (k.mono (abe _))
 r0:=(k.cell (p:=⟨w.heap.size,0,none⟩) (aby _)).trans h.r0
 r1:=(k.cell (p:=⟨w.heap.size,1,none⟩) (aby _)).trans h.r1
 f0:=(k.frozen (p:=⟨w.heap.size,0,none⟩) (aby _)).trans h.f0
 f1:=(k.frozen (p:=⟨w.heap.size,1,none⟩) (aby _)).trans h.f1
 sz:=abj h.sz k.size
theorem Fs.tr{w a b:World}(h:Fs w a)(k:Kp a b):Fs w b:=h.tb (k.mono h.sz)
theorem Fs.mk_(w:World)(t:TypeId):Fs w (w.alloc (.cells #[zS, zS] t)) where
 kp:=Kp.af _ _
 r0:=by simp
 r1:=by simp
 f0:=by simp
 f1:=by simp
 sz:=by simp
theorem Fs.end_{w a:World}(h:Fs w a)(x y:Value):Kp w ((a.setCell ⟨w.heap.size,0,none⟩ x).setCell ⟨w.heap.size,1,none⟩ y):=
 (h.kp.setCell (p:=⟨w.heap.size,0,none⟩) (aaZ _) x).setCell (p:=⟨w.heap.size,1,none⟩) (aaZ _) y
theorem qy(A:DV)(c:Nat)(s:BU)(n:Int)(w:World)(hA:Rd w A s):
  CJ 65 #[.slice A s.length c, .int .i64 n] w (aG (dm s n) w):=by
 have hl:=hA.len;have F0:=lH (Fs.mk_ w 25);have HC:=lH (bQ A c s _ (hA.kp F0.out.kp))
 cases ho:okS s with
 |false=>
  rw[ho]at HC;have HF:=lH (TnE.Ly n ho);clear ho;go_enter Tryz.func65,Tryz.ntmps65;go_wp2_with fail;refine(aa9 (Hid.out HC)) ?_;rintro e w1 ⟨rfl,rfl⟩;obtain⟨_,r0,r1,f0,f1,_⟩:=F0.out;go_wp2;refine aaX (by simp[results,Tryz.results65,go_sem,r0,r1];try rfl) rfl ?_;exact aG.err HF.out F0.out.kp
 |true=>
  rw[ho]at HC;have hp:=bT ho;have hz:=aL ho;have hs3:s.length<=1000000:=by have:=(aD.1 ho).1;omega
  obtain⟨k,hk⟩:∃k:Nat,au s=k:=⟨(au s).toNat,oM⟩
  have HF:=lH (TnE.GU n ho);rw[hk,aa2]at HF;have HS:Hid (∀W,Kp w W->CJ 70 #[.slice A s.length c] W fun e w'=>e= .returned (.int .i64 (k:Int))/\W=w'):=fun W kk=>by
   have hh:=bC A c s W (hA.kp kk);rw[hk]at hh;exact hh
  have k1:0<k:=by omega
  have k2:k<=64:=by omega
  have HL:Hid (∀W,Kp w W->CJ 23 #[.slice A s.length c] W (oQ s W)):=fun W kk=>cv A c s W (hA.kp kk) hs3
  have G0:=lH (F0.out.kp.tr (Kp.af _ (.cells #[.int .i64 n] 3)));clear ho hp hz hs3 hk;go_enter Tryz.func65,Tryz.ntmps65;go_wp2_with fail;refine(aa9 (Hid.out HC)) ?_;rintro e w1 ⟨rfl,rfl⟩;go_wp2_with fail;refine(aa9 (HS.out _ G0.out)) ?_;rintro e w1 ⟨rfl,rfl⟩;go_wp2_with fail;refine(xL n k _ _ k1 k2 sC sC).mono ?_;rintro e w1 ⟨A1,c1,rfl,o1,kk1⟩;rw[aa5]at o1⊢;have F1:=lH ((F0.out.tr (Kp.af _ _)).tr kk1);have O1:=lH o1;clear o1 kk1;go_wp2_with fail;refine(aa9 (HL.out _ F1.out.kp)) ?_;rintro e w2 ⟨A2,c2,rfl,o2,kk2⟩;have F2:=lH (F1.out.tr kk2);have O2:=lH (And.intro o2 (And.intro (O1.out.kp kk2) F1.out.sz));clear o2 kk2;obtain⟨_,r0,r1,f0,f1,_⟩:=F2.out;go_wp2;refine aaX (by simp[results,Tryz.results65,go_sem,r0,r1];try rfl) rfl ?_;exact aG.on HF.out rfl (aa5 ..).symm ((O2.out.1.gW (p:=⟨w.heap.size,0,none⟩) O2.out.2.2 _).gW (p:=⟨w.heap.size,1,none⟩) O2.out.2.2 _).sl
   ((O2.out.2.1.gW (p:=⟨w.heap.size,0,none⟩) (by simp;omega) _).gW (p:=⟨w.heap.size,1,none⟩) (by simp;omega) _).sl (F2.out.end_ _ _) (O2.out.1.nw F1.out.kp.size) (O2.out.2.1.nw (by first|exact G0.out.size|(simp;omega)|simp))
namespace TnE
end TnE
open RowKit ShM
section
variable{w:World}{A:DV}{x:BU}
def LY(A:DV)(c j:Nat):DV:=if c=j then A else A.map (·.add j)
theorem Rd.cut(h:Rd w A x){c j:Nat}(hc:x.length<=c):Rd w (LY A c j) (x.drop j):=by
 unfold LY;split
 ·rename_i e;rw[abU oM];exact Rd.nil _ _
 ·refine⟨by have:=h.1;simp;omega,fun hp=>?_⟩;obtain⟨ad,rfl,hb,hcs⟩:=h.2 (by simp at hp;omega);refine⟨ad.add j,rfl,by rw[ah];exact hb,fun i u hu=>?_⟩;rw[acH]at hu;rw[oO];exact hcs _ _ hu
theorem Ag(W:World)(A:DV)(n c j:Nat)(hj:j<=n):(Instr.sliceAt 23 (.slice A n c) (some (.int .i64 (j:Int))) none none).run Tryz.prog W= .ok (.slice (LY A c j) (n-j) (c-j)) W:=by
 have hu:Tryz.prog.underlying 23=some (.slice (Tryz.prog.elem 23)):=by kernel_rfl
 have hsz:((sizeOf (Tryz.prog.elem 23)).run Tryz.prog W)= .ok 1 W:=by
  obtain⟨i,hi,_,h1,_⟩:=info_parts dz;simp[sizeOf,typeInfo,show Tryz.prog.elem 23=3 by kernel_rfl,hi,h1]
 rw[run_sliceAt_slice W _ _ _ _ _ hu,run_slice_l W _ A n c hu .i64 j oM oM,hsz];simp[Result.andThen,sliced,LY]
end
namespace TnF
theorem r8(s:BU):∀{y:BU} {x z:Int},s.length=y.length->eC (s++[x]) (y++[z])=eC s y++[if x=1 then 0 else z]:=by
 induction s with
 |nil=>intro y x z h;cases y with
  |nil=>rfl
  |cons _ _=>simp at h
 |cons a s ih=>
  intro y x z h
  cases y with
  |nil=>simp at h
  |cons b y=>simp only[abX,eC];rw[ih (by simpa using h)]
theorem qf(s:BU):∀{y:BU},s.length<=y.length->(eC s y).length=s.length:=by
 induction s with
 |nil=>intro y _;cases y<;>rfl
 |cons a s ih=>
  intro y h
  cases y with
  |nil=>simp at h
  |cons b y=>simp only[eC,abg];rw[ih (by simpa using h)]
def Pl(s x:BU)(j k:Nat)(zs:BU):Prop:=k<=s.length/\s.length+j=x.length/\zs=x.take j++(eC (s.take k) ((x.drop j).take k)++x.drop (j+k))
theorem NS{s x:BU}{j:Nat}(h:s.length+j=x.length):Pl s x j 0 x:=⟨aa6 _,h,by simp[eC]⟩
theorem NQ{s x:BU}{j k:Nat}{zs ws:BU}{a:Int}(h:Pl s x j k zs)(ha:s[k]?=some a)(hw:ws=if a=1 then zs.set (j+k) 0 else zs):Pl s x j (k+1) ws:=by
 obtain⟨h1,h2,rfl⟩:=h;have hk:=(aaU.1 ha).1;obtain⟨z,hz⟩:∃z,x[j+k]?=some z:=⟨x[j+k],aaV oM⟩
 have hz':(x.drop j)[k]?=some z:=by rw[acH];exact hz
 have e2:x.drop (j+k)=z::x.drop (j+(k+1)):=bP hz;have hl:(eC (s.take k) ((x.drop j).take k)).length=k:=by
  rw[qf _ (by simp;omega)];simp;omega
 refine⟨hk,h2,?_⟩;rw[cr ha,cr hz',r8 _ (by simp;omega),hw,e2];split
 ·rw[acF _ _ (by simp;omega),acF _ _ (by simp;omega)];have e3:j+k-(x.take j).length-(eC (s.take k) ((x.drop j).take k)).length=0:=by simp[hl];omega
  rw[e3];simp
 ·simp
theorem Rb{s x:BU}{j k:Nat}{zs:BU}(h:Pl s x j k zs):zs.length=x.length:=by
 obtain⟨h1,h2,rfl⟩:=h;have hl:(eC (s.take k) ((x.drop j).take k)).length=k:=by
  rw[qf _ (by simp;omega)];simp;omega
 simp[hl];omega
theorem UL{s x:BU}{j k:Nat}{zs:BU}(h:Pl s x j k zs)(hk:¬k<s.length):zs.drop j=eC s (x.drop j):=by
 obtain⟨h1,h2,rfl⟩:=h;obtain rfl:k=s.length:=by omega
 have e0:(x.take j).length=j:=by simp;omega
 have e1:x.drop (j+s.length)=[]:=abU oM;have e2:(x.drop j).take s.length=x.drop j:=abS (by simp;omega);rw[List.drop_left' e0,e1,acj,e2,List.append_nil]
end TnF
theorem xu(A B:DV)(c d:Nat)(s g:BU)(p:Int)(w:World)(hA:Rd w A s)(hB:Rd w B g)(hf:cw s g=true)(p0:0<=p)(p1:p<au g):
  CJ 184 #[.slice B g.length d, .int .i64 p, .slice A s.length c] w fun e w'=>e= .returned (.int .i64 (ew s g p))/\Kp w w':=by
 obtain⟨ok1,ok2,hle,_⟩:=dP hf;have hs3:=(aD.1 ok1).1;have hg3:=(aD.1 ok2).1;have hsp:=zP hf p0 (by rw[<-aL ok2];exact p1);have hdl:=eU g p;obtain⟨x,hx⟩:=eX (dR g p);rw[<-hx]at hsp hdl;have HI:Hid (CJ 186 #[.slice B g.length d, .int .i64 p] w (DT (x,0) w)):=by
  have hh:=sG B d g p w hB;rw[jB p0 p1,<-hx]at hh;exact hh
 obtain⟨j,hj⟩:∃j,g.length=s.length+j:=⟨g.length-s.length,oM⟩
 rw[show g.length-s.length=j by omega]at hsp;have HSP:=lH hsp;have HX:=lH hdl;clear hx hsp hdl hf p0 p1 ok1 ok2;have HS:=lH hA;have HP:Hid (∀W A1 n1 c1 y,Kp w W->Rd W A1 y->y=eC s (x.drop j)->n1=y.length->CJ 197 #[.slice A s.length c, .slice A1 n1 c1] W (SN (ew s g p,0) W)):=fun W A1 n1 c1 y k r e en=>by
  have hh:=rJ A A1 c c1 s y W (HS.out.kp k) r;rw[e,HSP.out]at hh;rw[en,e];exact hh
 obtain⟨q,hq⟩:=eX (ew s g p);rw[<-hq]at HP⊢;clear HSP hq hB;obtain⟨gl,hgl⟩:=eX (g.length);rw[<-hgl]at HI HX hj hg3 hle⊢;clear hgl;have e1:IntKind.i64.wrap ((gl:Int)-(s.length:Int))=(j:Int):=by rw[IntWalk.i64_in _ oM];omega
 have HJ:=lH hj;have hjl:j<=gl:=by omega
 have WC:s.length<=3:=hs3;clear hj hle hA;go_enter Tryz.func184,Tryz.ntmps184;go_wp2_with fail;refine(aa9 (Hid.out HI)) ?_;rintro e w1 ⟨A1,c1,rfl,o1,k1⟩;have hz1:((x,(0:Int)):BU×Int).1.length=gl:=HX.out;rw[hz1]at o1⊢;obtain⟨A3,hA3⟩:=eX (LY A1 c1 j);obtain⟨c3,hc3⟩:=eX (c1-j);have hcut:∀W,(Instr.sliceAt 23 (.slice A1 gl c1) (some (.int .i64 (j:Int))) none none).run Tryz.prog W= .ok (.slice A3 s.length c3) W:=fun W=>by
  rw[hA3,hc3,Ag W A1 gl c1 j hjl,show gl-j=s.length by have:=HJ.out;omega]
 have K1:=lH k1;have O1:=lH o1;have HC:=lH hA3;have HR0:=lH (TnF.NS (s:=s) (x:=x) (j:=j) (by have:=HJ.out;have:=HX.out;omega));have HLE:Hid (gl<=c1):=by have:=o1.sl.le;rw[<-HX.out];exact this
 clear o1 k1 hc3 hA3 HI hz1;go_wp2
 go_loopw [9,10,28] (fun _ _ i wr=>∃(k:Nat) (zs:BU),i= .int .i64 k/\Hid (TnF.Pl s x j k zs)/\Hid (Own w.heap.size wr (.slice A1 gl c1) zs)/\Hid (Kp w wr)) (fun _ _ i _=>s.length-(intOf i).toNat)
 case atStart=>exact⟨0,x,rfl,HR0.out,O1.out,K1.out⟩
 case round=>
  obtain⟨k,zs,rfl,hr,hown,hk⟩:=hrel;by_cases hlt:k<s.length
  ·obtain⟨ad,x0,rfl,hbl,hx,hc⟩:=HS.out.at_ hlt;have hc':wr.cell? (ad.add k)=some (.int .i64 x0):=(hk.out.cell (by rw[ah];exact hbl)).trans hc;have HX0:=lH hx;clear hx hc hbl;by_cases h1:x0=1
   ·subst h1;have hzl:zs.length=gl:=(TnF.Rb hr.out).trans HX.out;obtain⟨gd,hA1,hg1,hg2⟩:=hown.out.addr (by have:=HJ.out;omega);subst hA1;obtain⟨u,hu⟩:∃u,zs[j+k]?=some u:=⟨zs[j+k]'(by have:=HJ.out;omega),aaV _⟩
    have hne:c1≠j:=by have:=HJ.out;have:=HLE.out;omega
    have hA3:A3=some ⟨gd,j,none⟩:=by rw[HC.out];unfold LY;rw[aaT hne];simp[abh]
    have hcz:=hown.out.cell_ hu;have hfz:=hown.out.fE (j+k);have HN:Hid (zs.set (j+k) 0=if(1:Int)=1 then zs.set (j+k) 0 else zs):=by show _=_;rw[aaW rfl]
    clear hu hzl hne;subst hA3;go_wp2;go_roundw
    case rel=>exact⟨k+1,zs.set (j+k) 0,by go_num,TnF.NQ hr.out HX0.out HN.out,hown.out.kY _ _,hk.out.setCell (p:=⟨gd,j+k,none⟩) hg1 _⟩
    case measure=>simp[intOf];omega
   ·have h2:(x0==1)=false:=by simpa using h1
    have HN:Hid (zs=if x0=1 then zs.set (j+k) 0 else zs):=by show zs=_;rw[aaT h1]
    clear h1;go_wp2;go_roundw
    case rel=>exact⟨k+1,zs,by go_num,TnF.NQ hr.out HX0.out HN.out,hown.out,hk.out⟩
    case measure=>simp[intOf];omega
  ·have HZ:=lH (TnF.UL hr.out hlt);have RZ:Hid (Rd wr A3 (zs.drop j)):=by
    show Rd wr A3 _;rw[HC.out];exact hown.out.sl.rd.cut (by have:=TnF.Rb hr.out;have:=HX.out;have:=HLE.out;omega)
   have HLN:Hid (s.length=(zs.drop j).length):=by show s.length=_;have:=TnF.Rb hr.out;have:=HX.out;have:=HJ.out;simp;omega
   go_wp2_with fail;refine(aa9 (HP.out _ _ _ _ _ hk.out RZ.out HZ.out HLN.out)) ?_;rintro e w3 ⟨rfl,n3,rfl⟩;go_wp2;go_ret;exact⟨rfl,hk.out.tr (Kp.aI _ _)⟩
open RowKit ShM cF
namespace Mx
theorem qK{a b:Int}(ha:I64 a)(hb:I64 b)(h:(!(decide (wrap64 (a+b)<a)==decide (b<0)))=true):cY a b=(0,10):=by
 unfold I64 at ha hb;by_cases c:b<0<;>by_cases d:wrap64 (a+b)<a<;>simp[c,d]at h<;>(unfold wrap64 at d;exact fw oM)
theorem qL{a b:Int}(ha:I64 a)(hb:I64 b)(h:(!(decide (wrap64 (a+b)<a)==decide (b<0)))=false):cY a b=(wrap64 (a+b),0):=by
 unfold I64 at ha hb;by_cases c:b<0<;>by_cases d:wrap64 (a+b)<a<;>simp[c,d]at h<;>(unfold wrap64 at d⊢;unfold cY;rw[cO oM oM];congr 1;omega)
end Mx
theorem nA(a b:Int)(ha:I64 a)(hb:I64 b)(w:World):
  CJ 127 #[.int .i64 a, .int .i64 b] w fun e w'=>e= .returned (.tuple #[.int .i64 (cY a b).1, .int .i64 (cY a b).2])/\w=w':=by
 go_enter Tryz.func127,Tryz.ntmps127;go_wp2
 all_goals go_ret2
 ·exact⟨dM (Mx.qK ha hb (by assumption)),rfl⟩
 ·exact⟨dM (Mx.qL ha hb (by assumption)),rfl⟩
namespace TnG
theorem zW{s d:BU}(g:BU)(h:aB s d=false):cm s d g=([],[],30):=by unfold cm;rw[h];rfl
theorem oY{s d g:BU}(h:aB s d=true)(k:cw s g=false):cm s d g=([],[],20):=by unfold cm;rw[h,k];rfl
theorem jR{s d g:BU}(h:aB s d=true)(k:cw s g=true):cm s d g=(g,bK s d g (au g).toNat,0):=by unfold cm;rw[h,k];rfl
theorem JV{s d g:BU}(h:aB s d=true)(k:cw s g=true){N:Nat}(hN:au g=N){p:Nat}(hp:p<N):∃m:Nat,ew s g p=(m:Int)/\m<d.length:=by
 obtain⟨a,b⟩:=aA.1 h;have hg:=(dP k).2.1;obtain⟨i1,i2⟩:=q9 k (p:=(p:Int)) oM (by rw[<-aL hg];omega);exact⟨(ew s g p).toNat,oM,oM⟩
theorem DE(a b:Int):(∃v,cY a b=(v,0))∨cY a b=(0,10):=by
 unfold cY;rcases dN (a+b)with⟨_,_,e⟩|⟨_,e⟩
 ·exact .inl ⟨_,e⟩
 ·exact .inr e
theorem LC{g d:BU}(s:BU)(h:aB g d=false):dw g d s=([],[],30):=by unfold dw;rw[h];rfl
theorem uR{g d s:BU}(h:aB g d=true)(k:cw s g=false):dw g d s=([],[],20):=by unfold dw;rw[h,k];rfl
theorem GW{g d s zs:BU}(h:aB g d=true)(k:cw s g=true)(r:fF s g d=(zs,0)):dw g d s=(s,zs,0):=by unfold dw;rw[h,k,r];rfl
theorem GZ{g d s:BU}(h:aB g d=true)(k:cw s g=true)(r:fF s g d=([],10)):dw g d s=([],[],10):=by unfold dw;rw[h,k,r];rfl
theorem LX{g d s:BU}(h:aB g d=true)(k:cw s g=true){M:Nat}(hM:au s=M){p:Nat}(hp:p<d.length):∃m:Nat,ew s g p=(m:Int)/\m<M:=by
 obtain⟨a,b⟩:=aA.1 h;have hs:=(dP k).1;have:=aL hs;obtain⟨i1,i2⟩:=q9 k (p:=(p:Int)) oM oM;exact⟨(ew s g p).toNat,oM,oM⟩
end TnG
open RowKit ShM cF
theorem Fr.tb{w:World}{A:DV}{n c:Nat}{B:DV}{m d:Nat}{a b:World}(h:Fr w A n c B m d a)(k:Below (w.heap.size+2) a b):Fr w A n c B m d b where
 kp:=h.kp.trans (k.mono oM)
 b0:=(k.cell (p:=⟨w.heap.size,0,none⟩) (by show w.heap.size<_;omega)).trans h.b0
 b1:=(k.cell (p:=⟨w.heap.size,1,none⟩) (by show w.heap.size<_;omega)).trans h.b1
 r0:=(k.cell (p:=⟨w.heap.size+1,0,none⟩) (by show w.heap.size+1<_;omega)).trans h.r0
 r1:=(k.cell (p:=⟨w.heap.size+1,1,none⟩) (by show w.heap.size+1<_;omega)).trans h.r1
 f0:=(k.frozen (p:=⟨w.heap.size+1,0,none⟩) (by show w.heap.size+1<_;omega)).trans h.f0
 f1:=(k.frozen (p:=⟨w.heap.size+1,1,none⟩) (by show w.heap.size+1<_;omega)).trans h.f1
 sz:=ab3 h.sz k.size
open Shelf
attribute [local go_sem] Oper.semAt_some
theorem Kp.grown{w w':World}(k:Kp w w'):w.grownBy w' none:=⟨k.os,k.tape,k.output,k.size,fun j hj _=>k.block j hj⟩
structure Qp(w:World)(Bs Bf:Nat)(C:DV)(gl e:Nat)(A:DV)(sl c:Nat)(W:World):Prop where
 bs:W.cell? ⟨Bs,0,none⟩=some (.slice C gl e)
 bf:W.cell? ⟨Bf,0,none⟩=some (.slice A sl c)
 kp:Kp w W
 ls:Bs<W.heap.size
 lf:Bf<W.heap.size
theorem Qp.tb{w:World}{Bs Bf:Nat}{C:DV}{gl e:Nat}{A:DV}{sl c B:Nat}{W W':World}(h:Qp w Bs Bf C gl e A sl c W)(k:Below B W W')(hs:Bs<B)(hf:Bf<B)(hw:w.heap.size<=B):Qp w Bs Bf C gl e A sl c W' where
 bs:=(k.cell (p:=⟨Bs,0,none⟩) hs).trans h.bs
 bf:=(k.cell (p:=⟨Bf,0,none⟩) hf).trans h.bf
 kp:=h.kp.trans (k.mono hw)
 ls:=abj h.ls k.size
 lf:=abj h.lf k.size
theorem Qp.tr{w:World}{Bs Bf:Nat}{C:DV}{gl e:Nat}{A:DV}{sl c:Nat}{W W':World}(h:Qp w Bs Bf C gl e A sl c W)(k:Kp W W'):Qp w Bs Bf C gl e A sl c W':=
 h.tb k h.ls h.lf h.kp.size
abbrev Pl(N:Nat):={k:Nat // k<N}
abbrev Fy(s g:BU)(N:Nat)(x:Pl N):Array Value:= #[.int .i64 (x.1:Int), .int .i64 (ew s g x.1)]
theorem nW(A C:DV)(c e n m:Nat)(w:World):
  CJ 162 #[.slice C n e, .slice A m c] w fun en w'=>en= .returned (.func (.func 183) #[] #[pX w.heap.size 0, pX (w.heap.size+1) 0])/\
   w'=(w.alloc (.cells #[.slice C n e] 23)).alloc (.cells #[.slice A m c] 23):=by
 go_enter Tryz.func162,Tryz.ntmps162;go_wp2;go_ret;exact⟨rfl,rfl⟩
theorem ld(A C:DV)(c e:Nat)(s g:BU)(N Bs Bf n:Nat)(w w0:World)(hA:Rd w A s)(hC:Rd w C g)(hf:cw s g=true)(hN:au g=N)(hn:1<=n)(hQ:Qp w Bs Bf C g.length e A s.length c w0):
  SeqStopsK Fence.wide n Tryz.prog 183 #[pX Bs 0, pX Bf 0] (Fy s g N) (fun W W'=>Qp w Bs Bf C g.length e A s.length c W->Qp w Bs Bf C g.length e A s.length c W')
   (fun xs=>xs.map (·.1)=List.range N) (fun pre=>∃k,k<=N/\pre.map (·.1)=List.range k) N w0:=fun l J Jx W hW hJ hJx hY h0=>by
 have hQW:=hQ.tr hW;have n2:N<=64:=by have:=size_le g;omega
 have HS:Hid (∀W',Kp w W'->CJ 70 #[.slice C g.length e] W' fun en w'=>en= .returned (.int .i64 (N:Int))/\W'=w'):=fun W' kk=>by
  have hh:=bC C e g W' (hC.kp kk);rw[hN]at hh;exact hh
 have HQ1:Hid (∀W' (k:Nat),Kp w W'->k<N->CJ 184 #[.slice C g.length e, .int .i64 (k:Int), .slice A s.length c] W' fun en w'=>en= .returned (.int .i64 (ew s g k))/\Kp W' w'):=fun W' k kk hk=>xu A C c e s g k W' (hA.kp kk) (hC.kp kk) hf oM oM
 have HJ:=lH hJ;have HY:=lH hY;obtain⟨gl,hgl⟩:=eX (g.length);rw[<-hgl]at HS HQ1 hQW HY;clear hgl hJx hJ hY hA hC hf hN hQ hW;refine callsIn_of_wp Tryz.func183 rfl trivial ?_ rfl;simp only[Tryz.ntmps183,acd,abg,acC,Nat.reduceAdd,Nat.reduceSub,Array.replicate_succ,Array.replicate_zero,List.push_toArray,List.append_toArray,acu,abX];have hbs:=hQW.bs
 gi_wp2_with (refine⟨trivial,?_⟩;gi_at_call 70;refine(callsIn_wide.2 (HS.out _ hQW.kp)).mono ?_;rintro en w2 ⟨rfl,rfl⟩)
 gi_loopw [4,7] (fun _ i wr=>∃(pre:List (Pl N)) (k:Nat),i= .int .i64 k/\k<=N/\Hid (pre.map (·.1)=List.range k)/\Hid (J pre wr)/\Hid (Qp w Bs Bf C gl e A s.length c wr)) (fun _ i _=>N-(intOf i).toNat)
 case atStart=>exact⟨[],0,rfl,aa6 _,rfl,h0,hQW⟩
 case round=>
  clear hbs;obtain⟨pre,k,rfl,hkN,hpre,hJp,hQr⟩:=hrel;have hb1:=hQr.out.bs;have hb2:=hQr.out.bf;by_cases hlt:k<N
  ·have HL:Hid (pre.length<N):=by show _<N;have:=abP List.length hpre.out;simp at this;omega
   gi_wp2_with (refine⟨trivial,?_⟩;gi_at_call 184;refine(callsIn_wide.2 (HQ1.out _ k hQr.out.kp hlt)).mono ?_;rintro en w2 ⟨rfl,k2⟩;have hJ2:=HJ.out pre _ _ none hJp.out k2.grown (fun r e=>by cases e);obtain⟨fn,tmps,assign,body,hy,hR⟩:=HY.out pre ⟨k,hlt⟩ w2 hJ2 HL.out;dsimp only[Fy]at hy;have HQ2:=lH (hQr.out.tr k2);clear k2 hJ2)
   have hmap:Hid ((pre++[(⟨k,hlt⟩:Pl N)]).map (·.1)=List.range (k+1)):=by show _=_;rw[abK,hpre.out,acN];rfl
   refine hR.mono ?_;rintro en W3 (⟨rfl,hJ3,hk3⟩|⟨rfl,Vu⟩)
   ·have H3:=lH (And.intro hJ3 (hk3 HQ2.out));clear hJ3 hk3
    gi_wp2
    go_roundw
    case rel=>exact⟨pre++[⟨k,hlt⟩],k+1,by go_num,hlt,hmap,lH H3.out.1,lH H3.out.2⟩
    case measure=>simp[intOf];omega
   ·gi_wp2
    refine aaX (results_none rfl _ _ _) rfl ?_;exact⟨⟨_,rfl⟩, .inr ⟨_,⟨k+1,hlt,hmap.out⟩,Vu⟩⟩
  ·obtain rfl:k=N:=by omega
   gi_wp2
   go_end0
   exact⟨⟨_,rfl⟩, .inl ⟨pre,hpre.out,hJp.out⟩⟩
section
variable{P:Program}{ops:Array Oper}{md:Region.Mode}{Q:Exit->Act->World->Prop}
theorem nF{l n:Nat}{o:Oper}{a:Act}{next:Act->World->Prop}{r:Result Next}(h:o.upon P a next Q r):o.uponIn (Fence.wide.inRound l) n P a next Q r:=by
 cases r with
 |ok nx w'=>
  cases nx with
  |value v=>exact h
  |skip=>exact h
  |defer d=>exact h
  |enter f args=>exact⟨fun h=>(by cases h),CallsIn.inRound l (callsIn_wide.2 h)⟩
  |row row args=>exact⟨fun h=>(by cases h),fun c cs _=>let⟨v,w',r,s⟩:=h c cs;⟨v,w',r,stepsIn_wide.2 s⟩⟩
  |_=>exact h.elim
 |halt hh w'=>
  cases hh with
  |panic v=>exact h
  |_=>exact h.elim
def mL(ops:Array Oper):Bool:=ops.all fun o=>match o.op with| .defer _=>false|_=>true
theorem rS{ops:Array Oper}(h:mL ops=true){i:Nat}{o:Oper}(ho:ops[i]?=some o):∀c,o.op≠ .defer c:=by
 intro c e;unfold mL at h;rw[Array.all_eq_true]at h;obtain⟨hi,rfl⟩:=aa0.1 ho;have:=h i hi;rw[e]at this
 cases this
theorem eI{l n:Nat}(hd:mL ops=true)(hL:¬LetsOut Q):∀(fuel:Nat) (listed:Array Bool) (a:Act) (w:World),wpAny P md ops Q fuel listed a w->wpAnyIn (Fence.wide.inRound l) n P md ops Q fuel listed a w:=by
 intro fuel
 induction fuel with
 |zero=>intro listed a w h;exact h
 |succ fuel ih=>
  intro listed a w h;refine⟨h.1,fun i hi=>?_⟩;have:=wpOp_mono (fun a w=>ih _ a w) (h.2 i hi);unfold wpOp at this;unfold wpOpIn
  cases ho:ops[i]? with
  |none=>rw[ho]at this;exact this
  |some o=>
   rw[ho]at this;simp only at this⊢;split
   ·rename_i hw;rw[aaW hw]at this;rcases this with h1|⟨_,h2⟩
    ·refine⟨fun _ _=>trivial,?_⟩;have e:(Oper.semAt (Fence.wide.inRound l).round a.eval o)=execOp a.eval o:=Oper.semAt_some l a.eval o (rS hd ho);rw[e];exact nF h1
    ·exact absurd h2 hL
   ·rename_i hw;rw[aaT hw]at this;exact⟨fun _ _=>trivial,this⟩
theorem xI{id l m:Nat}{a:Act}{w:World}{os:List Oper}(n:Nat)(hm:P.follows .mixedOrders=true)(hB:Region.lexTailB .any os.toArray n=true)(hd:mL os.toArray=true)(hL:¬LetsOut Q)
  (h:wpStill P os.toArray {w with drawn:=w.drawn+1} (fun a'=>wpList P os.toArray Q (os.drop n) a' {w with drawn:=w.drawn+1}) (os.take n) a):(Code.region id os.toArray true).wpIn (Fence.wide.inRound l) m P Q a w:=by
 simp only[Region.lexTailB,abb,acz]at hB;obtain⟨⟨⟨⟨hsel,hn⟩,hs⟩,hc⟩,hlex⟩:=hB;have hn':n<os.length:=by simpa using hn
 have htl:(os.take n).length=n:=by simp;omega
 have hdl:(os.drop n).length=os.toArray.size-n:=by simp
 have inv0:HeadInv .any os.toArray n (Array.replicate os.toArray.size false):=
  ⟨by simp,fun j oj _ hl=>(by rw[getD_replicate_false]at hl;cases hl),fun t _ ht=>getD_in (by simpa using ht) (getD_replicate_false _ _)⟩
 have H:=wpAnyL_lex (md:= .any) (g:=os.toArray.size-n) hsel hs hc hn (os.take n) 0 _ a (fun j hj=>by
  have hj':j<n:=by rw[htl]at hj;exact hj
  simp[hj']) (by simpa using htl) inv0 (by rw[htl];exact hlex) h
 refine wpIn_region_any hm (eI hd hL _ _ _ _ ?_);have:=wpAny_of_head (Q':=Q) (g:=os.toArray.size-n) (fun listed a' hL=>by
  have:=wpAny_of_seq (md:= .any) (Q':=Q) (os.drop n) n listed a' {w with drawn:=w.drawn+1} (fun j=>by simp[acH]) (by rw[hdl];exact hL.1) hL.2
  rwa [hdl]at this) _ _ _ H
 rw[htl,show n+(os.toArray.size-n)=os.toArray.size by omega]at this;exact this
theorem mE{id l m:Nat}{a:Act}{w:World}{os:List Oper}(hm:P.follows .mixedOrders=true)(hB:Region.lexB .any os.toArray=true)(hd:mL os.toArray=true)(hL:¬LetsOut Q)
  (h:wpQuiet P os.toArray (fun w'=>∃n,w'=w.drewN n) (fun a'=>∀w',(∃n,w'=w.drewN n)->Q .normal a' w') os a):(Code.region id os.toArray true).wpIn (Fence.wide.inRound l) m P Q a w:=by
 simp only[Region.lexB,abb]at hB;refine wpIn_region_any hm (eI hd hL _ _ _ _ (wpAny_of_quiet (C:=fun w'=>∃n,w'=w.drewN n) (Q:=fun a'=>∀w',(∃n,w'=w.drewN n)->Q .normal a' w') (fun _ w' hw' h=>h w' hw') _ _ _ _ ⟨1,rfl⟩ ?_));have:=wpAnyQ_lex (C:=fun w'=>∃n,w'=w.drewN n) (md:= .any) hB.1 os 0 (Array.replicate os.toArray.size false) a sC (by simpa using hB.2) h;simpa using this
end
theorem qR{F:Fence}{n:Nat}{P:Program}{c:Code}{K:Act->World->Prop}{Q:Exit->Act->World->Prop}{a:Act}{w:World}(h:c.wpIn F n P (Exit.then K (fun _ _ _=>False)) a w):c.wpIn F n P (Exit.then K Q) a w:=
 wpIn_mono h fun e _ _ hq=>by
  cases e with
  |normal=>exact hq
  |_=>exact hq.elim
theorem jd{F:Fence}{n:Nat}{P:Program}{fn:Func}{R:Ending->World->Prop}{tmps:Array Value}{D:Nat}{W:World}{v:Value}(hK:W.heap[D]?=some (.deferred (some [])))
  (hres:(results fn tmps).run P (W.putObj D (.deferred none))= .ok v (W.putObj D (.deferred none)))(hR:R (.returned v) (W.putObj D (.deferred none))):
  bodyPostM F n P fn R .ret {tmps:=tmps,defers:=[{target:= .collected D,args:= #[]}]} W:=
 ⟨by simp, .inl ⟨_,_,rfl,run_takeDeferred hK,v,hres,hR⟩⟩
section
variable{w a:World}{A B:DV}{n c m d D:Nat}
def nh(w a:World)(x y:Value):World:=(a.setCell ⟨w.heap.size+1,0,none⟩ x).setCell ⟨w.heap.size+1,1,none⟩ y
theorem C2(hD:a.heap[D]?=some (.deferred (some [])))(hne:w.heap.size+1<D)(x y:Value):(nh w a x y).heap[D]?=some (.deferred (some [])):=by
 unfold nh;rw[abq _ _ _ D (by show D≠w.heap.size+1;omega),abq _ _ _ D (by show D≠w.heap.size+1;omega)];exact hD
theorem Hh(hD:a.heap[D]?=some (.deferred (some [])))(hne:w.heap.size+1<D)(x y:Value):Below D (nh w a x y) ((nh w a x y).putObj D (.deferred none)):=by
 have hK:=C2 (w:=w) hD hne x y;exact(abu D _).grown (grownBy_putObj' _ D _) (Nat.le_of_lt (aa0.1 hK).1) (fun k e=>by cases e;exact aaZ _)
theorem Fr.Sw(h:Fr w A n c B m d a)(hD:a.heap[D]?=some (.deferred (some [])))(hne:w.heap.size+1<D)(x y:Value):((nh w a x y).putObj D (.deferred none)).cell? ⟨w.heap.size+1,0,none⟩=some x:=by
 rw[(Hh hD hne x y).cell (p:=⟨w.heap.size+1,0,none⟩) hne];exact bp sC (acV _ _ _ (by rw[h.r0];rfl))
theorem Fr.Sv(h:Fr w A n c B m d a)(hD:a.heap[D]?=some (.deferred (some [])))(hne:w.heap.size+1<D)(x y:Value):((nh w a x y).putObj D (.deferred none)).cell? ⟨w.heap.size+1,1,none⟩=some y:=by
 rw[(Hh hD hne x y).cell (p:=⟨w.heap.size+1,1,none⟩) hne];exact acV _ _ _ (mB sC (by rw[h.r1];rfl))
theorem Fr.Pq(h:Fr w A n c B m d a)(hD:a.heap[D]?=some (.deferred (some [])))(hne:w.heap.size+1<D)(x y:Value):Kp w ((nh w a x y).putObj D (.deferred none)):=
 (h.end_ x y).trans ((Hh hD hne x y).mono oM)
theorem Own.fin{b:Nat}{v:Value}{xs:BU}(h:Own b a v xs)(hb:w.heap.size+1<b)(hD:a.heap[D]?=some (.deferred (some [])))(hne:w.heap.size+1<D)(x y:Value):Own b ((nh w a x y).putObj D (.deferred none)) v xs:=
 ownsRow_putObj ((h.gW (p:=⟨w.heap.size+1,0,none⟩) hb x).gW (p:=⟨w.heap.size+1,1,none⟩) hb y) _ (C2 hD hne x y) rfl
end
attribute [local go_sem] Oper.semAt_some
namespace TnI
def DL(val:Nat->Int)(pre:List Nat)(zs:BU):BU:=pre.foldl (fun z k=>z.set k (val k)) zs
theorem rE(val:Nat->Int)(pre:List Nat)(k:Nat)(zs:BU):DL val (pre++[k]) zs=(DL val pre zs).set k (val k):=by simp[DL]
theorem vw(val:Nat->Int)(pre:List Nat):∀zs:BU,(DL val pre zs).length=zs.length:=by
 induction pre with
 |nil=>intro zs;rfl
 |cons k pre ih=>intro zs;show(DL val pre (zs.set k (val k))).length=_;rw[ih];simp
theorem xE(val:Nat->Int)(N:Nat):∀k,k<=N->DL val (List.range k) (List.replicate N 0)=(List.range k).map val++List.replicate (N-k) 0:=by
 intro k
 induction k with
 |zero=>intro _;simp[DL]
 |succ k ih=>
  intro hk;rw[acN,rE,ih oM,acF _ _ sC];obtain⟨j,hj⟩:∃j,N-k=j+1:=⟨N-k-1,oM⟩
  rw[hj,show N-(k+1)=j by omega];simp[acY]
theorem tW(s xs g:BU)(N:Nat):DL (fun i=>xs.getD (ew s g i).toNat 0) (List.range N) (List.replicate N 0)=bK s xs g N:=by
 rw[xE _ _ _ (aaZ _)];simp[bK]
end TnI
theorem iZ{B:Nat}{W W':World}{row:Option Nat}(hB:B<=W.heap.size)(hg:W.grownBy W' row)(hr:∀r,row=some r->B<=r/\∃o:Obj,W.heap[r]?=some o/\o.isCells=false):Below B W W':=
 (abu B W).grown hg hB (fun k e=>(hr k e).1)
theorem Own.tb{b B g n c:Nat}{W W':World}{xs:BU}(h:Own b W (.slice (some ⟨g,0,none⟩) n c) xs)(k:Below B W W')(hg:g<B):Own b W' (.slice (some ⟨g,0,none⟩) n c) xs:=
 h.of_block fun j hj=>by
  injection hj with hj
  subst hj;exact k.block g hg
theorem Qp.put{w:World}{Bs Bf:Nat}{C:DV}{gl e:Nat}{A:DV}{sl c:Nat}{W:World}(h:Qp w Bs Bf C gl e A sl c W){p:Addr}(h1:p.block≠Bs)(h2:p.block≠Bf)(h3:w.heap.size<=p.block)(u:Value):Qp w Bs Bf C gl e A sl c (W.setCell p u) where
 bs:=bp (fun e=>h1 (abP Addr.block e)) h.bs
 bf:=bp (fun e=>h2 (abP Addr.block e)) h.bf
 kp:=h.kp.setCell h3 u
 ls:=by rw[abG];exact h.ls
 lf:=by rw[abG];exact h.lf
theorem tP(A B C:DV)(c d e:Nat)(s xs g:BU)(w:World)(hA:Rd w A s)(hB:Rd w B xs)(hC:Rd w C g)(ht:aB s xs=true)(hf:cw s g=true):
  CJ 113 #[.agg #[.slice A s.length c, .slice B xs.length d], .slice C g.length e] w (aG (cm s xs g) w):=by
 have hl:=hA.len;have gl:=hB.len;have kl:=hC.len;have F0:=lH (Fr.mk_ w A s.length c B xs.length d 25);have HT:=lH (av A B c d s xs _ (hA.kp F0.out.kp) (hB.kp F0.out.kp));rw[ht]at HT;have HG:Hid (∀W,Kp w W->CJ 161 #[.slice A s.length c, .slice C g.length e] W fun e w'=>e= .returned (.bool true)/\Kp W w'):=fun W k=>by rw[<-hf];exact iI A C c e s g W (hA.kp k) (hC.kp k)
 have hg:=(dP hf).2.1;have hp:=bT hg;have hz:=aL hg;obtain⟨N,hN⟩:∃N:Nat,au g=N:=⟨(au g).toNat,oM⟩
 have HF:=lH (TnG.jR ht hf);rw[hN,aa2,<-TnI.tW]at HF;have HS:Hid (∀W,Kp w W->CJ 70 #[.slice C g.length e] W fun e w'=>e= .returned (.int .i64 (N:Int))/\W=w'):=fun W kk=>by
  have hh:=bC C e g W (hC.kp kk);rw[hN]at hh;exact hh
 have HM:Hid (∀k:Nat,k<N->∃m:Nat,ew s g k=(m:Int)/\m<xs.length):=fun k hk=>TnG.JV ht hf hN hk
 have HPS:Hid (∀(n Bs Bf:Nat) (w0:World),1<=n->Qp w Bs Bf C g.length e A s.length c w0->SeqStopsK Fence.wide n Tryz.prog 183 #[pX Bs 0, pX Bf 0] (Fy s g N) (fun W W'=>Qp w Bs Bf C g.length e A s.length c W->Qp w Bs Bf C g.length e A s.length c W')
   (fun xs=>xs.map (·.1)=List.range N) (fun pre=>∃k,k<=N/\pre.map (·.1)=List.range k) N w0):=fun n Bs Bf w0 hn hq=>ld A C c e s g N Bs Bf n w w0 hA hC hf hN hn hq
 have n1:0<N:=by omega
 have n2:N<=64:=by omega
 have hg3:g.length<=1000000:=by have:=(aD.1 hg).1;omega
 have HCL:Hid (∀W,Kp w W->CJ 23 #[.slice C g.length e] W (oQ g W)):=fun W kk=>cv C e g W (hC.kp kk) hg3
 obtain⟨cs,hmk,sH⟩:=mk_ N oM;have HOW:=lH sH;have HBX:=lH hB;clear ht hf hg hp hz hN sH hg3;refine(callsIn_wide (n:=4)).1 ?_;refine callsIn_of_wp_marks Tryz.func113 rfl trivial ?_ rfl;simp only[Tryz.ntmps113,acd,abg,acC,Nat.reduceAdd,Nat.reduceSub,Array.replicate_succ,Array.replicate_zero,List.push_toArray,List.append_toArray,acu,abX]
 gi_wp2_with fail
 refine⟨trivial,(callsIn_wide.2 HT.out).mono ?_⟩;rintro en w1 ⟨rfl,k1⟩;have F1:=lH (F0.out.tr k1);have b0:=F1.out.b0;have b1:=F1.out.b1;clear k1
 gi_wp2_with fail
 refine⟨trivial,(callsIn_wide.2 (HG.out _ F1.out.kp)).mono ?_⟩;rintro en w2 ⟨rfl,k2⟩;have F2:=lH (F1.out.tr k2);clear k2 b0 b1
 gi_wp2_with fail
 refine⟨trivial,(callsIn_wide.2 (HS.out _ F2.out.kp)).mono ?_⟩;rintro en w3 ⟨rfl,rfl⟩;have b0:=F2.out.b0;have y1:w.heap.size<w2.heap.size:=by have:=F2.out.sz;omega
 have y2:w.heap.size<w2.heap.size+1:=by omega
 gi_wp2_with fail
 refine⟨trivial,(callsIn_wide.2 (nW _ _ _ _ _ _ _)).mono ?_⟩;rintro en w4 ⟨rfl,rfl⟩
 gi_wp2_with fail
 have hmx:Tryz.prog.follows .mixedOrders=true:=by kernel_rfl
 obtain⟨W1,hW1⟩:∃W1,((((w2.alloc (.cells cs 3)).alloc (.cells #[.slice (some ⟨w2.heap.size,0,none⟩) N N] 23)).alloc (.cells #[.slice C g.length e] 23)).alloc (.cells #[.slice A s.length c] 23))=W1:=⟨_,rfl⟩
 have FW:Hid (Fr w A s.length c B xs.length d W1):=by show Fr w A s.length c B xs.length d W1;rw[<-hW1];exact(((F2.out.tr (Kp.af _ _)).tr (Kp.af _ _)).tr (Kp.af _ _)).tr (Kp.af _ _)
 have SW:Hid (W1.heap.size=w2.heap.size+4/\w.heap.size+2<=w2.heap.size):=⟨by rw[<-hW1];simp,F2.out.sz⟩
 have OW:Hid (Own (w.heap.size+2) W1 (.slice (some ⟨w2.heap.size,0,none⟩) N N) (List.replicate N 0)):=by
  show Own (w.heap.size+2) W1 _ _;rw[<-hW1];exact(((HOW.out w2 (w.heap.size+2) F2.out.sz).kp (Kp.af _ _)).kp (Kp.af _ _)).kp (Kp.af _ _)
 have BW:Hid (W1.cell? ⟨w2.heap.size+1,0,none⟩=some (.slice (some ⟨w2.heap.size,0,none⟩) N N)):=by show W1.cell? _=_;rw[<-hW1];simp[go_sem]
 have QW:Hid (Qp w (w2.heap.size+1+1) (w2.heap.size+1+1+1) C g.length e A s.length c W1):=by
  refine lH ⟨by rw[<-hW1];simp[go_sem],by rw[<-hW1];simp[go_sem],FW.out.kp,?_,?_⟩
  ·have:=SW.out.1;omega
  ·have:=SW.out.1;omega
 rw[hW1];clear hW1 b0 y1 y2 hmk;have hw1:w.heap.size<=W1.heap.size:=FW.out.kp.size;refine wpIn_rangeFunc_ownF rfl oM (gf:=183) (lb:= #[pX (w2.heap.size+1+1) 0, pX (w2.heap.size+1+1+1) 0]) rfl trivial (enters_of Tryz.func183 kM rfl)
  (HPS.out _ _ _ W1 oM QW.out) (fun h k q=>k (h q))
  (fun W l o o' hl h ho hw q=>q.tb (belowK_b (w:=W1) (aaZ _) W l o o' hl h ho hw) (by have:=SW.out.1;omega) (by have:=SW.out.1;omega) hw1)
  (abu _ _) (fun _=>rfl)
  (fun pre W=>W1.heap.size<=W.heap.size/\Fr w A s.length c B xs.length d W/\W.cell? ⟨w2.heap.size+1,0,none⟩=some (.slice (some ⟨w2.heap.size,0,none⟩) N N)/\Own (w.heap.size+2) W (.slice (some ⟨w2.heap.size,0,none⟩) N N) (TnI.DL (fun i=>xs.getD (ew s g i).toNat 0) (pre.map (·.1)) (List.replicate N 0)))
  (fun _ _ _=>False)
  (fun pre W W' row hs hg hr=>by
   have hb:=iZ hs.1 hg hr;have:=SW.out;exact⟨ab3 hs.1 hb.size,hs.2.1.tb (hb.mono oM),(hb.cell (p:=⟨w2.heap.size+1,0,none⟩) (by show w2.heap.size+1<_;omega)).trans hs.2.2.1,hs.2.2.2.tb hb oM⟩)
  (fun _ _ _ _ _ hs _ _=>hs)
  ⟨aaZ _,FW.out,BW.out,OW.out⟩
  (fun x=>{tmps:= #[.agg #[.slice A s.length c, .slice B xs.length d], .slice C g.length e, pX w.heap.size 0,undef, pX (w.heap.size+1) 0, .int .i64 0, pX (w2.heap.size+1) 0, .int .i64 (x.1:Int), .int .i64 (ew s g x.1),
   .agg #[.slice A s.length c, .slice B xs.length d], .bool true, .bool false,undef, pX w.heap.size 0, .slice A s.length c, .slice C g.length e, .bool true, .bool false,undef, .slice C g.length e, .int .i64 (N:Int), .slice (some ⟨w2.heap.size,0,none⟩) N N, .slice C g.length e, pX w.heap.size 0, .slice A s.length c,
   .func (.func 183) #[] #[pX (w2.heap.size+1+1) 0, pX (w2.heap.size+1+1+1) 0], .int .i64 (x.1:Int), .int .i64 (ew s g x.1),undef,undef,undef,undef,undef,undef,undef,undef,undef,undef,undef,undef],defers:=[]}) ?assign ?body ?done ?stop
 case assign=>
  intro l x W K hK
  gi_wp2
  exact hK
 case body=>
  rintro l pre ⟨k,hk⟩ W ⟨hsz,hfr,hbx,hown⟩ _;obtain⟨m,hm,RO⟩:=HM.out k hk;obtain⟨bd,x0,rfl,hbl,hx,hc⟩:=HBX.out.at_ RO;dsimp only;rw[hm];have b1:=hfr.b1;have c1:W.cell? (bd.add m)=some (.int .i64 x0):=(hfr.kp.cell (by rw[ah];exact hbl)).trans hc;have HLN:Hid ((TnI.DL (fun i=>xs.getD (ew s g i).toNat 0) (pre.map (·.1)) (List.replicate N 0)).length=N):=by show List.length _=N;rw[TnI.vw];simp
  have e1:=hown.cell_ (j:=k) (aaV (by rw[HLN.out];exact hk));have e2:=hown.fE k;have HO:=lH hown;have HFR:=lH hfr;have HV:Hid (xs.getD (ew s g k).toNat 0=x0):=by show List.getD _ _ _=x0;rw[hm,aa2,aaS,hx];rfl
  have i1:(0:Int)<=(m:Int):=by omega
  have i2:(m:Int)<(xs.length:Int):=by omega
  have i3:(k:Int)<(N:Int):=by omega
  have i4:(0:Int)<=(k:Int):=by omega
  have HSW:=lH SW.out;clear hm hx hc hown hbl
  gi_wp2
  refine xI 8 hmx kM kM (fun⟨_,_,h⟩=>h) ?_;simp only[List.take_succ_cons,List.take_zero,List.drop_succ_cons,List.drop_zero]
  repeat still_step
  try refine wpStill_nil ?_
  change wpList _ _ _ _ _ W.drew
  go_wp2;have hne:w2.heap.size≠w2.heap.size+1:=by omega
  refine⟨(KeepsOthers.drew _).trans (KeepsOthers.setCell _ _ _),fun q=>(q.tr (aa3 (Kp.refl _))).put (p:=⟨w2.heap.size,k,none⟩) (by show w2.heap.size≠_;omega) (by show w2.heap.size≠_;omega) (by show w.heap.size<=w2.heap.size;have:=HSW.out.2;omega) _,?_,?_,?_,?_⟩
  ·show W1.heap.size<=(W.setCell ⟨w2.heap.size,k,none⟩ (.int .i64 x0)).heap.size;rw[abG];exact hsz
  ·exact(HFR.out.tr (aa3 (Kp.refl _))).tb ((abu _ _).setCell (p:=⟨w2.heap.size,k,none⟩) HSW.out.2 _)
  ·exact bp (fun e=>hne (abP Addr.block e)) hbx
  ·rw[abK,abT,ack,TnI.rE];show Own _ _ _ (List.set _ k (xs.getD (ew s g k).toNat 0));rw[HV.out];exact(HO.out.kY k x0).drew
 case done=>
  rintro D ys W hD hS ⟨hsz,hfr,hbx,hown⟩ hK;have hDl:D<W.heap.size:=(aa0.1 hK).1;rw[hS]at hown;have HO:=lH hown;have HFR:=lH hfr;have HBC:=lH hbx;have HKD:=lH hK;have y1:w2.heap.size+1<W.heap.size:=by have:=SW.out.1;omega
  have HCW:Hid (Kp w W.drew):=hfr.kp.drew;clear hown hK;obtain⟨_,b0,b1,r0,r1,f0,f1,hfs⟩:=hfr;have y2:w.heap.size+1<W.heap.size:=by omega
  gi_wp2
  refine qR ?_
  gi_region_with_o (refine⟨trivial,?_⟩;gi_at_call 23;refine(callsIn_wide.2 (HCL.out _ HCW.out)).mono ?_;rintro en w5 ⟨AS,cS,rfl,oS,kS⟩;have SF:∀p:Addr,p.block<W.heap.size->w5.cell? p=W.cell? p:=fun p hp=>kS.cell hp;have Sn:∀p:Addr,p.block<W.heap.size->w5.frozen? p=W.frozen? p:=fun p hp=>kS.frozen hp;have HOS:=lH oS;have HKS:Hid (Kp W w5):=⟨kS.os,kS.tape,kS.output,kS.size,kS.block⟩;clear oS kS)
  all_goals gi_wp2
  all_goals
   have hK5:w5.heap[D]?=some (.deferred (some [])):=(HKS.out.block D hDl).trans HKD.out;have hD2:w.heap.size+1<D:=by have:=SW.out.1;have:=SW.out.2;omega
   have hF5:=HFR.out.tr HKS.out;refine jd (v:= .tuple #[.agg #[.slice AS g.length cS, .slice (some ⟨w2.heap.size,0,none⟩) N N], .int .i64 0]) (C2 hK5 hD2 _ _) (by
    have q0:=hF5.Sw hK5 hD2 (.slice AS g.length cS) (.slice (some ⟨w2.heap.size,0,none⟩) N N);have q1:=hF5.Sv hK5 hD2 (.slice AS g.length cS) (.slice (some ⟨w2.heap.size,0,none⟩) N N);unfold nh at q0 q1;simp[results,Tryz.results113,go_sem,q0,q1]) ?_
   exact aG.on HF.out rfl (by rw[TnI.vw];simp) (HOS.out.fin (by show _<W.heap.size;omega) hK5 hD2 _ _).sl ((HO.out.kp HKS.out).fin (aby _) hK5 hD2 _ _).sl (hF5.Pq hK5 hD2 _ _) (HOS.out.nw (by show _<=W.heap.size;omega)) (HO.out.nw oM)
 case stop=>
  rintro D c pre W _ _ h _;exact h.elim
theorem xq(A B C:DV)(c d e:Nat)(s xs g:BU)(w:World)(hA:Rd w A s)(hB:Rd w B xs)(hC:Rd w C g):
  CJ 113 #[.agg #[.slice A s.length c, .slice B xs.length d], .slice C g.length e] w (aG (cm s xs g) w):=by
 have hl:=hA.len;have gl:=hB.len;have kl:=hC.len
 cases ht:aB s xs with
 |false=>
  have F0:=lH (Fr.mk_ w A s.length c B xs.length d 25);have HT:=lH (av A B c d s xs _ (hA.kp F0.out.kp) (hB.kp F0.out.kp));rw[ht]at HT;have HF:=lH (TnG.zW g ht);clear ht;go_enter Tryz.func113,Tryz.ntmps113;go_wp2_with fail;refine(aa9 (Hid.out HT)) ?_;rintro e w1 ⟨rfl,k1⟩;have F1:=lH (F0.out.tr k1);obtain⟨_,b0,b1,r0,r1,f0,f1,_⟩:=F1.out;clear k1;go_wp2;refine aaX (by simp[results,Tryz.results113,go_sem,r0,r1];try rfl) rfl ?_;exact aG.err HF.out (F1.out.end_ _ _)
 |true=>
  cases hf:cw s g with
  |true=>exact tP A B C c d e s xs g w hA hB hC ht hf
  |false=>
   have F0:=lH (Fr.mk_ w A s.length c B xs.length d 25);have HT:=lH (av A B c d s xs _ (hA.kp F0.out.kp) (hB.kp F0.out.kp));rw[ht]at HT;have HG:Hid (∀W,Kp w W->CJ 161 #[.slice A s.length c, .slice C g.length e] W fun e w'=>e= .returned (.bool false)/\Kp W w'):=fun W k=>by rw[<-hf];exact iI A C c e s g W (hA.kp k) (hC.kp k)
   have HF:=lH (TnG.oY ht hf);clear ht hf;go_enter Tryz.func113,Tryz.ntmps113;go_wp2_with fail;refine(aa9 (Hid.out HT)) ?_;rintro e w1 ⟨rfl,k1⟩;have F1:=lH (F0.out.tr k1);obtain⟨_,b0,b1,_,_,_,_,_⟩:=F1.out;clear k1;go_wp2_with fail;refine(aa9 (HG.out _ F1.out.kp)) ?_;rintro e w2 ⟨rfl,k2⟩;have F2:=lH (F1.out.tr k2);clear b0 b1 k2;obtain⟨_,b0,b1,r0,r1,f0,f1,_⟩:=F2.out;go_wp2;refine aaX (by simp[results,Tryz.results113,go_sem,r0,r1];try rfl) rfl ?_;exact aG.err HF.out (F2.out.end_ _ _)
open RowKit Shelf ShM cF
attribute [local go_sem] Oper.semAt_some
namespace TnJ
def lF(f:Nat->Nat)(d:BU)(k:Nat)(zs:BU):Option (BU):=
 if(cY (zs.getD (f k) 0) (d.getD k 0)).2=0 then some (zs.set (f k) (cY (zs.getD (f k) 0) (d.getD k 0)).1)else none
def eS(f:Nat->Nat)(d:BU):List Nat->BU->Option (BU)
 | [],zs=>some zs
 |k::ks,zs=>(lF f d k zs).bind (eS f d ks)
theorem lq(f:Nat->Nat)(d:BU)(b:List Nat):∀(a:List Nat) (zs:BU),eS f d (a++b) zs=(eS f d a zs).bind (eS f d b):=by
 intro a
 induction a with
 |nil=>intro zs;rfl
 |cons k ks ih=>
  intro zs;simp only[abX,eS]
  cases lF f d k zs with
  |none=>rfl
  |some z=>exact ih z
theorem oF{f:Nat->Nat}{d:BU}{pre:List Nat}{k:Nat}{zs ys:BU}(h:eS f d pre zs=some ys):eS f d (pre++[k]) zs=lF f d k ys:=by
 rw[lq,h];show(lF f d k ys).bind (eS f d [])=_
 cases lF f d k ys<;>rfl
theorem Es{f:Nat->Nat}{d:BU}{k:Nat}{zs ys:BU}(h:lF f d k zs=some ys)(hz:bN zs):bN ys/\ys.length=zs.length:=by
 unfold lF at h;split at h
 ·injection h with h
  subst h;exact⟨hz.kY _ PK,by simp⟩
 ·cases h
theorem sM{f:Nat->Nat}{d:BU}:∀{pre:List Nat} {zs ys:BU},eS f d pre zs=some ys->bN zs->bN ys/\ys.length=zs.length:=by
 intro pre
 induction pre with
 |nil=>intro zs ys h hz;injection h with h;subst h;exact⟨hz,rfl⟩
 |cons k ks ih=>
  intro zs ys h hz;simp only[eS,acL]at h;obtain⟨z,h1,h2⟩:=h;obtain⟨a,b⟩:=Es h1 hz;obtain⟨a',b'⟩:=ih h2 a;exact⟨a',b'.trans b⟩
theorem CU(f:Nat->Nat)(d:BU):∀(zs:BU) (k:Nat),(fG f zs k d).2=0∨fG f zs k d=([],10):=by
 induction d with
 |nil=>intro zs k;exact .inl rfl
 |cons x d ih=>
  intro zs k;simp only[fG];split
  ·exact ih _ _
  ·rename_i hne;rcases TnG.DE (zs.getD (f k) 0) x with⟨v,hv⟩|hv
   ·rw[hv]at hne;exact absurd rfl hne
   ·rw[hv];exact .inr rfl
theorem sL(f:Nat->Nat)(d:BU):∀(e:BU) (k:Nat) (zs:BU),d.drop k=e->eS f d (List.range' k e.length) zs=if(fG f zs k e).2=0 then some (fG f zs k e).1 else none:=by
 intro e
 induction e with
 |nil=>intro k zs _;rfl
 |cons x e ih=>
  intro k zs h;have hx:d[k]?=some x:=by have:=abP (·[0]?) h;simpa using this
  have he:d.drop (k+1)=e:=by rw[<-List.drop_drop,h];rfl
  rw[abg,List.range'_succ];simp only[eS,lF,fG,aaS,hx,ab5];split
  ·exact ih (k+1) _ he
  ·rename_i hne;rfl
theorem sN(f:Nat->Nat)(d zs:BU):eS f d (List.range d.length) zs=if(fG f zs 0 d).2=0 then some (fG f zs 0 d).1 else none:=by
 rw[List.range_eq_range'];exact sL f d d 0 zs rfl
theorem CV{f:Nat->Nat}{d zs ys:BU}(h:eS f d (List.range d.length) zs=some ys):fG f zs 0 d=(ys,0):=by
 rw[sN]at h;split at h
 ·rename_i h0;injection h with h
  exact Prod.ext h h0
 ·cases h
theorem CT{f:Nat->Nat}{d zs:BU}{k:Nat}(hk:k<=d.length)(h:eS f d (List.range k) zs=none):fG f zs 0 d=([],10):=by
 have e:List.range d.length=List.range k++(List.range d.length).drop k:=by
  have:=List.take_append_drop k (List.range d.length);rw[List.take_range,show min k d.length=k by omega]at this;exact this.symm
 have h2:eS f d (List.range d.length) zs=none:=by rw[e,lq,h];rfl
 rw[sN]at h2;rcases CU f d zs 0 with h0|h0
 ·rw[aaW h0]at h2;cases h2
 ·exact h0
theorem Er{f:Nat->Nat}{d zs:BU}{k m:Nat}{x y v:Int}(hf:f k=m)(hx:d[k]?=some x)(hy:zs[m]?=some y)(hv:cY y x=(v,0)):lF f d k zs=some (zs.set m v):=by
 unfold lF;rw[hf,aaS,aaS,hx,hy];simp[hv]
theorem JT{f:Nat->Nat}{d zs:BU}{k m:Nat}{x y:Int}(hf:f k=m)(hx:d[k]?=some x)(hy:zs[m]?=some y)(hv:cY y x=(0,10)):lF f d k zs=none:=by
 unfold lF;rw[hf,aaS,aaS,hx,hy];simp[hv]
end TnJ
theorem mW(W:World)(n:Nat):KeepsOthers W (W.drewN n):=⟨aaZ _,fun _ _ h _=>h⟩
structure Fe(w:World)(A:DV)(n c:Nat)(B:DV)(m d:Nat)(er:Int)(w':World):Prop where
 fr:Fr w A n c B m d w'
 e0:w'.cell? ⟨w.heap.size+1+1,0,none⟩=some (.int .i64 er)
 ef:w'.frozen? ⟨w.heap.size+1+1,0,none⟩=false
 sz:w.heap.size+3<=w'.heap.size
section
variable{w a b:World}{A B:DV}{n c m d:Nat}{er:Int}
theorem Fe.tb(h:Fe w A n c B m d er a)(k:Below (w.heap.size+3) a b):Fe w A n c B m d er b where
 fr:=h.fr.tb (k.mono oM)
 e0:=(k.cell (p:=⟨w.heap.size+1+1,0,none⟩) (by show w.heap.size+1+1<_;omega)).trans h.e0
 ef:=(k.frozen (p:=⟨w.heap.size+1+1,0,none⟩) (by show w.heap.size+1+1<_;omega)).trans h.ef
 sz:=ab3 h.sz k.size
theorem Fe.tr(h:Fe w A n c B m d er a)(k:Kp a b):Fe w A n c B m d er b:=h.tb (k.mono h.sz)
theorem Fe.mk_(w:World)(A:DV)(n c:Nat)(B:DV)(m d:Nat)(t u:TypeId):Fe w A n c B m d 0 (((w.alloc (.cells #[.slice A n c, .slice B m d] t)).alloc (.cells #[zS, zS] t)).alloc (.cells #[.int .i64 0] u)) where
 fr:=(Fr.mk_ w A n c B m d t).tr (Kp.af _ _)
 e0:=by simp[go_sem]
 ef:=by simp[go_sem]
 sz:=by simp
end
section
variable{w a:World}{A B:DV}{n c m d D:Nat}{er:Int}
def nC(w a:World)(x y z:Value):World:=(nh w a x y).setCell ⟨w.heap.size+1+1,0,none⟩ z
theorem wI(hD:a.heap[D]?=some (.deferred (some [])))(hne:w.heap.size+2<D)(x y z:Value):(nC w a x y z).heap[D]?=some (.deferred (some [])):=by
 unfold nC;rw[abq _ _ _ D (by show D≠w.heap.size+1+1;omega)];exact C2 hD oM x y
theorem Ki{W:World}(hK:W.heap[D]?=some (.deferred (some []))):Below D W (W.putObj D (.deferred none)):=
 (abu D _).grown (grownBy_putObj' _ D _) (Nat.le_of_lt (aa0.1 hK).1) (fun k e=>by cases e;exact aaZ _)
theorem Fe.qE(h:Fe w A n c B m d er a)(x y:Value)(z:Int):(nC w a x y (.int .i64 z)).cell? ⟨w.heap.size+1,0,none⟩=some x/\(nC w a x y (.int .i64 z)).cell? ⟨w.heap.size+1,1,none⟩=some y/\(nC w a x y (.int .i64 z)).cell? ⟨w.heap.size+1+1,0,none⟩=some (.int .i64 z):=by
 unfold nC nh;refine⟨bp sC (bp sC (acV _ _ _ (by rw[h.fr.r0];rfl))),bp sC (acV _ _ _ (mB sC (by rw[h.fr.r1];rfl))),?_⟩;exact acV _ _ _ (mB sC (mB sC (by rw[h.e0];rfl)))
theorem Fe.qB(h:Fe w A n c B m d er a)(x y z:Value):Kp w (nC w a x y z):=(h.fr.end_ x y).setCell (p:=⟨w.heap.size+1+1,0,none⟩) (by show w.heap.size<=w.heap.size+1+1;omega) z
theorem Fe.Nm(h:Fe w A n c B m d er a)(z:Int):Fe w A n c B m d z (nC w a (zS) (zS) (.int .i64 z)):=by
 obtain⟨q0,q1,q2⟩:=h.qE (zS) (zS) z;have hs:(nC w a (zS) (zS) (.int .i64 z)).heap.size=a.heap.size:=by unfold nC nh;rw[abG,abG,abG]
 refine⟨⟨h.qB _ _ _,?_,?_,q0,q1,?_,?_,by rw[hs];exact h.fr.sz⟩,q2,?_,by rw[hs];exact h.sz⟩
 ·unfold nC nh;exact bp sC (bp sC (bp sC h.fr.b0))
 ·unfold nC nh;exact bp sC (bp sC (bp sC h.fr.b1))
 ·unfold nC nh;rw[ace,ace,ace];exact h.fr.f0
 ·unfold nC nh;rw[ace,ace,ace];exact h.fr.f1
 ·unfold nC nh;rw[ace,ace,ace];exact h.ef
theorem Own.nC{b:Nat}{v:Value}{xs:BU}(h:Own b a v xs)(hb:w.heap.size+2<b)(hD:a.heap[D]?=some (.deferred (some [])))(hne:w.heap.size+2<D)(x y z:Value):Own b ((nC w a x y z).putObj D (.deferred none)) v xs:=
 ownsRow_putObj (((h.gW (p:=⟨w.heap.size+1,0,none⟩) (by show w.heap.size+1<b;omega) x).gW (p:=⟨w.heap.size+1,1,none⟩) (by show w.heap.size+1<b;omega) y).gW (p:=⟨w.heap.size+1+1,0,none⟩) hb z) _ (wI hD hne x y z) rfl
end
theorem CS(A B C:DV)(c d e:Nat)(g xs s:BU)(w:World)(hA:Rd w A g)(hB:Rd w B xs)(hC:Rd w C s)(hi:bN xs)(ht:aB g xs=true)(hf:cw s g=true):
  CJ 135 #[.agg #[.slice A g.length c, .slice B xs.length d], .slice C s.length e] w (aG (dw g xs s) w):=by
 have hl:=hA.len;have gl:=hB.len;have kl:=hC.len;have F0:=lH (Fe.mk_ w A g.length c B xs.length d 25 29);have HT:=lH (av A B c d g xs _ (hA.kp F0.out.fr.kp) (hB.kp F0.out.fr.kp));rw[ht]at HT;have HG:Hid (∀W,Kp w W->CJ 161 #[.slice C s.length e, .slice A g.length c] W fun e w'=>e= .returned (.bool true)/\Kp W w'):=fun W k=>by rw[<-hf];exact iI C A e c s g W (hC.kp k) (hA.kp k)
 have hg:=(dP hf).1;have hp:=bT hg;have hz:=aL hg;obtain⟨M,hM⟩:∃M:Nat,au s=M:=⟨(au s).toNat,oM⟩
 have hxl:au g=(xs.length:Int):=by have:=(aA.1 ht);rw[aL this.1];exact this.2.symm
 have hfl:fF s g xs=fG (fun i=>(ew s g i).toNat) (List.replicate M 0) 0 xs:=by unfold fF;rw[hM,aa2]
 have HY:Hid (∀zs,TnJ.eS (fun i=>(ew s g i).toNat) xs (List.range xs.length) (List.replicate M 0)=some zs->dw g xs s=(s,zs,0)):=fun zs r=>TnG.GW ht hf (hfl.trans (TnJ.CV r))
 have HN:Hid (∀k,k<=xs.length->TnJ.eS (fun i=>(ew s g i).toNat) xs (List.range k) (List.replicate M 0)=none->dw g xs s=([],[],10)):=fun k hk r=>TnG.GZ ht hf (hfl.trans (TnJ.CT hk r))
 have HS:Hid (∀W,Kp w W->CJ 70 #[.slice C s.length e] W fun e w'=>e= .returned (.int .i64 (M:Int))/\W=w'):=fun W kk=>by
  have hh:=bC C e s W (hC.kp kk);rw[hM]at hh;exact hh
 have HM:Hid (∀k:Nat,k<xs.length->∃m:Nat,ew s g k=(m:Int)/\m<M):=fun k hk=>TnG.LX ht hf hM hk
 have HPS:Hid (∀(n Bs Bf:Nat) (w0:World),1<=n->Qp w Bs Bf A g.length c C s.length e w0->SeqStopsK Fence.wide n Tryz.prog 183 #[pX Bs 0, pX Bf 0] (Fy s g xs.length) (fun W W'=>Qp w Bs Bf A g.length c C s.length e W->Qp w Bs Bf A g.length c C s.length e W')
   (fun ys=>ys.map (·.1)=List.range xs.length) (fun pre=>∃k,k<=xs.length/\pre.map (·.1)=List.range k) xs.length w0):=fun n Bs Bf w0 hn hq=>ld C A e c s g xs.length Bs Bf n w w0 hC hA hf hxl hn hq
 have n1:0<M:=by omega
 have n2:M<=64:=by omega
 have hs3:s.length<=1000000:=by have:=(aD.1 hg).1;omega
 have HCL:Hid (∀W,Kp w W->CJ 23 #[.slice C s.length e] W (oQ s W)):=fun W kk=>cv C e s W (hC.kp kk) hs3
 have MN:xs.length<=64:=(aW ht).2.2.2;obtain⟨cs,hmk,sH⟩:=mk_ M oM;have HOW:=lH sH;have HBX:=lH hB;have HIX:=lH hi;clear ht hf hg hp hz hM sH hs3 hxl hfl hi;refine(callsIn_wide (n:=4)).1 ?_;refine callsIn_of_wp_marks Tryz.func135 rfl trivial ?_ rfl;simp only[Tryz.ntmps135,acd,abg,acC,Nat.reduceAdd,Nat.reduceSub,Array.replicate_succ,Array.replicate_zero,List.push_toArray,List.append_toArray,acu,abX]
 gi_wp2_with fail
 refine⟨trivial,(callsIn_wide.2 HT.out).mono ?_⟩;rintro en w1 ⟨rfl,k1⟩;have F1:=lH (F0.out.tr k1);have b0:=F1.out.fr.b0;have b1:=F1.out.fr.b1;clear k1
 gi_wp2_with fail
 refine⟨trivial,(callsIn_wide.2 (HG.out _ F1.out.fr.kp)).mono ?_⟩;rintro en w2 ⟨rfl,k2⟩;have F2:=lH (F1.out.tr k2);clear k2 b0 b1
 gi_wp2_with fail
 refine⟨trivial,(callsIn_wide.2 (HS.out _ F2.out.fr.kp)).mono ?_⟩;rintro en w3 ⟨rfl,rfl⟩;have b0:=F2.out.fr.b0;have y1:w.heap.size<w2.heap.size:=by have:=F2.out.sz;omega
 have y2:w.heap.size<w2.heap.size+1:=by omega
 gi_wp2_with fail
 refine⟨trivial,(callsIn_wide.2 (nW _ _ _ _ _ _ _)).mono ?_⟩;rintro en w4 ⟨rfl,rfl⟩
 gi_wp2_with fail
 have hmx:Tryz.prog.follows .mixedOrders=true:=by kernel_rfl
 obtain⟨W1,hW1⟩:∃W1,((((w2.alloc (.cells cs 3)).alloc (.cells #[.slice (some ⟨w2.heap.size,0,none⟩) M M] 23)).alloc (.cells #[.slice A g.length c] 23)).alloc (.cells #[.slice C s.length e] 23))=W1:=⟨_,rfl⟩
 have FW:Hid (Fe w A g.length c B xs.length d 0 W1):=by show Fe w A g.length c B xs.length d 0 W1;rw[<-hW1];exact(((F2.out.tr (Kp.af _ _)).tr (Kp.af _ _)).tr (Kp.af _ _)).tr (Kp.af _ _)
 have SW:Hid (W1.heap.size=w2.heap.size+4/\w.heap.size+3<=w2.heap.size):=⟨by rw[<-hW1];simp,F2.out.sz⟩
 have OW:Hid (Own (w.heap.size+3) W1 (.slice (some ⟨w2.heap.size,0,none⟩) M M) (List.replicate M 0)):=by
  show Own (w.heap.size+3) W1 _ _;rw[<-hW1];exact(((HOW.out w2 (w.heap.size+3) F2.out.sz).kp (Kp.af _ _)).kp (Kp.af _ _)).kp (Kp.af _ _)
 have BW:Hid (W1.cell? ⟨w2.heap.size+1,0,none⟩=some (.slice (some ⟨w2.heap.size,0,none⟩) M M)):=by show W1.cell? _=_;rw[<-hW1];simp[go_sem]
 have QW:Hid (Qp w (w2.heap.size+1+1) (w2.heap.size+1+1+1) A g.length c C s.length e W1):=by
  refine lH ⟨by rw[<-hW1];simp[go_sem],by rw[<-hW1];simp[go_sem],FW.out.fr.kp,?_,?_⟩
  ·have:=SW.out.1;omega
  ·have:=SW.out.1;omega
 rw[hW1];clear hW1 b0 y1 y2 hmk;have hw1:w.heap.size<=W1.heap.size:=FW.out.fr.kp.size;refine wpIn_rangeFunc_ownF rfl oM (gf:=183) (lb:= #[pX (w2.heap.size+1+1) 0, pX (w2.heap.size+1+1+1) 0]) rfl trivial (enters_of Tryz.func183 kM rfl)
  (HPS.out _ _ _ W1 oM QW.out) (fun h k q=>k (h q))
  (fun W l o o' hl h ho hw q=>q.tb (belowK_b (w:=W1) (aaZ _) W l o o' hl h ho hw) (by have:=SW.out.1;omega) (by have:=SW.out.1;omega) hw1)
  (abu _ _) (fun _=>rfl)
  (fun pre W=>W1.heap.size<=W.heap.size/\Fe w A g.length c B xs.length d 0 W/\W.cell? ⟨w2.heap.size+1,0,none⟩=some (.slice (some ⟨w2.heap.size,0,none⟩) M M)/\∃zs,TnJ.eS (fun i=>(ew s g i).toNat) xs (pre.map (·.1)) (List.replicate M 0)=some zs/\Own (w.heap.size+3) W (.slice (some ⟨w2.heap.size,0,none⟩) M M) zs)
  (fun c0 pre W=>W1.heap.size<=W.heap.size/\c0= .ret/\Fe w A g.length c B xs.length d 10 W/\TnJ.eS (fun i=>(ew s g i).toNat) xs (pre.map (·.1)) (List.replicate M 0)=none)
  (fun pre W W' row hs hg hr=>by
   have hb:=iZ hs.1 hg hr;have:=SW.out;obtain⟨h1,h2,h3,zs,h4,h5⟩:=hs;exact⟨ab3 h1 hb.size,h2.tb (hb.mono oM),(hb.cell (p:=⟨w2.heap.size+1,0,none⟩) (by show w2.heap.size+1<_;omega)).trans h3,zs,h4,h5.tb hb oM⟩)
  (fun c0 pre W W' row hs hg hr=>by
   have hb:=iZ hs.1 hg hr;have:=SW.out;exact⟨ab3 hs.1 hb.size,hs.2.1,hs.2.2.1.tb (hb.mono oM),hs.2.2.2⟩)
  ⟨aaZ _,FW.out,BW.out,_,rfl,OW.out⟩
  (fun x=>{tmps:= #[.agg #[.slice A g.length c, .slice B xs.length d], .slice C s.length e, pX w.heap.size 0,undef, pX (w.heap.size+1) 0, pX (w.heap.size+1+1) 0, pX (w2.heap.size+1) 0, .int .i64 (x.1:Int), .int .i64 (ew s g x.1),undef,undef,
   .agg #[.slice A g.length c, .slice B xs.length d], .bool true, .bool false,undef, .slice C s.length e, pX w.heap.size 0, .slice A g.length c, .bool true, .bool false,undef, .slice C s.length e, .int .i64 (M:Int), .slice (some ⟨w2.heap.size,0,none⟩) M M, pX w.heap.size 0, .slice A g.length c, .slice C s.length e,
   .func (.func 183) #[] #[pX (w2.heap.size+1+1) 0, pX (w2.heap.size+1+1+1) 0], .int .i64 (x.1:Int), .int .i64 (ew s g x.1),undef,undef,undef,undef,undef,undef,undef,undef,undef,undef,undef,undef,undef,undef,undef,undef,undef,undef,undef,undef,undef,undef,undef,undef,undef],defers:=[]}) ?assign ?body ?done ?stop
 case assign=>
  intro l x W K hK
  gi_wp2
  exact hK
 case body=>
  rintro l pre ⟨k,hk⟩ W ⟨hsz,hfe,hbx,zs,hfp,hown⟩ _;obtain⟨m,hm,RO⟩:=HM.out k hk;obtain⟨bd,x,rfl,hbl,hx,hc⟩:=HBX.out.at_ hk;dsimp only;rw[hm];obtain⟨hz1,hz2⟩:=TnJ.sM hfp (bN.rep oM);rw[aa5]at hz2;obtain⟨y,hy⟩:∃y,zs[m]?=some y:=⟨zs[m]'(by rw[hz2];exact RO),aaV _⟩
  have hi1:I64 x:=HIX.out.get hx;have hi2:I64 y:=hz1.get hy;have HAD:Hid (∀W,CJ 127 #[.int .i64 y, .int .i64 x] W fun e w'=>e= .returned (.tuple #[.int .i64 (cY y x).1, .int .i64 (cY y x).2])/\W=w'):=fun W=>nA y x hi2 hi1 W
  have hmm:(fun i:Nat=>(ew s g i).toNat) k=m:=by show(ew s g k).toNat=m;omega
  have b1:=hfe.fr.b1;have c1:W.cell? (bd.add k)=some (.int .i64 x):=(hfe.fr.kp.cell (by rw[ah];exact hbl)).trans hc;have e1:=hown.cell_ hy;have e2:=hown.fE m;have HO:=lH hown;have HFE:=lH hfe;have i1:(0:Int)<=(m:Int):=by omega
  have i2:(m:Int)<(M:Int):=by omega
  have i3:(k:Int)<(xs.length:Int):=by omega
  have i4:(0:Int)<=(k:Int):=by omega
  have HSW:=lH SW.out;have r0:=hfe.fr.r0;have r1:=hfe.fr.r1;have f0:=hfe.fr.f0;have f1:=hfe.fr.f1;have g0:=hfe.e0;have g1:=hfe.ef;have hne:w2.heap.size≠w2.heap.size+1:=by omega
  rcases TnG.DE y x with⟨v,hv⟩|hv
  ·rw[hv]at HAD;have HST:Hid (TnJ.eS (fun i=>(ew s g i).toNat) xs ((pre++[(⟨k,hk⟩:Pl xs.length)]).map (·.1)) (List.replicate M 0)=some (zs.set m v)):=by
    show TnJ.eS _ _ _ _=_;rw[abK];exact(TnJ.oF hfp).trans (TnJ.Er hmm hx hy hv)
   clear hv hmm hm hx hc hown hbl hfp hz1 hz2 hy hi1 hi2
   gi_wp2
   refine mE hmx kM kM (fun⟨_,_,h⟩=>h) ?_
   repeat (quiet_step ((go_at_call 127;exact bM (HAD.out _))))
   refine wpQuiet_nil ?_;rintro w7 ⟨nq,rfl⟩
   gi_wp2
   refine⟨KeepsOthers.trans (mW W nq) (KeepsOthers.setCell _ _ _),fun q=>(q.tr (Kp.aI _ _)).put (p:=⟨w2.heap.size,m,none⟩) (by show w2.heap.size≠_;omega) (by show w2.heap.size≠_;omega) (by show w.heap.size<=w2.heap.size;have:=HSW.out.2;omega) _,?_,?_,?_,zs.set m v,HST.out,(HO.out.drewN nq).kY m v⟩
   ·rw[abG];exact hsz
   ·exact(HFE.out.tr (Kp.aI _ _)).tb ((abu _ _).setCell (p:=⟨w2.heap.size,m,none⟩) HSW.out.2 _)
   ·exact bp (fun e=>hne (abP Addr.block e)) hbx
  ·rw[hv]at HAD;have HST:Hid (TnJ.eS (fun i=>(ew s g i).toNat) xs ((pre++[(⟨k,hk⟩:Pl xs.length)]).map (·.1)) (List.replicate M 0)=none):=by
    show TnJ.eS _ _ _ _=_;rw[abK];exact(TnJ.oF hfp).trans (TnJ.JT hmm hx hy hv)
   clear hv hmm hm hx hc hown hbl hfp hz1 hz2 hy hi1 hi2
   gi_wp2
   refine mE hmx kM kM (fun⟨_,_,h⟩=>h) ?_
   repeat (quiet_step ((go_at_call 127;exact bM (HAD.out _))))
   refine wpQuiet_nil ?_;rintro w7 ⟨nq,rfl⟩
   gi_wp2
   refine⟨KeepsOthers.trans (mW W nq) (((KeepsOthers.setCell _ _ _).trans (KeepsOthers.setCell _ _ _)).trans (KeepsOthers.setCell _ _ _)),?_,rfl,(HFE.out.tr (Kp.aI _ _)).Nm 10,HST.out⟩;rw[abG,abG,abG];exact hsz
 case done=>
  rintro D ys W hD hS ⟨hsz,hfe,hbx,zs,hfp,hown⟩ hK;have hDl:D<W.heap.size:=(aa0.1 hK).1;rw[hS]at hfp;have HF:=lH (HY.out zs hfp);have HZL:Hid (M=zs.length):=by show M=_;have:=(TnJ.sM hfp (bN.rep oM)).2;rw[aa5]at this;exact this.symm
  have HO:=lH hown;have HFE:=lH hfe;have HKD:=lH hK;have y1:w2.heap.size+1<W.heap.size:=by have:=SW.out.1;omega
  have HCW:Hid (Kp w W.drew):=hfe.fr.kp.drew;clear hown hK hfp;have r0:=hfe.fr.r0;have r1:=hfe.fr.r1;have f0:=hfe.fr.f0;have f1:=hfe.fr.f1;have g0:=hfe.e0;have g1:=hfe.ef;have y2:w.heap.size+1<W.heap.size:=by have:=hfe.sz;omega
  have y3:w.heap.size+1+1<W.heap.size:=by have:=hfe.sz;omega
  gi_wp2
  refine qR ?_
  gi_region_with_o (refine⟨trivial,?_⟩;gi_at_call 23;refine(callsIn_wide.2 (HCL.out _ HCW.out)).mono ?_;rintro en w5 ⟨AS,cS,rfl,oS,kS⟩;have SF:∀p:Addr,p.block<W.heap.size->w5.cell? p=W.cell? p:=fun p hp=>kS.cell hp;have Sn:∀p:Addr,p.block<W.heap.size->w5.frozen? p=W.frozen? p:=fun p hp=>kS.frozen hp;have HOS:=lH oS;have HKS:Hid (Kp W w5):=⟨kS.os,kS.tape,kS.output,kS.size,kS.block⟩;clear oS kS)
  all_goals gi_wp2
  all_goals
   have hK5:w5.heap[D]?=some (.deferred (some [])):=(HKS.out.block D hDl).trans HKD.out;have hD2:w.heap.size+2<D:=by have:=SW.out.1;have:=SW.out.2;omega
   have hF5:=HFE.out.tr HKS.out;refine jd (v:= .tuple #[.agg #[.slice AS s.length cS, .slice (some ⟨w2.heap.size,0,none⟩) M M], .int .i64 0]) (wI hK5 hD2 _ _ _) (by
    have hp:=Ki (wI (w:=w) hK5 hD2 (.slice AS s.length cS) (.slice (some ⟨w2.heap.size,0,none⟩) M M) (.int .i64 0));obtain⟨q0,q1,q2⟩:=hF5.qE (.slice AS s.length cS) (.slice (some ⟨w2.heap.size,0,none⟩) M M) 0;have p0:=(hp.cell (p:=⟨w.heap.size+1,0,none⟩) (by show w.heap.size+1<D;omega)).trans q0;have p1:=(hp.cell (p:=⟨w.heap.size+1,1,none⟩) (by show w.heap.size+1<D;omega)).trans q1;have p2:=(hp.cell (p:=⟨w.heap.size+1+1,0,none⟩) (by show w.heap.size+1+1<D;omega)).trans q2;unfold nC nh at p0 p1 p2;simp[results,Tryz.results135,go_sem,p0,p1,p2]) ?_
   exact aG.on HF.out rfl HZL.out (HOS.out.nC (by show _<W.heap.size;omega) hK5 hD2 _ _ _).sl ((HO.out.kp HKS.out).nC (aby _) hK5 hD2 _ _ _).sl ((hF5.qB _ _ _).trans ((Ki (wI hK5 hD2 _ _ _)).mono oM)) (HOS.out.nw (by show _<=W.heap.size;omega)) (HO.out.nw oM)
 case stop=>
  rintro D c0 pre W hD ⟨k,hk,hpre⟩ ⟨hsz,rfl,hfe,hfp⟩ hK;rw[hpre]at hfp;have HF:=lH (HN.out k hk hfp);have hD2:w.heap.size+2<D:=by have:=SW.out.1;have:=SW.out.2;omega
  have hp:=Ki hK;have p0:=(hp.cell (p:=⟨w.heap.size+1,0,none⟩) (by show w.heap.size+1<D;omega)).trans hfe.fr.r0;have p1:=(hp.cell (p:=⟨w.heap.size+1,1,none⟩) (by show w.heap.size+1<D;omega)).trans hfe.fr.r1;have p2:=(hp.cell (p:=⟨w.heap.size+1+1,0,none⟩) (by show w.heap.size+1+1<D;omega)).trans hfe.e0;have HP:=lH (And.intro p0 (And.intro p1 p2));have HKK:=lH (And.intro hK (hfe.fr.kp.trans (hp.mono oM)));clear p0 p1 p2 hK hp
  gi_wp2
  refine jd (v:= .tuple #[.agg #[zS, zS], .int .i64 10]) HKK.out.1 (by
   obtain⟨p0,p1,p2⟩:=HP.out;simp[results,Tryz.results135,go_sem,p0,p1,p2]) ?_
  exact aG.err HF.out HKK.out.2
theorem G5(A B C:DV)(c d e:Nat)(g xs s:BU)(w:World)(hA:Rd w A g)(hB:Rd w B xs)(hC:Rd w C s)(hi:bN xs):
  CJ 135 #[.agg #[.slice A g.length c, .slice B xs.length d], .slice C s.length e] w (aG (dw g xs s) w):=by
 have hl:=hA.len;have gl:=hB.len;have kl:=hC.len
 cases ht:aB g xs with
 |false=>
  have F0:=lH (Fe.mk_ w A g.length c B xs.length d 25 29);have HT:=lH (av A B c d g xs _ (hA.kp F0.out.fr.kp) (hB.kp F0.out.fr.kp));rw[ht]at HT;have HF:=lH (TnG.LC s ht);clear ht;go_enter Tryz.func135,Tryz.ntmps135;go_wp2_with fail;refine(aa9 (Hid.out HT)) ?_;rintro e w1 ⟨rfl,k1⟩;have F1:=lH (F0.out.tr k1);obtain⟨⟨_,b0,b1,r0,r1,f0,f1,_⟩,g0,g1,_⟩:=F1.out;clear k1;go_wp2;refine aaX (v:= .tuple #[.agg #[zS, zS], .int .i64 30]) (by
   obtain⟨q0,q1,q2⟩:=F1.out.qE (zS) (zS) 30;unfold nC nh at q0 q1 q2;simp[results,Tryz.results135,go_sem,q0,q1,q2]) rfl ?_
  exact aG.err HF.out (F1.out.qB _ _ _)
 |true=>
  cases hf:cw s g with
  |true=>exact CS A B C c d e g xs s w hA hB hC hi ht hf
  |false=>
   have F0:=lH (Fe.mk_ w A g.length c B xs.length d 25 29);have HT:=lH (av A B c d g xs _ (hA.kp F0.out.fr.kp) (hB.kp F0.out.fr.kp));rw[ht]at HT;have HG:Hid (∀W,Kp w W->CJ 161 #[.slice C s.length e, .slice A g.length c] W fun e w'=>e= .returned (.bool false)/\Kp W w'):=fun W k=>by rw[<-hf];exact iI C A e c s g W (hC.kp k) (hA.kp k)
   have HF:=lH (TnG.uR ht hf);clear ht hf;go_enter Tryz.func135,Tryz.ntmps135;go_wp2_with fail;refine(aa9 (Hid.out HT)) ?_;rintro e w1 ⟨rfl,k1⟩;have F1:=lH (F0.out.tr k1);obtain⟨⟨_,b0,b1,_,_,_,_,_⟩,_,_,_⟩:=F1.out;clear k1;go_wp2_with fail;refine(aa9 (HG.out _ F1.out.fr.kp)) ?_;rintro e w2 ⟨rfl,k2⟩;have F2:=lH (F1.out.tr k2);clear b0 b1 k2;obtain⟨⟨_,b0,b1,r0,r1,f0,f1,_⟩,g0,g1,_⟩:=F2.out;go_wp2;refine aaX (v:= .tuple #[.agg #[zS, zS], .int .i64 20]) (by
    obtain⟨q0,q1,q2⟩:=F2.out.qE (zS) (zS) 20;unfold nC nh at q0 q1 q2;simp[results,Tryz.results135,go_sem,q0,q1,q2]) rfl ?_
   exact aG.err HF.out (F2.out.qB _ _ _)
open RowKit ShM
structure TR(w:World)(A:DV)(l:BU)(B:DV)(m:BU):Prop where
 s:Rd w A l
 d:Rd w B m
theorem TR.kp{w w':World}{A B:DV}{l m:BU}(h:TR w A l B m)(k:Kp w w'):TR w' A l B m:=⟨h.s.kp k,h.d.kp k⟩
theorem TR.af{w:World}{A B:DV}{l m:BU}(h:TR w A l B m)(o:Obj):TR (w.alloc o) A l B m:=h.kp (Kp.af w o)
def Um(l m:BU)(a b:Nat)(err:Int)(w:World)(e:Ending)(w':World):Prop:=
 ∃A c B d,e= .returned (.tuple #[.agg #[.slice A a c, .slice B b d], .int .i64 err])/\TR w' A l B m/\Kp w w'
theorem aG.u{r:Tn}{l m:BU}{a b:Nat}{err:Int}{w:World}{e:Ending}{w':World}(h:aG r w e w')(hr:r=(l,m,err))(ha:l.length=a)(hb:m.length=b):Um l m a b err w e w':=by
 subst hr ha hb;obtain⟨A,c,B,d,h1,h2,h3,h4⟩:=h;exact⟨A,c,B,d,h1,⟨h2.toSl.rd,h3.toSl.rd⟩,h4⟩
section
variable{A B C:DV}{c d e n m o a b:Nat}{l k:BU}{err:Int}{w:World}
theorem vq(s xs g:BU)(h:TR w A s B xs)(hC:Rd w C g)(hn:n=s.length)(hm:m=xs.length)(ho:o=g.length)(hr:cm s xs g=(l,k,err))(ha:l.length=a)(hb:k.length=b):
  CJ 113 #[.agg #[.slice A n c, .slice B m d], .slice C o e] w (Um l k a b err w):=by
 subst hn hm ho;exact(xq A B C c d e s xs g w h.s h.d hC).mono fun _ _ r=>r.u hr ha hb
end
def Bk(W:World)(b:Nat)(A:DV)(n c:Nat)(B:DV)(m d:Nat):Prop:=W.heap[b]?=some (.cells #[.slice A n c, .slice B m d] 25 (0,0))
section
variable{W W':World}{b b' n c m d n' c' m' d':Nat}{A B C D:DV}
theorem Bk.lt(h:Bk W b A n c B m d):b<W.heap.size:=(aa0.1 h).1
theorem Bk.c0(h:Bk W b A n c B m d):W.cell? ⟨b,0,none⟩=some (.slice A n c):=by simp[World.cell?,show W.heap[b]?=_ from h]
theorem Bk.c1(h:Bk W b A n c B m d):W.cell? ⟨b,1,none⟩=some (.slice B m d):=by simp[World.cell?,show W.heap[b]?=_ from h]
theorem Bk.f0(h:Bk W b A n c B m d)(i:Nat):W.frozen? ⟨b,i,none⟩=false:=by simp[World.frozen?,show W.heap[b]?=_ from h]
theorem Bk.kp(h:Bk W b A n c B m d)(k:Kp W W'):Bk W' b A n c B m d:=(k.block b h.lt).trans h
theorem Bk.af(h:Bk W b A n c B m d)(o:Obj):Bk (W.alloc o) b A n c B m d:=h.kp (Kp.af W o)
theorem Bk.new(h:b=W.heap.size):Bk (W.alloc (.cells #[.slice A n c, .slice B m d] 25)) b A n c B m d:=by
 subst h;show(W.heap.push _)[W.heap.size]?=some _;simp
theorem Bk.other(h:Bk W b A n c B m d)(hne:b≠b')(x y:Value):Bk ((W.setCell ⟨b',0,none⟩ x).setCell ⟨b',1,none⟩ y) b A n c B m d:=by
 unfold Bk;rw[abq _ _ _ b hne,abq _ _ _ b hne];exact h
theorem heap_set{cs:Array Value}{t:TypeId}(h:W.heap[b]?=some (.cells cs t (0,0)))(i:Nat)(x:Value):(W.setCell ⟨b,i,none⟩ x).heap[b]?=some (.cells (cs.setIfInBounds i x) t (0,0)):=by
 obtain⟨hlt,hk⟩:=aa0.1 h;show(W.heap.modify b _)[b]?=_;rw[acS (by rw[Array.size_modify];exact hlt),Array.getElem_modify_self,hk];rfl
theorem Bk.put(h:Bk W b A n c B m d):Bk ((W.setCell ⟨b,0,none⟩ (.slice C n' c')).setCell ⟨b,1,none⟩ (.slice D m' d')) b C n' c' D m' d':=
 heap_set (heap_set h 0 _) 1 _
theorem Rd.past{A0:DV}{xs:BU}(r:Rd W A0 xs)(h:Bk W b A n c B m d)(x y:Value):Rd ((W.setCell ⟨b,0,none⟩ x).setCell ⟨b,1,none⟩ y) A0 xs:=by
 cases xs with
 |nil=>exact Rd.nil _ _
 |cons z zs=>
  have hne:∀ad,A0=some ad->ad.block≠b:=by
   rintro ad rfl e;obtain⟨ad',e',hb,hc⟩:=r.2 sC;injection e' with e';subst e';have h0:=hc 0 z rfl;have e1:ad.add 0=ad:=by unfold Addr.add;simp
   rw[e1]at h0;unfold World.cell? at h0;rw[e,show W.heap[b]?=_ from h]at h0;obtain⟨_,off,spot⟩:=ad
   match off,h0 with
   |0,h0=>cases spot<;>simp at h0
   |1,h0=>cases spot<;>simp at h0
   |k+2,h0=>cases spot<;>simp at h0
  exact(r.gW hne x).gW hne y
theorem Sl.past{A0:DV}{c0:Nat}{xs:BU}(r:Sl W A0 c0 xs)(h:Bk W b A n c B m d)(x y:Value):Sl ((W.setCell ⟨b,0,none⟩ x).setCell ⟨b,1,none⟩ y) A0 c0 xs:=⟨r.rd.past h x y,r.le,r.cap⟩
end
theorem TR.bU{w:World}{A B:DV}:TR w A [] B []:=⟨Rd.nil _ _,Rd.nil _ _⟩
open ChangeShapes WideShapes ChangeAt
theorem qk:laidOutB Tryz.prog=true:=by kernel_rfl
theorem Cu:Tryz.prog.cellsOf 3=1:=by kernel_rfl
section
variable{H:Type}{enc:TypeId×Value->H}
theorem yu{w:World}{a:Addr}{v:Value}(h:w.cell? a=some v):a.block<w.heap.size:=by
 rcases Nat.lt_or_ge a.block w.heap.size with hl|hl
 ·exact hl
 ·simp[World.cell?,Array.getElem?_eq_none hl]at h
theorem Dv{W W':World}(hb:Below W.heap.size W W'):∀(ts:List TypeId) (vs:List Value) (ds:List (DataW H)) (ps:List MemPlace),(ts.all fun t=>Tryz.prog.readableRec t&&decide (t<Tryz.prog.types.size))=true->
  DataW.TrodAll enc Tryz.prog W 0 (fun _=>true) true ts vs ds ps->(∀x∈ps,x.block<W.heap.size)->DataW.TrodAll enc Tryz.prog W' 0 (fun b=>decide (b<W.heap.size)) true ts vs ds ps:=by
 intro ts
 induction ts with
 |nil=>
  intro vs ds ps _ h _;obtain⟨rfl,rfl,rfl⟩:=trodAll_nil h;exact trodAll_mk0
 |cons t ts ih=>
  intro vs ds ps hr h hlt;obtain⟨v,vs',d,ds',p,q,rfl,rfl,rfl,h1,h2⟩:=trodAll_cons h;simp only[ach,abb,acz]at hr;exact trodAll_cons_mk (Below.trod qk hr.1.1 hr.1.2 h1 hb fun x hx=>hlt x (by simp[hx])) (ih _ _ _ hr.2 h2 fun x hx=>hlt x (by simp[hx]))
