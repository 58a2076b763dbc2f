import Derived.Test.YtdfknefcgijhmaaGreatTk
import Derived.Test.YtdfknefcgijhmaaGreatShAll
import Derived.Test.YtdfknefcgijhmaaGreatFixMath
import Derived.Deep.RegionWith
import Derived.Deep.DeepCutAuto
import Derived.Deep.RegionHeld3
import Derived.Lib.Mul64
import Derived.Lib.BitFns
import Derived.Laws.CopyOwn
import Derived.Deep.RegionLaw
import Derived.RangeFuncNested
import Derived.RangeFuncBound
import Derived.RangeFuncCalls
import Derived.RangeFuncLeaves
import Derived.Shelf.Abstract
import Derived.Shelf.RegionOpen
import Derived.OwnWalkIn
import Derived.TacticsInMore
import Derived.LoopNIn
import Derived.LoopIn
import Derived.RangeFuncBox
import Derived.StillTailTactics
import Derived.BigQuiet
import Derived.Deep.QuietTactic
import Derived.ProofKit
import Derived.OpenShut
import Derived.Carry
import Derived.Lib.SmallJoins
set_option maxHeartbeats 16000000
set_option maxRecDepth 100000
set_option linter.unusedVariables false
set_option linter.unusedSimpArgs false
namespace Go.Proofs.ShM
open Go.Proofs.cF (cY cO fw dN)
def eC:List Int→List Int→List Int
 |x::s,i::t=>(if x=1 then 0 else i)::eC s t
 |_,_=> []
def ew(s g:List Int)(p:Int):Int:=plc s (eC s ((dR g p).drop (g.length-s.length)))
def aB(s d:List Int):Bool:=okS s&&decide ((d.length:Int)=au s)
abbrev Tn:=List Int×List Int×Int
def dm(s:List Int)(n:Int):Tn:=if okS s=true then(s,List.replicate (au s).toNat n,0)else([],[],20)
def pO(s d t:List Int):Int×Int:=if aB s d=true then gn s t else(0,30)
def atV(s d t:List Int):Int×Int:=if(pO s d t).2=0 then(d.getD (pO s d t).1.toNat 0,0)else(0,(pO s d t).2)
def bK(s d g:List Int)(k:Nat):List Int:=(List.range k).map fun i:Nat=>d.getD (ew s g i).toNat 0
def cm(s d g:List Int):Tn:=
 if aB s d=true then(if cw s g=true then(g,bK s d g (au g).toNat,0)else([],[],20))else([],[],30)
def fG(f:Nat→Nat):List Int→Nat→List Int→List Int×Int
 |zs,_,[]=>(zs,0)
 |zs,k,x::d=>if(cY (zs.getD (f k) 0) x).2=0 then fG f (zs.set (f k) (cY (zs.getD (f k) 0) x).1) (k+1) d else([],(cY (zs.getD (f k) 0) x).2)
def fF(s g d:List Int):List Int×Int:=fG (fun i=>(ew s g i).toNat) (List.replicate (au s).toNat 0) 0 d
def dw(g d s:List Int):Tn:=
 if aB g d=true then(if cw s g=true then(if(fF s g d).2=0 then(s,(fF s g d).1,0)else([],[],(fF s g d).2))else([],[],20))else([],[],30)
def AL:List Int→List Int→Prop
 |x::s,y::g=>(x=1∨x=y)∧AL s g
 | [],[]=>True
 |_,_=>False
def lI:List Int→List Int→Int→Int
 |x::s,_::g,p=>(if x=1 then 0 else p/ai g)*ai s+lI s g (p%ai g)
 |_,_,_=>0
theorem RA{x y:Int}(h:jn x y=some y):x=1∨x=y:=by
 unfold jn at h
 split at h
 ·injection h with h;exact .inr h
 ·split at h
  ·exact .inl (by assumption)
  ·cases h
theorem GI{s:List Int}:∀{g:List Int},s.length=g.length→kJ s g=some g→AL s g:=by
 induction s with
 |nil=>intro g h _;cases g with
  |nil=>trivial
  |cons _ _=>simp at h
 |cons x s ih=>
  intro g h hj
  cases g with
  |nil=>simp at h
  |cons y g=>
   simp only[kJ,Option.bind_eq_some_iff,Option.map_eq_some_iff]at hj;obtain⟨z,hz,l,hl,e⟩:=hj;injection e with e1 e2
   subst e1 e2;exact⟨RA hz,ih (by simpa using h) hl⟩
theorem vK{n:Nat}{s:List Int}(h:n≤s.length):pad n s=s:=by unfold pad;rw[show n-s.length=0 by omega];rfl
theorem pQ(n:Nat)(s:List Int):ai (pad n s)=ai s:=by
 unfold pad;generalize n-s.length=k
 induction k with
 |zero=>rfl
 |succ k ih=>rw[List.replicate_succ,List.cons_append];simp[ai,ih]
theorem dP{s g:List Int}(h:cw s g=true):okS s=true∧okS g=true∧s.length≤g.length∧AL (pad g.length s) g:=by
 have j:=fU.1 h;have hl:=j.sizes.2;refine⟨j.1,j.2.1,hl,?_⟩;have e:bG s g=(g,0):=fR.2 j;unfold bG at e;rw[if_pos (by simp[j.1,j.2.1])]at e
 cases hj:kI s g with
 |none=>rw[hj]at e;simp at e
 |some l=>
  rw[hj]at e;simp only at e
  split at e
  ·injection e with e1 _
   subst e1;unfold kI at hj;rw[show max s.length l.length=l.length by omega,vK (s:=l) (Nat.le_refl _)]at hj;exact GI (Ks hl) hj
  ·simp at e
theorem JW(s:List Int):∀(g:List Int) (p:Int),s.length=g.length→lI s g p=plc s (eC s (dR g p)):=by
 induction s with
 |nil=>intro g p h;cases g<;>simp[lI,plc]
 |cons x s ih=>
  intro g p h
  cases g with
  |nil=>simp at h
  |cons y g=>simp only[lI,dR,eC,plc];rw[ih g _ (by simpa using h)]
theorem Et(s:List Int)(k:Nat):∀(g:List Int) (p:Int),s.length+k=g.length→lI (List.replicate k 1++s) g p=plc s (eC s ((dR g p).drop k)):=by
 induction k with
 |zero=>intro g p h;exact JW s g p h
 |succ k ih=>
  intro g p h
  cases g with
  |nil=>simp at h
  |cons y g=>
   rw[List.replicate_succ,List.cons_append];simp only[lI,if_true,dR,List.drop_succ_cons,Int.zero_mul,Int.zero_add];exact ih g _ (by simp at h;omega)
theorem zS{s g:List Int}(h:s.length≤g.length)(p:Int):ew s g p=lI (pad g.length s) g p:=by
 unfold ew pad;rw[Et s _ g p (by omega)]
theorem mH{y P p:Int}(hP:1≤P)(h0:0≤p)(h1:p<y*P):0≤p/P∧p/P<y∧0≤p%P∧p%P<P:=
 ⟨Int.ediv_nonneg h0 (by omega),Int.ediv_lt_of_lt_mul (by omega) h1,Int.emod_nonneg _ (by omega),Int.emod_lt_of_pos _ (by omega)⟩
theorem mU{q r x P:Int}(hP:1≤P)(h0:0≤q)(h1:q<x)(h2:0≤r)(h3:r<P):0≤q*P+r∧q*P+r<x*P∧(q*P+r)/P=q∧(q*P+r)%P=r:=by
 have a:=Int.mul_nonneg h0 (show 0≤P by omega);have b:=Int.mul_le_mul_of_nonneg_right (show q+1≤x by omega) (show 0≤P by omega);rw[Int.add_mul,Int.one_mul]at b;refine⟨by omega,by omega,?_,?_⟩
 ·rw[Int.add_comm,Int.add_mul_ediv_right _ _ (by omega),Int.ediv_eq_zero_of_lt h2 h3];omega
 ·rw[Int.add_comm,Int.add_mul_emod_self_right,Int.emod_eq_of_lt h2 h3]
theorem tO{s:List Int}:∀{g:List Int} {p:Int},AL s g→g.all aX=true→0≤p→p<ai g→0≤lI s g p∧lI s g p<ai s∧1≤ai s:=by
 induction s with
 |nil=>intro g p h _ _ _;cases g with
  |nil=>simp[lI,ai]
  |cons _ _=>exact h.elim
 |cons x s ih=>
  intro g p h hg h0 h1
  cases g with
  |nil=>exact h.elim
  |cons y g=>
   simp only[List.all_cons,Bool.and_eq_true]at hg;have hp:=aY hg.2;have hy:=ct.1 hg.1;obtain⟨a,b,c,d⟩:=mH hp h0 (by simpa [ai]using h1);obtain⟨i1,i2,i3⟩:=ih h.2 hg.2 c d;simp only[lI,ai];have hx:1≤x:=by rcases h.1 with e|e<;>omega
   have hq:0≤(if x=1 then 0 else p/ai g)∧(if x=1 then 0 else p/ai g)<x:=by
    split
    ·omega
    ·rcases h.1 with e|e
     ·contradiction
     ·omega
   obtain⟨l1,l2,_,_⟩:=mU i3 hq.1 hq.2 i1 i2;have:=Int.mul_le_mul hx i3 (by omega) (by omega);exact⟨l1,l2,by omega⟩
theorem zU{s:List Int}:∀{p:Int},s.all aX=true→0≤p→p<ai s→lI s s p=p:=by
 induction s with
 |nil=>intro p _ h0 h1;simp[ai]at h1;show(0:Int)=p;omega
 |cons x s ih=>
  intro p hs h0 h1;simp only[List.all_cons,Bool.and_eq_true]at hs;have hp:=aY hs.2;obtain⟨a,b,c,d⟩:=mH hp h0 (by simpa [ai]using h1);simp only[lI,ih hs.2 c d];have e:=Int.mul_ediv_add_emod p (ai s);rw[Int.mul_comm]at e
  split
  ·have:p/ai s=0:=by omega
   rw[this]at e;omega
  ·exact e
theorem bI{s:List Int}(h:okS s=true):s.all aX=true:=(aD.1 h).2.1
theorem q9{s g:List Int}(h:cw s g=true){p:Int}(h0:0≤p)(h1:p<ai g):0≤ew s g p∧ew s g p<ai s:=by
 obtain⟨_,b,c,d⟩:=dP h;rw[zS c];obtain⟨e,f,_⟩:=tO d (bI b) h0 h1;rw[pQ]at f;exact⟨e,f⟩
theorem vp{s:List Int}(h:okS s=true){p:Int}(h0:0≤p)(h1:p<ai s):ew s s p=p:=by
 rw[zS (Nat.le_refl _),vK (Nat.le_refl _),zU (bI h) h0 h1]
theorem KU{s:List Int}:∀{g:List Int} {t:List Int},AL s g→g.all aX=true→aZ g t=true→aZ s (eC s t)=true:=by
 induction s with
 |nil=>intro g t _ _ _;cases t<;>rfl
 |cons x s ih=>
  intro g t h hg ht
  cases g with
  |nil=>exact h.elim
  |cons y g=>
   cases t with
   |nil=>simp[aZ]at ht
   |cons i t=>
    simp only[List.all_cons,Bool.and_eq_true]at hg;simp only[aZ,Bool.and_eq_true,decide_eq_true_eq]at ht;have hy:=ct.1 hg.1;simp only[eC,aZ,Bool.and_eq_true,decide_eq_true_eq];refine⟨?_,ih h.2 hg.2 ht.2⟩
    split
    ·omega
    ·rcases h.1 with e|e
     ·contradiction
     ·omega
theorem Mu(k:Nat):∀{s g:List Int},AL (List.replicate k 1++s) g→AL s (g.drop k):=by
 induction k with
 |zero=>intro s g h;exact h
 |succ k ih=>intro s g h;cases g with
  |nil=>exact h.elim
  |cons y g=>exact ih h.2
theorem Ll{g:List Int}(k:Nat):∀{t:List Int},k≤g.length→aZ g t=true→aZ (g.drop k) (t.drop k)=true:=by
 induction k generalizing g with
 |zero=>intro t _ h;exact h
 |succ k ih=>intro t hk h;cases g with
  |nil=>simp at hk
  |cons y g=>cases t with
   |nil=>simp[aZ]at h
   |cons i t=>
    simp only[aZ,Bool.and_eq_true]at h;exact ih (by simpa using hk) h.2
theorem LB{s g t:List Int}(h:cw s g=true)(ht:aZ g t=true):aZ s (eC s (t.drop (g.length-s.length)))=true:=by
 obtain⟨a,b,c,d⟩:=dP h;exact KU (Mu _ d) (dA (bI b) _) (Ll _ (by omega) ht)
theorem zP{s g:List Int}(h:cw s g=true){p:Int}(h0:0≤p)(h1:p<ai g):gn s (eC s ((dR g p).drop (g.length-s.length)))=(ew s g p,0):=by
 obtain⟨a,b,c,d⟩:=dP h;exact jj a (LB h (uY (bI b) h0 h1).1)
def sg:Nat→(Nat→Int)→Int
 |0,_=>0
 |n+1,F=>sg n F+F n
theorem ez{n:Nat}{F G:Nat→Int}(h:∀i,i<n→F i=G i):sg n F=sg n G:=by
 induction n with
 |zero=>rfl
 |succ n ih=>simp only[sg];rw[ih fun i hi=>h i (by omega),h n (by omega)]
theorem Ad(n:Nat):sg n (fun _=>0)=0:=by
 induction n with
 |zero=>rfl
 |succ n ih=>simp only[sg,ih];omega
theorem Ny(n:Nat)(F:Nat→Int)(c:Int):sg n (fun i=>F i*c)=sg n F*c:=by
 induction n with
 |zero=>simp[sg]
 |succ n ih=>simp only[sg,ih];rw[Int.add_mul]
theorem Nx{n k:Nat}(hk:k<n)(c:Int):sg n (fun j=>if k=j then c else 0)=c:=by
 induction n with
 |zero=>omega
 |succ n ih=>
  simp only[sg];by_cases h:k=n
  ·subst h;rw[ez (G:=fun _=>0) fun i hi=>if_neg (by omega),Ad];simp
  ·rw[ih (by omega),if_neg h];omega
theorem vv(a b:Nat)(F:Nat→Int):sg (a+b) F=sg a F+sg b fun i=>F (a+i):=by
 induction b with
 |zero=>simp[sg]
 |succ b ih=>rw[←Nat.add_assoc];simp only[sg,ih];omega
theorem JZ(y P:Nat)(F:Nat→Int):sg (y*P) F=sg y fun q=>sg P fun r=>F (q*P+r):=by
 induction y with
 |zero=>simp[sg]
 |succ y ih=>rw[Nat.succ_mul,vv,ih];rfl
theorem zT{s:List Int}:∀{g:List Int} {p:Int},AL s g→g.all aX=true→0≤p→p<ai s→sg (ai g).toNat (fun i=>if lI s g i=p then 1 else 0)*ai s=ai g:=by
 induction s with
 |nil=>
  intro g p h _ h0 h1
  cases g with
  |nil=>
       simp[ai]at h1⊢;have:p=0:=by omega
       subst this;simp[sg,lI]
  |cons _ _=>exact h.elim
 |cons x s ih=>
  intro g p h hg h0 h1
  cases g with
  |nil=>exact h.elim
  |cons y g=>
   simp only[List.all_cons,Bool.and_eq_true]at hg;have hP:=aY hg.2;have hy:=ct.1 hg.1;have hQ:1≤ai s:=(tO h.2 hg.2 (Int.le_refl 0) (by omega)).2.2;have e1:(ai (y::g)).toNat=y.toNat*(ai g).toNat:=by simp only[ai];rw[Int.toNat_mul (by omega) (by omega)]
   rw[e1,JZ];have hd:∀q r:Nat,r<(ai g).toNat→((q*(ai g).toNat+r:Nat):Int)/ai g=q∧((q*(ai g).toNat+r:Nat):Int)%ai g=r:=by
    intro q r hr;have:=mU (P:=ai g) (q:=q) (r:=r) (x:=(q:Int)+1) hP (by omega) (by omega) (by omega) (by omega);have e:((q*(ai g).toNat+r:Nat):Int)=(q:Int)*ai g+r:=by
     rw[Int.natCast_add,Int.natCast_mul,Int.toNat_of_nonneg (by omega)]
    rw[e];exact⟨this.2.2.1,this.2.2.2⟩
   obtain⟨a,b,c,d⟩:=mH hQ h0 (by simpa [ai]using h1);have hp:=Int.mul_ediv_add_emod p (ai s);rw[Int.mul_comm]at hp;have hin:=ih h.2 hg.2 c d;by_cases hx:x=1
   ·subst hx;have hp0:p/ai s=0:=by omega
    have e2:(sg y.toNat fun q=>sg (ai g).toNat fun r=>if lI (1::s) (y::g) ((q*(ai g).toNat+r:Nat):Int)=p then 1 else 0)=
      sg y.toNat fun _=>sg (ai g).toNat fun r=>if lI s g r=p%ai s then 1 else 0:=by
     refine ez fun q _=>ez fun r hr=>?_
     simp only[lI,(hd q r hr).2,if_true,Int.zero_mul,Int.zero_add];rw[show p%ai s=p by rw[hp0]at hp;omega]
    rw[e2];have e3:∀(n:Nat) (c:Int),sg n (fun _=>c)=n*c:=by
     intro n c
     induction n with
     |zero=>simp[sg]
     |succ n ih=>simp only[sg,ih,Int.natCast_succ,Int.add_mul,Int.one_mul]
    rw[e3];simp only[ai,Int.one_mul];rw[Int.mul_assoc,hin,Int.toNat_of_nonneg (by omega)]
   ·have hxy:x=y:=by
                rcases h.1 with e|e
                ·contradiction
                ·exact e
    subst hxy;have e2:(sg x.toNat fun q=>sg (ai g).toNat fun r=>if lI (x::s) (x::g) ((q*(ai g).toNat+r:Nat):Int)=p then 1 else 0)=
      sg x.toNat fun q=>if(p/ai s).toNat=q then(sg (ai g).toNat fun r=>if lI s g r=p%ai s then 1 else 0)else 0:=by
     refine ez fun q hq=>?_
     have hs:∀r:Nat,r<(ai g).toNat→lI (x::s) (x::g) ((q*(ai g).toNat+r:Nat):Int)=q*ai s+lI s g r:=by
      intro r hr;simp only[lI,(hd q r hr).1,(hd q r hr).2,if_neg hx]
     split
     ·refine ez fun r hr=>?_
      rw[hs r hr];have hq':(q:Int)=p/ai s:=by omega
      rw[hq'];by_cases e:lI s g r=p%ai s
      ·rw[if_pos (by rw[e];exact hp),if_pos e]
      ·rw[if_neg (by omega),if_neg e]
     ·rename_i hne;refine(ez (G:=fun _=>0) fun r hr=>?_).trans (Ad _);rw[hs r hr,if_neg];intro e;obtain⟨i1,i2,_⟩:=tO (p:=(r:Int)) h.2 hg.2 (by omega) (by omega);have:=(mU (q:=(q:Int)) (x:=(q:Int)+1) hQ (by omega) (by omega) i1 i2).2.2.1;rw[e]at this;omega
    rw[e2,Nx (by omega)];simp only[ai];rw[Int.mul_comm x,←Int.mul_assoc,hin,Int.mul_comm]
theorem Di{s g:List Int}(h:cw s g=true){p:Int}(h0:0≤p)(h1:p<ai s):sg (ai g).toNat (fun i=>if ew s g i=p then 1 else 0)*ai s=ai g:=by
 obtain⟨a,b,c,d⟩:=dP h;have:=zT d (bI b) h0 (by rw[pQ];exact h1);rw[pQ]at this;rw[ez (G:=fun i=>if lI (pad g.length s) g i=p then 1 else 0) fun i _=>by rw[zS c]];exact this
theorem wE(f:Nat→Nat)(d:List Int):∀(zs:List Int) (k:Nat) (ys:List Int),fG f zs k d=(ys,0)→ys.length=zs.length∧
  ∀p,p<zs.length→ys.getD p 0=zs.getD p 0+sg d.length fun i=>if f (k+i)=p then d.getD i 0 else 0:=by
 induction d with
 |nil=>intro zs k ys h;simp only[fG]at h;injection h with h _;subst h;exact⟨rfl,fun p _=>by simp[sg]⟩
 |cons x d ih=>
  intro zs k ys h;simp only[fG]at h
  split at h
  ·rename_i he;obtain⟨h1,h2⟩:=ih _ _ _ h;have MO:(cY (zs.getD (f k) 0) x).1=zs.getD (f k) 0+x:=by
    rcases dN (zs.getD (f k) 0+x)with⟨_,_,e⟩|⟨_,e⟩
    ·unfold cY;rw[e]
    ·unfold cY at he;rw[e]at he;simp at he
   refine⟨by simpa using h1,fun p hp=>?_⟩;rw[h2 p (by simpa using hp),MO];have e:sg (d.length+1) (fun i=>if f (k+i)=p then(x::d).getD i 0 else 0)=(if f k=p then x else 0)+sg d.length fun i=>if f (k+1+i)=p then d.getD i 0 else 0:=by
    rw[Nat.add_comm d.length 1,vv];simp only[sg,Nat.add_zero,List.getD_cons_zero,Int.zero_add];congr 1;exact ez fun i _=>by rw[show k+(1+i)=k+1+i by omega,Nat.add_comm 1 i,List.getD_cons_succ]
   rw[List.length_cons,e];by_cases hf:f k=p
   ·subst hf;rw[if_pos rfl];simp only[List.getD_eq_getElem?_getD,List.getElem?_set_self hp,Option.getD_some];omega
   ·rw[if_neg hf];simp only[List.getD_eq_getElem?_getD,List.getElem?_set_ne hf];omega
  ·rename_i he;injection h with _ h2
   exact absurd h2 he
theorem yN(f:Nat→Nat)(d:List Int):∀(zs:List Int) (k:Nat) (c:Int),0≤c→(∀p,p<zs.length→ -(c*k)≤zs.getD p 0∧zs.getD p 0≤c*k)→(∀i,i<d.length→ -c≤d.getD i 0∧d.getD i 0≤c)→
  (∀i,i<d.length→f (k+i)<zs.length)→c*(k+d.length:Nat)≤9223372036854775807→(fG f zs k d).2=0:=by
 induction d with
 |nil=>intros;rfl
 |cons x d ih=>
  intro zs k c hc hz hd hf hb;have hfk:=hf 0 (by simp);rw[Nat.add_zero]at hfk;have h1:=hz (f k) hfk;have h2:=hd 0 (by simp);rw[List.getD_cons_zero]at h2;have e1:c*((k+1:Nat):Int)=c*k+c:=by rw[Int.natCast_add,Int.mul_add];simp
  have hmon:c*((k+1:Nat):Int)≤c*(k+(x::d).length:Nat):=Int.mul_le_mul_of_nonneg_left (by simp;omega) hc;have e:cY (zs.getD (f k) 0) x=(zs.getD (f k) 0+x,0):=cO (by omega) (by omega);simp only[fG,e,if_true];refine ih _ (k+1) c hc (fun p hp=>?_) (fun i hi=>?_) (fun i hi=>?_) (by rw[show k+1+d.length=k+(x::d).length by simp;omega];exact hb)
  ·rw[List.length_set]at hp;by_cases hfp:f k=p
   ·subst hfp;simp only[List.getD_eq_getElem?_getD,List.getElem?_set_self hp,Option.getD_some]at h1⊢;omega
   ·have:=hz p hp;simp only[List.getD_eq_getElem?_getD,List.getElem?_set_ne hfp]at this⊢;omega
  ·have:=hd (i+1) (by simpa using hi);simpa using this
  ·have:=hf (i+1) (by simpa using hi);rw[show k+(i+1)=k+1+i by omega]at this;simpa using this
def bN(xs:List Int):Prop:=∀x∈xs,-9223372036854775808≤x∧x≤9223372036854775807
theorem bN.bU:bN []:=fun x h=>by cases h
theorem bN.get{xs:List Int}(h:bN xs){i:Nat}{x:Int}(hx:xs[i]?=some x): -9223372036854775808≤x∧x≤9223372036854775807:=h x (List.mem_of_getElem? hx)
theorem bN.rep{n:Nat}{x:Int}(h: -9223372036854775808≤x∧x≤9223372036854775807):bN (List.replicate n x):=fun y hy=>by
 obtain⟨_,rfl⟩:=List.mem_replicate.1 hy;exact h
theorem bN.kY{xs:List Int}(h:bN xs)(j:Nat){x:Int}(hx: -9223372036854775808≤x∧x≤9223372036854775807):bN (xs.set j x):=fun y hy=>by
 rcases List.mem_or_eq_of_mem_set hy with h'|rfl
 ·exact h y h'
 ·exact hx
theorem PK{a b:Int}: -9223372036854775808≤(cY a b).1∧(cY a b).1≤9223372036854775807:=by
 unfold cY;rcases dN (a+b)with⟨h1,h2,e⟩|⟨_,e⟩
 ·rw[e];exact⟨h1,h2⟩
 ·rw[e];simp
theorem aA{s d:List Int}:aB s d=true↔okS s=true∧(d.length:Int)=ai s:=by
 unfold aB;simp only[Bool.and_eq_true,decide_eq_true_eq];exact⟨fun⟨a,b⟩=>⟨a,by rw[←aL a];exact b⟩,fun⟨a,b⟩=>⟨a,by rw[aL a];exact b⟩⟩
theorem aW{s d:List Int}(h:aB s d=true):okS s=true∧(au s).toNat=d.length∧1≤d.length∧d.length≤64:=by
 obtain⟨a,b⟩:=aA.1 h;have:=bT a;rw[aL a];exact⟨a,by omega,by omega,by omega⟩
theorem nQ(s d g:List Int)(k:Nat):(bK s d g k).length=k:=by simp[bK]
theorem bW{g:List Int}(h:okS g=true):((au g).toNat:Int)=ai g:=by
 have:=bT h;rw[aL h];omega
theorem LL{a b:List Int}(h:a.length=b.length)(k:∀i,i<a.length→a.getD i 0=b.getD i 0):a=b:=by
 refine List.ext_getElem h fun i h1 h2=>?_
 have:=k i h1;simpa [List.getD_eq_getElem?_getD,h1,h2]using this
theorem oB(g d s:List Int):(aB g d=false∧dw g d s=([],[],30))∨(aB g d=true∧cw s g=false∧dw g d s=([],[],20))∨
  (aB g d=true∧cw s g=true∧(fF s g d).2≠0∧dw g d s=([],[],(fF s g d).2))∨
  (aB g d=true∧cw s g=true∧(fF s g d).2=0∧dw g d s=(s,(fF s g d).1,0)):=by
 unfold dw
 cases aB g d<;>cases cw s g<;>by_cases h:(fF s g d).2=0<;>simp[h]
theorem GX(f:Nat→Nat)(d:List Int):∀(pre:List Int) (k:Nat),pre.length=k→(∀i,i<d.length→f (k+i)=k+i)→bN d→fG f (pre++List.replicate d.length 0) k d=(pre++d,0):=by
 induction d with
 |nil=>intro pre k _ _ _;simp[fG]
 |cons x d ih=>
  intro pre k hk hf hd;have h0:=hf 0 (by simp);rw[Nat.add_zero]at h0;have hx:=hd x (by simp);have e0:(pre++List.replicate (x::d).length 0).getD k (0:Int)=0:=by
   rw[List.getD_eq_getElem?_getD,List.getElem?_append_right (by omega)];simp[←hk]
  have e1:cY 0 x=(x,0):=by unfold cY;rw[cO (by omega) (by omega)];congr 1;omega
  simp only[fG,h0,e0,e1,if_true];have e2:(pre++List.replicate (x::d).length 0).set k x=(pre++[x])++List.replicate d.length 0:=by
   rw[List.set_append_right _ _ (by omega),←hk];simp[List.replicate_succ]
  rw[e2,ih (pre++[x]) (k+1) (by simp[hk]) (fun i hi=>by have:=hf (i+1) (by simpa using hi);rw[show k+1+i=k+(i+1) by omega];exact this) (fun y hy=>hd y (by simp[hy]))];simp
theorem m7{s d:List Int}(h:aB s d=true)(hd:bN d):dw s d s=(s,d,0):=by
 obtain⟨a,b⟩:=aA.1 h;have hn:=bW a;have e:fF s s d=(d,0):=by
  unfold fF;rw[show(au s).toNat=d.length by omega];have:=GX (fun i=>(ew s s i).toNat) d [] 0 rfl (fun i hi=>by
   show(ew s s ((0+i:Nat):Int)).toNat=0+i;rw[vp a (by omega) (by omega)];rfl) hd
  simpa using this
 unfold dw;rw[if_pos h,if_pos (by rw[CX];exact a),e];rfl
theorem CW{s g d:List Int}(h:cw s g=true)(k:(fF s g d).2=0):
  ((fF s g d).1.length:Int)=ai s∧∀p:Nat,(p:Int)<ai s→(fF s g d).1.getD p 0=sg d.length fun i=>if(ew s g i).toNat=p then d.getD i 0 else 0:=by
 have hn:=bW (dP h).1;have e:fF s g d=((fF s g d).1,0):=Prod.ext rfl k;obtain⟨h1,h2⟩:=wE _ d _ 0 _ e;rw[List.length_replicate]at h1 h2;refine⟨by omega,fun p hp=>?_⟩;rw[h2 p (by omega)];have:(List.replicate (au s).toNat (0:Int)).getD p 0=0:=by
  rw[List.getD_eq_getElem?_getD,List.getElem?_replicate];split<;>rfl
 rw[this,Int.zero_add];exact ez fun i _=>by rw[Nat.zero_add]
theorem uS{s g d:List Int}(h:cw s g=true)(hd:(d.length:Int)=ai g)(hb:∀i,i<d.length→ -1099511627776≤d.getD i 0∧d.getD i 0≤1099511627776):(fF s g d).2=0:=by
 have hn:=bW (dP h).1;have hg:=bT (dP h).2.1;refine yN _ d _ 0 1099511627776 (by omega) (fun p hp=>?_) hb (fun i hi=>?_) (by omega)
 ·have:(List.replicate (au s).toNat (0:Int)).getD p 0=0:=by
   rw[List.getD_eq_getElem?_getD,List.getElem?_replicate];split<;>rfl
  rw[this];omega
 ·have:=q9 h (p:=((0+i:Nat):Int)) (by omega) (by omega);rw[List.length_replicate];show(ew s g ((0+i:Nat):Int)).toNat<_;omega
theorem eN(n:Nat)(x:Int)(i:Nat)(h:i<n):(List.replicate n x).getD i 0=x:=by
 rw[List.getD_eq_getElem?_getD,List.getElem?_replicate,if_pos h];rfl
theorem wB{s:List Int}(n:Int)(h:okS s=true):aB s (List.replicate (au s).toNat n)=true:=aA.2 ⟨h,by rw[List.length_replicate,bW h]⟩
theorem CQ{s u:List Int}{n:Int}(h:cw u s=true)(hn: -1099511627776≤n∧n≤1099511627776):
  ∃c:List Int,dw s (List.replicate (au s).toNat n) u=(u,c,0)∧c.length=(au u).toNat∧∀(i:Nat) (x:Int),c[i]?=some x→x*c.length=n*(au s).toNat∧ -70368744177664≤x∧x≤70368744177664:=by
 obtain⟨b,a,_,_⟩:=dP h;have ha:=bW a;have hb:=bW b;have hd:((List.replicate (au s).toNat n).length:Int)=ai s:=by rw[List.length_replicate];exact ha
 have h3:=uS h hd (fun i hi=>by rw[List.length_replicate]at hi;rw[eN _ _ _ hi];exact hn);obtain⟨f1,f2⟩:=CW h h3;refine⟨(fF u s (List.replicate (au s).toNat n)).1,?_,by omega,fun i x hx=>?_⟩
 ·unfold dw;rw[if_pos (wB n a),if_pos h,if_pos h3]
 ·have hi:=(List.getElem?_eq_some_iff.1 hx).1;have e:=f2 i (by omega);rw[List.getD_eq_getElem?_getD,hx,Option.getD_some,List.length_replicate]at e;have e2:(sg (au s).toNat fun j=>if(ew u s j).toNat=i then(List.replicate (au s).toNat n).getD j 0 else 0)=(sg (ai s).toNat fun j=>if ew u s j=i then 1 else 0)*n:=by
   rw[←Ny,←aL a];refine ez fun j hj=>?_
   have:=q9 h (p:=(j:Int)) (by omega) (by omega);rw[eN _ _ _ hj];by_cases hc:ew u s j=i
   ·rw[if_pos (by omega),if_pos hc];simp
   ·rw[if_neg (by omega),if_neg hc];simp
  have hc:=Di h (p:=(i:Int)) (by omega) (by omega);rw[e2]at e;generalize (sg (ai s).toNat fun j=>if ew u s j=i then(1:Int)else 0)=c at e hc;have p1:=bT a;have p2:=bT b;have c0:0≤c:=by
   rcases(show c<0∨0≤c by omega)with h|h
   ·have:=Int.mul_le_mul_of_nonneg_right (show c≤ -1 by omega) (show 0≤ai u by omega);omega
   ·exact h
  have c1:c≤64:=by
   have:=Int.mul_le_mul_of_nonneg_left (show 1≤ai u by omega) c0;omega
  subst e;rw[f1,ha,←hc];refine⟨by rw[Int.mul_comm c n,Int.mul_assoc],?_,?_⟩
  ·have:=Int.mul_le_mul_of_nonneg_left hn.1 c0;omega
  ·have:=Int.mul_le_mul_of_nonneg_left hn.2 c0;omega
theorem Mh{g d t:List Int}(h:aB g d=true)(hp:aZ g t=false):atV g d t=(0,20):=by
 have e1:pO g d t=(0,20):=by unfold pO;rw[if_pos h];exact jk (.inr hp)
 unfold atV;rw[e1];rfl
end Go.Proofs.ShM
namespace Go.Proofs.YtdfknefcgijhmaaGreat
open Go.RowKit Go.Proofs.ShM
namespace TnA
theorem Nj{s d:List Int}(h:okS s=false):aB s d=false:=by unfold aB;rw[h];rfl
theorem Nk{s d:List Int}(h:okS s=true):aB s d=((d.length:Int)==au s):=by
 unfold aB;rw[h,Bool.eq_iff_iff];simp
end TnA
theorem bM{f:FuncId}{args:Array Value}{w:World}{n:Nat}{v:Value}(h:Calls Tryz.prog f args (w.drewN n) fun e w'=>e= .returned v∧w.drewN n=w'):
  Calls Tryz.prog f args (w.drewN n) fun e w''=>e= .returned v∧∃m,w''=w.drewN m:=h.mono fun _ _ ⟨he,hm⟩=>⟨he,n,hm.symm⟩
theorem av(A B:Option Addr)(c d:Nat)(s xs:List Int)(w:World)(h:Rd w A s)(g:Rd w B xs):
  Calls Tryz.prog 55 #[.agg #[.slice A s.length c, .slice B xs.length d]] w fun e w'=>e= .returned (.bool (aB s xs))∧Kp w w':=by
 have hl:=h.len;have gl:=g.len;have HC:Hid (∀W,Kp w W→Calls Tryz.prog 44 #[.slice A s.length c] W fun e w'=>e= .returned (.bool (okS s))∧W=w'):=fun W k=>bQ A c s W (h.kp k)
 have HS:Hid (∀W,Kp w W→Calls Tryz.prog 46 #[.slice A s.length c] W fun e w'=>e= .returned (.int .i64 (au s))∧W=w'):=fun W k=>bC A c s W (h.kp k)
 have K0:Hid (Kp w (w.alloc (.cells #[.slice A s.length c, .slice B xs.length d] 31))):=Kp.af _ _
 cases ho:okS s with
 |false=>
  rw[ho]at HC;have HF:=lH (TnA.Nj (d:=xs) ho);clear ho;go_enter Tryz.func55,Tryz.ntmps55
  go_wp2
  go_quiet ((go_at_call 44;exact bM (HC.out _ (K0.out.tr (Kp.aI _ _)))))
  go_wp2
  go_ret;exact⟨cV HF.out.symm,K0.out.tr (Kp.aI _ _)⟩
 |true=>
  rw[ho]at HC;have HF:=lH (TnA.Nk (d:=xs) ho);clear ho;go_enter Tryz.func55,Tryz.ntmps55
  go_wp2
  go_quiet (first|(go_at_call 44;exact bM (HC.out _ (K0.out.tr (Kp.aI _ _))))|(go_at_call 46;exact bM (HS.out _ (K0.out.tr (Kp.aI _ _)))))
  go_wp2
  go_ret;exact⟨cV HF.out.symm,K0.out.tr (Kp.aI _ _)⟩
def sS(n m:Nat):Bool:=decide (n≤100)&&decide (m≤100)
theorem C3(A B:Option Addr)(c d n m:Nat)(w:World)(h:n≤9223372036854775807)(g:m≤9223372036854775807):
  Calls Tryz.prog 21 #[.agg #[.slice A n c, .slice B m d]] w fun e w'=>e= .returned (.bool (sS n m))∧Kp w w':=by
 have K0:Hid (Kp w (w.alloc (.cells #[.slice A n c, .slice B m d] 31))):=Kp.af _ _;by_cases h1:n≤100
 ·have HF:Hid (decide ((m:Int)≤100)=sS n m):=by show _=sS n m;unfold sS;simp[h1];omega
  go_enter Tryz.func21,Tryz.ntmps21
  go_wp2
  go_ret;exact⟨cV HF.out,K0.out⟩
 ·have HF:Hid (sS n m=false):=by show sS n m=false;unfold sS;simp[h1]
  go_enter Tryz.func21,Tryz.ntmps21
  go_wp2
  go_ret;exact⟨cV HF.out.symm,K0.out⟩
def oQ(xs:List Int)(w:World)(e:Ending)(w':World):Prop:=∃A c,e= .returned (.slice A xs.length c)∧Own w.heap.size w' (.slice A xs.length c) xs∧Kp w w'
theorem cv(A:Option Addr)(c:Nat)(xs:List Int)(w:World)(h:Rd w A xs)(hs:xs.length≤1000000):
  Calls Tryz.prog 47 #[.slice A xs.length c] w (oQ xs w):=by
 have qT:∀(w:World) (a:Option Addr) (n c:Nat),(binOp .eql 29 (.slice a n c) (.slice none 0 0)).run Tryz.prog w= .ok (.bool a.isNone) w:=fun w a n c=>Lib.run_eql_slice_nil w _ _ a n c 0 0 Tryz.underlying29
 cases A with
 |none=>
  obtain rfl:xs=[]:=by
   cases xs with
   |nil=>rfl
   |cons x xs=>obtain⟨ad,e,_⟩:=h.2 (by simp);cases e
  go_enter Tryz.func47,Tryz.ntmps47
  go_wp2
  go_ret;exact⟨none,0,rfl,Own.bU _ _,Kp.refl _⟩
 |some ad=>
  go_enter Tryz.func47,Tryz.ntmps47
  go_wp2_with (at_builtin;refine dW rfl (.tmp 5) (.tmp 6) rfl _ [] rfl (Own.zero w (Nat.le_refl _)) (some ad) c xs _ rfl rfl (h.af _) (by simpa using hs) (by simp) ?_;intro z1 A1 c1 w1 HZ o1 b1;have K1:=lH ((Kp.af w _).trans b1);have R1:=lH o1;clear o1 b1)
  go_ret;have hz:z1=xs:=by have:=HZ.out;simpa using this
  subst hz;exact⟨A1,c1,rfl,R1.out,K1.out⟩
open Go.RowKit Go.Proofs.ShM
namespace TnB
theorem AQ(s d t:List Int):(∃e:Int,(e=30∨e=20)∧pO s d t=(0,e))∨∃k:Nat,k<d.length∧pO s d t=((k:Int),0)∧aB s d=true:=by
 cases h:aB s d with
 |false=>exact .inl ⟨30, .inl rfl,by unfold pO;rw[h];rfl⟩
 |true=>
  obtain⟨a,b⟩:=aA.1 h;have e:pO s d t=gn s t:=by unfold pO;rw[if_pos h]
  cases ht:aZ s t with
  |false=>exact .inl ⟨20, .inr rfl,by rw[e];exact jk (.inr ht)⟩
  |true=>
   obtain⟨p0,p1,_⟩:=IL (bI a) ht;refine .inr ⟨(plc s t).toNat,by omega,?_,rfl⟩;rw[e,jj a ht,Int.toNat_of_nonneg p0]
theorem PE{s d t:List Int}{k:Nat}{x:Int}(h:pO s d t=((k:Int),0))(hx:d[k]?=some x):atV s d t=(x,0):=by
 unfold atV;rw[h];simp[hx]
theorem Dm{s d t:List Int}{e:Int}(h:pO s d t=(0,e))(he:e=30∨e=20):atV s d t=(0,e):=by
 unfold atV;rw[h];rcases he with rfl|rfl<;>rfl
theorem NW{s d:List Int}(t:List Int)(h:aB s d=false):pO s d t=(0,30):=by unfold pO;rw[h];rfl
theorem NX{s d:List Int}(t:List Int)(h:aB s d=true):pO s d t=gn s t:=by unfold pO;rw[h];rfl
end TnB
theorem Jz.of{r:Int×Int}{n err:Int}{w w':World}(h:r=(n,err))(k:Kp w w'):Jz r.1 r.2 w (.returned (.tuple #[.int .i64 n, .int .i64 err])) w':=⟨by rw[h],k⟩
theorem Kk(A B C:Option Addr)(c d g:Nat)(s xs t:List Int)(w:World)(hA:Rd w A s)(hB:Rd w B xs)(hC:Rd w C t):
  Calls Tryz.prog 185 #[.agg #[.slice A s.length c, .slice B xs.length d], .slice C t.length g] w (Jz (pO s xs t).1 (pO s xs t).2 w):=by
 have hl:=hA.len;have gl:=hB.len;have kl:=hC.len;have K0:Hid (Kp w (w.alloc (.cells #[.slice A s.length c, .slice B xs.length d] 31))):=Kp.af _ _;have HT:=lH (av A B c d s xs _ (hA.kp K0.out) (hB.kp K0.out))
 cases ht:aB s xs with
 |false=>
  rw[ht]at HT;have HF:=lH (TnB.NW t ht);clear ht;go_enter Tryz.func185,Tryz.ntmps185
  go_wp2_with fail
  refine(Calls.mono (Hid.out HT)) ?_;rintro e w1 ⟨rfl,k1⟩
  go_wp2
  go_ret2
  exact Jz.of HF.out (K0.out.tr k1)
 |true=>
  rw[ht]at HT;have HF:=lH (TnB.NX t ht);clear ht;obtain⟨p,hp⟩:=eX (gn s t);have HP:Hid (∀W,Kp w W→Calls Tryz.prog 189 #[.slice A s.length c, .slice C t.length g] W (SN p W)):=fun W k=>by rw[hp];exact rJ A C c g s t W (hA.kp k) (hC.kp k)
  rw[←hp]at HF;clear hp;go_enter Tryz.func185,Tryz.ntmps185
  go_wp2_with fail
  refine(Calls.mono (Hid.out HT)) ?_;rintro e w1 ⟨rfl,k1⟩;have c0:w1.cell? ⟨w.heap.size,0,none⟩=some (.slice A s.length c):=(k1.cell (p:=⟨w.heap.size,0,none⟩) (by simp)).trans (World.cell?_alloc_at _ _ _ 0 rfl);have K1:=lH (K0.out.tr k1);clear k1
  go_wp2_with fail
  refine(Calls.mono (HP.out _ K1.out)) ?_;rintro e w2 ⟨rfl,n,rfl⟩
  go_wp2
  go_ret2
  exact Jz.of HF.out (K1.out.tr (Kp.aI _ _))
theorem PF(A B C:Option Addr)(c d g:Nat)(s xs t:List Int)(w:World)(hA:Rd w A s)(hB:Rd w B xs)(hC:Rd w C t):
  Calls Tryz.prog 174 #[.agg #[.slice A s.length c, .slice B xs.length d], .slice C t.length g] w (Jz (atV s xs t).1 (atV s xs t).2 w):=by
 have hl:=hA.len;have gl:=hB.len;have kl:=hC.len;have K0:Hid (Kp w (w.alloc (.cells #[.slice A s.length c, .slice B xs.length d] 31))):=Kp.af _ _;have HT:=lH (Kk A B C c d g s xs t _ (hA.kp K0.out) (hB.kp K0.out) (hC.kp K0.out));rcases TnB.AQ s xs t with⟨e,he,hp⟩|⟨k,hk,hp,_⟩
 ·rw[hp]at HT;have HF:=lH (TnB.Dm hp he);clear hp;rcases he with rfl|rfl
  all_goals
   go_enter Tryz.func174,Tryz.ntmps174
   go_wp2_with fail
   refine(Calls.mono (Hid.out HT)) ?_;rintro e w1 ⟨rfl,k1⟩
   go_wp2
   go_ret2
   exact Jz.of HF.out (K0.out.tr k1)
 ·rw[hp]at HT;obtain⟨bd,x,rfl,hlt,hx,hc⟩:=hB.at_ hk;have HF:=lH (TnB.PE hp hx);clear hp hx;go_enter Tryz.func174,Tryz.ntmps174
  go_wp2_with fail
  refine(Calls.mono (Hid.out HT)) ?_;rintro e w1 ⟨rfl,k1⟩;have c0:w1.cell? ⟨w.heap.size,1,none⟩=some (.slice (some bd) xs.length d):=(k1.cell (p:=⟨w.heap.size,1,none⟩) (by simp)).trans (World.cell?_alloc_at _ _ _ 1 rfl);have c1:w1.cell? (bd.add k)=some (.int .i64 x):=((K0.out.tr k1).cell (by rw[ah];exact hlt)).trans hc;have K1:=lH (K0.out.tr k1);clear k1 hc
  go_wp2
  go_ret2
  exact Jz.of HF.out K1.out
open Go.RowKit Go.Proofs.ShM
section
variable{w w':World}{A B:Option Addr}{xs:List Int}{v:Value}{b n c:Nat}
theorem Rd.gW(h:Rd w A xs){p:Addr}(hp:∀ad,A=some ad→ad.block≠p.block)(u:Value):Rd (w.setCell p u) A xs:=
 ⟨h.1,fun hn=>by
  obtain⟨ad,e,hb,hc⟩:=h.2 hn;refine⟨ad,e,by rw[World.size_setCell];exact hb,fun j x hx=>?_⟩;rw[World.cell?_setCell_other]
  ·exact hc j x hx
  ·intro e';exact hp ad e (by rw[e',ah])⟩
theorem Own.gW(h:Own b w v xs){p:Addr}(hp:p.block<b)(u:Value):Own b (w.setCell p u) v xs:=
 h.of_block fun g hg=>by
  have:=h.from_ hg;exact Below.heap_setCell _ _ _ g (by omega)
theorem Own.addr(h:Own b w (.slice A n c) xs)(hx:0<xs.length):∃g,A=some ⟨g,0,none⟩∧b≤g∧g<w.heap.size:=by
 rcases h.2 with⟨e,h0⟩|⟨g,cap,cur,e,hb,hh,_⟩
 ·omega
 ·injection e with e1 _ _
  exact⟨g,e1,hb,(Array.getElem?_eq_some_iff.1 hh).1⟩
theorem Own.Ir(h:Own b w v xs){g:Nat}(hg:v.ownBlock=some g):b≤g∧g<w.heap.size:=by
 rcases h.2 with⟨rfl,_⟩|⟨g',cap,cur,rfl,hb,hh,_⟩
 ·cases hg
 ·injection hg with hg
  subst hg;exact⟨hb,(Array.getElem?_eq_some_iff.1 hh).1⟩
theorem Own.ad(h:Own b w (.slice A n c) xs){ad:Addr}(hA:A=some ad):b≤ad.block∧ad.block<w.heap.size:=by
 subst hA;exact h.Ir rfl
theorem Sl.gW(h:Sl w A c xs){p:Addr}(hp:∀ad,A=some ad→ad.block≠p.block)(u:Value):Sl (w.setCell p u) A c xs:=⟨h.rd.gW hp u,h.le,h.cap⟩
theorem Sl.of(h:Rd w A xs)(hc:xs.length≤c∧c≤9223372036854775807):Sl w A c xs:=⟨h,hc.1,hc.2⟩
theorem Sl.room(h:Sl w A c xs):xs.length≤c∧c≤9223372036854775807:=⟨h.le,h.cap⟩
theorem Sl.af(h:Sl w A c xs)(o:Obj):Sl (w.alloc o) A c xs:=h.kp (Kp.af _ _)
theorem Kp.al(h:Kp w w')(o:Obj):Kp w (w'.alloc o):=h.tr (Kp.af _ _)
end
def aG(r:Tn)(w:World)(e:Ending)(w':World):Prop:=
 ∃A c B d,e= .returned (.tuple #[.agg #[.slice A r.1.length c, .slice B r.2.1.length d], .int .i64 r.2.2])∧Sl w' A c r.1∧Sl w' B d r.2.1∧Kp w w'
theorem aG.of{r:Tn}{l m:List Int}{err:Int}{w w':World}{A B:Option Addr}{c d:Nat}(h:r=(l,m,err))(hA:Sl w' A c l)(hB:Sl w' B d m)(k:Kp w w'):
  aG r w (.returned (.tuple #[.agg #[.slice A l.length c, .slice B m.length d], .int .i64 err])) w':=by
 subst h;exact⟨A,c,B,d,rfl,hA,hB,k⟩
theorem aG.on{r:Tn}{l m:List Int}{a b:Nat}{err:Int}{w w':World}{A B:Option Addr}{c d:Nat}(h:r=(l,m,err))(ha:a=l.length)(hb:b=m.length)(hA:Sl w' A c l)(hB:Sl w' B d m)(k:Kp w w'):
  aG r w (.returned (.tuple #[.agg #[.slice A a c, .slice B b d], .int .i64 err])) w':=by
 subst ha hb;exact aG.of h hA hB k
theorem aG.err{r:Tn}{err:Int}{w w':World}(h:r=([],[],err))(k:Kp w w'):aG r w (.returned (.tuple #[.agg #[.slice none 0 0, .slice none 0 0], .int .i64 err])) w':=
 aG.of (A:=none) (B:=none) h (Sl.bU _) (Sl.bU _) k
structure Fr(w:World)(A:Option Addr)(n c:Nat)(B:Option Addr)(m d:Nat)(w':World):Prop where
 kp:Kp w w'
 b0:w'.cell? ⟨w.heap.size,0,none⟩=some (.slice A n c)
 b1:w'.cell? ⟨w.heap.size,1,none⟩=some (.slice B m d)
 r0:w'.cell? ⟨w.heap.size+1,0,none⟩=some (.slice none 0 0)
 r1:w'.cell? ⟨w.heap.size+1,1,none⟩=some (.slice none 0 0)
 f0:w'.frozen? ⟨w.heap.size+1,0,none⟩=false
 f1:w'.frozen? ⟨w.heap.size+1,1,none⟩=false
 sz:w.heap.size+2≤w'.heap.size
theorem Fr.tr{w:World}{A:Option Addr}{n c:Nat}{B:Option Addr}{m d:Nat}{a b:World}(h:Fr w A n c B m d a)(k:Kp a b):Fr w A n c B m d b where
 kp:=h.kp.tr k
 b0:=(k.cell (p:=⟨w.heap.size,0,none⟩) (by have:=h.sz;show w.heap.size<_;omega)).trans h.b0
 b1:=(k.cell (p:=⟨w.heap.size,1,none⟩) (by have:=h.sz;show w.heap.size<_;omega)).trans h.b1
 r0:=(k.cell (p:=⟨w.heap.size+1,0,none⟩) (by have:=h.sz;show w.heap.size+1<_;omega)).trans h.r0
 r1:=(k.cell (p:=⟨w.heap.size+1,1,none⟩) (by have:=h.sz;show w.heap.size+1<_;omega)).trans h.r1
 f0:=(k.frozen (p:=⟨w.heap.size+1,0,none⟩) (by have:=h.sz;show w.heap.size+1<_;omega)).trans h.f0
 f1:=(k.frozen (p:=⟨w.heap.size+1,1,none⟩) (by have:=h.sz;show w.heap.size+1<_;omega)).trans h.f1
 sz:=Nat.le_trans h.sz k.size
theorem Fr.mk_(w:World)(A:Option Addr)(n c:Nat)(B:Option Addr)(m d:Nat)(t:TypeId):Fr w A n c B m d ((w.alloc (.cells #[.slice A n c, .slice B m d] t)).alloc (.cells #[.slice none 0 0, .slice none 0 0] t)) where
 kp:=(Kp.af _ _).tr (Kp.af _ _)
 b0:=by simp
 b1:=by simp
 r0:=by simp
 r1:=by simp
 f0:=by simp
 f1:=by simp
 sz:=by simp
theorem Fr.end_{w:World}{A:Option Addr}{n c:Nat}{B:Option Addr}{m d:Nat}{a:World}(h:Fr w A n c B m d a)(x y:Value):Kp w ((a.setCell ⟨w.heap.size+1,0,none⟩ x).setCell ⟨w.heap.size+1,1,none⟩ y):=
 (h.kp.setCell (p:=⟨w.heap.size+1,0,none⟩) (by simp) x).setCell (p:=⟨w.heap.size+1,1,none⟩) (by simp) y
theorem bp{w:World}{p q:Addr}{u v:Value}(h:p≠q)(hc:w.cell? q=some v):(w.setCell p u).cell? q=some v:=by
 rw[World.cell?_setCell_other]
 ·exact hc
 ·exact h
theorem mB{w:World}{p q:Addr}{u:Value}(h:p≠q)(hc:(w.cell? q).isSome=true):((w.setCell p u).cell? q).isSome=true:=by
 rw[World.cell?_setCell_other]
 ·exact hc
 ·exact h
namespace TnD
end TnD
open Go.RowKit
namespace dh
theorem mask(a:Nat)(ha:a<18446744073709551616):bits .and .u64 (a:Int) 4294967295=((a%4294967296:Nat):Int):=by
 have h:=bits_and_u64_nat a 4294967295 ha (by omega);rw[show a&&&4294967295=a%4294967296 from Nat.and_two_pow_sub_one_eq_mod a 32]at h;exact h
theorem SE(a:Nat):(a:Int)/4294967296=((a/4294967296:Nat):Int):=by omega
theorem uy(a b:Nat):(a:Int)*(b:Int)=((a*b:Nat):Int):=(Int.natCast_mul a b).symm
theorem QI(a b:Nat):(a:Int)+(b:Int)=((a+b:Nat):Int):=(Int.natCast_add a b).symm
theorem fX(a:Nat)(ha:a<18446744073709551616):IntKind.u64.wrap (a:Int)=(a:Int):=by rw[IntKind.wrap_u64];omega
theorem DU(a:Nat):IntKind.u64.wrap (a:Int)=((a%18446744073709551616:Nat):Int):=by rw[IntKind.wrap_u64];omega
end dh
theorem mP(x y:Nat)(hx:x<18446744073709551616)(hy:y<18446744073709551616)(w:World):
  Calls Tryz.prog 37 #[.int .u64 x, .int .u64 y] w fun e w'=>e= .returned (.tuple #[.int .u64 ((x*y/18446744073709551616:Nat):Int), .int .u64 ((x*y%18446744073709551616:Nat):Int)])∧w=w':=by
 obtain⟨bd,bt,bw,hhi⟩:=Lib.mul64_hi x y hx hy;have ba:=Lib.half_mul_le (a:=x/4294967296) (b:=y/4294967296) (by omega) (by omega);have bb:=Lib.half_mul_le (a:=x/4294967296) (b:=y%4294967296) (by omega) (by omega);have bc:=Lib.half_mul_le (a:=x%4294967296) (b:=y/4294967296) (by omega) (by omega);have ba':x/4294967296*(y/4294967296)<18446744073709551616:=by omega
 have bb':x/4294967296*(y%4294967296)<18446744073709551616:=by omega
 have bc':x%4294967296*(y/4294967296)<18446744073709551616:=by omega
 have b1:x/4294967296*(y/4294967296)+(x/4294967296*(y%4294967296)+x%4294967296*(y%4294967296)/4294967296)/4294967296<18446744073709551616:=by omega
 have b2:x/4294967296*(y/4294967296)+(x/4294967296*(y%4294967296)+x%4294967296*(y%4294967296)/4294967296)/4294967296+((x/4294967296*(y%4294967296)+x%4294967296*(y%4294967296)/4294967296)%4294967296+x%4294967296*(y/4294967296))/4294967296<18446744073709551616:=by omega
 go_enter Tryz.func37,Tryz.ntmps37
 go_wp2
 simp only[dh.mask x hx,dh.mask y hy,dh.SE,dh.uy,dh.QI,dh.fX _ bd,dh.fX _ bb',dh.fX _ bt,dh.mask _ bt,dh.fX _ bc',dh.fX _ bw,dh.fX _ ba',dh.fX _ b1,dh.fX _ b2,dh.DU (x*y)];rw[hhi]
 go_ret2
 exact⟨rfl,rfl⟩
theorem qd(x y:Nat)(hx:x<18446744073709551616)(hy:y<18446744073709551616)(w:World):
  Calls Tryz.prog 112 #[.int .u64 x, .int .u64 y] w fun e w'=>e= .returned (.tuple #[.int .u64 ((x*y/18446744073709551616:Nat):Int), .int .u64 ((x*y%18446744073709551616:Nat):Int)])∧w=w':=by
 have HC:=lH (mP x y hx hy w);generalize ((x*y/18446744073709551616:Nat):Int)=p at *;generalize ((x*y%18446744073709551616:Nat):Int)=q at *;clear hx hy;go_enter Tryz.func112,Tryz.ntmps112
 go_wp2_with fail
 refine(Calls.mono (Hid.out HC)) ?_;rintro e w1 ⟨rfl,rfl⟩
 go_wp2
 go_ret2
 exact⟨rfl,rfl⟩
open Go.RowKit Go.Proofs.ShM
def IG(n:Int)(m k:Nat):List Int:=List.replicate m n++List.replicate (k-m) 0
theorem E9{n:Int}{m k:Nat}(h:m≤k):(IG n m k).length=k:=by unfold IG;simp;omega
theorem Fa(n:Int)(k:Nat):IG n k k=List.replicate k n:=by unfold IG;simp
def vG(n:Int)(m k:Nat):List Value:=(IG n m k).map (Value.int .i64)
theorem vF{n:Int}{m k:Nat}(h:m≤k):(vG n m k).length=k:=by unfold vG;rw[List.length_map,E9 h]
theorem Ap(n:Int)(k:Nat):List.replicate k (Value.int .i64 0)=vG n 0 k:=by unfold vG IG;simp
theorem nU(n:Int)(m k c:Nat):splice (vG n m k) m (List.replicate c (Value.int .i64 n))=vG n (m+c) k:=by
 unfold splice vG IG;simp only[List.map_append,List.map_replicate,List.length_replicate];rw[List.take_append_of_le_length (by simp),List.take_of_length_le (by simp),List.drop_append];simp only[List.length_replicate,List.drop_replicate];rw[show m-(m+c)=0 by omega,show m+c-m=c by omega,show k-m-c=k-(m+c) by omega,←List.append_assoc,List.replicate_append_replicate];rfl
theorem Kf{n:Int}{m k j:Nat}(h:j<m):(vG n m k)[j]?=some (Value.int .i64 n):=by
 unfold vG IG;rw[List.getElem?_map,List.getElem?_append_left (by simpa using h),List.getElem?_replicate,if_pos h];rfl
theorem Ds(w:World)(o:Obj):(w.alloc o).heap[w.heap.size]?=some o:=by
 show(w.heap.push o)[w.heap.size]?=some o;simp
theorem cell_of_row{w:World}{g:Nat}{cs:List Value}{t:TypeId}(h:w.heap[g]?=some (.cells cs.toArray t (0,0)))(j:Nat){v:Value}(hv:cs[j]?=some v):w.cell? ⟨g,j,none⟩=some v:=by
 simp[World.cell?,h,hv]
theorem Own.Om{B g k:Nat}{w:World}{xs:List Int}(hg:w.heap[g]?=some (.cells (xs.map (Value.int .i64)).toArray 3 (0,0)))(hB:B≤g)(hk:xs.length=k)(hm:k≤1000000):Own B w (.slice (some ⟨g,0,none⟩) k k) xs:=by
 subst hk;exact⟨by simp, .inr ⟨g,xs.length,_,rfl,hB,hg,Nat.le_refl _,by unfold maxLen;omega,by simp,by rw[Nat.mul_one];exact List.take_of_length_le (by simp)⟩⟩
theorem oQ.on{xs:List Int}{n c:Nat}{A:Option Addr}{w w':World}(hn:n=xs.length)(h:Own w.heap.size w' (.slice A n c) xs)(k:Kp w w'):oQ xs w (.returned (.slice A n c)) w':=by
 subst hn;exact⟨A,c,rfl,h,k⟩
theorem xL(n:Int)(k:Nat)(b:Nat)(w:World)(h0:0<k)(hk:k≤64)(hb:b<w.heap.size)(hc:w.cell? ⟨b,0,none⟩=some (.int .i64 n)):
  Calls Tryz.prog 45 #[.slice (some ⟨b,0,none⟩) 1 1, .int .i64 (k:Int)] w (oQ (List.replicate k n) w):=by
 have HM:Hid (Calls Tryz.prog 112 #[.int .u64 1, .int .u64 (k:Int)] w fun e w'=>e= .returned (.tuple #[.int .u64 0, .int .u64 (k:Int)])∧w=w'):=by
  have hh:=qd 1 k (by omega) (by omega) w;rw[show 1*k/18446744073709551616=0 by omega,show 1*k%18446744073709551616=k by omega]at hh;exact hh
 have e1:IntKind.u64.wrap (k:Int)=k:=IntWalk.u64_in _ (by omega);have e2:IntKind.i64.wrap (k:Int)=k:=IntWalk.i64_in _ (by omega);have d1:decide ((9223372036854775807:Int)<(k:Int))=false:=by simp;omega
 have hmk:=fun W=>run_mk W k (by omega)
 obtain⟨cs,hcs⟩:=eX ((List.replicate k (Value.int .i64 0)).toArray);rw[←hcs]at hmk;have HCS:=lH hcs;have HC:=lH hc;clear hcs hc;go_enter Tryz.func45,Tryz.ntmps45
 go_wp2_with fail
 refine(Calls.mono (Hid.out HM)) ?_;rintro e w1 ⟨rfl,rfl⟩
 go_upto_region 7 with fail
 have hs1:(Tryz.prog.info? 3).map (·.size)=some 1:=by kernel_rfl
 have hrow:(w.alloc (.cells cs 3)).heap[w.heap.size]?=some (.cells (vG n 0 k).toArray 3 (0,0)):=by rw[HCS.out,Ap n];exact Ds w _
 have hsrc:(w.alloc (.cells cs 3)).cell? ⟨b,0,none⟩=some (.int .i64 n):=((Kp.af w _).cell (p:=⟨b,0,none⟩) hb).trans HC.out;have hpos:0<(List.replicate 1 (Value.int .i64 n)).length→some (⟨w.heap.size,0,none⟩:Addr)=some ⟨w.heap.size,0,none⟩∧∃ad,some (⟨b,0,none⟩:Addr)=some ad∧∀j v,(List.replicate 1 (Value.int .i64 n))[j]?=some v→(w.alloc (.cells cs 3)).cell? (ad.add j)=some v:=fun _=>⟨rfl,⟨b,0,none⟩,rfl,fun j v hv=>by
  cases j with
  |zero=>injection hv with hv;rw[←hv];exact hsrc
  |succ j=>simp at hv⟩
 go_wp2_with (refine wpList_copy_splice rfl (.tmp 31) (.tmp 32) 29 29 rfl 3 Tryz.underlying29 hs1 _ _ _ _ _ _ rfl rfl w.heap.size 0 (vG n 0 k) 3 hrow (List.replicate 1 (Value.int .i64 n)) (by show 1=min 1 k;omega) hpos (by rw[vF (Nat.zero_le _)];simp;omega) (by simp[Value.oneCell']) w.heap.size w (Kp.af w _) (Nat.le_refl _) ?_;intro w2 HR hB)
 clear hpos hrow hsrc d1 e1 e2 hmk
 go_loopw [8] (fun i wr=>∃m:Nat,i= .int .i64 m∧m≤k∧1≤m∧Hid (wr.heap[w.heap.size]?=some (.cells (vG n m k).toArray 3 (0,0)))∧Hid (Below w.heap.size w wr)) (fun i _=>k-(intOf i).toNat)
 case atStart=>exact⟨1,rfl,h0,Nat.le_refl _,by have:=HR.out;rw[nU n 0 k 1]at this;exact this,hB⟩
 case round=>
  obtain⟨m,rfl,hm,hm1,hr,hbl⟩:=hrel;by_cases hlt:m<k
  ·obtain⟨c,hcn⟩:=eX (min m (k-m));have hc1:c≤m:=by omega
   have hc2:m+c≤k:=by omega
   have hc3:1≤c:=by omega
   have HCN:=lH hcn;have hne:¬k=m:=by omega
   clear hcn;have hone:∀v∈List.replicate c (Value.int .i64 n),v.oneCell'=true:=fun v hv=>by obtain⟨_,rfl⟩:=List.mem_replicate.1 hv;rfl
   have hsrc:∀j v,(List.replicate c (Value.int .i64 n))[j]?=some v→wr.drew.cell? ((⟨w.heap.size,0,none⟩:Addr).add j)=some v:=fun j v hv=>by
    rw[Go.WideShapes.add_plain,Nat.zero_add];have hj:j<c:=by simpa using(List.getElem?_eq_some_iff.1 hv).1
    rw[List.getElem?_replicate,if_pos hj]at hv;exact(cell_of_row hr.out j (Kf (by omega))).trans hv
   have HO:=lH (And.intro hone hsrc);clear hone hsrc
   go_wp2
   go_region_law (refine step_copy_splice rfl (.tmp 41) (.tmp 44) 29 29 rfl 3 Tryz.underlying29 hs1 (some ⟨w.heap.size,m,none⟩) (some ⟨w.heap.size,0,none⟩) (k-m) (k-m) m k (by simp[Act.eval,Act.put]) (by simp[Act.eval,Act.put]) w.heap.size m (vG n m k) 3 hr.out (List.replicate c (Value.int .i64 n)) (by simpa using HCN.out) (fun _=>⟨rfl,_,rfl,HO.out.2⟩) (by rw[vF hm];simpa using hc2) HO.out.1 w.heap.size w hbl.out.drew (Nat.le_refl _) ?_;intro w4 HG4 hb4)
   have HB:=lH hb4;clear hb4;have e1:IntKind.i64.wrap ((m:Int)+(c:Int))=(m:Int)+(c:Int):=IntWalk.i64_in _ (by omega)
   go_wp2
   go_roundw
   case rel=>
    repeat apply Exists.intro
    refine⟨⟨m+c,?_,hc2,by omega,by have:=HG4.out;rw[nU n m k c]at this;exact this,HB.out⟩,rfl⟩;simp[e1]
   case measure=>simp[intOf,Act.put,e1];omega
  ·obtain rfl:m=k:=by omega
   have HR2:=lH hr.out
   go_wp2
   go_ret;have hrow:=hr.out;unfold vG at hrow;rw[Fa]at hrow;exact oQ.on (by simp) (Own.Om hrow (Nat.le_refl _) (by simp) (by omega)) hbl.out
namespace TnE
theorem Ly{s:List Int}(n:Int)(h:okS s=false):dm s n=([],[],20):=by unfold dm;rw[h];rfl
theorem GU{s:List Int}(n:Int)(h:okS s=true):dm s n=(s,List.replicate (au s).toNat n,0):=by unfold dm;rw[if_pos h]
end TnE
structure Fs(w:World)(w':World):Prop where
 kp:Kp w w'
 r0:w'.cell? ⟨w.heap.size,0,none⟩=some (.slice none 0 0)
 r1:w'.cell? ⟨w.heap.size,1,none⟩=some (.slice none 0 0)
 f0:w'.frozen? ⟨w.heap.size,0,none⟩=false
 f1:w'.frozen? ⟨w.heap.size,1,none⟩=false
 sz:w.heap.size<w'.heap.size
theorem Fs.tb{w a b:World}(h:Fs w a)(k:Below (w.heap.size+1) a b):Fs w b where
 kp:=h.kp.trans (k.mono (Nat.le_succ _))
 r0:=(k.cell (p:=⟨w.heap.size,0,none⟩) (Nat.lt_succ_self _)).trans h.r0
 r1:=(k.cell (p:=⟨w.heap.size,1,none⟩) (Nat.lt_succ_self _)).trans h.r1
 f0:=(k.frozen (p:=⟨w.heap.size,0,none⟩) (Nat.lt_succ_self _)).trans h.f0
 f1:=(k.frozen (p:=⟨w.heap.size,1,none⟩) (Nat.lt_succ_self _)).trans h.f1
 sz:=Nat.lt_of_lt_of_le h.sz k.size
theorem Fs.tr{w a b:World}(h:Fs w a)(k:Kp a b):Fs w b:=h.tb (k.mono h.sz)
theorem Fs.mk_(w:World)(t:TypeId):Fs w (w.alloc (.cells #[.slice none 0 0, .slice none 0 0] t)) where
 kp:=Kp.af _ _
 r0:=by simp
 r1:=by simp
 f0:=by simp
 f1:=by simp
 sz:=by simp
theorem Fs.end_{w a:World}(h:Fs w a)(x y:Value):Kp w ((a.setCell ⟨w.heap.size,0,none⟩ x).setCell ⟨w.heap.size,1,none⟩ y):=
 (h.kp.setCell (p:=⟨w.heap.size,0,none⟩) (Nat.le_refl _) x).setCell (p:=⟨w.heap.size,1,none⟩) (Nat.le_refl _) y
theorem qy(A:Option Addr)(c:Nat)(s:List Int)(n:Int)(w:World)(hA:Rd w A s):
  Calls Tryz.prog 29 #[.slice A s.length c, .int .i64 n] w (aG (dm s n) w):=by
 have hl:=hA.len;have F0:=lH (Fs.mk_ w 31);have HC:=lH (bQ A c s _ (hA.kp F0.out.kp))
 cases ho:okS s with
 |false=>
  rw[ho]at HC;have HF:=lH (TnE.Ly n ho);clear ho;go_enter Tryz.func29,Tryz.ntmps29
  go_wp2_with fail
  refine(Calls.mono (Hid.out HC)) ?_;rintro e w1 ⟨rfl,rfl⟩;obtain⟨_,r0,r1,f0,f1,_⟩:=F0.out
  go_wp2
  refine bodyPost_ret (by simp[results,Tryz.results29,go_sem,r0,r1];try rfl) rfl ?_;exact aG.err HF.out F0.out.kp
 |true=>
  rw[ho]at HC;have hp:=bT ho;have hz:=aL ho;have hs3:s.length≤1000000:=by have:=(aD.1 ho).1;omega
  obtain⟨k,hk⟩:∃k:Nat,au s=k:=⟨(au s).toNat,by omega⟩
  have HF:=lH (TnE.GU n ho);rw[hk,Int.toNat_natCast]at HF;have HS:Hid (∀W,Kp w W→Calls Tryz.prog 46 #[.slice A s.length c] W fun e w'=>e= .returned (.int .i64 (k:Int))∧W=w'):=fun W kk=>by
   have hh:=bC A c s W (hA.kp kk);rw[hk]at hh;exact hh
  have k1:0<k:=by omega
  have k2:k≤64:=by omega
  have HL:Hid (∀W,Kp w W→Calls Tryz.prog 47 #[.slice A s.length c] W (oQ s W)):=fun W kk=>cv A c s W (hA.kp kk) hs3
  have G0:=lH (F0.out.kp.tr (Kp.af _ (.cells #[.int .i64 n] 3)));clear ho hp hz hs3 hk;go_enter Tryz.func29,Tryz.ntmps29
  go_wp2_with fail
  refine(Calls.mono (Hid.out HC)) ?_;rintro e w1 ⟨rfl,rfl⟩
  go_wp2_with fail
  refine(Calls.mono (HS.out _ G0.out)) ?_;rintro e w1 ⟨rfl,rfl⟩
  go_wp2_with fail
  refine(xL n k _ _ k1 k2 (by simp) (by simp)).mono ?_;rintro e w1 ⟨A1,c1,rfl,o1,kk1⟩;rw[List.length_replicate]at o1⊢;have F1:=lH ((F0.out.tr (Kp.af _ _)).tr kk1);have O1:=lH o1;clear o1 kk1
  go_wp2_with fail
  refine(Calls.mono (HL.out _ F1.out.kp)) ?_;rintro e w2 ⟨A2,c2,rfl,o2,kk2⟩;have F2:=lH (F1.out.tr kk2);have O2:=lH (And.intro o2 (And.intro (O1.out.kp kk2) F1.out.sz));clear o2 kk2;obtain⟨_,r0,r1,f0,f1,_⟩:=F2.out
  go_wp2
  refine bodyPost_ret (by simp[results,Tryz.results29,go_sem,r0,r1];try rfl) rfl ?_;exact aG.on HF.out rfl (List.length_replicate ..).symm ((O2.out.1.gW (p:=⟨w.heap.size,0,none⟩) O2.out.2.2 _).gW (p:=⟨w.heap.size,1,none⟩) O2.out.2.2 _).sl
   ((O2.out.2.1.gW (p:=⟨w.heap.size,0,none⟩) (by simp;omega) _).gW (p:=⟨w.heap.size,1,none⟩) (by simp;omega) _).sl (F2.out.end_ _ _)
namespace TnE
end TnE
open Go.RowKit Go.Proofs.ShM
section
variable{w:World}{A:Option Addr}{x:List Int}
def LY(A:Option Addr)(c j:Nat):Option Addr:=if c=j then A else A.map (·.add j)
theorem Rd.cut(h:Rd w A x){c j:Nat}(hc:x.length≤c):Rd w (LY A c j) (x.drop j):=by
 unfold LY
 split
 ·rename_i e;rw[List.drop_eq_nil_of_le (by omega)];exact Rd.nil _ _
 ·refine⟨by have:=h.1;simp;omega,fun hp=>?_⟩;obtain⟨ad,rfl,hb,hcs⟩:=h.2 (by simp at hp;omega);refine⟨ad.add j,rfl,by rw[ah];exact hb,fun i u hu=>?_⟩;rw[List.getElem?_drop]at hu;rw[oO];exact hcs _ _ hu
theorem Ag(W:World)(A:Option Addr)(n c j:Nat)(hj:j≤n):(Instr.sliceAt 29 (.slice A n c) (some (.int .i64 (j:Int))) none none).run Tryz.prog W= .ok (.slice (LY A c j) (n-j) (c-j)) W:=by
 have hu:Tryz.prog.underlying 29=some (.slice (Tryz.prog.elem 29)):=by kernel_rfl
 have hsz:((sizeOf (Tryz.prog.elem 29)).run Tryz.prog W)= .ok 1 W:=by
  obtain⟨i,hi,_,h1,_⟩:=info_parts dz;simp[sizeOf,typeInfo,show Tryz.prog.elem 29=3 by kernel_rfl,hi,h1]
 rw[run_sliceAt_slice W _ _ _ _ _ hu,run_slice_l W _ A n c hu .i64 j (by omega) (by omega),hsz];simp[Result.andThen,sliced,LY]
end
namespace TnF
theorem r8(s:List Int):∀{y:List Int} {x z:Int},s.length=y.length→eC (s++[x]) (y++[z])=eC s y++[if x=1 then 0 else z]:=by
 induction s with
 |nil=>intro y x z h;cases y with
  |nil=>rfl
  |cons _ _=>simp at h
 |cons a s ih=>
  intro y x z h
  cases y with
  |nil=>simp at h
  |cons b y=>simp only[List.cons_append,eC];rw[ih (by simpa using h)]
theorem qf(s:List Int):∀{y:List Int},s.length≤y.length→(eC s y).length=s.length:=by
 induction s with
 |nil=>intro y _;cases y<;>rfl
 |cons a s ih=>
  intro y h
  cases y with
  |nil=>simp at h
  |cons b y=>simp only[eC,List.length_cons];rw[ih (by simpa using h)]
def Pl(s x:List Int)(j k:Nat)(zs:List Int):Prop:=k≤s.length∧s.length+j=x.length∧zs=x.take j++(eC (s.take k) ((x.drop j).take k)++x.drop (j+k))
theorem NS{s x:List Int}{j:Nat}(h:s.length+j=x.length):Pl s x j 0 x:=⟨Nat.zero_le _,h,by simp[eC]⟩
theorem NQ{s x:List Int}{j k:Nat}{zs ws:List Int}{a:Int}(h:Pl s x j k zs)(ha:s[k]?=some a)(hw:ws=if a=1 then zs.set (j+k) 0 else zs):Pl s x j (k+1) ws:=by
 obtain⟨h1,h2,rfl⟩:=h;have hk:=(List.getElem?_eq_some_iff.1 ha).1;obtain⟨z,hz⟩:∃z,x[j+k]?=some z:=⟨x[j+k],List.getElem?_eq_getElem (by omega)⟩
 have hz':(x.drop j)[k]?=some z:=by rw[List.getElem?_drop];exact hz
 have e2:x.drop (j+k)=z::x.drop (j+(k+1)):=bP hz;have hl:(eC (s.take k) ((x.drop j).take k)).length=k:=by
  rw[qf _ (by simp;omega)];simp;omega
 refine⟨hk,h2,?_⟩;rw[cr ha,cr hz',r8 _ (by simp;omega),hw,e2]
 split
 ·rw[List.set_append_right _ _ (by simp;omega),List.set_append_right _ _ (by simp;omega)];have e3:j+k-(x.take j).length-(eC (s.take k) ((x.drop j).take k)).length=0:=by simp[hl];omega
  rw[e3];simp
 ·simp
theorem Rb{s x:List Int}{j k:Nat}{zs:List Int}(h:Pl s x j k zs):zs.length=x.length:=by
 obtain⟨h1,h2,rfl⟩:=h;have hl:(eC (s.take k) ((x.drop j).take k)).length=k:=by
  rw[qf _ (by simp;omega)];simp;omega
 simp[hl];omega
theorem UL{s x:List Int}{j k:Nat}{zs:List Int}(h:Pl s x j k zs)(hk:¬k<s.length):zs.drop j=eC s (x.drop j):=by
 obtain⟨h1,h2,rfl⟩:=h;obtain rfl:k=s.length:=by omega
 have e0:(x.take j).length=j:=by simp;omega
 have e1:x.drop (j+s.length)=[]:=List.drop_eq_nil_of_le (by omega);have e2:(x.drop j).take s.length=x.drop j:=List.take_of_length_le (by simp;omega);rw[List.drop_left' e0,e1,List.take_length,e2,List.append_nil]
end TnF
theorem xu(A B:Option Addr)(c d:Nat)(s g:List Int)(p:Int)(w:World)(hA:Rd w A s)(hB:Rd w B g)(hf:cw s g=true)(p0:0≤p)(p1:p<au g):
  Calls Tryz.prog 180 #[.slice B g.length d, .int .i64 p, .slice A s.length c] w fun e w'=>e= .returned (.int .i64 (ew s g p))∧Kp w w':=by
 obtain⟨ok1,ok2,hle,_⟩:=dP hf;have hs3:=(aD.1 ok1).1;have hg3:=(aD.1 ok2).1;have hsp:=zP hf p0 (by rw[←aL ok2];exact p1);have hdl:=eU g p;obtain⟨x,hx⟩:=eX (dR g p);rw[←hx]at hsp hdl;have HI:Hid (Calls Tryz.prog 184 #[.slice B g.length d, .int .i64 p] w (DT (x,0) w)):=by
  have hh:=sG B d g p w hB;rw[jB p0 p1,←hx]at hh;exact hh
 obtain⟨j,hj⟩:∃j,g.length=s.length+j:=⟨g.length-s.length,by omega⟩
 rw[show g.length-s.length=j by omega]at hsp;have HSP:=lH hsp;have HX:=lH hdl;clear hx hsp hdl hf p0 p1 ok1 ok2;have HS:=lH hA;have HP:Hid (∀W A1 n1 c1 y,Kp w W→Rd W A1 y→y=eC s (x.drop j)→n1=y.length→Calls Tryz.prog 189 #[.slice A s.length c, .slice A1 n1 c1] W (SN (ew s g p,0) W)):=fun W A1 n1 c1 y k r e en=>by
  have hh:=rJ A A1 c c1 s y W (HS.out.kp k) r;rw[e,HSP.out]at hh;rw[en,e];exact hh
 obtain⟨q,hq⟩:=eX (ew s g p);rw[←hq]at HP⊢;clear HSP hq hB;obtain⟨gl,hgl⟩:=eX (g.length);rw[←hgl]at HI HX hj hg3 hle⊢;clear hgl;have e1:IntKind.i64.wrap ((gl:Int)-(s.length:Int))=(j:Int):=by rw[IntWalk.i64_in _ (by omega)];omega
 have HJ:=lH hj;have hjl:j≤gl:=by omega
 have WC:s.length≤3:=hs3;clear hj hle hA;go_enter Tryz.func180,Tryz.ntmps180
 go_wp2_with fail
 refine(Calls.mono (Hid.out HI)) ?_;rintro e w1 ⟨A1,c1,rfl,o1,k1⟩;have hz1:((x,(0:Int)):List Int×Int).1.length=gl:=HX.out;rw[hz1]at o1⊢;obtain⟨A3,hA3⟩:=eX (LY A1 c1 j);obtain⟨c3,hc3⟩:=eX (c1-j);have hcut:∀W,(Instr.sliceAt 29 (.slice A1 gl c1) (some (.int .i64 (j:Int))) none none).run Tryz.prog W= .ok (.slice A3 s.length c3) W:=fun W=>by
  rw[hA3,hc3,Ag W A1 gl c1 j hjl,show gl-j=s.length by have:=HJ.out;omega]
 have K1:=lH k1;have O1:=lH o1;have HC:=lH hA3;have HR0:=lH (TnF.NS (s:=s) (x:=x) (j:=j) (by have:=HJ.out;have:=HX.out;omega));have HLE:Hid (gl≤c1):=by have:=o1.sl.le;rw[←HX.out];exact this
 clear o1 k1 hc3 hA3 HI hz1
 go_wp2
 go_loopw [9,10,28] (fun _ _ i wr=>∃(k:Nat) (zs:List Int),i= .int .i64 k∧Hid (TnF.Pl s x j k zs)∧Hid (Own w.heap.size wr (.slice A1 gl c1) zs)∧Hid (Kp w wr)) (fun _ _ i _=>s.length-(intOf i).toNat)
 case atStart=>exact⟨0,x,rfl,HR0.out,O1.out,K1.out⟩
 case round=>
  obtain⟨k,zs,rfl,hr,hown,hk⟩:=hrel;by_cases hlt:k<s.length
  ·obtain⟨ad,x0,rfl,hbl,hx,hc⟩:=HS.out.at_ hlt;have hc':wr.cell? (ad.add k)=some (.int .i64 x0):=(hk.out.cell (by rw[ah];exact hbl)).trans hc;have HX0:=lH hx;clear hx hc hbl;by_cases h1:x0=1
   ·subst h1;have hzl:zs.length=gl:=(TnF.Rb hr.out).trans HX.out;obtain⟨gd,hA1,hg1,hg2⟩:=hown.out.addr (by have:=HJ.out;omega);subst hA1;obtain⟨u,hu⟩:∃u,zs[j+k]?=some u:=⟨zs[j+k]'(by have:=HJ.out;omega),List.getElem?_eq_getElem _⟩
    have hne:c1≠j:=by have:=HJ.out;have:=HLE.out;omega
    have hA3:A3=some ⟨gd,j,none⟩:=by rw[HC.out];unfold LY;rw[if_neg hne];simp[Go.WideShapes.add_plain]
    have hcz:=hown.out.cell_ hu;have hfz:=hown.out.fE (j+k);have HN:Hid (zs.set (j+k) 0=if(1:Int)=1 then zs.set (j+k) 0 else zs):=by show _=_;rw[if_pos rfl]
    clear hu hzl hne;subst hA3
    go_wp2
    go_roundw
    case rel=>exact⟨k+1,zs.set (j+k) 0,by go_num,TnF.NQ hr.out HX0.out HN.out,hown.out.kY _ _,hk.out.setCell (p:=⟨gd,j+k,none⟩) hg1 _⟩
    case measure=>simp[intOf];omega
   ·have h2:(x0==1)=false:=by simpa using h1
    have HN:Hid (zs=if x0=1 then zs.set (j+k) 0 else zs):=by show zs=_;rw[if_neg h1]
    clear h1
    go_wp2
    go_roundw
    case rel=>exact⟨k+1,zs,by go_num,TnF.NQ hr.out HX0.out HN.out,hown.out,hk.out⟩
    case measure=>simp[intOf];omega
  ·have HZ:=lH (TnF.UL hr.out hlt);have RZ:Hid (Rd wr A3 (zs.drop j)):=by
    show Rd wr A3 _;rw[HC.out];exact hown.out.sl.rd.cut (by have:=TnF.Rb hr.out;have:=HX.out;have:=HLE.out;omega)
   have HLN:Hid (s.length=(zs.drop j).length):=by show s.length=_;have:=TnF.Rb hr.out;have:=HX.out;have:=HJ.out;simp;omega
   go_wp2_with fail
   refine(Calls.mono (HP.out _ _ _ _ _ hk.out RZ.out HZ.out HLN.out)) ?_;rintro e w3 ⟨rfl,n3,rfl⟩
   go_wp2
   go_ret;exact⟨rfl,hk.out.tr (Kp.aI _ _)⟩
open Go.RowKit Go.Proofs.ShM Go.Proofs.cF
namespace Mx
theorem qK{a b:Int}(ha:I64 a)(hb:I64 b)(h:(!(decide (wrap64 (a+b)<a)==decide (b<0)))=true):cY a b=(0,10):=by
 unfold I64 at ha hb;by_cases c:b<0<;>by_cases d:wrap64 (a+b)<a<;>simp[c,d]at h<;>(unfold wrap64 at d;exact fw (by omega))
theorem qL{a b:Int}(ha:I64 a)(hb:I64 b)(h:(!(decide (wrap64 (a+b)<a)==decide (b<0)))=false):cY a b=(wrap64 (a+b),0):=by
 unfold I64 at ha hb;by_cases c:b<0<;>by_cases d:wrap64 (a+b)<a<;>simp[c,d]at h<;>(unfold wrap64 at d⊢;unfold cY;rw[cO (by omega) (by omega)];congr 1;omega)
end Mx
theorem nA(a b:Int)(ha:I64 a)(hb:I64 b)(w:World):
  Calls Tryz.prog 147 #[.int .i64 a, .int .i64 b] w fun e w'=>e= .returned (.tuple #[.int .i64 (cY a b).1, .int .i64 (cY a b).2])∧w=w':=by
 go_enter Tryz.func147,Tryz.ntmps147
 go_wp2
 all_goals go_ret2
 ·exact⟨dM (Mx.qK ha hb (by assumption)),rfl⟩
 ·exact⟨dM (Mx.qL ha hb (by assumption)),rfl⟩
namespace TnG
theorem zW{s d:List Int}(g:List Int)(h:aB s d=false):cm s d g=([],[],30):=by unfold cm;rw[h];rfl
theorem oY{s d g:List Int}(h:aB s d=true)(k:cw s g=false):cm s d g=([],[],20):=by unfold cm;rw[h,k];rfl
theorem jR{s d g:List Int}(h:aB s d=true)(k:cw s g=true):cm s d g=(g,bK s d g (au g).toNat,0):=by unfold cm;rw[h,k];rfl
theorem JV{s d g:List Int}(h:aB s d=true)(k:cw s g=true){N:Nat}(hN:au g=N){p:Nat}(hp:p<N):∃m:Nat,ew s g p=(m:Int)∧m<d.length:=by
 obtain⟨a,b⟩:=aA.1 h;have hg:=(dP k).2.1;obtain⟨i1,i2⟩:=q9 k (p:=(p:Int)) (by omega) (by rw[←aL hg];omega);exact⟨(ew s g p).toNat,by omega,by omega⟩
theorem DE(a b:Int):(∃v,cY a b=(v,0))∨cY a b=(0,10):=by
 unfold cY;rcases dN (a+b)with⟨_,_,e⟩|⟨_,e⟩
 ·exact .inl ⟨_,e⟩
 ·exact .inr e
theorem LC{g d:List Int}(s:List Int)(h:aB g d=false):dw g d s=([],[],30):=by unfold dw;rw[h];rfl
theorem uR{g d s:List Int}(h:aB g d=true)(k:cw s g=false):dw g d s=([],[],20):=by unfold dw;rw[h,k];rfl
theorem GW{g d s zs:List Int}(h:aB g d=true)(k:cw s g=true)(r:fF s g d=(zs,0)):dw g d s=(s,zs,0):=by unfold dw;rw[h,k,r];rfl
theorem GZ{g d s:List Int}(h:aB g d=true)(k:cw s g=true)(r:fF s g d=([],10)):dw g d s=([],[],10):=by unfold dw;rw[h,k,r];rfl
theorem LX{g d s:List Int}(h:aB g d=true)(k:cw s g=true){M:Nat}(hM:au s=M){p:Nat}(hp:p<d.length):∃m:Nat,ew s g p=(m:Int)∧m<M:=by
 obtain⟨a,b⟩:=aA.1 h;have hs:=(dP k).1;have:=aL hs;obtain⟨i1,i2⟩:=q9 k (p:=(p:Int)) (by omega) (by omega);exact⟨(ew s g p).toNat,by omega,by omega⟩
end TnG
open Go.RowKit Go.Proofs.ShM Go.Proofs.cF
theorem Fr.tb{w:World}{A:Option Addr}{n c:Nat}{B:Option Addr}{m d:Nat}{a b:World}(h:Fr w A n c B m d a)(k:Below (w.heap.size+2) a b):Fr w A n c B m d b where
 kp:=h.kp.trans (k.mono (by omega))
 b0:=(k.cell (p:=⟨w.heap.size,0,none⟩) (by show w.heap.size<_;omega)).trans h.b0
 b1:=(k.cell (p:=⟨w.heap.size,1,none⟩) (by show w.heap.size<_;omega)).trans h.b1
 r0:=(k.cell (p:=⟨w.heap.size+1,0,none⟩) (by show w.heap.size+1<_;omega)).trans h.r0
 r1:=(k.cell (p:=⟨w.heap.size+1,1,none⟩) (by show w.heap.size+1<_;omega)).trans h.r1
 f0:=(k.frozen (p:=⟨w.heap.size+1,0,none⟩) (by show w.heap.size+1<_;omega)).trans h.f0
 f1:=(k.frozen (p:=⟨w.heap.size+1,1,none⟩) (by show w.heap.size+1<_;omega)).trans h.f1
 sz:=Nat.le_trans h.sz k.size
open Go.Shelf
attribute [local go_sem] Oper.semAt_some
theorem Kp.grown{w w':World}(k:Kp w w'):w.grownBy w' none:=⟨k.os,k.tape,k.output,k.size,fun j hj _=>k.block j hj⟩
structure Qp(w:World)(Bs Bf:Nat)(C:Option Addr)(gl e:Nat)(A:Option Addr)(sl c:Nat)(W:World):Prop where
 bs:W.cell? ⟨Bs,0,none⟩=some (.slice C gl e)
 bf:W.cell? ⟨Bf,0,none⟩=some (.slice A sl c)
 kp:Kp w W
 ls:Bs<W.heap.size
 lf:Bf<W.heap.size
theorem Qp.tb{w:World}{Bs Bf:Nat}{C:Option Addr}{gl e:Nat}{A:Option Addr}{sl c B:Nat}{W W':World}(h:Qp w Bs Bf C gl e A sl c W)(k:Below B W W')(hs:Bs<B)(hf:Bf<B)(hw:w.heap.size≤B):Qp w Bs Bf C gl e A sl c W' where
 bs:=(k.cell (p:=⟨Bs,0,none⟩) hs).trans h.bs
 bf:=(k.cell (p:=⟨Bf,0,none⟩) hf).trans h.bf
 kp:=h.kp.trans (k.mono hw)
 ls:=Nat.lt_of_lt_of_le h.ls k.size
 lf:=Nat.lt_of_lt_of_le h.lf k.size
theorem Qp.tr{w:World}{Bs Bf:Nat}{C:Option Addr}{gl e:Nat}{A:Option Addr}{sl c:Nat}{W W':World}(h:Qp w Bs Bf C gl e A sl c W)(k:Kp W W'):Qp w Bs Bf C gl e A sl c W':=
 h.tb k h.ls h.lf h.kp.size
abbrev Pl(N:Nat):={k:Nat // k<N}
abbrev Fy(s g:List Int)(N:Nat)(x:Pl N):Array Value:= #[.int .i64 (x.1:Int), .int .i64 (ew s g x.1)]
theorem nW(A C:Option Addr)(c e n m:Nat)(w:World):
  Calls Tryz.prog 157 #[.slice C n e, .slice A m c] w fun en w'=>en= .returned (.func (.func 179) #[] #[.pointer (some ⟨w.heap.size,0,none⟩), .pointer (some ⟨w.heap.size+1,0,none⟩)])∧
   w'=(w.alloc (.cells #[.slice C n e] 29)).alloc (.cells #[.slice A m c] 29):=by
 go_enter Tryz.func157,Tryz.ntmps157
 go_wp2
 go_ret;exact⟨rfl,rfl⟩
theorem ld(A C:Option Addr)(c e:Nat)(s g:List Int)(N Bs Bf n:Nat)(w w0:World)(hA:Rd w A s)(hC:Rd w C g)(hf:cw s g=true)(hN:au g=N)(hn:1≤n)(hQ:Qp w Bs Bf C g.length e A s.length c w0):
  SeqStopsK Fence.wide n Tryz.prog 179 #[.pointer (some ⟨Bs,0,none⟩), .pointer (some ⟨Bf,0,none⟩)] (Fy s g N) (fun W W'=>Qp w Bs Bf C g.length e A s.length c W→Qp w Bs Bf C g.length e A s.length c W')
   (fun xs=>xs.map (·.1)=List.range N) (fun pre=>∃k,k≤N∧pre.map (·.1)=List.range k) N w0:=fun l J Jx W hW hJ hJx hY h0=>by
 have hQW:=hQ.tr hW;have n2:N≤64:=by have:=size_le g;omega
 have HS:Hid (∀W',Kp w W'→Calls Tryz.prog 46 #[.slice C g.length e] W' fun en w'=>en= .returned (.int .i64 (N:Int))∧W'=w'):=fun W' kk=>by
  have hh:=bC C e g W' (hC.kp kk);rw[hN]at hh;exact hh
 have HQ1:Hid (∀W' (k:Nat),Kp w W'→k<N→Calls Tryz.prog 180 #[.slice C g.length e, .int .i64 (k:Int), .slice A s.length c] W' fun en w'=>en= .returned (.int .i64 (ew s g k))∧Kp W' w'):=fun W' k kk hk=>xu A C c e s g k W' (hA.kp kk) (hC.kp kk) hf (by omega) (by omega)
 have HJ:=lH hJ;have HY:=lH hY;obtain⟨gl,hgl⟩:=eX (g.length);rw[←hgl]at HS HQ1 hQW HY;clear hgl hJx hJ hY hA hC hf hN hQ hW;refine callsIn_of_wp Tryz.func179 rfl trivial ?_ rfl;simp only[Tryz.ntmps179,List.size_toArray,List.length_cons,List.length_nil,Nat.reduceAdd,Nat.reduceSub,Array.replicate_succ,Array.replicate_zero,List.push_toArray,List.append_toArray,List.nil_append,List.cons_append];have hbs:=hQW.bs
 gi_wp2_with (refine⟨trivial,?_⟩;gi_at_call 46;refine(callsIn_wide.2 (HS.out _ hQW.kp)).mono ?_;rintro en w2 ⟨rfl,rfl⟩)
 gi_loopw [4,7] (fun _ i wr=>∃(pre:List (Pl N)) (k:Nat),i= .int .i64 k∧k≤N∧Hid (pre.map (·.1)=List.range k)∧Hid (J pre wr)∧Hid (Qp w Bs Bf C gl e A s.length c wr)) (fun _ i _=>N-(intOf i).toNat)
 case atStart=>exact⟨[],0,rfl,Nat.zero_le _,rfl,h0,hQW⟩
 case round=>
  clear hbs;obtain⟨pre,k,rfl,hkN,hpre,hJp,hQr⟩:=hrel;have hb1:=hQr.out.bs;have hb2:=hQr.out.bf;by_cases hlt:k<N
  ·have HL:Hid (pre.length<N):=by show _<N;have:=congrArg List.length hpre.out;simp at this;omega
   gi_wp2_with (refine⟨trivial,?_⟩;gi_at_call 180;refine(callsIn_wide.2 (HQ1.out _ k hQr.out.kp hlt)).mono ?_;rintro en w2 ⟨rfl,k2⟩;have hJ2:=HJ.out pre _ _ none hJp.out k2.grown (fun r e=>by cases e);obtain⟨fn,tmps,assign,body,hy,hR⟩:=HY.out pre ⟨k,hlt⟩ w2 hJ2 HL.out;dsimp only[Fy]at hy;have HQ2:=lH (hQr.out.tr k2);clear k2 hJ2)
   have hmap:Hid ((pre++[(⟨k,hlt⟩:Pl N)]).map (·.1)=List.range (k+1)):=by show _=_;rw[List.map_append,hpre.out,List.range_succ];rfl
   refine hR.mono ?_;rintro en W3 (⟨rfl,hJ3,hk3⟩|⟨rfl,Vu⟩)
   ·have H3:=lH (And.intro hJ3 (hk3 HQ2.out));clear hJ3 hk3
    gi_wp2
    go_roundw
    case rel=>exact⟨pre++[⟨k,hlt⟩],k+1,by go_num,hlt,hmap,lH H3.out.1,lH H3.out.2⟩
    case measure=>simp[intOf];omega
   ·gi_wp2
    refine bodyPost_ret (results_none rfl _ _ _) rfl ?_;exact⟨⟨_,rfl⟩, .inr ⟨_,⟨k+1,hlt,hmap.out⟩,Vu⟩⟩
  ·obtain rfl:k=N:=by omega
   gi_wp2
   go_end0
   exact⟨⟨_,rfl⟩, .inl ⟨pre,hpre.out,hJp.out⟩⟩
section
variable{P:Program}{ops:Array Oper}{md:Region.Mode}{Q:Exit→Act→World→Prop}
theorem nF{l n:Nat}{o:Oper}{a:Act}{next:Act→World→Prop}{r:Result Next}(h:o.upon P a next Q r):o.uponIn (Fence.wide.inRound l) n P a next Q r:=by
 cases r with
 |ok nx w'=>
  cases nx with
  |value v=>exact h
  |skip=>exact h
  |defer d=>exact h
  |enter f args=>exact⟨fun h=>(by cases h),CallsIn.inRound l (callsIn_wide.2 h)⟩
  |row row args=>exact⟨fun h=>(by cases h),fun c cs _=>let⟨v,w',r,s⟩:=h c cs;⟨v,w',r,stepsIn_wide.2 s⟩⟩
  |_=>exact h.elim
 |halt hh w'=>
  cases hh with
  |panic v=>exact h
  |_=>exact h.elim
def mL(ops:Array Oper):Bool:=ops.all fun o=>match o.op with| .defer _=>false|_=>true
theorem rS{ops:Array Oper}(h:mL ops=true){i:Nat}{o:Oper}(ho:ops[i]?=some o):∀c,o.op≠ .defer c:=by
 intro c e;unfold mL at h;rw[Array.all_eq_true]at h;obtain⟨hi,rfl⟩:=Array.getElem?_eq_some_iff.1 ho;have:=h i hi;rw[e]at this
 cases this
theorem eI{l n:Nat}(hd:mL ops=true)(hL:¬LetsOut Q):∀(fuel:Nat) (listed:Array Bool) (a:Act) (w:World),wpAny P md ops Q fuel listed a w→wpAnyIn (Fence.wide.inRound l) n P md ops Q fuel listed a w:=by
 intro fuel
 induction fuel with
 |zero=>intro listed a w h;exact h
 |succ fuel ih=>
  intro listed a w h;refine⟨h.1,fun i hi=>?_⟩;have:=wpOp_mono (fun a w=>ih _ a w) (h.2 i hi);unfold wpOp at this;unfold wpOpIn
  cases ho:ops[i]? with
  |none=>rw[ho]at this;exact this
  |some o=>
   rw[ho]at this;simp only at this⊢
   split
   ·rename_i hw;rw[if_pos hw]at this;rcases this with h1|⟨_,h2⟩
    ·refine⟨fun _ _=>trivial,?_⟩;have e:(Oper.semAt (Fence.wide.inRound l).round a.eval o)=execOp a.eval o:=Oper.semAt_some l a.eval o (rS hd ho);rw[e];exact nF h1
    ·exact absurd h2 hL
   ·rename_i hw;rw[if_neg hw]at this;exact⟨fun _ _=>trivial,this⟩
theorem xI{id l m:Nat}{a:Act}{w:World}{os:List Oper}(n:Nat)(hm:P.follows .mixedOrders=true)(hB:Region.lexTailB .any os.toArray n=true)(hd:mL os.toArray=true)(hL:¬LetsOut Q)
  (h:wpStill P os.toArray {w with drawn:=w.drawn+1} (fun a'=>wpList P os.toArray Q (os.drop n) a' {w with drawn:=w.drawn+1}) (os.take n) a):(Code.region id os.toArray true).wpIn (Fence.wide.inRound l) m P Q a w:=by
 simp only[Region.lexTailB,Bool.and_eq_true,decide_eq_true_eq]at hB;obtain⟨⟨⟨⟨hsel,hn⟩,hs⟩,hc⟩,hlex⟩:=hB;have hn':n<os.length:=by simpa using hn
 have htl:(os.take n).length=n:=by simp;omega
 have hdl:(os.drop n).length=os.toArray.size-n:=by simp
 have inv0:HeadInv .any os.toArray n (Array.replicate os.toArray.size false):=
  ⟨by simp,fun j oj _ hl=>(by rw[getD_replicate_false]at hl;cases hl),fun t _ ht=>getD_in (by simpa using ht) (getD_replicate_false _ _)⟩
 have H:=wpAnyL_lex (md:= .any) (g:=os.toArray.size-n) hsel hs hc hn (os.take n) 0 _ a (fun j hj=>by
  have hj':j<n:=by rw[htl]at hj;exact hj
  simp[hj']) (by simpa using htl) inv0 (by rw[htl];exact hlex) h
 refine wpIn_region_any hm (eI hd hL _ _ _ _ ?_);have:=wpAny_of_head (Q':=Q) (g:=os.toArray.size-n) (fun listed a' hL=>by
  have:=wpAny_of_seq (md:= .any) (Q':=Q) (os.drop n) n listed a' {w with drawn:=w.drawn+1} (fun j=>by simp[List.getElem?_drop]) (by rw[hdl];exact hL.1) hL.2
  rwa [hdl]at this) _ _ _ H
 rw[htl,show n+(os.toArray.size-n)=os.toArray.size by omega]at this;exact this
theorem mE{id l m:Nat}{a:Act}{w:World}{os:List Oper}(hm:P.follows .mixedOrders=true)(hB:Region.lexB .any os.toArray=true)(hd:mL os.toArray=true)(hL:¬LetsOut Q)
  (h:wpQuiet P os.toArray (fun w'=>∃n,w'=w.drewN n) (fun a'=>∀w',(∃n,w'=w.drewN n)→Q .normal a' w') os a):(Code.region id os.toArray true).wpIn (Fence.wide.inRound l) m P Q a w:=by
 simp only[Region.lexB,Bool.and_eq_true]at hB;refine wpIn_region_any hm (eI hd hL _ _ _ _ (wpAny_of_quiet (C:=fun w'=>∃n,w'=w.drewN n) (Q:=fun a'=>∀w',(∃n,w'=w.drewN n)→Q .normal a' w') (fun _ w' hw' h=>h w' hw') _ _ _ _ ⟨1,rfl⟩ ?_));have:=wpAnyQ_lex (C:=fun w'=>∃n,w'=w.drewN n) (md:= .any) hB.1 os 0 (Array.replicate os.toArray.size false) a (by simp) (by simpa using hB.2) h;simpa using this
end
theorem qR{F:Fence}{n:Nat}{P:Program}{c:Code}{K:Act→World→Prop}{Q:Exit→Act→World→Prop}{a:Act}{w:World}(h:c.wpIn F n P (Exit.then K (fun _ _ _=>False)) a w):c.wpIn F n P (Exit.then K Q) a w:=
 wpIn_mono h fun e _ _ hq=>by
  cases e with
  |normal=>exact hq
  |_=>exact hq.elim
theorem jd{F:Fence}{n:Nat}{P:Program}{fn:Func}{R:Ending→World→Prop}{tmps:Array Value}{D:Nat}{W:World}{v:Value}(hK:W.heap[D]?=some (.deferred (some [])))
  (hres:(results fn tmps).run P (W.putObj D (.deferred none))= .ok v (W.putObj D (.deferred none)))(hR:R (.returned v) (W.putObj D (.deferred none))):
  bodyPostM F n P fn R .ret {tmps:=tmps,defers:=[{target:= .collected D,args:= #[]}]} W:=
 ⟨by simp, .inl ⟨_,_,rfl,run_takeDeferred hK,v,hres,hR⟩⟩
section
variable{w a:World}{A B:Option Addr}{n c m d D:Nat}
def nh(w a:World)(x y:Value):World:=(a.setCell ⟨w.heap.size+1,0,none⟩ x).setCell ⟨w.heap.size+1,1,none⟩ y
theorem C2(hD:a.heap[D]?=some (.deferred (some [])))(hne:w.heap.size+1<D)(x y:Value):(nh w a x y).heap[D]?=some (.deferred (some [])):=by
 unfold nh;rw[Below.heap_setCell _ _ _ D (by show D≠w.heap.size+1;omega),Below.heap_setCell _ _ _ D (by show D≠w.heap.size+1;omega)];exact hD
theorem Hh(hD:a.heap[D]?=some (.deferred (some [])))(hne:w.heap.size+1<D)(x y:Value):Below D (nh w a x y) ((nh w a x y).putObj D (.deferred none)):=by
 have hK:=C2 (w:=w) hD hne x y;exact(Below.refl D _).grown (grownBy_putObj' _ D _) (Nat.le_of_lt (Array.getElem?_eq_some_iff.1 hK).1) (fun k e=>by cases e;exact Nat.le_refl _)
theorem Fr.Sw(h:Fr w A n c B m d a)(hD:a.heap[D]?=some (.deferred (some [])))(hne:w.heap.size+1<D)(x y:Value):((nh w a x y).putObj D (.deferred none)).cell? ⟨w.heap.size+1,0,none⟩=some x:=by
 rw[(Hh hD hne x y).cell (p:=⟨w.heap.size+1,0,none⟩) hne];exact bp (by simp) (World.cell?_setCell_same' _ _ _ (by rw[h.r0];rfl))
theorem Fr.Sv(h:Fr w A n c B m d a)(hD:a.heap[D]?=some (.deferred (some [])))(hne:w.heap.size+1<D)(x y:Value):((nh w a x y).putObj D (.deferred none)).cell? ⟨w.heap.size+1,1,none⟩=some y:=by
 rw[(Hh hD hne x y).cell (p:=⟨w.heap.size+1,1,none⟩) hne];exact World.cell?_setCell_same' _ _ _ (mB (by simp) (by rw[h.r1];rfl))
theorem Fr.Pq(h:Fr w A n c B m d a)(hD:a.heap[D]?=some (.deferred (some [])))(hne:w.heap.size+1<D)(x y:Value):Kp w ((nh w a x y).putObj D (.deferred none)):=
 (h.end_ x y).trans ((Hh hD hne x y).mono (by omega))
theorem Own.fin{b:Nat}{v:Value}{xs:List Int}(h:Own b a v xs)(hb:w.heap.size+1<b)(hD:a.heap[D]?=some (.deferred (some [])))(hne:w.heap.size+1<D)(x y:Value):Own b ((nh w a x y).putObj D (.deferred none)) v xs:=
 ownsRow_putObj ((h.gW (p:=⟨w.heap.size+1,0,none⟩) hb x).gW (p:=⟨w.heap.size+1,1,none⟩) hb y) _ (C2 hD hne x y) rfl
end
attribute [local go_sem] Oper.semAt_some
namespace TnI
def DL(val:Nat→Int)(pre:List Nat)(zs:List Int):List Int:=pre.foldl (fun z k=>z.set k (val k)) zs
theorem rE(val:Nat→Int)(pre:List Nat)(k:Nat)(zs:List Int):DL val (pre++[k]) zs=(DL val pre zs).set k (val k):=by simp[DL]
theorem vw(val:Nat→Int)(pre:List Nat):∀zs:List Int,(DL val pre zs).length=zs.length:=by
 induction pre with
 |nil=>intro zs;rfl
 |cons k pre ih=>intro zs;show(DL val pre (zs.set k (val k))).length=_;rw[ih];simp
theorem xE(val:Nat→Int)(N:Nat):∀k,k≤N→DL val (List.range k) (List.replicate N 0)=(List.range k).map val++List.replicate (N-k) 0:=by
 intro k
 induction k with
 |zero=>intro _;simp[DL]
 |succ k ih=>
  intro hk;rw[List.range_succ,rE,ih (by omega),List.set_append_right _ _ (by simp)];obtain⟨j,hj⟩:∃j,N-k=j+1:=⟨N-k-1,by omega⟩
  rw[hj,show N-(k+1)=j by omega];simp[List.replicate_succ]
theorem tW(s xs g:List Int)(N:Nat):DL (fun i=>xs.getD (ew s g i).toNat 0) (List.range N) (List.replicate N 0)=bK s xs g N:=by
 rw[xE _ _ _ (Nat.le_refl _)];simp[bK]
end TnI
theorem iZ{B:Nat}{W W':World}{row:Option Nat}(hB:B≤W.heap.size)(hg:W.grownBy W' row)(hr:∀r,row=some r→B≤r∧∃o:Obj,W.heap[r]?=some o∧o.isCells=false):Below B W W':=
 (Below.refl B W).grown hg hB (fun k e=>(hr k e).1)
theorem Own.tb{b B g n c:Nat}{W W':World}{xs:List Int}(h:Own b W (.slice (some ⟨g,0,none⟩) n c) xs)(k:Below B W W')(hg:g<B):Own b W' (.slice (some ⟨g,0,none⟩) n c) xs:=
 h.of_block fun j hj=>by
  injection hj with hj
  subst hj;exact k.block g hg
theorem Qp.put{w:World}{Bs Bf:Nat}{C:Option Addr}{gl e:Nat}{A:Option Addr}{sl c:Nat}{W:World}(h:Qp w Bs Bf C gl e A sl c W){p:Addr}(h1:p.block≠Bs)(h2:p.block≠Bf)(h3:w.heap.size≤p.block)(u:Value):Qp w Bs Bf C gl e A sl c (W.setCell p u) where
 bs:=bp (fun e=>h1 (congrArg Addr.block e)) h.bs
 bf:=bp (fun e=>h2 (congrArg Addr.block e)) h.bf
 kp:=h.kp.setCell h3 u
 ls:=by rw[World.size_setCell];exact h.ls
 lf:=by rw[World.size_setCell];exact h.lf
theorem tP(A B C:Option Addr)(c d e:Nat)(s xs g:List Int)(w:World)(hA:Rd w A s)(hB:Rd w B xs)(hC:Rd w C g)(ht:aB s xs=true)(hf:cw s g=true):
  Calls Tryz.prog 84 #[.agg #[.slice A s.length c, .slice B xs.length d], .slice C g.length e] w (aG (cm s xs g) w):=by
 have hl:=hA.len;have gl:=hB.len;have kl:=hC.len;have F0:=lH (Fr.mk_ w A s.length c B xs.length d 31);have HT:=lH (av A B c d s xs _ (hA.kp F0.out.kp) (hB.kp F0.out.kp));rw[ht]at HT;have HG:Hid (∀W,Kp w W→Calls Tryz.prog 156 #[.slice A s.length c, .slice C g.length e] W fun e w'=>e= .returned (.bool true)∧Kp W w'):=fun W k=>by rw[←hf];exact iI A C c e s g W (hA.kp k) (hC.kp k)
 have hg:=(dP hf).2.1;have hp:=bT hg;have hz:=aL hg;obtain⟨N,hN⟩:∃N:Nat,au g=N:=⟨(au g).toNat,by omega⟩
 have HF:=lH (TnG.jR ht hf);rw[hN,Int.toNat_natCast,←TnI.tW]at HF;have HS:Hid (∀W,Kp w W→Calls Tryz.prog 46 #[.slice C g.length e] W fun e w'=>e= .returned (.int .i64 (N:Int))∧W=w'):=fun W kk=>by
  have hh:=bC C e g W (hC.kp kk);rw[hN]at hh;exact hh
 have HM:Hid (∀k:Nat,k<N→∃m:Nat,ew s g k=(m:Int)∧m<xs.length):=fun k hk=>TnG.JV ht hf hN hk
 have HPS:Hid (∀(n Bs Bf:Nat) (w0:World),1≤n→Qp w Bs Bf C g.length e A s.length c w0→SeqStopsK Fence.wide n Tryz.prog 179 #[.pointer (some ⟨Bs,0,none⟩), .pointer (some ⟨Bf,0,none⟩)] (Fy s g N) (fun W W'=>Qp w Bs Bf C g.length e A s.length c W→Qp w Bs Bf C g.length e A s.length c W')
   (fun xs=>xs.map (·.1)=List.range N) (fun pre=>∃k,k≤N∧pre.map (·.1)=List.range k) N w0):=fun n Bs Bf w0 hn hq=>ld A C c e s g N Bs Bf n w w0 hA hC hf hN hn hq
 have n1:0<N:=by omega
 have n2:N≤64:=by omega
 have hg3:g.length≤1000000:=by have:=(aD.1 hg).1;omega
 have HCL:Hid (∀W,Kp w W→Calls Tryz.prog 47 #[.slice C g.length e] W (oQ g W)):=fun W kk=>cv C e g W (hC.kp kk) hg3
 obtain⟨cs,hmk,sH⟩:=mk_ N (by omega);have HOW:=lH sH;have HBX:=lH hB;clear ht hf hg hp hz hN sH hg3;refine(callsIn_wide (n:=4)).1 ?_;refine callsIn_of_wp_marks Tryz.func84 rfl trivial ?_ rfl;simp only[Tryz.ntmps84,List.size_toArray,List.length_cons,List.length_nil,Nat.reduceAdd,Nat.reduceSub,Array.replicate_succ,Array.replicate_zero,List.push_toArray,List.append_toArray,List.nil_append,List.cons_append]
 gi_wp2_with fail
 refine⟨trivial,(callsIn_wide.2 HT.out).mono ?_⟩;rintro en w1 ⟨rfl,k1⟩;have F1:=lH (F0.out.tr k1);have b0:=F1.out.b0;have b1:=F1.out.b1;clear k1
 gi_wp2_with fail
 refine⟨trivial,(callsIn_wide.2 (HG.out _ F1.out.kp)).mono ?_⟩;rintro en w2 ⟨rfl,k2⟩;have F2:=lH (F1.out.tr k2);clear k2 b0 b1
 gi_wp2_with fail
 refine⟨trivial,(callsIn_wide.2 (HS.out _ F2.out.kp)).mono ?_⟩;rintro en w3 ⟨rfl,rfl⟩;have b0:=F2.out.b0;have y1:w.heap.size<w2.heap.size:=by have:=F2.out.sz;omega
 have y2:w.heap.size<w2.heap.size+1:=by omega
 gi_wp2_with fail
 refine⟨trivial,(callsIn_wide.2 (nW _ _ _ _ _ _ _)).mono ?_⟩;rintro en w4 ⟨rfl,rfl⟩
 gi_wp2_with fail
 have hmx:Tryz.prog.follows .mixedOrders=true:=by kernel_rfl
 obtain⟨W1,hW1⟩:∃W1,((((w2.alloc (.cells cs 3)).alloc (.cells #[.slice (some ⟨w2.heap.size,0,none⟩) N N] 29)).alloc (.cells #[.slice C g.length e] 29)).alloc (.cells #[.slice A s.length c] 29))=W1:=⟨_,rfl⟩
 have FW:Hid (Fr w A s.length c B xs.length d W1):=by show Fr w A s.length c B xs.length d W1;rw[←hW1];exact(((F2.out.tr (Kp.af _ _)).tr (Kp.af _ _)).tr (Kp.af _ _)).tr (Kp.af _ _)
 have SW:Hid (W1.heap.size=w2.heap.size+4∧w.heap.size+2≤w2.heap.size):=⟨by rw[←hW1];simp,F2.out.sz⟩
 have OW:Hid (Own (w.heap.size+2) W1 (.slice (some ⟨w2.heap.size,0,none⟩) N N) (List.replicate N 0)):=by
  show Own (w.heap.size+2) W1 _ _;rw[←hW1];exact(((HOW.out w2 (w.heap.size+2) F2.out.sz).kp (Kp.af _ _)).kp (Kp.af _ _)).kp (Kp.af _ _)
 have BW:Hid (W1.cell? ⟨w2.heap.size+1,0,none⟩=some (.slice (some ⟨w2.heap.size,0,none⟩) N N)):=by show W1.cell? _=_;rw[←hW1];simp[go_sem]
 have QW:Hid (Qp w (w2.heap.size+1+1) (w2.heap.size+1+1+1) C g.length e A s.length c W1):=by
  refine lH ⟨by rw[←hW1];simp[go_sem],by rw[←hW1];simp[go_sem],FW.out.kp,?_,?_⟩
  ·have:=SW.out.1;omega
  ·have:=SW.out.1;omega
 rw[hW1];clear hW1 b0 y1 y2 hmk;have hw1:w.heap.size≤W1.heap.size:=FW.out.kp.size;refine wpIn_rangeFunc_ownF rfl (by omega) (gf:=179) (lb:= #[.pointer (some ⟨w2.heap.size+1+1,0,none⟩), .pointer (some ⟨w2.heap.size+1+1+1,0,none⟩)]) rfl trivial (enters_of Tryz.func179 (by kernel_rfl) rfl)
  (HPS.out _ _ _ W1 (by omega) QW.out) (fun h k q=>k (h q))
  (fun W l o o' hl h ho hw q=>q.tb (belowK_b (w:=W1) (Nat.le_refl _) W l o o' hl h ho hw) (by have:=SW.out.1;omega) (by have:=SW.out.1;omega) hw1)
  (Below.refl _ _) (fun _=>rfl)
  (fun pre W=>W1.heap.size≤W.heap.size∧Fr w A s.length c B xs.length d W∧W.cell? ⟨w2.heap.size+1,0,none⟩=some (.slice (some ⟨w2.heap.size,0,none⟩) N N)∧Own (w.heap.size+2) W (.slice (some ⟨w2.heap.size,0,none⟩) N N) (TnI.DL (fun i=>xs.getD (ew s g i).toNat 0) (pre.map (·.1)) (List.replicate N 0)))
  (fun _ _ _=>False)
  (fun pre W W' row hs hg hr=>by
   have hb:=iZ hs.1 hg hr;have:=SW.out;exact⟨Nat.le_trans hs.1 hb.size,hs.2.1.tb (hb.mono (by omega)),(hb.cell (p:=⟨w2.heap.size+1,0,none⟩) (by show w2.heap.size+1<_;omega)).trans hs.2.2.1,hs.2.2.2.tb hb (by omega)⟩)
  (fun _ _ _ _ _ hs _ _=>hs)
  ⟨Nat.le_refl _,FW.out,BW.out,OW.out⟩
  (fun x=>{tmps:= #[.agg #[.slice A s.length c, .slice B xs.length d], .slice C g.length e, .pointer (some ⟨w.heap.size,0,none⟩),undef, .pointer (some ⟨w.heap.size+1,0,none⟩), .int .i64 0, .pointer (some ⟨w2.heap.size+1,0,none⟩), .int .i64 (x.1:Int), .int .i64 (ew s g x.1),
   .agg #[.slice A s.length c, .slice B xs.length d], .bool true, .bool false,undef, .pointer (some ⟨w.heap.size,0,none⟩), .slice A s.length c, .slice C g.length e, .bool true, .bool false,undef, .slice C g.length e, .int .i64 (N:Int), .slice (some ⟨w2.heap.size,0,none⟩) N N, .slice C g.length e, .pointer (some ⟨w.heap.size,0,none⟩), .slice A s.length c,
   .func (.func 179) #[] #[.pointer (some ⟨w2.heap.size+1+1,0,none⟩), .pointer (some ⟨w2.heap.size+1+1+1,0,none⟩)], .int .i64 (x.1:Int), .int .i64 (ew s g x.1),undef,undef,undef,undef,undef,undef,undef,undef,undef,undef,undef,undef],defers:=[]}) ?assign ?body ?done ?stop
 case assign=>
  intro l x W K hK
  gi_wp2
  exact hK
 case body=>
  rintro l pre ⟨k,hk⟩ W ⟨hsz,hfr,hbx,hown⟩ _;obtain⟨m,hm,RO⟩:=HM.out k hk;obtain⟨bd,x0,rfl,hbl,hx,hc⟩:=HBX.out.at_ RO;dsimp only;rw[hm];have b1:=hfr.b1;have c1:W.cell? (bd.add m)=some (.int .i64 x0):=(hfr.kp.cell (by rw[ah];exact hbl)).trans hc;have HLN:Hid ((TnI.DL (fun i=>xs.getD (ew s g i).toNat 0) (pre.map (·.1)) (List.replicate N 0)).length=N):=by show List.length _=N;rw[TnI.vw];simp
  have e1:=hown.cell_ (j:=k) (List.getElem?_eq_getElem (by rw[HLN.out];exact hk));have e2:=hown.fE k;have HO:=lH hown;have HFR:=lH hfr;have HV:Hid (xs.getD (ew s g k).toNat 0=x0):=by show List.getD _ _ _=x0;rw[hm,Int.toNat_natCast,List.getD_eq_getElem?_getD,hx];rfl
  have i1:(0:Int)≤(m:Int):=by omega
  have i2:(m:Int)<(xs.length:Int):=by omega
  have i3:(k:Int)<(N:Int):=by omega
  have i4:(0:Int)≤(k:Int):=by omega
  have HSW:=lH SW.out;clear hm hx hc hown hbl
  gi_wp2
  refine xI 8 hmx (by kernel_rfl) (by kernel_rfl) (fun⟨_,_,h⟩=>h) ?_;simp only[List.take_succ_cons,List.take_zero,List.drop_succ_cons,List.drop_zero]
  repeat still_step
  try refine wpStill_nil ?_
  change wpList _ _ _ _ _ W.drew
  go_wp2
  have hne:w2.heap.size≠w2.heap.size+1:=by omega
  refine⟨(KeepsOthers.drew _).trans (KeepsOthers.setCell _ _ _),fun q=>(q.tr (Below.drew (Kp.refl _))).put (p:=⟨w2.heap.size,k,none⟩) (by show w2.heap.size≠_;omega) (by show w2.heap.size≠_;omega) (by show w.heap.size≤w2.heap.size;have:=HSW.out.2;omega) _,?_,?_,?_,?_⟩
  ·show W1.heap.size≤(W.setCell ⟨w2.heap.size,k,none⟩ (.int .i64 x0)).heap.size;rw[World.size_setCell];exact hsz
  ·exact(HFR.out.tr (Below.drew (Kp.refl _))).tb ((Below.refl _ _).setCell (p:=⟨w2.heap.size,k,none⟩) HSW.out.2 _)
  ·exact bp (fun e=>hne (congrArg Addr.block e)) hbx
  ·rw[List.map_append,List.map_cons,List.map_nil,TnI.rE];show Own _ _ _ (List.set _ k (xs.getD (ew s g k).toNat 0));rw[HV.out];exact(HO.out.kY k x0).drew
 case done=>
  rintro D ys W hD hS ⟨hsz,hfr,hbx,hown⟩ hK;have hDl:D<W.heap.size:=(Array.getElem?_eq_some_iff.1 hK).1;rw[hS]at hown;have HO:=lH hown;have HFR:=lH hfr;have HBC:=lH hbx;have HKD:=lH hK;have y1:w2.heap.size+1<W.heap.size:=by have:=SW.out.1;omega
  have HCW:Hid (Kp w W.drew):=hfr.kp.drew;clear hown hK;obtain⟨_,b0,b1,r0,r1,f0,f1,hfs⟩:=hfr;have y2:w.heap.size+1<W.heap.size:=by omega
  gi_wp2
  refine qR ?_
  gi_region_with_o (refine⟨trivial,?_⟩;gi_at_call 47;refine(callsIn_wide.2 (HCL.out _ HCW.out)).mono ?_;rintro en w5 ⟨AS,cS,rfl,oS,kS⟩;have SF:∀p:Addr,p.block<W.heap.size→w5.cell? p=W.cell? p:=fun p hp=>kS.cell hp;have Sn:∀p:Addr,p.block<W.heap.size→w5.frozen? p=W.frozen? p:=fun p hp=>kS.frozen hp;have HOS:=lH oS;have HKS:Hid (Kp W w5):=⟨kS.os,kS.tape,kS.output,kS.size,kS.block⟩;clear oS kS)
  all_goals gi_wp2
  all_goals
   have hK5:w5.heap[D]?=some (.deferred (some [])):=(HKS.out.block D hDl).trans HKD.out;have hD2:w.heap.size+1<D:=by have:=SW.out.1;have:=SW.out.2;omega
   have hF5:=HFR.out.tr HKS.out;refine jd (v:= .tuple #[.agg #[.slice AS g.length cS, .slice (some ⟨w2.heap.size,0,none⟩) N N], .int .i64 0]) (C2 hK5 hD2 _ _) (by
    have q0:=hF5.Sw hK5 hD2 (.slice AS g.length cS) (.slice (some ⟨w2.heap.size,0,none⟩) N N);have q1:=hF5.Sv hK5 hD2 (.slice AS g.length cS) (.slice (some ⟨w2.heap.size,0,none⟩) N N);unfold nh at q0 q1;simp[results,Tryz.results84,go_sem,q0,q1]) ?_
   exact aG.on HF.out rfl (by rw[TnI.vw];simp) (HOS.out.fin (by show _<W.heap.size;omega) hK5 hD2 _ _).sl ((HO.out.kp HKS.out).fin (Nat.lt_succ_self _) hK5 hD2 _ _).sl (hF5.Pq hK5 hD2 _ _)
 case stop=>
  rintro D c pre W _ _ h _;exact h.elim
theorem xq(A B C:Option Addr)(c d e:Nat)(s xs g:List Int)(w:World)(hA:Rd w A s)(hB:Rd w B xs)(hC:Rd w C g):
  Calls Tryz.prog 84 #[.agg #[.slice A s.length c, .slice B xs.length d], .slice C g.length e] w (aG (cm s xs g) w):=by
 have hl:=hA.len;have gl:=hB.len;have kl:=hC.len
 cases ht:aB s xs with
 |false=>
  have F0:=lH (Fr.mk_ w A s.length c B xs.length d 31);have HT:=lH (av A B c d s xs _ (hA.kp F0.out.kp) (hB.kp F0.out.kp));rw[ht]at HT;have HF:=lH (TnG.zW g ht);clear ht;go_enter Tryz.func84,Tryz.ntmps84
  go_wp2_with fail
  refine(Calls.mono (Hid.out HT)) ?_;rintro e w1 ⟨rfl,k1⟩;have F1:=lH (F0.out.tr k1);obtain⟨_,b0,b1,r0,r1,f0,f1,_⟩:=F1.out;clear k1
  go_wp2
  refine bodyPost_ret (by simp[results,Tryz.results84,go_sem,r0,r1];try rfl) rfl ?_;exact aG.err HF.out (F1.out.end_ _ _)
 |true=>
  cases hf:cw s g with
  |true=>exact tP A B C c d e s xs g w hA hB hC ht hf
  |false=>
   have F0:=lH (Fr.mk_ w A s.length c B xs.length d 31);have HT:=lH (av A B c d s xs _ (hA.kp F0.out.kp) (hB.kp F0.out.kp));rw[ht]at HT;have HG:Hid (∀W,Kp w W→Calls Tryz.prog 156 #[.slice A s.length c, .slice C g.length e] W fun e w'=>e= .returned (.bool false)∧Kp W w'):=fun W k=>by rw[←hf];exact iI A C c e s g W (hA.kp k) (hC.kp k)
   have HF:=lH (TnG.oY ht hf);clear ht hf;go_enter Tryz.func84,Tryz.ntmps84
   go_wp2_with fail
   refine(Calls.mono (Hid.out HT)) ?_;rintro e w1 ⟨rfl,k1⟩;have F1:=lH (F0.out.tr k1);obtain⟨_,b0,b1,_,_,_,_,_⟩:=F1.out;clear k1
   go_wp2_with fail
   refine(Calls.mono (HG.out _ F1.out.kp)) ?_;rintro e w2 ⟨rfl,k2⟩;have F2:=lH (F1.out.tr k2);clear b0 b1 k2;obtain⟨_,b0,b1,r0,r1,f0,f1,_⟩:=F2.out
   go_wp2
   refine bodyPost_ret (by simp[results,Tryz.results84,go_sem,r0,r1];try rfl) rfl ?_;exact aG.err HF.out (F2.out.end_ _ _)
open Go.RowKit Go.Shelf Go.Proofs.ShM Go.Proofs.cF
attribute [local go_sem] Oper.semAt_some
namespace TnJ
def lF(f:Nat→Nat)(d:List Int)(k:Nat)(zs:List Int):Option (List Int):=
 if(cY (zs.getD (f k) 0) (d.getD k 0)).2=0 then some (zs.set (f k) (cY (zs.getD (f k) 0) (d.getD k 0)).1)else none
def eS(f:Nat→Nat)(d:List Int):List Nat→List Int→Option (List Int)
 | [],zs=>some zs
 |k::ks,zs=>(lF f d k zs).bind (eS f d ks)
theorem lq(f:Nat→Nat)(d:List Int)(b:List Nat):∀(a:List Nat) (zs:List Int),eS f d (a++b) zs=(eS f d a zs).bind (eS f d b):=by
 intro a
 induction a with
 |nil=>intro zs;rfl
 |cons k ks ih=>
  intro zs;simp only[List.cons_append,eS]
  cases lF f d k zs with
  |none=>rfl
  |some z=>exact ih z
theorem oF{f:Nat→Nat}{d:List Int}{pre:List Nat}{k:Nat}{zs ys:List Int}(h:eS f d pre zs=some ys):eS f d (pre++[k]) zs=lF f d k ys:=by
 rw[lq,h];show(lF f d k ys).bind (eS f d [])=_
 cases lF f d k ys<;>rfl
theorem Es{f:Nat→Nat}{d:List Int}{k:Nat}{zs ys:List Int}(h:lF f d k zs=some ys)(hz:bN zs):bN ys∧ys.length=zs.length:=by
 unfold lF at h
 split at h
 ·injection h with h
  subst h;exact⟨hz.kY _ PK,by simp⟩
 ·cases h
theorem sM{f:Nat→Nat}{d:List Int}:∀{pre:List Nat} {zs ys:List Int},eS f d pre zs=some ys→bN zs→bN ys∧ys.length=zs.length:=by
 intro pre
 induction pre with
 |nil=>intro zs ys h hz;injection h with h;subst h;exact⟨hz,rfl⟩
 |cons k ks ih=>
  intro zs ys h hz;simp only[eS,Option.bind_eq_some_iff]at h;obtain⟨z,h1,h2⟩:=h;obtain⟨a,b⟩:=Es h1 hz;obtain⟨a',b'⟩:=ih h2 a;exact⟨a',b'.trans b⟩
theorem CU(f:Nat→Nat)(d:List Int):∀(zs:List Int) (k:Nat),(fG f zs k d).2=0∨fG f zs k d=([],10):=by
 induction d with
 |nil=>intro zs k;exact .inl rfl
 |cons x d ih=>
  intro zs k;simp only[fG]
  split
  ·exact ih _ _
  ·rename_i hne;rcases TnG.DE (zs.getD (f k) 0) x with⟨v,hv⟩|hv
   ·rw[hv]at hne;exact absurd rfl hne
   ·rw[hv];exact .inr rfl
theorem sL(f:Nat→Nat)(d:List Int):∀(e:List Int) (k:Nat) (zs:List Int),d.drop k=e→eS f d (List.range' k e.length) zs=if(fG f zs k e).2=0 then some (fG f zs k e).1 else none:=by
 intro e
 induction e with
 |nil=>intro k zs _;rfl
 |cons x e ih=>
  intro k zs h;have hx:d[k]?=some x:=by have:=congrArg (·[0]?) h;simpa using this
  have he:d.drop (k+1)=e:=by rw[←List.drop_drop,h];rfl
  rw[List.length_cons,List.range'_succ];simp only[eS,lF,fG,List.getD_eq_getElem?_getD,hx,Option.getD_some]
  split
  ·exact ih (k+1) _ he
  ·rename_i hne;rfl
theorem sN(f:Nat→Nat)(d zs:List Int):eS f d (List.range d.length) zs=if(fG f zs 0 d).2=0 then some (fG f zs 0 d).1 else none:=by
 rw[List.range_eq_range'];exact sL f d d 0 zs rfl
theorem CV{f:Nat→Nat}{d zs ys:List Int}(h:eS f d (List.range d.length) zs=some ys):fG f zs 0 d=(ys,0):=by
 rw[sN]at h
 split at h
 ·rename_i h0;injection h with h
  exact Prod.ext h h0
 ·cases h
theorem CT{f:Nat→Nat}{d zs:List Int}{k:Nat}(hk:k≤d.length)(h:eS f d (List.range k) zs=none):fG f zs 0 d=([],10):=by
 have e:List.range d.length=List.range k++(List.range d.length).drop k:=by
  have:=List.take_append_drop k (List.range d.length);rw[List.take_range,show min k d.length=k by omega]at this;exact this.symm
 have h2:eS f d (List.range d.length) zs=none:=by rw[e,lq,h];rfl
 rw[sN]at h2;rcases CU f d zs 0 with h0|h0
 ·rw[if_pos h0]at h2;cases h2
 ·exact h0
theorem Er{f:Nat→Nat}{d zs:List Int}{k m:Nat}{x y v:Int}(hf:f k=m)(hx:d[k]?=some x)(hy:zs[m]?=some y)(hv:cY y x=(v,0)):lF f d k zs=some (zs.set m v):=by
 unfold lF;rw[hf,List.getD_eq_getElem?_getD,List.getD_eq_getElem?_getD,hx,hy];simp[hv]
theorem JT{f:Nat→Nat}{d zs:List Int}{k m:Nat}{x y:Int}(hf:f k=m)(hx:d[k]?=some x)(hy:zs[m]?=some y)(hv:cY y x=(0,10)):lF f d k zs=none:=by
 unfold lF;rw[hf,List.getD_eq_getElem?_getD,List.getD_eq_getElem?_getD,hx,hy];simp[hv]
end TnJ
theorem mW(W:World)(n:Nat):KeepsOthers W (W.drewN n):=⟨Nat.le_refl _,fun _ _ h _=>h⟩
structure Fe(w:World)(A:Option Addr)(n c:Nat)(B:Option Addr)(m d:Nat)(er:Int)(w':World):Prop where
 fr:Fr w A n c B m d w'
 e0:w'.cell? ⟨w.heap.size+1+1,0,none⟩=some (.int .i64 er)
 ef:w'.frozen? ⟨w.heap.size+1+1,0,none⟩=false
 sz:w.heap.size+3≤w'.heap.size
section
variable{w a b:World}{A B:Option Addr}{n c m d:Nat}{er:Int}
theorem Fe.tb(h:Fe w A n c B m d er a)(k:Below (w.heap.size+3) a b):Fe w A n c B m d er b where
 fr:=h.fr.tb (k.mono (by omega))
 e0:=(k.cell (p:=⟨w.heap.size+1+1,0,none⟩) (by show w.heap.size+1+1<_;omega)).trans h.e0
 ef:=(k.frozen (p:=⟨w.heap.size+1+1,0,none⟩) (by show w.heap.size+1+1<_;omega)).trans h.ef
 sz:=Nat.le_trans h.sz k.size
theorem Fe.tr(h:Fe w A n c B m d er a)(k:Kp a b):Fe w A n c B m d er b:=h.tb (k.mono h.sz)
theorem Fe.mk_(w:World)(A:Option Addr)(n c:Nat)(B:Option Addr)(m d:Nat)(t u:TypeId):Fe w A n c B m d 0 (((w.alloc (.cells #[.slice A n c, .slice B m d] t)).alloc (.cells #[.slice none 0 0, .slice none 0 0] t)).alloc (.cells #[.int .i64 0] u)) where
 fr:=(Fr.mk_ w A n c B m d t).tr (Kp.af _ _)
 e0:=by simp[go_sem]
 ef:=by simp[go_sem]
 sz:=by simp
end
section
variable{w a:World}{A B:Option Addr}{n c m d D:Nat}{er:Int}
def nC(w a:World)(x y z:Value):World:=(nh w a x y).setCell ⟨w.heap.size+1+1,0,none⟩ z
theorem wI(hD:a.heap[D]?=some (.deferred (some [])))(hne:w.heap.size+2<D)(x y z:Value):(nC w a x y z).heap[D]?=some (.deferred (some [])):=by
 unfold nC;rw[Below.heap_setCell _ _ _ D (by show D≠w.heap.size+1+1;omega)];exact C2 hD (by omega) x y
theorem Ki{W:World}(hK:W.heap[D]?=some (.deferred (some []))):Below D W (W.putObj D (.deferred none)):=
 (Below.refl D _).grown (grownBy_putObj' _ D _) (Nat.le_of_lt (Array.getElem?_eq_some_iff.1 hK).1) (fun k e=>by cases e;exact Nat.le_refl _)
theorem Fe.qE(h:Fe w A n c B m d er a)(x y:Value)(z:Int):(nC w a x y (.int .i64 z)).cell? ⟨w.heap.size+1,0,none⟩=some x∧(nC w a x y (.int .i64 z)).cell? ⟨w.heap.size+1,1,none⟩=some y∧(nC w a x y (.int .i64 z)).cell? ⟨w.heap.size+1+1,0,none⟩=some (.int .i64 z):=by
 unfold nC nh;refine⟨bp (by simp) (bp (by simp) (World.cell?_setCell_same' _ _ _ (by rw[h.fr.r0];rfl))),bp (by simp) (World.cell?_setCell_same' _ _ _ (mB (by simp) (by rw[h.fr.r1];rfl))),?_⟩;exact World.cell?_setCell_same' _ _ _ (mB (by simp) (mB (by simp) (by rw[h.e0];rfl)))
theorem Fe.qB(h:Fe w A n c B m d er a)(x y z:Value):Kp w (nC w a x y z):=(h.fr.end_ x y).setCell (p:=⟨w.heap.size+1+1,0,none⟩) (by show w.heap.size≤w.heap.size+1+1;omega) z
theorem Fe.Nm(h:Fe w A n c B m d er a)(z:Int):Fe w A n c B m d z (nC w a (.slice none 0 0) (.slice none 0 0) (.int .i64 z)):=by
 obtain⟨q0,q1,q2⟩:=h.qE (.slice none 0 0) (.slice none 0 0) z;have hs:(nC w a (.slice none 0 0) (.slice none 0 0) (.int .i64 z)).heap.size=a.heap.size:=by unfold nC nh;rw[World.size_setCell,World.size_setCell,World.size_setCell]
 refine⟨⟨h.qB _ _ _,?_,?_,q0,q1,?_,?_,by rw[hs];exact h.fr.sz⟩,q2,?_,by rw[hs];exact h.sz⟩
 ·unfold nC nh;exact bp (by simp) (bp (by simp) (bp (by simp) h.fr.b0))
 ·unfold nC nh;exact bp (by simp) (bp (by simp) (bp (by simp) h.fr.b1))
 ·unfold nC nh;rw[World.frozen?_setCell,World.frozen?_setCell,World.frozen?_setCell];exact h.fr.f0
 ·unfold nC nh;rw[World.frozen?_setCell,World.frozen?_setCell,World.frozen?_setCell];exact h.fr.f1
 ·unfold nC nh;rw[World.frozen?_setCell,World.frozen?_setCell,World.frozen?_setCell];exact h.ef
theorem Own.nC{b:Nat}{v:Value}{xs:List Int}(h:Own b a v xs)(hb:w.heap.size+2<b)(hD:a.heap[D]?=some (.deferred (some [])))(hne:w.heap.size+2<D)(x y z:Value):Own b ((nC w a x y z).putObj D (.deferred none)) v xs:=
 ownsRow_putObj (((h.gW (p:=⟨w.heap.size+1,0,none⟩) (by show w.heap.size+1<b;omega) x).gW (p:=⟨w.heap.size+1,1,none⟩) (by show w.heap.size+1<b;omega) y).gW (p:=⟨w.heap.size+1+1,0,none⟩) hb z) _ (wI hD hne x y z) rfl
end
theorem CS(A B C:Option Addr)(c d e:Nat)(g xs s:List Int)(w:World)(hA:Rd w A g)(hB:Rd w B xs)(hC:Rd w C s)(hi:bN xs)(ht:aB g xs=true)(hf:cw s g=true):
  Calls Tryz.prog 92 #[.agg #[.slice A g.length c, .slice B xs.length d], .slice C s.length e] w (aG (dw g xs s) w):=by
 have hl:=hA.len;have gl:=hB.len;have kl:=hC.len;have F0:=lH (Fe.mk_ w A g.length c B xs.length d 31 24);have HT:=lH (av A B c d g xs _ (hA.kp F0.out.fr.kp) (hB.kp F0.out.fr.kp));rw[ht]at HT;have HG:Hid (∀W,Kp w W→Calls Tryz.prog 156 #[.slice C s.length e, .slice A g.length c] W fun e w'=>e= .returned (.bool true)∧Kp W w'):=fun W k=>by rw[←hf];exact iI C A e c s g W (hC.kp k) (hA.kp k)
 have hg:=(dP hf).1;have hp:=bT hg;have hz:=aL hg;obtain⟨M,hM⟩:∃M:Nat,au s=M:=⟨(au s).toNat,by omega⟩
 have hxl:au g=(xs.length:Int):=by have:=(aA.1 ht);rw[aL this.1];exact this.2.symm
 have hfl:fF s g xs=fG (fun i=>(ew s g i).toNat) (List.replicate M 0) 0 xs:=by unfold fF;rw[hM,Int.toNat_natCast]
 have HY:Hid (∀zs,TnJ.eS (fun i=>(ew s g i).toNat) xs (List.range xs.length) (List.replicate M 0)=some zs→dw g xs s=(s,zs,0)):=fun zs r=>TnG.GW ht hf (hfl.trans (TnJ.CV r))
 have HN:Hid (∀k,k≤xs.length→TnJ.eS (fun i=>(ew s g i).toNat) xs (List.range k) (List.replicate M 0)=none→dw g xs s=([],[],10)):=fun k hk r=>TnG.GZ ht hf (hfl.trans (TnJ.CT hk r))
 have HS:Hid (∀W,Kp w W→Calls Tryz.prog 46 #[.slice C s.length e] W fun e w'=>e= .returned (.int .i64 (M:Int))∧W=w'):=fun W kk=>by
  have hh:=bC C e s W (hC.kp kk);rw[hM]at hh;exact hh
 have HM:Hid (∀k:Nat,k<xs.length→∃m:Nat,ew s g k=(m:Int)∧m<M):=fun k hk=>TnG.LX ht hf hM hk
 have HPS:Hid (∀(n Bs Bf:Nat) (w0:World),1≤n→Qp w Bs Bf A g.length c C s.length e w0→SeqStopsK Fence.wide n Tryz.prog 179 #[.pointer (some ⟨Bs,0,none⟩), .pointer (some ⟨Bf,0,none⟩)] (Fy s g xs.length) (fun W W'=>Qp w Bs Bf A g.length c C s.length e W→Qp w Bs Bf A g.length c C s.length e W')
   (fun ys=>ys.map (·.1)=List.range xs.length) (fun pre=>∃k,k≤xs.length∧pre.map (·.1)=List.range k) xs.length w0):=fun n Bs Bf w0 hn hq=>ld C A e c s g xs.length Bs Bf n w w0 hC hA hf hxl hn hq
 have n1:0<M:=by omega
 have n2:M≤64:=by omega
 have hs3:s.length≤1000000:=by have:=(aD.1 hg).1;omega
 have HCL:Hid (∀W,Kp w W→Calls Tryz.prog 47 #[.slice C s.length e] W (oQ s W)):=fun W kk=>cv C e s W (hC.kp kk) hs3
 have MN:xs.length≤64:=(aW ht).2.2.2;obtain⟨cs,hmk,sH⟩:=mk_ M (by omega);have HOW:=lH sH;have HBX:=lH hB;have HIX:=lH hi;clear ht hf hg hp hz hM sH hs3 hxl hfl hi;refine(callsIn_wide (n:=4)).1 ?_;refine callsIn_of_wp_marks Tryz.func92 rfl trivial ?_ rfl;simp only[Tryz.ntmps92,List.size_toArray,List.length_cons,List.length_nil,Nat.reduceAdd,Nat.reduceSub,Array.replicate_succ,Array.replicate_zero,List.push_toArray,List.append_toArray,List.nil_append,List.cons_append]
 gi_wp2_with fail
 refine⟨trivial,(callsIn_wide.2 HT.out).mono ?_⟩;rintro en w1 ⟨rfl,k1⟩;have F1:=lH (F0.out.tr k1);have b0:=F1.out.fr.b0;have b1:=F1.out.fr.b1;clear k1
 gi_wp2_with fail
 refine⟨trivial,(callsIn_wide.2 (HG.out _ F1.out.fr.kp)).mono ?_⟩;rintro en w2 ⟨rfl,k2⟩;have F2:=lH (F1.out.tr k2);clear k2 b0 b1
 gi_wp2_with fail
 refine⟨trivial,(callsIn_wide.2 (HS.out _ F2.out.fr.kp)).mono ?_⟩;rintro en w3 ⟨rfl,rfl⟩;have b0:=F2.out.fr.b0;have y1:w.heap.size<w2.heap.size:=by have:=F2.out.sz;omega
 have y2:w.heap.size<w2.heap.size+1:=by omega
 gi_wp2_with fail
 refine⟨trivial,(callsIn_wide.2 (nW _ _ _ _ _ _ _)).mono ?_⟩;rintro en w4 ⟨rfl,rfl⟩
 gi_wp2_with fail
 have hmx:Tryz.prog.follows .mixedOrders=true:=by kernel_rfl
 obtain⟨W1,hW1⟩:∃W1,((((w2.alloc (.cells cs 3)).alloc (.cells #[.slice (some ⟨w2.heap.size,0,none⟩) M M] 29)).alloc (.cells #[.slice A g.length c] 29)).alloc (.cells #[.slice C s.length e] 29))=W1:=⟨_,rfl⟩
 have FW:Hid (Fe w A g.length c B xs.length d 0 W1):=by show Fe w A g.length c B xs.length d 0 W1;rw[←hW1];exact(((F2.out.tr (Kp.af _ _)).tr (Kp.af _ _)).tr (Kp.af _ _)).tr (Kp.af _ _)
 have SW:Hid (W1.heap.size=w2.heap.size+4∧w.heap.size+3≤w2.heap.size):=⟨by rw[←hW1];simp,F2.out.sz⟩
 have OW:Hid (Own (w.heap.size+3) W1 (.slice (some ⟨w2.heap.size,0,none⟩) M M) (List.replicate M 0)):=by
  show Own (w.heap.size+3) W1 _ _;rw[←hW1];exact(((HOW.out w2 (w.heap.size+3) F2.out.sz).kp (Kp.af _ _)).kp (Kp.af _ _)).kp (Kp.af _ _)
 have BW:Hid (W1.cell? ⟨w2.heap.size+1,0,none⟩=some (.slice (some ⟨w2.heap.size,0,none⟩) M M)):=by show W1.cell? _=_;rw[←hW1];simp[go_sem]
 have QW:Hid (Qp w (w2.heap.size+1+1) (w2.heap.size+1+1+1) A g.length c C s.length e W1):=by
  refine lH ⟨by rw[←hW1];simp[go_sem],by rw[←hW1];simp[go_sem],FW.out.fr.kp,?_,?_⟩
  ·have:=SW.out.1;omega
  ·have:=SW.out.1;omega
 rw[hW1];clear hW1 b0 y1 y2 hmk;have hw1:w.heap.size≤W1.heap.size:=FW.out.fr.kp.size;refine wpIn_rangeFunc_ownF rfl (by omega) (gf:=179) (lb:= #[.pointer (some ⟨w2.heap.size+1+1,0,none⟩), .pointer (some ⟨w2.heap.size+1+1+1,0,none⟩)]) rfl trivial (enters_of Tryz.func179 (by kernel_rfl) rfl)
  (HPS.out _ _ _ W1 (by omega) QW.out) (fun h k q=>k (h q))
  (fun W l o o' hl h ho hw q=>q.tb (belowK_b (w:=W1) (Nat.le_refl _) W l o o' hl h ho hw) (by have:=SW.out.1;omega) (by have:=SW.out.1;omega) hw1)
  (Below.refl _ _) (fun _=>rfl)
  (fun pre W=>W1.heap.size≤W.heap.size∧Fe w A g.length c B xs.length d 0 W∧W.cell? ⟨w2.heap.size+1,0,none⟩=some (.slice (some ⟨w2.heap.size,0,none⟩) M M)∧∃zs,TnJ.eS (fun i=>(ew s g i).toNat) xs (pre.map (·.1)) (List.replicate M 0)=some zs∧Own (w.heap.size+3) W (.slice (some ⟨w2.heap.size,0,none⟩) M M) zs)
  (fun c0 pre W=>W1.heap.size≤W.heap.size∧c0= .ret∧Fe w A g.length c B xs.length d 10 W∧TnJ.eS (fun i=>(ew s g i).toNat) xs (pre.map (·.1)) (List.replicate M 0)=none)
  (fun pre W W' row hs hg hr=>by
   have hb:=iZ hs.1 hg hr;have:=SW.out;obtain⟨h1,h2,h3,zs,h4,h5⟩:=hs;exact⟨Nat.le_trans h1 hb.size,h2.tb (hb.mono (by omega)),(hb.cell (p:=⟨w2.heap.size+1,0,none⟩) (by show w2.heap.size+1<_;omega)).trans h3,zs,h4,h5.tb hb (by omega)⟩)
  (fun c0 pre W W' row hs hg hr=>by
   have hb:=iZ hs.1 hg hr;have:=SW.out;exact⟨Nat.le_trans hs.1 hb.size,hs.2.1,hs.2.2.1.tb (hb.mono (by omega)),hs.2.2.2⟩)
  ⟨Nat.le_refl _,FW.out,BW.out,_,rfl,OW.out⟩
  (fun x=>{tmps:= #[.agg #[.slice A g.length c, .slice B xs.length d], .slice C s.length e, .pointer (some ⟨w.heap.size,0,none⟩),undef, .pointer (some ⟨w.heap.size+1,0,none⟩), .pointer (some ⟨w.heap.size+1+1,0,none⟩), .pointer (some ⟨w2.heap.size+1,0,none⟩), .int .i64 (x.1:Int), .int .i64 (ew s g x.1),undef,undef,
   .agg #[.slice A g.length c, .slice B xs.length d], .bool true, .bool false,undef, .slice C s.length e, .pointer (some ⟨w.heap.size,0,none⟩), .slice A g.length c, .bool true, .bool false,undef, .slice C s.length e, .int .i64 (M:Int), .slice (some ⟨w2.heap.size,0,none⟩) M M, .pointer (some ⟨w.heap.size,0,none⟩), .slice A g.length c, .slice C s.length e,
   .func (.func 179) #[] #[.pointer (some ⟨w2.heap.size+1+1,0,none⟩), .pointer (some ⟨w2.heap.size+1+1+1,0,none⟩)], .int .i64 (x.1:Int), .int .i64 (ew s g x.1),undef,undef,undef,undef,undef,undef,undef,undef,undef,undef,undef,undef,undef,undef,undef,undef,undef,undef,undef,undef,undef,undef,undef,undef,undef],defers:=[]}) ?assign ?body ?done ?stop
 case assign=>
  intro l x W K hK
  gi_wp2
  exact hK
 case body=>
  rintro l pre ⟨k,hk⟩ W ⟨hsz,hfe,hbx,zs,hfp,hown⟩ _;obtain⟨m,hm,RO⟩:=HM.out k hk;obtain⟨bd,x,rfl,hbl,hx,hc⟩:=HBX.out.at_ hk;dsimp only;rw[hm];obtain⟨hz1,hz2⟩:=TnJ.sM hfp (bN.rep (by omega));rw[List.length_replicate]at hz2;obtain⟨y,hy⟩:∃y,zs[m]?=some y:=⟨zs[m]'(by rw[hz2];exact RO),List.getElem?_eq_getElem _⟩
  have hi1:I64 x:=HIX.out.get hx;have hi2:I64 y:=hz1.get hy;have HAD:Hid (∀W,Calls Tryz.prog 147 #[.int .i64 y, .int .i64 x] W fun e w'=>e= .returned (.tuple #[.int .i64 (cY y x).1, .int .i64 (cY y x).2])∧W=w'):=fun W=>nA y x hi2 hi1 W
  have hmm:(fun i:Nat=>(ew s g i).toNat) k=m:=by show(ew s g k).toNat=m;omega
  have b1:=hfe.fr.b1;have c1:W.cell? (bd.add k)=some (.int .i64 x):=(hfe.fr.kp.cell (by rw[ah];exact hbl)).trans hc;have e1:=hown.cell_ hy;have e2:=hown.fE m;have HO:=lH hown;have HFE:=lH hfe;have i1:(0:Int)≤(m:Int):=by omega
  have i2:(m:Int)<(M:Int):=by omega
  have i3:(k:Int)<(xs.length:Int):=by omega
  have i4:(0:Int)≤(k:Int):=by omega
  have HSW:=lH SW.out;have r0:=hfe.fr.r0;have r1:=hfe.fr.r1;have f0:=hfe.fr.f0;have f1:=hfe.fr.f1;have g0:=hfe.e0;have g1:=hfe.ef;have hne:w2.heap.size≠w2.heap.size+1:=by omega
  rcases TnG.DE y x with⟨v,hv⟩|hv
  ·rw[hv]at HAD;have HST:Hid (TnJ.eS (fun i=>(ew s g i).toNat) xs ((pre++[(⟨k,hk⟩:Pl xs.length)]).map (·.1)) (List.replicate M 0)=some (zs.set m v)):=by
    show TnJ.eS _ _ _ _=_;rw[List.map_append];exact(TnJ.oF hfp).trans (TnJ.Er hmm hx hy hv)
   clear hv hmm hm hx hc hown hbl hfp hz1 hz2 hy hi1 hi2
   gi_wp2
   refine mE hmx (by kernel_rfl) (by kernel_rfl) (fun⟨_,_,h⟩=>h) ?_
   repeat (quiet_step ((go_at_call 147;exact bM (HAD.out _))))
   refine wpQuiet_nil ?_;rintro w7 ⟨nq,rfl⟩
   gi_wp2
   refine⟨KeepsOthers.trans (mW W nq) (KeepsOthers.setCell _ _ _),fun q=>(q.tr (Kp.aI _ _)).put (p:=⟨w2.heap.size,m,none⟩) (by show w2.heap.size≠_;omega) (by show w2.heap.size≠_;omega) (by show w.heap.size≤w2.heap.size;have:=HSW.out.2;omega) _,?_,?_,?_,zs.set m v,HST.out,(HO.out.drewN nq).kY m v⟩
   ·rw[World.size_setCell];exact hsz
   ·exact(HFE.out.tr (Kp.aI _ _)).tb ((Below.refl _ _).setCell (p:=⟨w2.heap.size,m,none⟩) HSW.out.2 _)
   ·exact bp (fun e=>hne (congrArg Addr.block e)) hbx
  ·rw[hv]at HAD;have HST:Hid (TnJ.eS (fun i=>(ew s g i).toNat) xs ((pre++[(⟨k,hk⟩:Pl xs.length)]).map (·.1)) (List.replicate M 0)=none):=by
    show TnJ.eS _ _ _ _=_;rw[List.map_append];exact(TnJ.oF hfp).trans (TnJ.JT hmm hx hy hv)
   clear hv hmm hm hx hc hown hbl hfp hz1 hz2 hy hi1 hi2
   gi_wp2
   refine mE hmx (by kernel_rfl) (by kernel_rfl) (fun⟨_,_,h⟩=>h) ?_
   repeat (quiet_step ((go_at_call 147;exact bM (HAD.out _))))
   refine wpQuiet_nil ?_;rintro w7 ⟨nq,rfl⟩
   gi_wp2
   refine⟨KeepsOthers.trans (mW W nq) (((KeepsOthers.setCell _ _ _).trans (KeepsOthers.setCell _ _ _)).trans (KeepsOthers.setCell _ _ _)),?_,rfl,(HFE.out.tr (Kp.aI _ _)).Nm 10,HST.out⟩;rw[World.size_setCell,World.size_setCell,World.size_setCell];exact hsz
 case done=>
  rintro D ys W hD hS ⟨hsz,hfe,hbx,zs,hfp,hown⟩ hK;have hDl:D<W.heap.size:=(Array.getElem?_eq_some_iff.1 hK).1;rw[hS]at hfp;have HF:=lH (HY.out zs hfp);have HZL:Hid (M=zs.length):=by show M=_;have:=(TnJ.sM hfp (bN.rep (by omega))).2;rw[List.length_replicate]at this;exact this.symm
  have HO:=lH hown;have HFE:=lH hfe;have HKD:=lH hK;have y1:w2.heap.size+1<W.heap.size:=by have:=SW.out.1;omega
  have HCW:Hid (Kp w W.drew):=hfe.fr.kp.drew;clear hown hK hfp;have r0:=hfe.fr.r0;have r1:=hfe.fr.r1;have f0:=hfe.fr.f0;have f1:=hfe.fr.f1;have g0:=hfe.e0;have g1:=hfe.ef;have y2:w.heap.size+1<W.heap.size:=by have:=hfe.sz;omega
  have y3:w.heap.size+1+1<W.heap.size:=by have:=hfe.sz;omega
  gi_wp2
  refine qR ?_
  gi_region_with_o (refine⟨trivial,?_⟩;gi_at_call 47;refine(callsIn_wide.2 (HCL.out _ HCW.out)).mono ?_;rintro en w5 ⟨AS,cS,rfl,oS,kS⟩;have SF:∀p:Addr,p.block<W.heap.size→w5.cell? p=W.cell? p:=fun p hp=>kS.cell hp;have Sn:∀p:Addr,p.block<W.heap.size→w5.frozen? p=W.frozen? p:=fun p hp=>kS.frozen hp;have HOS:=lH oS;have HKS:Hid (Kp W w5):=⟨kS.os,kS.tape,kS.output,kS.size,kS.block⟩;clear oS kS)
  all_goals gi_wp2
  all_goals
   have hK5:w5.heap[D]?=some (.deferred (some [])):=(HKS.out.block D hDl).trans HKD.out;have hD2:w.heap.size+2<D:=by have:=SW.out.1;have:=SW.out.2;omega
   have hF5:=HFE.out.tr HKS.out;refine jd (v:= .tuple #[.agg #[.slice AS s.length cS, .slice (some ⟨w2.heap.size,0,none⟩) M M], .int .i64 0]) (wI hK5 hD2 _ _ _) (by
    have hp:=Ki (wI (w:=w) hK5 hD2 (.slice AS s.length cS) (.slice (some ⟨w2.heap.size,0,none⟩) M M) (.int .i64 0));obtain⟨q0,q1,q2⟩:=hF5.qE (.slice AS s.length cS) (.slice (some ⟨w2.heap.size,0,none⟩) M M) 0;have p0:=(hp.cell (p:=⟨w.heap.size+1,0,none⟩) (by show w.heap.size+1<D;omega)).trans q0;have p1:=(hp.cell (p:=⟨w.heap.size+1,1,none⟩) (by show w.heap.size+1<D;omega)).trans q1;have p2:=(hp.cell (p:=⟨w.heap.size+1+1,0,none⟩) (by show w.heap.size+1+1<D;omega)).trans q2;unfold nC nh at p0 p1 p2;simp[results,Tryz.results92,go_sem,p0,p1,p2]) ?_
   exact aG.on HF.out rfl HZL.out (HOS.out.nC (by show _<W.heap.size;omega) hK5 hD2 _ _ _).sl ((HO.out.kp HKS.out).nC (Nat.lt_succ_self _) hK5 hD2 _ _ _).sl ((hF5.qB _ _ _).trans ((Ki (wI hK5 hD2 _ _ _)).mono (by omega)))
 case stop=>
  rintro D c0 pre W hD ⟨k,hk,hpre⟩ ⟨hsz,rfl,hfe,hfp⟩ hK;rw[hpre]at hfp;have HF:=lH (HN.out k hk hfp);have hD2:w.heap.size+2<D:=by have:=SW.out.1;have:=SW.out.2;omega
  have hp:=Ki hK;have p0:=(hp.cell (p:=⟨w.heap.size+1,0,none⟩) (by show w.heap.size+1<D;omega)).trans hfe.fr.r0;have p1:=(hp.cell (p:=⟨w.heap.size+1,1,none⟩) (by show w.heap.size+1<D;omega)).trans hfe.fr.r1;have p2:=(hp.cell (p:=⟨w.heap.size+1+1,0,none⟩) (by show w.heap.size+1+1<D;omega)).trans hfe.e0;have HP:=lH (And.intro p0 (And.intro p1 p2));have HKK:=lH (And.intro hK (hfe.fr.kp.trans (hp.mono (by omega))));clear p0 p1 p2 hK hp
  gi_wp2
  refine jd (v:= .tuple #[.agg #[.slice none 0 0, .slice none 0 0], .int .i64 10]) HKK.out.1 (by
   obtain⟨p0,p1,p2⟩:=HP.out;simp[results,Tryz.results92,go_sem,p0,p1,p2]) ?_
  exact aG.err HF.out HKK.out.2
theorem G5(A B C:Option Addr)(c d e:Nat)(g xs s:List Int)(w:World)(hA:Rd w A g)(hB:Rd w B xs)(hC:Rd w C s)(hi:bN xs):
  Calls Tryz.prog 92 #[.agg #[.slice A g.length c, .slice B xs.length d], .slice C s.length e] w (aG (dw g xs s) w):=by
 have hl:=hA.len;have gl:=hB.len;have kl:=hC.len
 cases ht:aB g xs with
 |false=>
  have F0:=lH (Fe.mk_ w A g.length c B xs.length d 31 24);have HT:=lH (av A B c d g xs _ (hA.kp F0.out.fr.kp) (hB.kp F0.out.fr.kp));rw[ht]at HT;have HF:=lH (TnG.LC s ht);clear ht;go_enter Tryz.func92,Tryz.ntmps92
  go_wp2_with fail
  refine(Calls.mono (Hid.out HT)) ?_;rintro e w1 ⟨rfl,k1⟩;have F1:=lH (F0.out.tr k1);obtain⟨⟨_,b0,b1,r0,r1,f0,f1,_⟩,g0,g1,_⟩:=F1.out;clear k1
  go_wp2
  refine bodyPost_ret (v:= .tuple #[.agg #[.slice none 0 0, .slice none 0 0], .int .i64 30]) (by
   obtain⟨q0,q1,q2⟩:=F1.out.qE (.slice none 0 0) (.slice none 0 0) 30;unfold nC nh at q0 q1 q2;simp[results,Tryz.results92,go_sem,q0,q1,q2]) rfl ?_
  exact aG.err HF.out (F1.out.qB _ _ _)
 |true=>
  cases hf:cw s g with
  |true=>exact CS A B C c d e g xs s w hA hB hC hi ht hf
  |false=>
   have F0:=lH (Fe.mk_ w A g.length c B xs.length d 31 24);have HT:=lH (av A B c d g xs _ (hA.kp F0.out.fr.kp) (hB.kp F0.out.fr.kp));rw[ht]at HT;have HG:Hid (∀W,Kp w W→Calls Tryz.prog 156 #[.slice C s.length e, .slice A g.length c] W fun e w'=>e= .returned (.bool false)∧Kp W w'):=fun W k=>by rw[←hf];exact iI C A e c s g W (hC.kp k) (hA.kp k)
   have HF:=lH (TnG.uR ht hf);clear ht hf;go_enter Tryz.func92,Tryz.ntmps92
   go_wp2_with fail
   refine(Calls.mono (Hid.out HT)) ?_;rintro e w1 ⟨rfl,k1⟩;have F1:=lH (F0.out.tr k1);obtain⟨⟨_,b0,b1,_,_,_,_,_⟩,_,_,_⟩:=F1.out;clear k1
   go_wp2_with fail
   refine(Calls.mono (HG.out _ F1.out.fr.kp)) ?_;rintro e w2 ⟨rfl,k2⟩;have F2:=lH (F1.out.tr k2);clear b0 b1 k2;obtain⟨⟨_,b0,b1,r0,r1,f0,f1,_⟩,g0,g1,_⟩:=F2.out
   go_wp2
   refine bodyPost_ret (v:= .tuple #[.agg #[.slice none 0 0, .slice none 0 0], .int .i64 20]) (by
    obtain⟨q0,q1,q2⟩:=F2.out.qE (.slice none 0 0) (.slice none 0 0) 20;unfold nC nh at q0 q1 q2;simp[results,Tryz.results92,go_sem,q0,q1,q2]) rfl ?_
   exact aG.err HF.out (F2.out.qB _ _ _)
open Go.RowKit Go.Proofs.ShM
structure TR(w:World)(A:Option Addr)(l:List Int)(B:Option Addr)(m:List Int):Prop where
 s:Rd w A l
 d:Rd w B m
theorem TR.kp{w w':World}{A B:Option Addr}{l m:List Int}(h:TR w A l B m)(k:Kp w w'):TR w' A l B m:=⟨h.s.kp k,h.d.kp k⟩
theorem TR.af{w:World}{A B:Option Addr}{l m:List Int}(h:TR w A l B m)(o:Obj):TR (w.alloc o) A l B m:=h.kp (Kp.af w o)
def Um(l m:List Int)(a b:Nat)(err:Int)(w:World)(e:Ending)(w':World):Prop:=
 ∃A c B d,e= .returned (.tuple #[.agg #[.slice A a c, .slice B b d], .int .i64 err])∧TR w' A l B m∧Kp w w'
theorem aG.u{r:Tn}{l m:List Int}{a b:Nat}{err:Int}{w:World}{e:Ending}{w':World}(h:aG r w e w')(hr:r=(l,m,err))(ha:l.length=a)(hb:m.length=b):Um l m a b err w e w':=by
 subst hr ha hb;obtain⟨A,c,B,d,h1,h2,h3,h4⟩:=h;exact⟨A,c,B,d,h1,⟨h2.rd,h3.rd⟩,h4⟩
section
variable{A B C:Option Addr}{c d e n m o a b:Nat}{l k:List Int}{err:Int}{w:World}
theorem vq(s xs g:List Int)(h:TR w A s B xs)(hC:Rd w C g)(hn:n=s.length)(hm:m=xs.length)(ho:o=g.length)(hr:cm s xs g=(l,k,err))(ha:l.length=a)(hb:k.length=b):
  Calls Tryz.prog 84 #[.agg #[.slice A n c, .slice B m d], .slice C o e] w (Um l k a b err w):=by
 subst hn hm ho;exact(xq A B C c d e s xs g w h.s h.d hC).mono fun _ _ r=>r.u hr ha hb
end
def Bk(W:World)(b:Nat)(A:Option Addr)(n c:Nat)(B:Option Addr)(m d:Nat):Prop:=W.heap[b]?=some (.cells #[.slice A n c, .slice B m d] 31 (0,0))
section
variable{W W':World}{b b' n c m d n' c' m' d':Nat}{A B C D:Option Addr}
theorem Bk.lt(h:Bk W b A n c B m d):b<W.heap.size:=(Array.getElem?_eq_some_iff.1 h).1
theorem Bk.c0(h:Bk W b A n c B m d):W.cell? ⟨b,0,none⟩=some (.slice A n c):=by simp[World.cell?,show W.heap[b]?=_ from h]
theorem Bk.c1(h:Bk W b A n c B m d):W.cell? ⟨b,1,none⟩=some (.slice B m d):=by simp[World.cell?,show W.heap[b]?=_ from h]
theorem Bk.f0(h:Bk W b A n c B m d)(i:Nat):W.frozen? ⟨b,i,none⟩=false:=by simp[World.frozen?,show W.heap[b]?=_ from h]
theorem Bk.kp(h:Bk W b A n c B m d)(k:Kp W W'):Bk W' b A n c B m d:=(k.block b h.lt).trans h
theorem Bk.af(h:Bk W b A n c B m d)(o:Obj):Bk (W.alloc o) b A n c B m d:=h.kp (Kp.af W o)
theorem Bk.new(h:b=W.heap.size):Bk (W.alloc (.cells #[.slice A n c, .slice B m d] 31)) b A n c B m d:=by
 subst h;show(W.heap.push _)[W.heap.size]?=some _;simp
theorem Bk.other(h:Bk W b A n c B m d)(hne:b≠b')(x y:Value):Bk ((W.setCell ⟨b',0,none⟩ x).setCell ⟨b',1,none⟩ y) b A n c B m d:=by
 unfold Bk;rw[Below.heap_setCell _ _ _ b hne,Below.heap_setCell _ _ _ b hne];exact h
theorem heap_set{cs:Array Value}{t:TypeId}(h:W.heap[b]?=some (.cells cs t (0,0)))(i:Nat)(x:Value):(W.setCell ⟨b,i,none⟩ x).heap[b]?=some (.cells (cs.setIfInBounds i x) t (0,0)):=by
 obtain⟨hlt,hk⟩:=Array.getElem?_eq_some_iff.1 h;show(W.heap.modify b _)[b]?=_;rw[Array.getElem?_eq_getElem (by rw[Array.size_modify];exact hlt),Array.getElem_modify_self,hk];rfl
theorem Bk.put(h:Bk W b A n c B m d):Bk ((W.setCell ⟨b,0,none⟩ (.slice C n' c')).setCell ⟨b,1,none⟩ (.slice D m' d')) b C n' c' D m' d':=
 heap_set (heap_set h 0 _) 1 _
theorem Rd.past{A0:Option Addr}{xs:List Int}(r:Rd W A0 xs)(h:Bk W b A n c B m d)(x y:Value):Rd ((W.setCell ⟨b,0,none⟩ x).setCell ⟨b,1,none⟩ y) A0 xs:=by
 cases xs with
 |nil=>exact Rd.nil _ _
 |cons z zs=>
  have hne:∀ad,A0=some ad→ad.block≠b:=by
   rintro ad rfl e;obtain⟨ad',e',hb,hc⟩:=r.2 (by simp);injection e' with e'
   subst e';have h0:=hc 0 z rfl;have e1:ad.add 0=ad:=by unfold Addr.add;simp
   rw[e1]at h0;unfold World.cell? at h0;rw[e,show W.heap[b]?=_ from h]at h0;obtain⟨_,off,spot⟩:=ad
   match off,h0 with
   |0,h0=>cases spot<;>simp at h0
   |1,h0=>cases spot<;>simp at h0
   |k+2,h0=>cases spot<;>simp at h0
  exact(r.gW hne x).gW hne y
theorem Sl.past{A0:Option Addr}{c0:Nat}{xs:List Int}(r:Sl W A0 c0 xs)(h:Bk W b A n c B m d)(x y:Value):Sl ((W.setCell ⟨b,0,none⟩ x).setCell ⟨b,1,none⟩ y) A0 c0 xs:=⟨r.rd.past h x y,r.le,r.cap⟩
end
theorem TR.bU{w:World}{A B:Option Addr}:TR w A [] B []:=⟨Rd.nil _ _,Rd.nil _ _⟩
open Go.ChangeShapes Go.WideShapes Go.ChangeAt
theorem qk:laidOutB Tryz.prog=true:=by kernel_rfl
theorem Cu:Tryz.prog.cellsOf 3=1:=by kernel_rfl
section
variable{H:Type}{enc:TypeId×Value→H}
theorem yu{w:World}{a:Addr}{v:Value}(h:w.cell? a=some v):a.block<w.heap.size:=by
 rcases Nat.lt_or_ge a.block w.heap.size with hl|hl
 ·exact hl
 ·simp[World.cell?,Array.getElem?_eq_none hl]at h
theorem Dv{W W':World}(hb:Below W.heap.size W W'):∀(ts:List TypeId) (vs:List Value) (ds:List (DataW H)) (ps:List MemPlace),(ts.all fun t=>Tryz.prog.readableRec t&&decide (t<Tryz.prog.types.size))=true→
  DataW.TrodAll enc Tryz.prog W 0 (fun _=>true) true ts vs ds ps→(∀x∈ps,x.block<W.heap.size)→DataW.TrodAll enc Tryz.prog W' 0 (fun b=>decide (b<W.heap.size)) true ts vs ds ps:=by
 intro ts
 induction ts with
 |nil=>
  intro vs ds ps _ h _;obtain⟨rfl,rfl,rfl⟩:=trodAll_nil h;exact trodAll_mk0
 |cons t ts ih=>
  intro vs ds ps hr h hlt;obtain⟨v,vs',d,ds',p,q,rfl,rfl,rfl,h1,h2⟩:=trodAll_cons h;simp only[List.all_cons,Bool.and_eq_true,decide_eq_true_eq]at hr;exact trodAll_cons_mk (Below.trod qk hr.1.1 hr.1.2 h1 hb fun x hx=>hlt x (by simp[hx])) (ih _ _ _ hr.2 h2 fun x hx=>hlt x (by simp[hx]))
end
end Go.Proofs.YtdfknefcgijhmaaGreat
