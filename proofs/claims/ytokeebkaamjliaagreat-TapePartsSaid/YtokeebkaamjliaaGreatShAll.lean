import Derived.Test.YtokeebkaamjliaaGreatTk
import Derived.WalkSpells
import Derived.WalkLawsBesides
import Derived.Handy
import Derived.Deep.AppendLies
import Derived.BigQuiet
import Derived.Deep.LoopGhost
set_option maxHeartbeats 16000000
set_option maxRecDepth 100000
set_option linter.unusedVariables false
set_option linter.unusedSimpArgs false
namespace Go.Proofs.ShM
def ai:BU->Int
 | []=>1
 |x::s=>x*ai s
def aX(x:Int):Bool:=decide (1<=x/\x<=16)
def okS(s:BU):Bool:=decide (s.length<=3)&&(s.all aX&&decide (ai s<=64))
def au(s:BU):Int:=if okS s=true then ai s else 0
def dR:BU->Int->BU
 | [],_=> []
 |_::s,p=>(p/ai s)::dR s (p%ai s)
def mX(s:BU)(p:Int):BU×Int:=if 0<=p/\p<au s then(dR s p,0)else([],20)
def aZ:BU->BU->Bool
 | [],[]=>true
 |x::s,i::t=>decide (0<=i/\i<x)&&aZ s t
 |_,_=>false
def plc:BU->BU->Int
 |_::s,i::t=>i*ai s+plc s t
 |_,_=>0
def gn(s t:BU):Int×Int:=if(okS s&&aZ s t)=true then(plc s t,0)else(0,20)
def jn(x y:Int):Option Int:=if x=y∨y=1 then some x else if x=1 then some y else none
def kJ:BU->BU->Option (BU)
 |x::s,y::t=>(jn x y).bind fun h=>(kJ s t).map (h:: ·)
 |_,_=>some []
def pad(n:Nat)(s:BU):BU:=List.replicate (n-s.length) 1++s
def kI(a b:BU):Option (BU):=kJ (pad (max a.length b.length) a) (pad (max a.length b.length) b)
def bG(a b:BU):BU×Int:=
 if(okS a&&okS b)=true then match kI a b with
  |some l=>if okS l=true then(l,0)else([],20)
  |none=>([],20)
 else([],20)
def cw(a b:BU):Bool:=decide (bG a b=(b,0))
theorem ct{x:Int}:aX x=true↔1<=x/\x<=16:=by unfold aX;simp
theorem aD{s:BU}:okS s=true↔s.length<=3/\s.all aX=true/\ai s<=64:=by unfold okS;simp
theorem aY{s:BU}(h:s.all aX=true):1<=ai s:=by
 induction s with
 |nil=>simp[ai]
 |cons x s ih=>
  simp only[ach,abb]at h;have h1:=(ct.1 h.1).1;have h2:=ih h.2;have:=acR h1 h2 oM oM;simpa [ai]using this
theorem prod_append(s t:BU):ai (s++t)=ai s*ai t:=by
 induction s with
 |nil=>simp[ai]
 |cons x s ih=>simp[ai,ih,acy]
theorem mG(s:BU)(x:Int):ai (s++[x])=ai s*x:=by simp[prod_append,ai]
theorem AE{s:BU}(h:s.all aX=true):ai s<=((16^s.length:Nat):Int):=by
 induction s with
 |nil=>simp[ai]
 |cons x s ih=>
  simp only[ach,abb]at h;have h1:=ct.1 h.1;have h2:=ih h.2;have h3:=aY h.2;have h4:=acR h1.2 h2 oM oM;simp only[ai,abg];rw[Nat.pow_succ,Nat.mul_comm]
  push_cast at *
  omega
theorem Fo{s:BU}(h:s.all aX=true)(hk:s.length<=2):ai s<=256:=by
 have:=AE h;have hp:(16^s.length:Nat)<=16^2:=acT oM hk;omega
theorem ji{s:BU}(h:s.all aX=true)(hk:s.length<=3):ai s<=4096:=by
 have:=AE h;have hp:(16^s.length:Nat)<=16^3:=acT oM hk;omega
theorem bP{α:Type}{s:List α}{k:Nat}{x:α}(h:s[k]?=some x):s.drop k=x::s.drop (k+1):=by
 obtain⟨hk,rfl⟩:=aaU.1 h;exact abW hk
theorem cr{α:Type}{s:List α}{k:Nat}{x:α}(h:s[k]?=some x):s.take (k+1)=s.take k++[x]:=by
 obtain⟨hk,rfl⟩:=aaU.1 h;rw[List.take_succ_eq_append_getElem hk]
theorem u6{s:BU}{k:Nat}{x:Int}(h:s[k]?=some x):(s.take (k+1)).all aX=((s.take k).all aX&&aX x):=by
 rw[cr h];simp
theorem tj{s:BU}{k:Nat}{x:Int}(h:s[k]?=some x)(hx:aX x=false):s.all aX=false:=by
 rw[List.all_eq_false];exact⟨x,aa1 h,by simp[hx]⟩
theorem dA{s:BU}(h:s.all aX=true)(k:Nat):(s.drop k).all aX=true:=by
 rw[abn]at *;exact fun x hx=>h x (List.mem_of_mem_drop hx)
theorem iL{s:BU}(h:s.all aX=true)(k:Nat):(s.take k).all aX=true:=by
 rw[abn]at *;exact fun x hx=>h x (List.mem_of_mem_take hx)
theorem cN{s:BU}(h:s.all aX=true){k:Nat}{x:Int}(hx:s[k]?=some x):1<=x/\x<=16:=
 ct.1 (abn.1 h x (aa1 hx))
theorem z6{s:BU}(h:3<s.length):au s=0:=by
 unfold au;rw[aaT];intro c;have:=(aD.1 c).1;omega
theorem z5{s:BU}(h:s.all aX=false):au s=0:=by
 unfold au;rw[aaT];intro c;have:=(aD.1 c).2.1;rw[h]at this;cases this
theorem ED{s:BU}(h:64<ai s):au s=0:=by
 unfold au;rw[aaT];intro c;have:=(aD.1 c).2.2;omega
theorem EB{s:BU}(h1:s.length<=3)(h2:s.all aX=true)(h3:ai s<=64):au s=ai s:=by
 unfold au;rw[aaW (aD.2 ⟨h1,h2,h3⟩)]
theorem aL{s:BU}(h:okS s=true):au s=ai s:=by unfold au;rw[aaW h]
theorem oZ{s:BU}(h:okS s=false):au s=0:=by unfold au;rw[aaT (by simp[h])]
theorem bT{s:BU}(h:okS s=true):1<=ai s/\ai s<=64:=⟨aY (aD.1 h).2.1,(aD.1 h).2.2⟩
theorem size_pos{s:BU}:decide (0<au s)=okS s:=by
 cases h:okS s with
 |true=>have:=bT h;rw[aL h];simp;omega
 |false=>rw[oZ h];rfl
theorem size_le(s:BU):0<=au s/\au s<=64:=by
 cases h:okS s with
 |true=>have:=bT h;rw[aL h];omega
 |false=>rw[oZ h];omega
theorem eU(s:BU):∀p,(dR s p).length=s.length:=by
 induction s with
 |nil=>intro p;rfl
 |cons x s ih=>intro p;simp[dR,ih]
theorem uY{s:BU}(h:s.all aX=true):∀{p:Int},0<=p->p<ai s->aZ s (dR s p)=true/\plc s (dR s p)=p:=by
 induction s with
 |nil=>intro p h0 h1;simp[ai]at h1;exact⟨rfl,by show(0:Int)=p;omega⟩
 |cons x s ih=>
  intro p h0 h1;simp only[ach,abb]at h;have hp:=aY h.2;have hm:=Int.emod_nonneg p (show ai s≠0 by omega);have hl:=Int.emod_lt_of_pos p (show 0<ai s by omega);obtain⟨a,b⟩:=ih h.2 hm hl;have hd:0<=p/ai s:=Int.ediv_nonneg h0 oM;have hx:p/ai s<x:=Int.ediv_lt_of_lt_mul oM (by simpa [ai]using h1);refine⟨by simp[dR,aZ,hd,hx,a],?_⟩;simp only[dR,plc,b];have:=acG p (ai s);rw[acn]at this;exact this
theorem IL{s:BU}(h:s.all aX=true):∀{t:BU},aZ s t=true->0<=plc s t/\plc s t<ai s/\dR s (plc s t)=t:=by
 induction s with
 |nil=>intro t ht;cases t with
  |nil=>exact⟨by simp[plc],by simp[plc,ai],rfl⟩
  |cons i t=>simp[aZ]at ht
 |cons x s ih=>
  intro t ht
  cases t with
  |nil=>simp[aZ]at ht
  |cons i t=>
   simp only[ach,abb]at h;simp only[aZ,abb,acz]at ht;have hp:=aY h.2;obtain⟨a,b,c⟩:=ih h.2 ht.2;have h1:0<=i*ai s:=Int.mul_nonneg ht.1.1 oM;have h2:(i+1)*ai s<=x*ai s:=abY oM oM;have h3:(i+1)*ai s=i*ai s+ai s:=by rw[Int.add_mul,Int.one_mul]
   have e1:(i*ai s+plc s t)/ai s=i:=by
    rw[Int.add_comm,Int.add_mul_ediv_right _ _ oM,acO a b];omega
   have e2:(i*ai s+plc s t)%ai s=plc s t:=by
    rw[Int.add_comm,Int.add_mul_emod_self_right,Int.emod_eq_of_lt a b]
   refine⟨by simp only[plc];omega,by simp only[plc,ai];omega,?_⟩;simp only[plc,dR,e1,e2,c]
theorem Ja{s:BU}:∀{t:BU},aZ s t=true->t.length=s.length:=by
 induction s with
 |nil=>intro t h;cases t with
  |nil=>rfl
  |cons _ _=>simp[aZ]at h
 |cons x s ih=>intro t h;cases t with
  |nil=>simp[aZ]at h
  |cons i t=>simp only[aZ,abb]at h;simp[ih h.2]
theorem jB{s:BU}{p:Int}(h0:0<=p)(h1:p<au s):mX s p=(dR s p,0):=by unfold mX;rw[aaW ⟨h0,h1⟩]
theorem GK{s:BU}{p:Int}(h:p<0∨au s<=p):mX s p=([],20):=by unfold mX;rw[aaT oM]
theorem pU{s:BU}{p:Int}(h0:0<=p)(h1:p<au s):okS s=true:=by
 cases h:okS s with
 |true=>rfl
 |false=>rw[oZ h]at h1;omega
theorem Dg{s:BU}(h:s.all aX=true){k:Nat}{x:Int}(hx:s[k]?=some x)(p:Int)(h0:0<=p)(h1:p<ai (s.drop k)):
  dR (s.drop k) p=p/ai (s.drop (k+1))::dR (s.drop (k+1)) (p%ai (s.drop (k+1)))/\ai (s.drop k)/x=ai (s.drop (k+1))/\1<=ai (s.drop (k+1))/\
  0<=p%ai (s.drop (k+1))/\p%ai (s.drop (k+1))<ai (s.drop (k+1))/\0<=p/ai (s.drop (k+1))/\p/ai (s.drop (k+1))<x:=by
 have hs:=cN h hx;have hp:=aY (dA h (k+1));rw[bP hx]at h1⊢;refine⟨rfl,?_,hp,Int.emod_nonneg _ oM,Int.emod_lt_of_pos _ oM,Int.ediv_nonneg h0 oM,Int.ediv_lt_of_lt_mul oM (by simpa [ai]using h1)⟩;simp only[ai];exact Int.mul_ediv_cancel_left _ oM
theorem AK{s t:BU}(h:s.all aX=true){k:Nat}{x y acc:Int}(hx:s[k]?=some x)(hy:t[k]?=some y)(hin:aZ (s.drop k) (t.drop k)=aZ s t)
  (hacc:plc s t=acc*ai (s.drop k)+plc (s.drop k) (t.drop k))(h0:0<=acc)(h1:acc<ai (s.take k))(hy0:0<=y)(hy1:y<x):
  aZ (s.drop (k+1)) (t.drop (k+1))=aZ s t/\plc s t=(acc*x+y)*ai (s.drop (k+1))+plc (s.drop (k+1)) (t.drop (k+1))/\0<=acc*x/\acc*x+y<ai (s.take (k+1)):=by
 have hs:=cN h hx;rw[bP hx,bP hy]at hin hacc;simp only[aZ,plc,ai]at hin hacc;refine⟨?_,?_,Int.mul_nonneg h0 oM,?_⟩
 ·rw[<-hin];simp[hy0,hy1]
 ·rw[hacc,Int.add_mul,acy,Int.add_assoc]
 ·rw[cr hx,mG];have:=abY (show acc+1<=ai (s.take k) by omega) (show 0<=x by omega);rw[Int.add_mul,Int.one_mul]at this;omega
theorem OQ{s t:BU}{k:Nat}{x y:Int}(hx:s[k]?=some x)(hy:t[k]?=some y)(hin:aZ (s.drop k) (t.drop k)=aZ s t)(h:y<0∨x<=y):aZ s t=false:=by
 rw[<-hin,bP hx,bP hy];simp only[aZ];rw[abQ oM];rfl
theorem jk{s t:BU}(h:okS s=false∨aZ s t=false):gn s t=(0,20):=by
 unfold gn;rw[aaT];rcases h with h|h<;>simp[h]
theorem jj{s t:BU}(h:okS s=true)(h':aZ s t=true):gn s t=(plc s t,0):=by unfold gn;rw[aaW (by simp[h,h'])]
theorem Cv{s t:BU}(h:t.length≠s.length):aZ s t=false:=by
 cases e:aZ s t with
 |true=>exact absurd (Ja e) h
 |false=>rfl
end Go.Proofs.ShM
namespace Go.Proofs.YtokeebkaamjliaaGreat
open RowKit ShM
theorem dz:(Tryz.prog.info? 3).map (fun i=>(i.zero,i.size,i.bytes))=some (some (.int .i64 0),1,8):=by kernel_rfl
def I64(a:Int):Prop:= -9223372036854775808<=a/\a<=9223372036854775807
theorem pI{k:IntKind}{a c:Int}(h:a=c):Ending.returned (.int k a)= .returned (.int k c):=by rw[h]
theorem cV{a c:Bool}(h:a=c):Ending.returned (.bool a)= .returned (.bool c):=by rw[h]
theorem dM{k l:IntKind}{a b:Int}{p:Int×Int}(h:p=(a,b)):Ending.returned (.tuple #[.int k a, .int l b])= .returned (.tuple #[.int k p.1, .int l p.2]):=by rw[h]
theorem ah(a:Addr)(n:Nat):(a.add n).block=a.block:=by unfold Addr.add;split<;>rfl
theorem oO(a:Addr)(i j:Nat):(a.add i).add j=a.add (i+j):=by
 unfold Addr.add;by_cases hi:i=0<;>by_cases hj:j=0<;>simp[hi,hj,Nat.add_assoc]
def Rd(w:World)(A:DV)(xs:BU):Prop:=
 xs.length<=9223372036854775807/\(0<xs.length->∃ad,A=some ad/\ad.block<w.heap.size/\∀j u,xs[j]?=some u->w.cell? (ad.add j)=some (.int .i64 u))
def nL(w:World)(v:Value)(xs:BU):Prop:=∃A c,v= .slice A xs.length c/\xs.length<=c/\c<=maxLen/\Rd w A xs
section
variable{w w':World}{A:DV}{xs:BU}{v:Value}
theorem Rd.nil(w:World)(A:DV):Rd w A []:=⟨by simp,fun h=>absurd h sC⟩
theorem Rd.len(h:Rd w A xs):xs.length<=9223372036854775807:=h.1
theorem Rd.at_(h:Rd w A xs){k:Nat}(hk:k<xs.length):∃ad x,A=some ad/\ad.block<w.heap.size/\xs[k]?=some x/\w.cell? (ad.add k)=some (.int .i64 x):=by
 obtain⟨ad,e,hb,hc⟩:=h.2 oM;exact⟨ad,xs[k],e,hb,aaV hk,hc k _ (aaV hk)⟩
theorem Rd.keep(h:Rd w A xs)(hs:w.heap.size<=w'.heap.size)(hk:∀p:Addr,p.block<w.heap.size->w'.cell? p=w.cell? p):Rd w' A xs:=
 ⟨h.1,fun hn=>by
  obtain⟨ad,e,hb,hc⟩:=h.2 hn;exact⟨ad,e,abj hb hs,fun j u hu=>(hk _ (by rw[ah];exact hb)).trans (hc j u hu)⟩⟩
abbrev Kp(w w':World):Prop:=Below w.heap.size w w'
theorem Kp.refl(w:World):Kp w w:=abu _ _
theorem Kp.tr{a b c:World}(h:Kp a b)(k:Kp b c):Kp a c:=h.trans (Below.mono k h.size)
theorem Rd.kp(h:Rd w A xs)(k:Kp w w'):Rd w' A xs:=h.keep k.size fun _ hp=>k.cell hp
theorem nL.nil(w:World):nL w (zS) []:=⟨none,0,rfl,by simp,by simp,Rd.nil _ _⟩
theorem nL.Bb{base:Nat}{e:TypeId}(h:w.ownsRow base e 1 v xs.length (xs.map (Value.int .i64))):nL w v xs:=by
 have hl:=h;rcases h.2 with⟨rfl,h0⟩|⟨g,cap,cur,rfl,_,hh,hn,hc,hcs,ht⟩
 ·have:xs=[]:=abd h0;subst this;exact nL.nil w
 ·refine⟨_,cap,rfl,hn,hc,by unfold maxLen at hc;omega,fun hp=>⟨_,rfl,?_,fun j u hu=>?_⟩⟩
  ·obtain⟨g',cap',e',_,hlt⟩:=hl.form hp;injection e' with e1;injection e1 with e1
   injection e1 with e1
   subst e1;exact hlt
  ·exact hl.cells (g:=g) rfl j (.int .i64 u) (by simp[hu])
end
namespace ShA
def Rel(xs:BU)(p:Int)(k:Nat):Prop:=k<=xs.length/\(xs.take k).all aX=true/\p=ai (xs.take k)
theorem start(xs:BU):Rel xs 1 0:=⟨aa6 _,rfl,rfl⟩
theorem bnd{xs:BU}{p:Int}{k:Nat}(h:Rel xs p k)(h3:xs.length<=3):1<=p/\p<=4096:=by
 obtain⟨_,h2,rfl⟩:=h;exact⟨aY h2,ji h2 (by have:=List.length_take_le k xs;omega)⟩
theorem Vy{xs:BU}{p:Int}{k:Nat}(h:Rel xs p k)(h3:xs.length<=3)(hk:k<xs.length):1<=p/\p<=256:=by
 obtain⟨_,h2,rfl⟩:=h;exact⟨aY h2,Fo h2 (by rw[abv];omega)⟩
theorem U2{p x:Int}(h:1<=p/\p<=256)(h1:1<=x)(h2:x<=16):1<=p*x/\p*x<=4096:=by
 have a:=acR h.1 h1 oM oM;have b:=acR h.2 h2 oM oM;omega
theorem step{xs:BU}{p x:Int}{k:Nat}(h:Rel xs p k)(hx:xs[k]?=some x)(h1:1<=x)(h2:x<=16):Rel xs (p*x) (k+1):=by
 obtain⟨_,hb,rfl⟩:=h;have hk:=(aaU.1 hx).1;exact⟨hk,by rw[u6 hx,hb,ct.2 ⟨h1,h2⟩];rfl,by rw[cr hx,mG]⟩
theorem bad{xs:BU}{x:Int}{k:Nat}(hx:xs[k]?=some x)(h:x<1∨16<x):au xs=0:=
 z5 (tj hx (by unfold aX;rw[abQ];omega))
theorem VA{xs:BU}{p:Int}{k:Nat}(h:Rel xs p k)(hk:k=xs.length):xs.all aX=true/\p=ai xs:=by
 obtain⟨_,hb,rfl⟩:=h;subst hk;rw[acj]at *;exact⟨hb,rfl⟩
end ShA
theorem bC(A:DV)(c:Nat)(xs:BU)(w:World)(h:Rd w A xs):
  CJ 70 #[.slice A xs.length c] w fun e w'=>e= .returned (.int .i64 (au xs))/\w=w':=by
 have hl:=h.len;by_cases h3:3<xs.length
 ·have HF:=lH (z6 h3);go_enter Tryz.func70,Tryz.ntmps70;go_wp2;go_ret;exact⟨pI HF.out.symm,rfl⟩
 ·go_enter Tryz.func70,Tryz.ntmps70;go_wp2
  go_loop [3,5,11] (fun p _ i=>∃(k:Nat) (q:Int),i= .int .i64 k/\p= .int .i64 q/\Hid (ShA.Rel xs q k)) (fun _ _ i=>xs.length-(intOf i).toNat)
  case atStart=>exact⟨0,1,rfl,rfl,ShA.start xs⟩
  case round=>
   obtain⟨k,q,rfl,rfl,hr⟩:=hrel;have hb:=ShA.bnd hr.out oM;by_cases hk:k<xs.length
   ·have hb2:=ShA.Vy hr.out oM hk;obtain⟨ad,x,rfl,_,hx,hc⟩:=h.at_ hk;have HX:=lH hx;clear hx;by_cases hx1:x<1
    ·have HF:=lH (ShA.bad HX.out (.inl hx1));clear hb2;go_wp2;go_ret;exact⟨pI HF.out.symm,rfl⟩
    ·by_cases hx2:16<x
     ·have HF:=lH (ShA.bad HX.out (.inr hx2));clear hb2;go_wp2;go_ret;exact⟨pI HF.out.symm,rfl⟩
     ·have hb3:=ShA.U2 hb2 (show 1<=x by omega) (show x<=16 by omega);clear hb2;go_wp2
      go_round
      case rel=>exact⟨k+1,q*x,by go_num,rfl,ShA.step hr.out HX.out oM oM⟩
      case measure=>simp[intOf];omega
   ·have hk':k=xs.length:=by have:=hr.out.1;omega
    obtain⟨ha,hp⟩:=ShA.VA hr.out hk';have HA:=lH (And.intro ha hp);clear ha hp;have HK:=lH hk';clear hk';by_cases hq:64<q
    all_goals
     go_wp2;go_ret;refine⟨pI ?_,rfl⟩
    ·rw[ED (by rw[<-HA.out.2];exact hq)]
    ·rw[EB oM HA.out.1 (by rw[<-HA.out.2];omega),<-HA.out.2]
theorem bQ(A:DV)(c:Nat)(xs:BU)(w:World)(h:Rd w A xs):
  CJ 44 #[.slice A xs.length c] w fun e w'=>e= .returned (.bool (okS xs))/\w=w':=by
 have H:=lH h;clear h;go_enter Tryz.func44,Tryz.ntmps44;go_wp2_with fail;refine(bC _ _ _ _ H.out).mono ?_;rintro e w' ⟨rfl,rfl⟩;go_wp2;go_ret;exact⟨cV size_pos,rfl⟩
open RowKit ShM
namespace ShB
def Eqd(xs ys:BU)(k:Nat):Prop:=k<=xs.length/\xs.take k=ys.take k
theorem wM(xs ys:BU):Eqd xs ys 0:=⟨aa6 _,rfl⟩
theorem C5{xs ys:BU}{k:Nat}{x:Int}(h:Eqd xs ys k)(hx:xs[k]?=some x)(hy:ys[k]?=some x):Eqd xs ys (k+1):=
 ⟨(aaU.1 hx).1,by rw[cr hx,cr hy,h.2]⟩
theorem Jm{xs ys:BU}(h:Eqd xs ys xs.length)(hl:xs.length=ys.length):(xs==ys)=true:=by
 have:=h.2;rw[acj,hl,acj]at this;rw[this];simp
theorem Jo{xs ys:BU}{k:Nat}{x y:Int}(hx:xs[k]?=some x)(hy:ys[k]?=some y)(h:x≠y):(xs==ys)=false:=by
 rw[acq];rintro rfl;rw[hx]at hy;exact h (abR hy)
theorem Jl{xs ys:BU}(h:xs.length≠ys.length):(xs==ys)=false:=by
 rw[acq];rintro rfl;exact h rfl
end ShB
theorem EK(A B:DV)(c d:Nat)(xs ys:BU)(w:World)(h:Rd w A xs)(g:Rd w B ys):
  CJ 11 #[.slice A xs.length c, .slice B ys.length d] w fun e w'=>e= .returned (.bool (xs==ys))/\∃n,w'=w.drewN n:=by
 have hl:=h.len;by_cases hn:xs.length=ys.length
 ·have HN:=lH hn;have hle:ys.length<=9223372036854775807:=by omega
  have e1:((xs.length:Int) !=(ys.length:Int))=false:=by simp[hn]
  clear hn;go_enter Tryz.func11,Tryz.ntmps11;go_wp2
  go_loopw [5] (fun i wr=>∃(k n:Nat),i= .int .i64 k/\wr=w.drewN n/\Hid (ShB.Eqd xs ys k)) (fun i _=>xs.length-(intOf i).toNat)
  case atStart=>exact⟨0,0,rfl,rfl,ShB.wM _ _⟩
  case round=>
   obtain⟨k,n,rfl,rfl,hr⟩:=hrel;by_cases hk:k<xs.length
   ·obtain⟨ad,x,rfl,_,hx,hc⟩:=h.at_ hk;obtain⟨bd,y,rfl,_,hy,hcy⟩:=g.at_ (k:=k) (by have:=HN.out;omega);have HX:=lH hx;have HY:=lH hy;have hky:k<ys.length:=by have:=HN.out;omega
    have i1:(0:Int)<=(k:Int):=by omega
    have i2:(k:Int)<(xs.length:Int):=by omega
    have i3:(k:Int)<(ys.length:Int):=by omega
    clear hx hy e1;by_cases hxy:x=y
    ·subst hxy;go_wp2;go_quiet (fail);go_wp2;go_roundw
     case rel=>exact⟨k+1,_,by go_num,by first|rfl|exact World.drewN_drewN _ _ _,ShB.C5 hr.out HX.out HY.out⟩
     case measure=>simp[intOf];omega
    ·have e2:(x !=y)=true:=by simpa using hxy
     have HF:=lH (ShB.Jo HX.out HY.out hxy);clear hxy;go_wp2;go_quiet (fail);go_wp2;go_ret;exact⟨cV HF.out.symm,_,by first|rfl|exact World.drewN_drewN _ _ _⟩
   ·have hk':k=xs.length:=by have:=hr.out.1;omega
    have HF:=lH (ShB.Jm (hk'▸hr.out) HN.out);clear hk' e1;go_wp2;go_ret;exact⟨cV HF.out.symm,_,rfl⟩
 ·have HF:=lH (ShB.Jl hn);have e1:((xs.length:Int) !=(ys.length:Int))=true:=by simp;omega
  clear hn;go_enter Tryz.func11,Tryz.ntmps11;go_wp2;go_ret;exact⟨cV HF.out.symm,0,rfl⟩
open RowKit ShM
theorem eF(A B:DV)(c d:Nat)(xs ys:BU)(w:World)(h:Rd w A xs)(g:Rd w B ys):
  CJ 69 #[.slice A xs.length c, .slice B ys.length d] w fun e w'=>e= .returned (.bool (xs==ys))/\∃n,w'=w.drewN n:=by
 have hl:=h.len;by_cases hn:xs.length=ys.length
 ·have HN:=lH hn;have hle:ys.length<=9223372036854775807:=by omega
  have e1:((xs.length:Int) !=(ys.length:Int))=false:=by simp[hn]
  clear hn;go_enter Tryz.func69,Tryz.ntmps69;go_wp2
  go_loopw [5,13] (fun _ i wr=>∃(k n:Nat),i= .int .i64 k/\wr=w.drewN n/\Hid (ShB.Eqd xs ys k)) (fun _ i _=>xs.length-(intOf i).toNat)
  case atStart=>exact⟨0,0,rfl,rfl,ShB.wM _ _⟩
  case round=>
   obtain⟨k,n,rfl,rfl,hr⟩:=hrel;by_cases hk:k<xs.length
   ·obtain⟨ad,x,rfl,_,hx,hc⟩:=h.at_ hk;obtain⟨bd,y,rfl,_,hy,hcy⟩:=g.at_ (k:=k) (by have:=HN.out;omega);have HX:=lH hx;have HY:=lH hy;have hky:k<ys.length:=by have:=HN.out;omega
    have i1:(0:Int)<=(k:Int):=by omega
    have i2:(k:Int)<(xs.length:Int):=by omega
    have i3:(k:Int)<(ys.length:Int):=by omega
    clear hx hy e1;by_cases hxy:x=y
    ·subst hxy;go_wp2;go_quiet (fail);go_wp2;go_roundw
     case rel=>exact⟨k+1,_,by go_num,by first|rfl|exact World.drewN_drewN _ _ _,ShB.C5 hr.out HX.out HY.out⟩
     case measure=>simp[intOf];omega
    ·have e2:(x !=y)=true:=by simpa using hxy
     have HF:=lH (ShB.Jo HX.out HY.out hxy);clear hxy;go_wp2;go_quiet (fail);go_wp2;go_ret;exact⟨cV HF.out.symm,_,by first|rfl|exact World.drewN_drewN _ _ _⟩
   ·have hk':k=xs.length:=by have:=hr.out.1;omega
    have HF:=lH (ShB.Jm (hk'▸hr.out) HN.out);clear hk' e1;go_wp2;go_ret;exact⟨cV HF.out.symm,_,rfl⟩
 ·have HF:=lH (ShB.Jl hn);have e1:((xs.length:Int) !=(ys.length:Int))=true:=by simp;omega
  clear hn;go_enter Tryz.func69,Tryz.ntmps69;go_wp2;go_ret;exact⟨cV HF.out.symm,0,rfl⟩
theorem Kt{n k:Nat}{s:BU}(h:k<n-s.length):(pad n s)[k]?=some 1:=by
 unfold pad;rw[aco (by simpa using h)];simp[h]
theorem Oc{n k:Nat}{s:BU}(h:n-s.length<=k):(pad n s)[k]?=s[k-(n-s.length)]?:=by
 unfold pad;rw[abz (by simpa using h)];simp
theorem nT(A:DV)(c:Nat)(xs:BU)(w:World)(h:Rd w A xs)(k n:Nat)(h1:xs.length<=n)(h2:k<n)(h3:n<=1000):
  CJ 71 #[.slice A xs.length c, .int .i64 k, .int .i64 n] w fun e w'=>∃x,e= .returned (.int .i64 x)/\(pad n xs)[k]?=some x/\w=w':=by
 by_cases hk:k<n-xs.length
 ·have HF:=lH (Kt hk);go_enter Tryz.func71,Tryz.ntmps71;go_wp2;go_ret;exact⟨_,rfl,HF.out,rfl⟩
 ·obtain⟨ad,x,rfl,_,hx,hc⟩:=h.at_ (k:=k-(n-xs.length)) oM;have HF:=lH ((Oc (s:=xs) (n:=n) (k:=k) oM).trans hx);clear hx;obtain⟨d,rfl⟩:∃d,n=xs.length+d:=⟨n-xs.length,oM⟩
  obtain⟨j,rfl⟩:∃j,k=j+d:=⟨k-d,oM⟩
  rw[show j+d-(xs.length+d-xs.length)=j by omega]at hc;go_enter Tryz.func71,Tryz.ntmps71;go_wp2;go_ret;exact⟨_,rfl,HF.out,rfl⟩
def Own(B:Nat)(w:World)(v:Value)(xs:BU):Prop:=w.ownsRow B 3 1 v xs.length (xs.map (Value.int .i64))
section
variable{w w':World}{B:Nat}{v:Value}{xs ys:BU}{A:DV}
theorem Own.ints(h:Own B w v xs):nL w v xs:=nL.Bb h
theorem Own.form(h:Own B w v xs):∃A c,v= .slice A xs.length c/\Rd w A xs:=by
 obtain⟨A,c,e,_,_,hr⟩:=h.ints;exact⟨A,c,e,hr⟩
theorem Own.bU(w:World)(B:Nat):Own B w (zS) []:=World.ownsRow_nil w B 3 1
theorem Own.from_(h:Own B w v xs){k:Nat}(hk:v.ownBlock=some k):B<=k:=by
 rcases h.2 with⟨rfl,_⟩|⟨g,cap,cur,rfl,hb,_⟩
 ·cases hk
 ·have:g=k:=by simpa [Value.ownBlock]using hk
  omega
theorem Own.drew(h:Own B w v xs):Own B w.drew v xs:=h
theorem Own.drewN(h:Own B w v xs)(n:Nat):Own B (w.drewN n) v xs:=h
theorem Own.of_block(h:Own B w v xs)(hk:∀g,v.ownBlock=some g->w'.heap[g]?=w.heap[g]?):Own B w' v xs:=by
 refine⟨h.1,?_⟩;rcases h.2 with h0|⟨g,cap,cur,rfl,hb,hg,r⟩
 ·exact .inl h0
 ·exact .inr ⟨g,cap,cur,rfl,hb,(hk g rfl).trans hg,r⟩
theorem Own.kp(h:Own B w v xs)(k:Kp w w'):Own B w' v xs:=h.of_block fun g hg=>k.block g (by
 rcases h.2 with⟨rfl,_⟩|⟨g',cap,cur,rfl,_,hh,_⟩
 ·cases hg
 ·injection hg with hg
  subst hg;rcases Nat.lt_or_ge g' w.heap.size with hlt|hge
  ·exact hlt
  ·rw[Array.getElem?_eq_none hge]at hh;cases hh)
theorem Rd.lit(w:World)(xs:BU)(h:xs.length<=1000000)(t:TypeId):Rd (w.alloc (.cells (xs.map (Value.int .i64)).toArray t)) (some ⟨w.heap.size,0,none⟩) xs:=
 ⟨oM,fun _=>⟨_,rfl,by simp,fun j u hu=>by
  rw[abh,abw,abB _ t _ j rfl];simp[hu]⟩⟩
theorem Own.lit(w:World)(xs:BU)(h:xs.length<=1000000)(hB:B<=w.heap.size):
  Own B (w.alloc (.cells (xs.map (Value.int .i64)).toArray 3)) (.slice (some ⟨w.heap.size,0,none⟩) xs.length xs.length) xs:=by
 have:=World.ownsRow_lit (base:=B) (e:=3) (size:=1) w (xs.map (Value.int .i64)).toArray xs.length hB (by unfold maxLen;omega) sC;simpa [Own]using this
theorem Own.zero(w:World)(hB:B<=w.heap.size):Own B (w.alloc (.cells #[] 3)) (.slice (some ⟨w.heap.size,0,none⟩) 0 0) []:=Own.lit w [] sC hB
theorem Own.two(w:World)(x y:Int)(hB:B<=w.heap.size):Own B (w.alloc (.cells #[.int .i64 x, .int .i64 y] 3)) (.slice (some ⟨w.heap.size,0,none⟩) 2 2) [x,y]:=Own.lit w [x,y] sC hB
theorem Rd.one(w:World)(x:Int)(t:TypeId):Rd (w.alloc (.cells #[.int .i64 x] t)) (some ⟨w.heap.size,0,none⟩) [x]:=Rd.lit w [x] sC t
theorem Rd.two(w:World)(x y:Int)(t:TypeId):Rd (w.alloc (.cells #[.int .i64 x, .int .i64 y] t)) (some ⟨w.heap.size,0,none⟩) [x,y]:=Rd.lit w [x,y] sC t
theorem Kp.af(w:World)(o:Obj):Kp w (w.alloc o):=(abu _ _).alloc (aaZ _) o
theorem Rd.af(h:Rd w A xs)(o:Obj):Rd (w.alloc o) A xs:=h.kp (Kp.af w o)
theorem Mn(h:Own B w v xs)(c:Nat)(ty:TypeId):(Builtin.append_ #[23,23] ty #[v, .slice none 0 c]).run Tryz.prog w= .ok v w:=by
 obtain⟨i,hi,_,_,_⟩:=info_parts dz;have ht:=abk (P:=Tryz.prog) (w:=w) Tryz.underlying23;rcases h.2 with⟨rfl,_⟩|⟨g,cap,cur,rfl,_,_,hn,_⟩
 ·simp[Builtin.append_,ht,sizeOf,typeInfo,hi,Builtin.lenOf,Builtin.firstCells]
 ·simp[Builtin.append_,ht,sizeOf,typeInfo,hi,Builtin.lenOf,Builtin.firstCells,hn,storeCells]
theorem J5(ho:Own B w v xs)(c:Nat)(hr:Rd w A ys)(hs:xs.length+ys.length<=1000000)(hB:B<=w.heap.size)(ty:TypeId):
  ∃zs A' c' w',zs=xs++ys/\(Builtin.append_ #[23,23] ty #[v, .slice A ys.length c]).run Tryz.prog w= .ok (.slice A' zs.length c') w'/\Own B w' (.slice A' zs.length c') zs/\Below B w w':=by
 by_cases hy:ys=[]
 ·subst hy;obtain⟨A',c',rfl,_⟩:=ho.form
  cases A with
  |none=>exact⟨xs,A',c',w,by simp,Mn ho c ty,ho,abu _ _⟩
  |some ad=>
   obtain⟨i,hi,hz,h1,h2⟩:=info_parts dz;obtain⟨v',w',hrun,hown,hg,_,_⟩:=run_append_own_at (P:=Tryz.prog) w B 23 ty 3 i _ 1 8 Tryz.underlying23 hi hz h1 h2 rfl oM _ _ _ ho ad 0 c [] rfl sC sC (by unfold maxLen;omega) oM hB;have hown':Own B w' v' xs:=by simpa [Own]using hown
   obtain⟨A2,c2,rfl,_⟩:=hown'.form;refine⟨xs,A2,c2,w',by simp,hrun,hown',(abu _ _).grown hg hB fun k hk=>ho.from_ hk⟩
 ·obtain⟨ad,rfl,hlt,hc⟩:=hr.2 (List.length_pos_iff.2 hy);obtain⟨i,hi,hz,h1,h2⟩:=info_parts dz;obtain⟨v',w',hrun,hown,hg,_,_⟩:=run_append_own_at (P:=Tryz.prog) w B 23 ty 3 i _ 1 8 Tryz.underlying23 hi hz h1 h2 rfl oM _ _ _ ho ad ys.length c (ys.map (Value.int .i64)) sC
   (fun j u hu=>by
    rw[aa7,ab0]at hu;obtain⟨x,hx,rfl⟩:=hu;exact hc j x hx) (ints_oneCell _ _) (by unfold maxLen;omega) oM hB
  have hown':Own B w' v' (xs++ys):=by simpa [Own]using hown
  obtain⟨A2,c2,rfl,_⟩:=hown'.form;refine⟨xs++ys,A2,c2,w',rfl,hrun,hown',(abu _ _).grown hg hB fun k hk=>ho.from_ hk⟩
theorem dW{ops:Array Oper}{rest:List Oper}{o:Oper}{a:Act}{Q:Exit->Act->World->Prop}(hgd:Region.wanted o (yielded ops a.tmps)=true)(s x:Operand)
  (hop:o.op= .call {callee:= .builtin .append,args:= #[s,x],argTypes:= #[23,23]})
  (v:Value)(xs:BU)(hs:a.eval s=v)(ho:Own B w v xs)(A:DV)(c:Nat)(ys:BU)(n:Nat)(hx:a.eval x= .slice A n c)(hn:n=ys.length)(hr:Rd w A ys)
  (hl:xs.length+ys.length<=1000000)(hB:B<=w.heap.size)
  (h:∀zs A' c' w',Hid (zs=xs++ys)->Own B w' (.slice A' zs.length c') zs->Below B w w'->wpList Tryz.prog ops Q rest (a.put o.dst (.slice A' zs.length c')) w'):wpList Tryz.prog ops Q (o::rest) a w:=by
 refine BigFrame.wpList_want hgd fun K hK=>?_
 subst hn;obtain⟨zs,A',c',w',e,hrun,h1,h2⟩:=J5 ho c hr hl hB o.type;unfold Oper.wp execOp;simp only[hop,resolve,invoke,builtin,acX,acW,acr,ab7,abT,ack,hs,hx,hrun];exact hK _ _ (h zs A' c' w' e h1 h2)
theorem run_mk(w:World)(n:Nat)(hn:n<=1000000):
  (Instr.makeSlice 23 (.int .i64 (n:Int)) (.int .i64 (n:Int))).run Tryz.prog w= .ok (.slice (some ⟨w.heap.size,0,none⟩) n n) (w.alloc (.cells (List.replicate n (Value.int .i64 0)).toArray 3)):=by
 obtain⟨i,hi,hz,h1,h2⟩:=info_parts dz;have hr:=run_make (P:=Tryz.prog) w 23 3 i _ Tryz.underlying23 hi hz .i64 .i64 n n oM (Int.le_refl _) (by rw[h2];omega) oM;simp only[aa2,h1,Nat.mul_one]at hr;rw[hr];congr 3;exact Array.toList_inj.1 (by rw[show(Value.int IntKind.i64 0).cells= #[Value.int .i64 0]from rfl,toList_madeCells_one])
theorem J1(w:World)(n:Nat)(hn:n<=1000000):
  (Instr.makeSlice 23 (.int .i64 0) (.int .i64 (n:Int))).run Tryz.prog w= .ok (.slice (some ⟨w.heap.size,0,none⟩) 0 n) (w.alloc (.cells (List.replicate n (Value.int .i64 0)).toArray 3)):=by
 obtain⟨i,hi,hz,h1,h2⟩:=info_parts dz;have hr:=run_make (P:=Tryz.prog) w 23 3 i _ Tryz.underlying23 hi hz .i64 .i64 0 n oM oM (by rw[h2];omega) oM;simp only[aa2,Int.toNat_zero,h1,Nat.mul_one]at hr;rw[hr];congr 3;exact Array.toList_inj.1 (by rw[show(Value.int IntKind.i64 0).cells= #[Value.int .i64 0]from rfl,toList_madeCells_one])
theorem mk_(n:Nat)(hn:n<=1000000):∃cs:Array Value,(∀W:World,(Instr.makeSlice 23 (.int .i64 (n:Int)) (.int .i64 (n:Int))).run Tryz.prog W= .ok (.slice (some ⟨W.heap.size,0,none⟩) n n) (W.alloc (.cells cs 3)))/\
  ∀(W:World) (B:Nat),B<=W.heap.size->Own B (W.alloc (.cells cs 3)) (.slice (some ⟨W.heap.size,0,none⟩) n n) (List.replicate n 0):=
 ⟨_,fun W=>run_mk W n hn,fun W B hB=>by
  have:=Own.lit (B:=B) W (List.replicate n 0) (by simpa using hn) hB;simpa using this⟩
theorem Ty(n:Nat)(hn:n<=1000000):∃cs:Array Value,(∀W:World,(Instr.makeSlice 23 (.int .i64 0) (.int .i64 (n:Int))).run Tryz.prog W= .ok (.slice (some ⟨W.heap.size,0,none⟩) 0 n) (W.alloc (.cells cs 3)))/\
  ∀(W:World) (B:Nat),B<=W.heap.size->Own B (W.alloc (.cells cs 3)) (.slice (some ⟨W.heap.size,0,none⟩) 0 n) []:=
 ⟨_,fun W=>J1 W n hn,fun W B hB=>by
  have:=World.ownsRow_made (base:=B) (e:=3) (size:=1) W (List.replicate n (Value.int .i64 0)).toArray n hB (by unfold maxLen;omega) sC;simpa [Own]using this⟩
theorem Own.kY{g cap n:Nat}{xs:BU}(h:Own B w (.slice (some ⟨g,0,none⟩) n cap) xs)(j:Nat)(u:Int):Own B (w.setCell ⟨g,j,none⟩ (.int .i64 u)) (.slice (some ⟨g,0,none⟩) n cap) (xs.set j u):=by
 have hn:n=xs.length:=by
  obtain⟨A,c,e,_⟩:=h.form;injection e
 subst hn;have:=(World.ownsRow.stored h j (.int .i64 u)).1;simpa [Own,List.map_set]using this
theorem Own.cell_{g cap n:Nat}{xs:BU}(h:Own B w (.slice (some ⟨g,0,none⟩) n cap) xs){j:Nat}{u:Int}(hu:xs[j]?=some u):w.cell? ⟨g,j,none⟩=some (.int .i64 u):=by
 have hn:n=xs.length:=by
  obtain⟨A,c,e,_⟩:=h.form;injection e
 subst hn;rw[World.ownsRow.cellAt h j (by have:=(aaU.1 hu).1;omega)];simp[hu]
theorem Own.fE{g cap n:Nat}{xs:BU}(h:Own B w (.slice (some ⟨g,0,none⟩) n cap) xs)(j:Nat):w.frozen? ⟨g,j,none⟩=false:=by
 have hn:n=xs.length:=by
  obtain⟨A,c,e,_⟩:=h.form;injection e
 subst hn;exact World.ownsRow.frozenAt h j
end
structure Sl(w:World)(A:DV)(c:Nat)(xs:BU):Prop where
 rd:Rd w A xs
 le:xs.length<=c
 cap:c<=9223372036854775807
theorem Sl.kp{w w':World}{A:DV}{c:Nat}{xs:BU}(h:Sl w A c xs)(k:Kp w w'):Sl w' A c xs:=⟨h.rd.kp k,h.le,h.cap⟩
theorem Sl.bU(w:World):Sl w none 0 []:=⟨Rd.nil _ _,by simp,oM⟩
theorem Own.sl{B:Nat}{w:World}{A:DV}{n c:Nat}{xs:BU}(h:Own B w (.slice A n c) xs):Sl w A c xs:=by
 obtain⟨A',c',e,h1,h2,h3⟩:=h.ints;injection e with e1 e2 e3;subst e1 e3;exact⟨h3,h1,by unfold maxLen at h2;omega⟩
def VB(xs:BU)(err:Int)(w:World)(e:Ending)(w':World):Prop:=∃A c,e= .returned (.tuple #[.slice A xs.length c, .int .i64 err])/\Sl w' A c xs/\Kp w w'
abbrev Ret(r:BU×Int)(w:World)(e:Ending)(w':World):Prop:=VB r.1 r.2 w e w'
def Jz(n err:Int)(w:World)(e:Ending)(w':World):Prop:=e= .returned (.tuple #[.int .i64 n, .int .i64 err])/\Kp w w'
theorem Kp.aI(w:World)(n:Nat):Kp w (w.drewN n):=⟨rfl,rfl,rfl,aaZ _,fun _ _=>rfl⟩
def SN(r:Int×Int)(w:World)(e:Ending)(w':World):Prop:=e= .returned (.tuple #[.int .i64 r.1, .int .i64 r.2])/\∃n,w'=w.drewN n
namespace ShD
def Rel(s t:BU)(k:Nat)(a:Int):Prop:=k<=s.length/\aZ (s.drop k) (t.drop k)=aZ s t/\plc s t=a*ai (s.drop k)+plc (s.drop k) (t.drop k)/\0<=a/\a<ai (s.take k)
theorem start(s t:BU):Rel s t 0 0:=⟨aa6 _,rfl,by simp,Int.le_refl _,by simp[ai]⟩
theorem bnd{s t:BU}{k:Nat}{a:Int}(h:Rel s t k a)(hs:okS s=true):0<=a/\a<=4096:=by
 obtain⟨_,_,_,h0,h1⟩:=h;have:=ji (iL (aD.1 hs).2.1 k) (by have:=List.length_take_le k s;have:=(aD.1 hs).1;omega);omega
theorem step{s t:BU}{k:Nat}{a x y:Int}(h:Rel s t k a)(hs:okS s=true)(hx:s[k]?=some x)(hy:t[k]?=some y)(hy0:0<=y)(hy1:y<x):
  Rel s t (k+1) (a*x+y)/\0<=a*x/\a*x<=4096/\0<=a*x+y/\a*x+y<=4096:=by
 obtain⟨_,h2,h3,h0,h1⟩:=h;obtain⟨r1,r2,r3,r4⟩:=AK (aD.1 hs).2.1 hx hy h2 h3 h0 h1 hy0 hy1;have hk:=(aaU.1 hx).1;have:=ji (iL (aD.1 hs).2.1 (k+1)) (by have:=List.length_take_le (k+1) s;have:=(aD.1 hs).1;omega);exact⟨⟨hk,r1,r2,oM,r4⟩,r3,oM,oM,oM⟩
theorem bad{s t:BU}{k:Nat}{a x y:Int}(h:Rel s t k a)(hx:s[k]?=some x)(hy:t[k]?=some y)(hb:y<0∨x<=y):gn s t=(0,20):=
 jk (.inr (OQ hx hy h.2.1 hb))
theorem end_{s t:BU}{a:Int}{k:Nat}(h:Rel s t k a)(hk:k=s.length)(hs:okS s=true)(hl:t.length=s.length):gn s t=(a,0):=by
 obtain⟨_,h2,h3,_,_⟩:=h;subst hk;rw[acI,<-hl,acI]at h2;rw[acI,<-hl,acI]at h3;rw[jj hs h2.symm,h3];simp[ai,plc]
end ShD
theorem rJ(A B:DV)(c d:Nat)(s t:BU)(w:World)(h:Rd w A s)(g:Rd w B t):
  CJ 197 #[.slice A s.length c, .slice B t.length d] w (SN (gn s t) w):=by
 have hl:=h.len;have gl:=g.len;have HC:=lH (bQ A c s w h)
 cases ho:okS s with
 |false=>
  rw[ho]at HC;have HF:=lH (jk (s:=s) (t:=t) (.inl ho));clear ho;go_enter Tryz.func197,Tryz.ntmps197;go_wp2_with fail;refine(aa9 (Hid.out HC)) ?_;rintro e w' ⟨rfl,rfl⟩;go_wp2;go_ret2;exact⟨dM HF.out,0,rfl⟩
 |true=>
  rw[ho]at HC;have HO:=lH ho;clear ho;by_cases hn:t.length=s.length
  ·have e1:((t.length:Int) !=(s.length:Int))=false:=by simp[hn]
   have HN:=lH hn;clear hn;go_enter Tryz.func197,Tryz.ntmps197;go_wp2_with fail;refine(aa9 (Hid.out HC)) ?_;rintro e w' ⟨rfl,rfl⟩;go_wp2
   go_loopw [6,20] (fun p i wr=>∃(k n:Nat) (a:Int),i= .int .i64 k/\p= .int .i64 a/\wr=w.drewN n/\Hid (ShD.Rel s t k a)) (fun _ i _=>s.length-(intOf i).toNat)
   case atStart=>exact⟨0,0,0,rfl,rfl,rfl,ShD.start _ _⟩
   case round=>
    obtain⟨k,n,a,rfl,rfl,rfl,hr⟩:=hrel;by_cases hk:k<s.length
    ·obtain⟨ad,x,rfl,_,hx,hc⟩:=h.at_ hk;obtain⟨bd,y,rfl,_,hy,hcy⟩:=g.at_ (k:=k) (by have:=HN.out;omega);have HX:=lH hx;have HY:=lH hy;have hkt:k<t.length:=by have:=HN.out;omega
     have i1:(0:Int)<=(k:Int):=by omega
     have i2:(k:Int)<(s.length:Int):=by omega
     have i3:(k:Int)<(t.length:Int):=by omega
     clear hx hy e1;by_cases hy0:y<0
     ·have HF:=lH (ShD.bad hr.out HX.out HY.out (.inl hy0));have d1:decide (y<0)=true:=by simpa using hy0
      go_wp2;go_quiet (fail);go_wp2;go_ret2;exact⟨dM HF.out,_,by first|rfl|exact World.drewN_drewN _ _ _⟩
     ·have d1:decide (y<0)=false:=by simpa using hy0
      by_cases hy1:x<=y
      ·have HF:=lH (ShD.bad hr.out HX.out HY.out (.inr hy1));have d2:decide (x<=y)=true:=by simpa using hy1
       go_wp2;go_quiet (fail);go_wp2;go_ret2;exact⟨dM HF.out,_,by first|rfl|exact World.drewN_drewN _ _ _⟩
      ·have d2:decide (x<=y)=false:=by simpa using hy1
       have hb:=ShD.bnd hr.out HO.out;obtain⟨hs,b1,b2,b3,b4⟩:=ShD.step hr.out HO.out HX.out HY.out oM oM;have HS:=lH hs;clear hs;have i4:IntKind.i64.wrap (a*x)=a*x:=IntWalk.i64_in _ oM;have i5:IntKind.i64.wrap (a*x+y)=a*x+y:=IntWalk.i64_in _ oM;go_wp2;go_quiet (fail);go_wp2;go_quiet (fail);go_wp2;go_roundw
       case rel=>exact⟨k+1,_,a*x+y,by go_num,rfl,by first|rfl|exact World.drewN_drewN _ _ _,HS⟩
       case measure=>simp[intOf];omega
    ·have hk':k=s.length:=by have:=hr.out.1;omega
     have HF:=lH (ShD.end_ hr.out hk' HO.out HN.out);clear hk' e1;go_wp2;go_ret2;exact⟨dM HF.out,_,rfl⟩
  ·have e1:((t.length:Int) !=(s.length:Int))=true:=by simp;omega
   have HF:=lH (jk (s:=s) (t:=t) (.inr (Cv hn)));clear hn;go_enter Tryz.func197,Tryz.ntmps197;go_wp2_with fail;refine(aa9 (Hid.out HC)) ?_;rintro e w' ⟨rfl,rfl⟩;go_wp2;go_ret2;exact⟨dM HF.out,0,rfl⟩
open RowKit ShM
namespace ShE
def Rel(s:BU)(p0:Int)(k:Nat)(p q:Int)(zs:BU):Prop:=
 k<=s.length/\zs.length=s.length/\zs.take k++dR (s.drop k) p=dR s p0/\0<=p/\p<q/\q=ai (s.drop k)
theorem start{s:BU}{p:Int}(h0:0<=p)(h1:p<au s):Rel s p 0 p (au s) (List.replicate s.length 0):=
 ⟨aa6 _,by simp,by simp,h0,h1,aL (pU h0 h1)⟩
theorem bnd{s:BU}{p0 p q:Int}{k:Nat}{zs:BU}(h:Rel s p0 k p q zs)(hs:okS s=true):0<=p/\p<q/\1<=q/\q<=4096:=by
 obtain⟨_,_,_,h0,h1,rfl⟩:=h;have:=ji (dA (aD.1 hs).2.1 k) (by have:=(aD.1 hs).1;simp;omega);exact⟨h0,h1,oM,this⟩
theorem step{s:BU}{p0 p q x:Int}{k:Nat}{zs:BU}(h:Rel s p0 k p q zs)(hs:okS s=true)(hx:s[k]?=some x):
  Rel s p0 (k+1) (p%(q/x)) (q/x) (zs.set k (p/(q/x)))/\1<=x/\1<=q/x/\q/x<=4096:=by
 obtain⟨_,h2,h3,h0,h1,rfl⟩:=h;obtain⟨d1,d2,d3,d4,d5,_,_⟩:=Dg (aD.1 hs).2.1 hx p h0 h1;have hk:=(aaU.1 hx).1;have:=ji (dA (aD.1 hs).2.1 (k+1)) (by have:=(aD.1 hs).1;simp;omega);rw[d2];refine⟨⟨hk,by simpa using h2,?_,d4,d5,rfl⟩,(cN (aD.1 hs).2.1 hx).1,d3,this⟩;rw[<-h3,d1,cr (x:=p/ai (s.drop (k+1))) (by rw[abt oM]),List.take_set_of_le oM];simp
theorem end_{s:BU}{p0 p q:Int}{k:Nat}{zs:BU}(h:Rel s p0 k p q zs)(hk:k=s.length)(h0:0<=p0)(h1:p0<au s):mX s p0=(zs,0)/\s.length=zs.length:=by
 obtain⟨_,h2,h3,_⟩:=h;subst hk;rw[acI,<-h2,acj]at h3;simp only[dR,List.append_nil]at h3;rw[jB h0 h1,<-h3];exact⟨rfl,h2.symm⟩
end ShE
def DT(r:BU×Int)(w:World)(e:Ending)(w':World):Prop:=∃A c,e= .returned (.tuple #[.slice A r.1.length c, .int .i64 r.2])/\Own w.heap.size w' (.slice A r.1.length c) r.1/\Kp w w'
theorem DT.nD{r:BU×Int}{err:Int}{w w':World}(h:r=([],err))(k:Kp w w'):DT r w (.returned (.tuple #[zS, .int .i64 err])) w':=by
 subst h;exact⟨none,0,rfl,Own.bU _ _,k⟩
theorem DT.mk_{r:BU×Int}{n c:Nat}{err:Int}{xs:BU}{A:DV}{w w':World}(h:r=(xs,err))(hn:n=xs.length)(o:Own w.heap.size w' (.slice A n c) xs)(k:Kp w w'):DT r w (.returned (.tuple #[.slice A n c, .int .i64 err])) w':=by
 subst h hn;exact⟨A,c,rfl,o,k⟩
theorem sG(A:DV)(c:Nat)(s:BU)(p':Int)(w:World)(h:Rd w A s):
  CJ 186 #[.slice A s.length c, .int .i64 p'] w (DT (mX s p') w):=by
 have hl:=h.len;have HC:=lH (bC A c s w h);by_cases hp:p'<0∨au s<=p'
 ·have HF:=lH (GK hp);rcases hp with hp|hp
  all_goals
   by_cases hp':p'<0
   all_goals
    go_enter Tryz.func186,Tryz.ntmps186;go_wp2_with fail;refine(aa9 (Hid.out HC)) ?_;rintro e w' ⟨rfl,rfl⟩;go_wp2
    first|exact absurd hp hp'|(go_ret2;exact DT.nD HF.out (Kp.refl _))
 ·have h0:0<=p':=by omega
  have h1:p'<au s:=by omega
  have HO:=lH (pU h0 h1);have h3:s.length<=3:=(aD.1 HO.out).1;obtain⟨cs,hmk,hown⟩:=mk_ s.length oM;have H0:=lH (hown w w.heap.size (aaZ _));have HS:=lH (ShE.start h0 h1);have HP:=lH (And.intro h0 h1);clear hp hown;go_enter Tryz.func186,Tryz.ntmps186;go_wp2_with fail;refine(aa9 (Hid.out HC)) ?_;rintro e w' ⟨rfl,rfl⟩;go_wp2
  go_loopw [1,6,8,23] (fun p q _ i wr=>∃(k:Nat) (pv qv:Int) (zs:BU),i= .int .i64 k/\p= .int .i64 pv/\q= .int .i64 qv/\Hid (ShE.Rel s p' k pv qv zs)/\
   Own w.heap.size wr (.slice (some ⟨w.heap.size,0,none⟩) s.length s.length) zs/\Below w.heap.size w wr) (fun _ _ _ i _=>s.length-(intOf i).toNat)
  case atStart=>exact⟨0,_,_,_,rfl,rfl,rfl,HS.out,H0.out,(abu _ _).alloc (aaZ _) _⟩
  case round=>
   obtain⟨k,pv,qv,zs,rfl,rfl,rfl,hr,hown,hb⟩:=hrel;by_cases hk:k<s.length
   ·obtain⟨ad,x,rfl,hlt,hx,hc⟩:=h.at_ hk;have hc':wr.cell? (ad.add k)=some (.int .i64 x):=(hb.cell (by rw[ah];exact hlt)).trans hc;obtain⟨b1,b2,b3,b4⟩:=ShE.bnd hr.out HO.out;obtain⟨r1,r2,r3,r4⟩:=ShE.step hr.out HO.out hx;have HR:=lH r1;have hz:k<zs.length:=by have:=hr.out.2.1;omega
    have hcz:=hown.cell_ (j:=k) (aaV hz);have hfz:=hown.fE k;have HW:=lH hown;have HB:=lH hb;clear r1 hx hc hown hb hmk;go_wp2;go_roundw
    case rel=>exact⟨k+1,_,_,_,by go_num,rfl,rfl,HR.out,HW.out.kY _ _,HB.out.setCell (aaZ _) _⟩
    case measure=>simp[intOf];omega
   ·have hk':k=s.length:=by have:=hr.out.1;omega
    have HF:=lH (ShE.end_ hr.out hk' HP.out.1 HP.out.2);clear hk';go_wp2;go_ret2;exact DT.mk_ HF.out.1 HF.out.2 hown hb
open RowKit ShM
namespace ShF
end ShF
end Go.Proofs.YtokeebkaamjliaaGreat
namespace Go.Proofs.ShM
def MW(P Q:BU)(k:Nat)(zs:BU):Prop:=k<=P.length/\P.length=Q.length/\zs.length=k/\kJ P Q=(kJ (P.drop k) (Q.drop k)).map (zs++ ·)
theorem Lh{P Q:BU}(h:P.length=Q.length):MW P Q 0 []:=⟨aa6 _,h,rfl,by simp⟩
theorem Cs{P Q:BU}{k:Nat}{zs ys:BU}{x y z:Int}(h:MW P Q k zs)(hx:P[k]?=some x)(hy:Q[k]?=some y)(hz:jn x y=some z)(he:ys=zs++[z]):MW P Q (k+1) ys:=by
 obtain⟨_,h2,h3,h4⟩:=h;subst he;refine⟨(aaU.1 hx).1,h2,by simp[h3],?_⟩;rw[h4,bP hx,bP hy];simp only[kJ,hz,aci,Option.map_map];congr 1;funext l;simp
theorem OO{P Q:BU}{k:Nat}{zs:BU}{x y:Int}(h:MW P Q k zs)(hx:P[k]?=some x)(hy:Q[k]?=some y)(hz:jn x y=none):kJ P Q=none:=by
 obtain⟨_,h2,h3,h4⟩:=h;rw[h4,bP hx,bP hy];simp[kJ,hz]
theorem RB{P Q:BU}{k:Nat}{zs:BU}(h:MW P Q k zs)(hk:k=P.length):kJ P Q=some zs:=by
 obtain⟨_,h2,h3,h4⟩:=h;subst hk;rw[h4,acI,h2,acI];simp[kJ]
theorem iV{x y:Int}(h:x=y):jn x y=some x:=by unfold jn;rw[aaW (.inl h)]
theorem iG{x y:Int}(h:y=1):jn x y=some x:=by unfold jn;rw[aaW (.inr h)]
theorem iW{x y:Int}(h:x=1):jn x y=some y:=by
 unfold jn;by_cases c:x=y∨y=1
 ·rw[aaW c];rcases c with c|c<;>simp[c]at h⊢ <;>omega
 ·rw[aaT c,aaW h]
theorem ij{x y:Int}(h:x≠y)(h1:y≠1)(h2:x≠1):jn x y=none:=by unfold jn;rw[aaT (by simp[h,h1]),aaT h2]
theorem qm{a b l:BU}(ha:okS a=true)(hb:okS b=true)(hj:kI a b=some l)(hl:okS l=true):bG a b=(l,0):=by
 unfold bG;rw[aaW (by simp[ha,hb]),hj];simp[hl]
theorem vY{a b l:BU}(ha:okS a=true)(hb:okS b=true)(hj:kI a b=some l)(hl:okS l=false):bG a b=([],20):=by
 unfold bG;rw[aaW (by simp[ha,hb]),hj];simp[hl]
theorem join_none{a b:BU}(ha:okS a=true)(hb:okS b=true)(hj:kI a b=none):bG a b=([],20):=by
 unfold bG;rw[aaW (by simp[ha,hb]),hj]
theorem kF{a b:BU}(h:okS a=false∨okS b=false):bG a b=([],20):=by
 unfold bG;rw[aaT];rcases h with h|h<;>simp[h]
theorem Ks{n:Nat}{s:BU}(h:s.length<=n):(pad n s).length=n:=by unfold pad;simp;omega
def bX:BU->BU->Option (BU)
 | [],t=>some t
 |x::s,[]=>some (x::s)
 |x::s,y::t=>(jn x y).bind fun h=>(bX s t).map (h:: ·)
theorem sB(s:BU):bX s []=some s:=by cases s<;>rfl
theorem Lg(x y:Int):jn x y=jn y x:=by
 by_cases h1:x=y
 ·subst h1;rfl
 ·by_cases h2:y=1
  ·rw[iG h2,iW h2]
  ·by_cases h3:x=1
   ·rw[iW h3,iG h3]
   ·rw[ij h1 h2 h3,ij (Ne.symm h1) h3 h2]
theorem kH(s:BU):∀t,bX s t=bX t s:=by
 induction s with
 |nil=>intro t;rw[sB];rfl
 |cons x s ih=>intro t;cases t with
  |nil=>rfl
  |cons y t=>simp only[bX,Lg x y,ih t]
theorem GJ(x y z:Int):(jn x y).bind (jn · z)=(jn y z).bind (jn x ·):=by
 by_cases hx:x=1
 ·rw[iW hx];simp only[aci]
  cases h:jn y z with
  |none=>rfl
  |some v=>simp[iW hx]
 ·by_cases hy:y=1
  ·rw[iG hy,iW hy];rfl
  ·by_cases hz:z=1
   ·rw[iG hz]
    cases h:jn x y with
    |none=>simp[h]
    |some v=>simp[h,iG hz]
   ·by_cases h1:x=y
    ·rw[iV h1];by_cases h2:y=z
     ·rw[iV h2];simp[iV h1,iV (h1.trans h2)]
     ·rw[ij h2 hz hy];simp only[aci,Option.bind_none];exact ij oM hz hx
    ·rw[ij h1 hy hx];by_cases h2:y=z
     ·rw[iV h2];simp only[aci,Option.bind_none];rw[ij h1 hy hx]
     ·rw[ij h2 hz hy];rfl
theorem uI(s:BU):∀t u,(bX s t).bind (bX · u)=(bX t u).bind (bX s ·):=by
 induction s with
 |nil=>intro t u;simp[bX]
 |cons x s ih=>
  intro t u
  cases t with
  |nil=>simp[bX]
  |cons y t=>
   cases u with
   |nil=>simp[sB]
   |cons z u=>
    have ha:=GJ x y z;have hi:=ih t u;simp only[bX]
    cases e1:jn x y with
    |none=>
     rw[e1]at ha;simp only[Option.bind_none]at ha⊢
     cases e2:jn y z with
     |none=>rfl
     |some v=>
      rw[e2]at ha;simp only[aci]at ha⊢
      cases bX t u with
      |none=>rfl
      |some l=>simp[bX,<-ha]
    |some v=>
     rw[e1]at ha;simp only[aci]at ha⊢
     cases e3:bX s t with
     |none=>
      rw[e3]at hi;simp only[Option.bind_none,Option.map_none]at hi⊢
      cases e2:jn y z with
      |none=>rfl
      |some v2=>
       simp only[aci]
       cases e4:bX t u with
       |none=>rfl
       |some l=>
        rw[e4]at hi;simp only[aci,Option.map_some]at hi⊢;simp[bX,<-hi]
     |some l=>
      rw[e3]at hi;simp only[Option.map_some,aci]at hi⊢;simp only[bX]
      cases e2:jn y z with
      |none=>
       rw[e2]at ha;simp only[Option.bind_none]at ha⊢;rw[ha];rfl
      |some v2=>
       rw[e2]at ha;simp only[aci]at ha⊢;rw[ha,hi]
       cases e4:bX t u with
       |none=>cases jn x v2<;>rfl
       |some l2=>simp[bX]
theorem yG(s:BU):bX s s=some s:=by
 induction s with
 |nil=>rfl
 |cons x s ih=>simp[bX,iV,ih]
theorem Cp(s:BU):∀{t l},bX s t=some l->l.length=max s.length t.length:=by
 induction s with
 |nil=>intro t l h;simp[bX]at h;subst h;simp
 |cons x s ih=>
  intro t l h
  cases t with
  |nil=>simp[bX]at h;subst h;simp
  |cons y t=>
   simp only[bX]at h;obtain⟨v,_,h⟩:=acL.1 h;obtain⟨m,hm,rfl⟩:=ab0.1 h;have:=ih hm;simp;omega
theorem OM{x y z:Int}(h:jn x y=some z):z=x∨z=y:=by
 unfold jn at h;split at h
 ·exact .inl (abR h).symm
 ·split at h
  ·exact .inr (abR h).symm
  ·cases h
theorem Rz{x y z:Int}(h:jn x y=some z)(hx:1<=x)(hy:1<=y):x<=z/\y<=z:=by
 unfold jn at h;split at h
 ·have:=abR h;omega
 ·split at h
  ·have:=abR h;omega
  ·cases h
theorem yF(s:BU):∀{t l},bX s t=some l->s.all aX=true->t.all aX=true->l.all aX=true/\ai s<=ai l/\ai t<=ai l:=by
 induction s with
 |nil=>
  intro t l h hs ht;simp[bX]at h;subst h;have:=aY ht;exact⟨ht,by simpa [ai]using this,Int.le_refl _⟩
 |cons x s ih=>
  intro t l h hs ht
  cases t with
  |nil=>
   simp[bX]at h;subst h;have:=aY hs;exact⟨hs,Int.le_refl _,by simpa [ai]using this⟩
  |cons y t=>
   simp only[bX]at h;obtain⟨v,hv,h⟩:=acL.1 h;obtain⟨m,hm,rfl⟩:=ab0.1 h;simp only[ach,abb]at hs ht⊢;obtain⟨i1,i2,i3⟩:=ih hm hs.2 ht.2;have hx:=ct.1 hs.1;have hy:=ct.1 ht.1;have hl:=Rz hv hx.1 hy.1;have p1:=aY hs.2;have p2:=aY ht.2;refine⟨⟨?_,i1⟩,?_,?_⟩
   ·rcases OM hv with e|e<;>rw[e]
    ·exact hs.1
    ·exact ht.1
   ·exact acR hl.1 i2 oM oM
   ·exact acR hl.2 i3 oM oM
theorem yE(s:BU):∀{t:BU} (x y:Int),s.length=t.length->bX (s++[x]) (t++[y])=(bX s t).bind fun l=>(jn x y).map fun z=>l++[z]:=by
 induction s with
 |nil=>
  intro t x y h;obtain rfl:t=[]:=abd h.symm;simp[bX]
  cases jn x y<;>rfl
 |cons u s ih=>
  intro t x y h
  cases t with
  |nil=>simp at h
  |cons v t=>
   simp only[abX,bX];rw[ih x y (by simpa using h)]
   cases jn u v with
   |none=>rfl
   |some q=>
    cases bX s t with
    |none=>rfl
    |some l=>simp only[aci,Option.map_some];cases jn x y<;>rfl
theorem Lf(P:BU):∀{Q:BU},P.length=Q.length->kJ P Q=(bX P.reverse Q.reverse).map List.reverse:=by
 induction P with
 |nil=>intro Q h;obtain rfl:Q=[]:=abd h.symm;rfl
 |cons x P ih=>
  intro Q h
  cases Q with
  |nil=>simp at h
  |cons y Q=>
   have hl:P.length=Q.length:=by simpa using h
   simp only[List.reverse_cons,kJ];rw[yE _ x y (by simpa using hl),ih hl]
   cases jn x y with
   |none=>cases bX P.reverse Q.reverse<;>rfl
   |some z=>cases bX P.reverse Q.reverse<;>simp
theorem oy(s:BU):∀{t:BU} (k:Nat),s.length+k<=t.length->t.all aX=true->bX (s++List.replicate k 1) t=bX s t:=by
 induction s with
 |nil=>
  intro t k
  induction k generalizing t with
  |zero=>intro _ _;rfl
  |succ k ih=>
   intro h ht
   cases t with
   |nil=>simp at h
   |cons y t=>
    simp only[ach,abb]at ht;have:=ih (t:=t) (by simp at h⊢;omega) ht.2;simp only[acu,acY,bX]at this⊢;rw[this,iW rfl];rfl
 |cons x s ih=>
  intro t k h ht
  cases t with
  |nil=>simp at h
  |cons y t=>
   simp only[ach,abb]at ht;simp only[abX,bX];rw[ih k (by simp at h⊢;omega) ht.2]
theorem Cq{a b:BU}(ha:a.all aX=true)(hb:b.all aX=true):kI a b=(bX a.reverse b.reverse).map List.reverse:=by
 unfold kI;rw[Lf _ (by rw[Ks oM,Ks oM])];congr 1;unfold pad;simp only[List.reverse_append,List.reverse_replicate];rcases Nat.le_total a.length b.length with h|h
 ·rw[Nat.max_eq_right h,Nat.sub_self,List.replicate_zero,List.append_nil,oy _ _ (by simp;omega) (by simpa using hb)]
 ·rw[Nat.max_eq_left h,Nat.sub_self,List.replicate_zero,List.append_nil,kH,oy _ _ (by simp;omega) (by simpa using ha),kH]
theorem rN{s:BU}:(s.reverse).all aX=s.all aX:=by simp
theorem eA(s:BU):ai s.reverse=ai s:=by
 induction s with
 |nil=>rfl
 |cons x s ih=>rw[List.reverse_cons,mG,ih,ai,acn]
def Jn(a b c:BU):Prop:=okS a=true/\okS b=true/\okS c=true/\bX a.reverse b.reverse=some c.reverse
theorem fR{a b c:BU}:bG a b=(c,0)↔Jn a b c:=by
 unfold Jn;constructor
 ·intro h;unfold bG at h;by_cases h1:(okS a&&okS b)=true
  ·rw[aaW h1]at h;simp only[abb]at h1;have hr:=Cq (aD.1 h1.1).2.1 (aD.1 h1.2).2.1
   cases hj:kI a b with
   |none=>rw[hj]at h;simp at h
   |some l=>
    rw[hj]at h hr;simp only at h;by_cases h2:okS l=true
    ·rw[aaW h2]at h;obtain rfl:l=c:=(Prod.mk.inj h).1;refine⟨h1.1,h1.2,h2,?_⟩;obtain⟨m,hm,hl⟩:=ab0.1 hr.symm;rw[hm,<-hl];simp
    ·rw[aaT h2]at h;simp at h
  ·rw[aaT h1]at h;simp at h
 ·rintro⟨ha,hb,hc,h⟩;have hr:=Cq (aD.1 ha).2.1 (aD.1 hb).2.1;rw[h]at hr;exact qm ha hb (by rw[hr];simp) hc
theorem gA(a b:BU):(∃c,bG a b=(c,0)/\okS c=true)∨bG a b=([],20):=by
 cases ha:okS a with
 |false=>exact .inr (kF (.inl ha))
 |true=>
  cases hb:okS b with
  |false=>exact .inr (kF (.inr hb))
  |true=>
   cases hj:kI a b with
   |none=>exact .inr (join_none ha hb hj)
   |some l=>
    cases hl:okS l with
    |false=>exact .inr (vY ha hb hj hl)
    |true=>exact .inl ⟨l,qm ha hb hj hl,hl⟩
theorem Jn.comm{a b c:BU}(h:Jn a b c):Jn b a c:=⟨h.2.1,h.1,h.2.2.1,by rw[kH];exact h.2.2.2⟩
theorem Jn.assoc{a b c ab bc r:BU}(h:Jn a b ab)(g:Jn b c bc)(k:Jn ab c r):Jn a bc r:=by
 have:=uI a.reverse b.reverse c.reverse;rw[h.2.2.2,g.2.2.2]at this;exact⟨h.1,g.2.2.1,k.2.2.1,this.symm.trans k.2.2.2⟩
theorem Jn.self{a:BU}(h:okS a=true):Jn a a a:=⟨h,h,h,yG _⟩
theorem Jn.bU{a:BU}(h:okS a=true):Jn [] a a:=⟨dG,h,h,rfl⟩
theorem fU{a b:BU}:cw a b=true↔Jn a b b:=by unfold cw;rw[acz];exact fR
theorem Jn.left{a b c:BU}(h:Jn a b c):Jn a c c:=(Jn.self h.1).assoc h h
theorem Jn.right{a b c:BU}(h:Jn a b c):Jn b c c:=h.comm.left
theorem Jn.sizes{a b:BU}(h:Jn a b b):ai a<=ai b/\a.length<=b.length:=by
 have h1:=yF _ h.2.2.2 (by rw[rN];exact(aD.1 h.1).2.1) (by rw[rN];exact(aD.1 h.2.1).2.1);have h2:=Cp _ h.2.2.2;rw[eA,eA]at h1;simp only[List.length_reverse]at h2;exact⟨h1.2.1,oM⟩
end Go.Proofs.ShM
namespace Go.Proofs.YtokeebkaamjliaaGreat
open RowKit ShM
namespace ShG
end ShG
theorem Own.Il{w:World}{A:DV}{xs:BU}{b n c:Nat}(h:Own b w (.slice A n c) xs)(hx:0<xs.length):∃g,A=some ⟨g,0,none⟩/\b<=g/\g<w.heap.size:=by
 rcases h.2 with⟨e,h0⟩|⟨g,cap,cur,e,hb,hh,_⟩
 ·omega
 ·injection e with e1 _ _
  exact⟨g,e1,hb,(aa0.1 hh).1⟩
end Go.Proofs.YtokeebkaamjliaaGreat
namespace Go.Proofs.YtokeebkaamjliaaGreat.Iz
open RowKit ShM
def cZ(r:BU×Int)(w:World)(e:Ending)(w':World):Prop:=∃A c,e= .returned (.tuple #[.slice A r.1.length c, .int .i64 r.2])/\Sl w' A c r.1/\(∀ad,A=some ad->0<r.1.length->w.heap.size<=ad.block)/\Kp w w'
theorem cZ.mk_{r:BU×Int}{zs:BU}{err:Int}{w w':World}{A:DV}{n c:Nat}(hr:r=(zs,err))(hn:n=zs.length)(hs:Own w.heap.size w' (.slice A n c) zs)(hk:Kp w w'):
  cZ r w (.returned (.tuple #[.slice A n c, .int .i64 err])) w':=by
 subst hr hn;exact⟨A,c,rfl,hs.sl,fun ad e hp=>by
  obtain⟨g,e2,hb,_⟩:=hs.Il hp;rw[e]at e2;injection e2 with e2;subst e2;exact hb,hk⟩
theorem cZ.nD{r:BU×Int}{err:Int}{w w':World}(hr:r=([],err))(hk:Kp w w'):cZ r w (.returned (.tuple #[zS, .int .i64 err])) w':=
 cZ.mk_ hr rfl (Own.bU _ _) hk
theorem I8(A B:DV)(c d:Nat)(a b:BU)(w:World)(h:Rd w A a)(g:Rd w B b):
  CJ 46 #[.slice A a.length c, .slice B b.length d] w (cZ (bG a b) w):=by
 have HA:=lH (bQ A c a w h);have HB:=lH (bQ B d b w g);have H:=lH h;have G:=lH g;clear h g
 cases ha:okS a with
 |false=>
  rw[ha]at HA;have HF:=lH (kF (b:=b) (.inl ha));clear ha HB;go_enter Tryz.func46,Tryz.ntmps46;go_wp2_with fail
  go_step3
  go_wp2_with (go_at_call 44;refine(aa9 (Hid.out HA)) ?_;rintro e w' ⟨rfl,rfl⟩)
  try rw[Exit.noGoto_ret]
  go_ret2;exact cZ.nD HF.out (Kp.refl _)
 |true=>
  rw[ha]at HA
  cases hb:okS b with
  |false=>
   rw[hb]at HB;have HF:=lH (kF (a:=a) (.inr hb));clear ha hb;go_enter Tryz.func46,Tryz.ntmps46;go_wp2_with fail
   go_step3
   go_wp2_with (go_at_call 44;first|((with_reducible refine(aa9 (Hid.out HA)) ?_);rintro e w' ⟨rfl,rfl⟩)|((with_reducible refine(aa9 (Hid.out HB)) ?_);rintro e w' ⟨rfl,rfl⟩))
   try rw[Exit.noGoto_ret]
   go_ret2;exact cZ.nD HF.out (Kp.refl _)
  |true=>
   rw[hb]at HB;have la:=(aD.1 ha).1;have lb:=(aD.1 hb).1;have HO:=lH (And.intro ha hb);clear ha hb;obtain⟨n,hn⟩:=eX (max a.length b.length);have n1:a.length<=n:=by omega
   have n2:b.length<=n:=by omega
   have n3:n<=3:=by omega
   have hmx:∀(W:World) (ts:Array TypeId) (t:TypeId),(Builtin.max_ ts t #[.int .i64 (a.length:Int), .int .i64 (b.length:Int)]).run Tryz.prog W= .ok (.int .i64 (n:Int)) W:=fun W ts t=>by
    rw[run_max_int2];by_cases hc:(b.length:Int)>(a.length:Int)
    ·rw[aaW hc,show(b.length:Int)=(n:Int) by omega]
    ·rw[aaT hc,show(a.length:Int)=(n:Int) by omega]
   have HN:=lH hn;obtain⟨cs,hmk,hown⟩:=Ty n oM;have H0:=lH (hown w w.heap.size (aaZ _));have HS:=lH (Lh (P:=pad n a) (Q:=pad n b) (by rw[Ks n1,Ks n2]));clear hn hown;go_enter Tryz.func46,Tryz.ntmps46;go_wp2_with fail
   go_step3
   go_wp2_with (go_at_call 44;first|((with_reducible refine(aa9 (Hid.out HA)) ?_);rintro e w' ⟨rfl,rfl⟩)|((with_reducible refine(aa9 (Hid.out HB)) ?_);rintro e w' ⟨rfl,rfl⟩));clear HA HB hmk hmx
   go_step3
   go_wp2
   go_loopw [7,27] (fun v i wr=>∃(k:Nat) (zs:BU) (Az:DV) (cz:Nat),i= .int .i64 k/\v= .slice Az zs.length cz/\Hid (MW (pad n a) (pad n b) k zs)/\
    Hid (Own w.heap.size wr (.slice Az zs.length cz) zs)/\Hid (Below w.heap.size w wr)) (fun _ i _=>n-(intOf i).toNat)
   case atStart=>exact⟨0,[],_,_,rfl,rfl,HS.out,H0.out,(abu _ _).alloc (aaZ _) _⟩
   case round=>
    obtain⟨k,zs,Az,cz,rfl,rfl,hr,hown,hb⟩:=hrel;have hzl:zs.length=k:=hr.out.2.2.1;have HZL:=lH hzl;by_cases hk:k<n
    ·have hz3:zs.length<n:=by omega
     clear hzl;go_wp2_with fail;refine(nT _ _ _ _ (H.out.kp hb.out) k n n1 hk oM).mono ?_;rintro e w1 ⟨x,rfl,hx,rfl⟩;have HX:=lH hx;clear hx;go_wp2_with fail;refine(nT _ _ _ _ (G.out.kp hb.out) k n n2 hk oM).mono ?_;rintro e w2 ⟨y,rfl,hy,rfl⟩;have HY:=lH hy;clear hy;have HBs:=lH hb.out.size;by_cases hxy:x=y
     ·have HJ:=lH (iV hxy);subst hxy;go_wp2_with (at_builtin;refine dW rfl (.tmp 44) (.tmp 46) rfl _ zs rfl (hown.out.kp (Kp.af _ _)) _ _ [x] _ rfl rfl (Rd.one _ _ _) (by simp;omega) (by have:=HBs.out;simp;omega) ?_;intro zs2 A2 c2 w2 HZ gX hb2;have HB:=lH ((hb.out.alloc HBs.out _).trans hb2);have HW:=lH gX;clear gX hb2);go_roundw
      case rel=>exact⟨k+1,zs2,A2,c2,by go_num,rfl,Cs hr.out HX.out HY.out HJ.out HZ.out,HW.out,HB.out⟩
      case measure=>simp[intOf];omega
     ·have e1:(x==y)=false:=by simpa using hxy
      by_cases hy1:y=1
      ·have HJ:=lH (iG (x:=x) hy1);subst hy1;clear hxy;go_wp2_with (at_builtin;refine dW rfl (.tmp 44) (.tmp 46) rfl _ zs rfl (hown.out.kp (Kp.af _ _)) _ _ [x] _ rfl rfl (Rd.one _ _ _) (by simp;omega) (by have:=HBs.out;simp;omega) ?_;intro zs2 A2 c2 w2 HZ gX hb2;have HB:=lH ((hb.out.alloc HBs.out _).trans hb2);have HW:=lH gX;clear gX hb2);go_roundw
       case rel=>exact⟨k+1,zs2,A2,c2,by go_num,rfl,Cs hr.out HX.out HY.out HJ.out HZ.out,HW.out,HB.out⟩
       case measure=>simp[intOf];omega
      ·have e2:(y==1)=false:=by simpa using hy1
       by_cases hx1:x=1
       ·have HJ:=lH (iW (y:=y) hx1);subst hx1;clear hxy hy1;go_wp2_with (at_builtin;refine dW rfl (.tmp 51) (.tmp 53) rfl _ zs rfl (hown.out.kp (Kp.af _ _)) _ _ [y] _ rfl rfl (Rd.one _ _ _) (by simp;omega) (by have:=HBs.out;simp;omega) ?_;intro zs2 A2 c2 w2 HZ gX hb2;have HB:=lH ((hb.out.alloc HBs.out _).trans hb2);have HW:=lH gX;clear gX hb2);go_roundw
        case rel=>exact⟨k+1,zs2,A2,c2,by go_num,rfl,Cs hr.out HX.out HY.out HJ.out HZ.out,HW.out,HB.out⟩
        case measure=>simp[intOf];omega
       ·have e3:(x==1)=false:=by simpa using hx1
        have HF:=lH (join_none HO.out.1 HO.out.2 (by unfold kI;rw[<-HN.out];exact OO hr.out HX.out HY.out (ij hxy hy1 hx1)));clear hxy hy1 hx1;go_wp2
        try rw[Exit.noGoto_ret]
        go_ret2;exact cZ.nD HF.out hb.out
    ·have hz3:¬zs.length<n:=by omega
     have hk2:k=n:=by have:=hr.out.1;rw[Ks n1]at this;omega
     have HJ:=lH (show kI a b=some zs by unfold kI;rw[<-HN.out];exact RB hr.out (by rw[Ks n1];exact hk2));clear hzl hk2
     cases hz:okS zs with
     |true=>
      have HC:Hid (CJ 44 #[.slice Az zs.length cz] wr fun e w'=>e= .returned (.bool true)/\wr=w'):=by
       have hh:=bQ Az cz zs wr hown.out.sl.rd;rw[hz]at hh;exact hh
      have HF:=lH (qm HO.out.1 HO.out.2 HJ.out hz);clear hz;go_wp2_with (go_at_call 44;refine(aa9 (Hid.out HC)) ?_;rintro e w' ⟨rfl,rfl⟩)
      try rw[Exit.noGoto_ret]
      go_ret2;exact cZ.mk_ HF.out rfl hown.out hb.out
     |false=>
      have HC:Hid (CJ 44 #[.slice Az zs.length cz] wr fun e w'=>e= .returned (.bool false)/\wr=w'):=by
       have hh:=bQ Az cz zs wr hown.out.sl.rd;rw[hz]at hh;exact hh
      have HF:=lH (vY HO.out.1 HO.out.2 HJ.out hz);clear hz;go_wp2_with (go_at_call 44;refine(aa9 (Hid.out HC)) ?_;rintro e w' ⟨rfl,rfl⟩)
      try rw[Exit.noGoto_ret]
      go_ret2;exact cZ.nD HF.out hb.out
end Go.Proofs.YtokeebkaamjliaaGreat.Iz
namespace Go.Proofs.YtokeebkaamjliaaGreat
open RowKit ShM
theorem qo(A B:DV)(c d:Nat)(a b:BU)(w:World)(h:Rd w A a)(g:Rd w B b):
  CJ 46 #[.slice A a.length c, .slice B b.length d] w (Ret (bG a b) w):=(Iz.I8 A B c d a b w h g).mono fun e w2 h2=>by
 obtain⟨A2,c2,e2,s2,_,k2⟩:=h2;exact⟨A2,c2,e2,s2,k2⟩
namespace ShH
theorem mx(x y z:Int)(hz:z=max x y)(W:World)(ts:Array TypeId)(t:TypeId):(Builtin.max_ ts t #[.int .i64 x, .int .i64 y]).run Tryz.prog W= .ok (.int .i64 z) W:=by
 rw[run_max_int2];by_cases hc:y>x
 ·rw[aaW hc,hz,Int.max_eq_right oM]
 ·rw[aaT hc,hz,Int.max_eq_left oM]
end ShH
open RowKit ShM
namespace ShI
theorem LD{a b c:BU}(h:bG a b=(c,0)):(c==b)=cw a b:=by
 unfold cw;rw[h,acD];simp
theorem LF{a b:BU}(h:bG a b=([],20)):false=cw a b:=by unfold cw;rw[h];simp
end ShI
theorem iI(A B:DV)(c d:Nat)(a b:BU)(w:World)(h:Rd w A a)(g:Rd w B b):
  CJ 161 #[.slice A a.length c, .slice B b.length d] w fun e w'=>e= .returned (.bool (cw a b))/\Kp w w':=by
 have HJ:=lH (qo A B c d a b w h g);have G:=lH g;clear h g;rcases gA a b with⟨l,hl,_⟩|hl
 ·rw[hl]at HJ;have HF:=lH (ShI.LD hl);clear hl;go_enter Tryz.func161,Tryz.ntmps161;go_wp2_with fail;refine(aa9 (Hid.out HJ)) ?_;rintro e w1 ⟨A1,c1,rfl,h1,k1⟩;have HE:=lH (eF A1 B c1 d l b w1 h1.rd (G.out.kp k1));have K1:=lH k1;clear h1 k1;go_wp2_with (go_at_call 69;refine(aa9 (Hid.out HE)) ?_;rintro e w2 ⟨rfl,n,rfl⟩);go_ret;exact⟨cV HF.out,K1.out.tr (Kp.aI _ _)⟩
 ·rw[hl]at HJ;have HF:=lH (ShI.LF hl);clear hl;go_enter Tryz.func161,Tryz.ntmps161;go_wp2_with fail;refine(aa9 (Hid.out HJ)) ?_;rintro e w1 ⟨A1,c1,rfl,h1,k1⟩;go_wp2;go_ret;exact⟨cV HF.out,k1⟩
open RowKit ShM
section
variable{A B:DV}{c d n m:Nat}(a b:BU){w:World}
theorem NE(h:Rd w A a)(g:Rd w B b)(hn:n=a.length)(hm:m=b.length){r:Bool}(hr:(a==b)=r):CJ 11 #[.slice A n c, .slice B m d] w fun e w'=>e= .returned (.bool r)/\∃k,w'=w.drewN k:=by
 subst hn hm hr;exact EK A B c d a b w h g
theorem Me(h:Rd w A a)(hn:n=a.length){r:Bool}(hr:okS a=r):CJ 44 #[.slice A n c] w fun e w'=>e= .returned (.bool r)/\w=w':=by
 subst hn hr;exact bQ A c a w h
theorem IE(h:Rd w A a)(hn:n=a.length){r:Int}(hr:au a=r):CJ 70 #[.slice A n c] w fun e w'=>e= .returned (.int .i64 r)/\w=w':=by
 subst hn hr;exact bC A c a w h
end
end Go.Proofs.YtokeebkaamjliaaGreat
namespace Go.Proofs.ShM
