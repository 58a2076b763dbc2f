import Derived.Test.YtokeebkaamjliaaGreatShAll
import Derived.Deep.DeepCutAuto
import Derived.Laws.CopyOwn
import Derived.Lib.BitFns
import Derived.Lib.Mul64
import Derived.Lib.SmallJoins
import Derived.LoopIn
import Derived.LoopNIn
import Derived.OwnWalkIn
import Derived.RangeFuncBound
import Derived.RangeFuncNested
import Derived.Shelf.RegionOpen
import Derived.StillTailTactics
set_option maxHeartbeats 16000000
set_option maxRecDepth 100000
set_option linter.unusedVariables false
set_option linter.unusedSimpArgs false
namespace Go.Proofs.GrM
open ShM
abbrev Nd:=Int×BU×BU
def nd0:Nd:=(0,[],[])
def ak(op:Int):Int:=
 if 1<=op/\op<=3 then 0 else if(10<=op/\op<=13)∨op=30∨op=43 then 2 else if(20<=op/\op<=23)∨(40<=op/\op<=42)∨(50<=op/\op<=52)then 1 else -1
def DM(l:BU):Bool:=match l with
 | []=>false
 |p::s=>decide (0<=p/\p<=7)&&okS s
def aM(n:Nd):Bool:=
 if n.1=1∨n.1=40 then okS n.2.2 else if n.1=2 then DM n.2.2 else if n.1=42 then decide (n.2.2.length=3)else if n.1=3∨n.1=43∨50<=n.1 then decide (n.2.2.length=1)else decide (n.2.2.length=0)
def cW(a b:Nd):Bool:=if a.1≠b.1∨2<a.1∨(a.1=2/\a.2.2.getD 0 0≠b.2.2.getD 0 0)then true else a.2.2==b.2.2
def yY(i:Nat)(l:BU):Bool:=l.all fun a=>decide (0<=a/\a<(i:Int))
def gq(l:List Nd)(i:Nat)(n:Nd):Bool:=
 decide (0<=ak n.1/\(n.2.1.length:Int)=ak n.1)&&aM n&&yY i n.2.1&&(l.take i).all (fun m=>cW m n)
def aK(l:List Nd):Bool:=decide (1<=l.length/\l.length<=24/\∀i,i<l.length->gq l i (l.getD i nd0)=true)
def fA(l:List Nd)(p:Int):Bool:=l.any fun n=>decide (n.1=2/\n.2.2.getD 0 0=p)
def gJ(l:List Nd):BU:=if aK l=true then((List.range 8).map fun p:Nat=>(p:Int)).filter (fA l)else []
def xj(k:Nat):List Nd->Int->BU
 | [],_=> []
 |n::l,x=>(n.2.1.filter (· ==x)).map (fun _=>(k:Int))++xj (k+1) l x
def tL(l:List Nd)(x:Int):BU:=if aK l=true then xj 0 l x else []
def d8(l:List Nd):Nat->BU->BU
 |0,acc=>acc
 |k+1,acc=>d8 l k (if acc.contains (k:Int)=true then acc++(l.getD k nd0).2.1 else acc)
def uH(l:List Nd):BU:=d8 l l.length [(l.length:Int)-1]
def upTo(n:Nat)(acc:BU):BU:=((List.range n).map fun i:Nat=>(i:Int)).filter (fun i=>acc.contains i)
def fW(l:List Nd):BU:=if aK l=true then upTo l.length (uH l)else []
theorem aO{l:List Nd}:aK l=true↔1<=l.length/\l.length<=24/\∀(i:Nat) (n:Nd),l[i]?=some n->gq l i n=true:=by
 unfold aK;rw[abE];constructor
 ·rintro⟨h1,h2,h3⟩;refine⟨h1,h2,fun i n hn=>?_⟩;obtain⟨hi,e⟩:=aaU.1 hn;have:=h3 i hi
  rwa [aaS,hn]at this
 ·rintro⟨h1,h2,h3⟩;refine⟨h1,h2,fun i hi=>?_⟩;have hn:l[i]?=some l[i]:=aaV hi;have:=h3 i _ hn
  rwa [aaS,hn]
theorem bh{l:List Nd}{i:Nat}{n:Nd}:gq l i n=true↔0<=ak n.1/\(n.2.1.length:Int)=ak n.1/\aM n=true/\(∀a∈n.2.1,0<=a/\a<(i:Int))/\∀m∈l.take i,cW m n=true:=by
 unfold gq yY;simp only[abb,acz,abn];constructor
 ·rintro⟨⟨⟨⟨h1,h2⟩,h3⟩,h4⟩,h5⟩;exact⟨h1,h2,h3,h4,h5⟩
 ·rintro⟨h1,h2,h3,h4,h5⟩;exact⟨⟨⟨⟨h1,h2⟩,h3⟩,h4⟩,h5⟩
theorem dH{a b:Nd}(h:2<b.1):cW a b=true:=by
 unfold cW;by_cases e:a.1=b.1
 ·rw[aaW (.inr (.inl oM))]
 ·rw[aaW (.inl e)]
theorem su{a b:Nd}(h:cW a b=true):cW b a=true:=by
 unfold cW at h⊢;by_cases g:b.1≠a.1∨2<b.1∨(b.1=2/\b.2.2.getD 0 0≠a.2.2.getD 0 0)
 ·rw[aaW g]
 ·rw[aaT g];have g':¬(a.1≠b.1∨2<a.1∨(a.1=2/\a.2.2.getD 0 0≠b.2.2.getD 0 0)):=by
   intro c;apply g;rcases c with c|c|⟨c1,c2⟩
   ·exact .inl fun e=>c e.symm
   ·by_cases e:b.1=a.1
    ·exact .inr (.inl oM)
    ·exact .inl e
   ·by_cases e:b.1=a.1
    ·exact .inr (.inr ⟨oM,fun e=>c2 e.symm⟩)
    ·exact .inl e
  rw[aaT g']at h;rw[beq_iff_eq]at h⊢;exact h.symm
theorem kx{l:List Nd}{p:Int}(h:aK l=true):p∈gJ l↔(0<=p/\p<=7)/\fA l p=true:=by
 unfold gJ;rw[aaW h,List.mem_filter,abN];constructor
 ·rintro⟨⟨a,ha,rfl⟩,h2⟩;have:=abZ.1 ha;exact⟨oM,h2⟩
 ·rintro⟨h1,h2⟩;exact⟨⟨p.toNat,abZ.2 oM,oM⟩,h2⟩
theorem lU{l:List Nd}{x u:Int}:∀{k:Nat},u∈xj k l x↔∃(i:Nat) (n:Nd),l[i]?=some n/\x∈n.2.1/\u=(k:Int)+i:=by
 induction l with
 |nil=>intro k;simp[xj]
 |cons m l ih=>
  intro k;rw[xj,acg,ih,abN];constructor
  ·rintro(⟨a,ha,rfl⟩|⟨i,n,h1,h2,h3⟩)
   ·rw[List.mem_filter,beq_iff_eq]at ha;exact⟨0,m,rfl,by rw[<-ha.2];exact ha.1,by simp⟩
   ·exact⟨i+1,n,by simpa using h1,h2,by push_cast at h3⊢;omega⟩
  ·rintro⟨i,n,h1,h2,h3⟩
   cases i with
   |zero=>
    have:m=n:=by simpa using h1
    subst this;exact .inl ⟨x,by rw[List.mem_filter];exact⟨h2,by simp⟩,by simpa using h3.symm⟩
   |succ i=>exact .inr ⟨i,n,by simpa using h1,h2,by push_cast at h3⊢;omega⟩
theorem lY(l:List Nd):∀{k:Nat} {acc:BU} {x:Int},x∈acc->x∈d8 l k acc:=by
 intro k
 induction k with
 |zero=>intro acc x h;exact h
 |succ k ih=>
  intro acc x h;rw[d8];apply ih;split
  ·exact List.mem_append_left _ h
  ·exact h
theorem BR(l:List Nd):∀{k:Nat} {acc:BU} {x:Int},x∈d8 l k acc->x∈acc∨∃j:Nat,j<k/\(j:Int)∈d8 l k acc/\x∈(l.getD j nd0).2.1:=by
 intro k
 induction k with
 |zero=>intro acc x h;exact .inl h
 |succ k ih=>
  intro acc x h;rw[d8]at h⊢;rcases ih h with h1|⟨j,h1,h2,h3⟩
  ·split at h1
   ·rename_i hc;rcases acg.1 h1 with h1|h1
    ·exact .inl h1
    ·refine .inr ⟨k,oM,?_,h1⟩;rw[aaW hc];exact lY l (List.mem_append_left _ (by simpa using hc))
   ·exact .inl h1
  ·exact .inr ⟨j,oM,h2,h3⟩
theorem BQ{l:List Nd}(hl:∀j:Nat,∀a∈(l.getD j nd0).2.1,a<(j:Int)):∀{k:Nat} {acc:BU} {x:Int},(k:Int)<=x->x∈d8 l k acc->x∈acc:=by
 intro k
 induction k with
 |zero=>intro acc x _ h;exact h
 |succ k ih=>
  intro acc x hx h;rw[d8]at h;have h1:=ih (by push_cast at hx;omega) h;split at h1
  ·rcases acg.1 h1 with h1|h1
   ·exact h1
   ·have:=hl k x h1
    push_cast at hx
    omega
  ·exact h1
theorem uG{l:List Nd}(hl:∀j:Nat,∀a∈(l.getD j nd0).2.1,a<(j:Int)):∀{k:Nat} {acc:BU} {j:Nat},j<k->(j:Int)∈d8 l k acc->∀a∈(l.getD j nd0).2.1,a∈d8 l k acc:=by
 intro k
 induction k with
 |zero=>intro acc j h;omega
 |succ k ih=>
  intro acc j hj h a ha;rw[d8]at h⊢;by_cases e:j=k
  ·subst e;have h1:=BQ hl (Int.le_refl _) h;by_cases hc:acc.contains (j:Int)=true
   ·rw[aaW hc]at h1⊢;exact lY l (List.mem_append_right _ ha)
   ·rw[aaT hc]at h1;exact absurd (by simpa using h1) hc
  ·exact ih oM h a ha
theorem Mj{l:List Nd}(h:aK l=true):∀j:Nat,∀a∈(l.getD j nd0).2.1,0<=a/\a<(j:Int):=by
 intro j a ha;obtain⟨_,_,h3⟩:=aO.1 h;by_cases hj:j<l.length
 ·have hn:l[j]?=some l[j]:=aaV hj;rw[aaS,hn]at ha;exact(bh.1 (h3 j _ hn)).2.2.2.1 a ha
 ·rw[aaS,abO oM]at ha
  cases ha
theorem Gd{n:Nat}{acc:BU}{x:Int}:x∈upTo n acc↔(∃i:Nat,i<n/\x=(i:Int))/\x∈acc:=by
 unfold upTo;rw[List.mem_filter,abN];constructor
 ·rintro⟨⟨i,hi,rfl⟩,h2⟩;exact⟨⟨i,abZ.1 hi,rfl⟩,by simpa using h2⟩
 ·rintro⟨⟨i,hi,rfl⟩,h2⟩;exact⟨⟨i,abZ.2 hi,rfl⟩,by simpa using h2⟩
theorem qe{l:List Nd}{i:Nat}(h:aK l=true)(hi:i<l.length):(i:Int)∈fW l↔(i:Int)∈uH l:=by
 unfold fW;rw[aaW h,Gd];exact⟨fun g=>g.2,fun g=>⟨⟨i,hi,rfl⟩,g⟩⟩
theorem qi{l:List Nd}{i:Nat}(h:aK l=true)(hi:i<l.length):(i:Int)∈fW l↔i=l.length-1∨∃u∈tL l (i:Int),u∈fW l:=by
 have hl:=Mj h;have hlt:∀j:Nat,∀a∈(l.getD j nd0).2.1,a<(j:Int):=fun j a ha=>(hl j a ha).2
 have h1:=(aO.1 h).1;have hu:tL l (i:Int)=xj 0 l (i:Int):=by unfold tL;rw[aaW h]
 rw[hu,qe h hi];constructor
 ·intro g;rcases BR l g with g|⟨j,hj,g1,g2⟩
  ·left
   have:(i:Int)=(l.length:Int)-1:=by simpa using g
   omega
  ·right
   have hn:l[j]?=some l[j]:=aaV hj;rw[aaS,hn]at g2;exact⟨(j:Int),lU.2 ⟨j,_,hn,g2,by simp⟩,(qe h hj).2 g1⟩
 ·rintro(g|⟨u,g1,g2⟩)
  ·exact lY l (by simp;omega)
  ·obtain⟨j,n,hn,g3,rfl⟩:=lU.1 g1;have hj:=(aaU.1 hn).1;rw[show((0:Nat):Int)+(j:Int)=(j:Int) by simp,qe h hj]at g2;refine uG hlt hj g2 _ ?_;rw[aaS,hn];exact g3
theorem ja(n:Nat)(acc:BU):upTo (n+1) acc=upTo n acc++(if acc.contains (n:Int)=true then [(n:Int)]else []):=by
 unfold upTo;rw[acN,abK,List.filter_append];congr 1;simp[List.filter_cons]
theorem Oa{l:List Nd}(h:aK l=true){i:Nat}{n:Nd}(hn:l[i]?=some n)(h2:n.1=2):n.2.2≠ []/\n.2.2.getD 0 0∈gJ l:=by
 have hb:=(bh.1 ((aO.1 h).2.2 i n hn)).2.2.1;unfold aM at hb;rw[aaT oM,aaW h2]at hb;have hp:∃p s,n.2.2=p::s/\0<=p/\p<=7:=by
  cases e:n.2.2 with
  |nil=>rw[e]at hb;cases hb
  |cons p s=>
   rw[e]at hb;unfold DM at hb;simp at hb;exact⟨p,s,rfl,hb.1⟩
 obtain⟨p,s,e,hp1,hp2⟩:=hp;refine⟨by rw[e];simp,(kx h).2 ⟨by rw[e];exact⟨hp1,hp2⟩,?_⟩⟩;unfold fA;rw[List.any_eq_true];exact⟨n,aa1 hn,by simp[h2]⟩
end Go.Proofs.GrM
namespace Go.Proofs.YtokeebkaamjliaaGreat
open RowKit ShM GrM
theorem ur:(Tryz.prog.info? 39).map (fun i=>(i.zero,i.size,i.bytes))=some (some (.agg #[.int .i64 0, zS, zS]),3,56):=by kernel_rfl
structure NR(w:World)(X:Nat->Prop)(P:DV)(a:BU)(Q:DV)(b:BU):Prop where
 ra:Rd w P a
 rn:Rd w Q b
 xa:∀ad,P=some ad->0<a.length->X ad.block
 xn:∀ad,Q=some ad->0<b.length->X ad.block
abbrev V3:=Value×Value×Value
def dx(vs:List V3):List Value:=vs.flatMap fun p=> [p.1,p.2.1,p.2.2]
theorem oG(p:V3)(vs:List V3):dx (p::vs)=p.1::p.2.1::p.2.2::dx vs:=rfl
theorem iu(a b:List V3):dx (a++b)=dx a++dx b:=by unfold dx;rw[List.flatMap_append]
theorem iq:∀vs:List V3,(dx vs).length=vs.length*3
 | []=>rfl
 |p::vs=>by rw[oG,abg,abg,abg,iq vs,abg];omega
theorem wF:∀{vs:List V3} {j:Nat} {p:V3},vs[j]?=some p->(dx vs)[j*3]?=some p.1/\(dx vs)[j*3+1]?=some p.2.1/\(dx vs)[j*3+2]?=some p.2.2
 | [],j,p,h=>by simp at h
 |q::vs,0,p,h=>by
  have:q=p:=by simpa using h
  subst this;exact⟨rfl,rfl,rfl⟩
 |q::vs,j+1,p,h=>by
  have:=wF (vs:=vs) (j:=j) (p:=p) (by simpa using h);rw[oG,show(j+1)*3=j*3+1+1+1 by omega];exact this
def Vn(w:World)(X:Nat->Prop)(p:V3)(t:Nd):Prop:=
 ∃A c B d,p=(.int .i64 t.1, .slice A t.2.1.length c, .slice B t.2.2.length d)/\t.2.1.length<=c/\c<=9223372036854775807/\t.2.2.length<=d/\d<=9223372036854775807/\NR w X A t.2.1 B t.2.2
structure fM(w:World)(X:Nat->Prop)(vs:List V3)(ts:List Nd):Prop where
 len:vs.length=ts.length
 at_:∀(j:Nat) (p:V3) (t:Nd),vs[j]?=some p->ts[j]?=some t->Vn w X p t
def RdN(w:World)(X:Nat->Prop)(A:DV)(ts:List Nd):Prop:=
 ts.length<=9223372036854775807/\∃vs,fM w X vs ts/\(0<ts.length->∃ad,A=some ad/\ad.block<w.heap.size/\∀j u,(dx vs)[j]?=some u->w.cell? (ad.add j)=some u)
abbrev RdG(w:World)(A:DV)(ts:List Nd):Prop:=RdN w (fun _=>True) A ts
section
variable{w w':World}{X Y:Nat->Prop}{A:DV}{ts us:List Nd}{vs zs:List V3}
theorem NR.mono{P Q:DV}{a b:BU}(h:NR w X P a Q b)(hk:Kp w w')(hx:∀k,k<w.heap.size->X k->Y k):NR w' Y P a Q b:=by
 refine⟨h.ra.kp hk,h.rn.kp hk,fun ad h1 h2=>hx _ ?_ (h.xa ad h1 h2),fun ad h1 h2=>hx _ ?_ (h.xn ad h1 h2)⟩
 ·obtain⟨ad',e',hb,_⟩:=h.ra.2 h2;rw[h1]at e';injection e' with e';subst e';exact hb
 ·obtain⟨ad',e',hb,_⟩:=h.rn.2 h2;rw[h1]at e';injection e' with e';subst e';exact hb
theorem NR.kp{P Q:DV}{a b:BU}(h:NR w X P a Q b)(hk:Kp w w'):NR w' X P a Q b:=h.mono hk fun _ _ x=>x
theorem Vn.mono{p:V3}{t:Nd}(h:Vn w X p t)(hk:Kp w w')(hx:∀k,k<w.heap.size->X k->Y k):Vn w' Y p t:=by
 obtain⟨A,c,B,d,e,c1,c2,d1,d2,r⟩:=h;exact⟨A,c,B,d,e,c1,c2,d1,d2,r.mono hk hx⟩
theorem fM.mono(h:fM w X vs ts)(hk:Kp w w')(hx:∀k,k<w.heap.size->X k->Y k):fM w' Y vs ts:=⟨h.len,fun j p t h1 h2=>(h.at_ j p t h1 h2).mono hk hx⟩
theorem fM.bU(w:World)(X:Nat->Prop):fM w X [] []:=⟨rfl,fun j p t h=>by simp at h⟩
theorem fM.app(h:fM w X vs ts)(g:fM w X zs us):fM w X (vs++zs) (ts++us):=by
 refine⟨by rw[abf,abf,h.len,g.len],fun j p t h1 h2=>?_⟩;rw[List.getElem?_append]at h1 h2;rw[h.len]at h1;split at h1
 ·rename_i hj;rw[aaW hj]at h2;exact h.at_ j p t h1 h2
 ·rename_i hj;rw[aaT hj]at h2;exact g.at_ _ p t h1 h2
theorem RdN.mono(h:RdN w X A ts)(hk:Kp w w')(hx:∀k,k<w.heap.size->X k->Y k):RdN w' Y A ts:=by
 obtain⟨h1,vs,h2,h3⟩:=h;exact⟨h1,vs,h2.mono hk hx,fun hp=>by
  obtain⟨ad,e,hb,hc⟩:=h3 hp;exact⟨ad,e,abj hb hk.size,fun j u hu=>(hk.cell (by rw[ah];exact hb)).trans (hc j u hu)⟩⟩
theorem RdN.kp(h:RdN w X A ts)(hk:Kp w w'):RdN w' X A ts:=h.mono hk fun _ _ x=>x
theorem RdN.old(h:RdN w X A ts):RdN w (fun k=>k<w.heap.size) A ts:=h.mono (Kp.refl _) fun _ h _=>h
theorem RdN.len(h:RdN w X A ts):ts.length<=9223372036854775807:=h.1
theorem RdN.bU(w:World)(X:Nat->Prop)(A:DV):RdN w X A []:=⟨by simp,[],fM.bU _ _,fun h=>absurd h sC⟩
theorem RdN.af(h:RdN w X A ts)(o:Obj):RdN (w.alloc o) X A ts:=h.kp (Kp.af w o)
theorem RdN.QU(h:RdN w X A ts)(k:Nat):RdN w X A (ts.take k):=by
 obtain⟨h1,vs,h2,h3⟩:=h;refine⟨by rw[abv];omega,vs.take k,⟨by rw[abv,abv,h2.len],fun j p t e1 e2=>?_⟩,fun hp=>?_⟩
 ·rw[acQ]at e1 e2;split at e1
  ·rename_i hj;rw[aaW hj]at e2;exact h2.at_ j p t e1 e2
  ·cases e1
 ·rw[abv]at hp;obtain⟨ad,e,hb,hc⟩:=h3 oM;refine⟨ad,e,hb,fun j u hu=>hc j u ?_⟩;have:dx vs=dx (vs.take k)++dx (vs.drop k):=by rw[<-iu,List.take_append_drop]
  rw[this,aco (aaU.1 hu).1];exact hu
theorem RdN.at_(h:RdN w X A ts){k:Nat}(hk:k<ts.length):∃ad t P c Q d,A=some ad/\ad.block<w.heap.size/\ts[k]?=some t/\w.cell? (ad.add (k*3))=some (.int .i64 t.1)/\w.cell? ⟨(ad.add (k*3)).block,(ad.add (k*3)).off+1,none⟩=some (.slice P t.2.1.length c)/\w.cell? ⟨(ad.add (k*3)).block,(ad.add (k*3)).off+2,none⟩=some (.slice Q t.2.2.length d)/\NR w X P t.2.1 Q t.2.2/\(t.2.1.length<=c/\c<=9223372036854775807)/\t.2.2.length<=d/\d<=9223372036854775807:=by
 obtain⟨_,vs,hv,hh⟩:=h;obtain⟨ad,e,hb,hc⟩:=hh oM;have hl:=hv.len;have e1:vs[k]?=some vs[k]:=aaV oM;have e2:ts[k]?=some ts[k]:=aaV hk;obtain⟨P,c,Q,d,ep,c1,c2,d1,d2,r⟩:=hv.at_ k _ _ e1 e2;obtain⟨f1,f2,f3⟩:=wF e1;refine⟨ad,ts[k],P,c,Q,d,e,hb,e2,?_,?_,?_,r,⟨c1,c2⟩,d1,d2⟩
 ·rw[hc _ _ f1,ep]
 ·have e3:(⟨(ad.add (k*3)).block,(ad.add (k*3)).off+1,none⟩:Addr)=ad.add (k*3+1):=by rw[<-Addr.add_add];rfl
  rw[e3,hc _ _ f2,ep]
 ·have e3:(⟨(ad.add (k*3)).block,(ad.add (k*3)).off+2,none⟩:Addr)=ad.add (k*3+2):=by rw[<-Addr.add_add];rfl
  rw[e3,hc _ _ f3,ep]
theorem RdN.one{P Q:DV}{t:Nd}{c d:Nat}(h:NR w X P t.2.1 Q t.2.2)(hc:t.2.1.length<=c/\c<=9223372036854775807)(hd:t.2.2.length<=d/\d<=9223372036854775807)(ty:TypeId):
  RdN (w.alloc (.cells #[.int .i64 t.1, .slice P t.2.1.length c, .slice Q t.2.2.length d] ty)) X (some ⟨w.heap.size,0,none⟩) [t]:=by
 refine⟨by simp,[(.int .i64 t.1, .slice P t.2.1.length c, .slice Q t.2.2.length d)],⟨rfl,fun j p t' h1 h2=>?_⟩,fun _=>⟨_,rfl,by simp,fun j u hu=>?_⟩⟩
 ·cases j with
  |zero=>
   have e1:(Value.int .i64 t.1,Value.slice P t.2.1.length c,Value.slice Q t.2.2.length d)=p:=by simpa using h1
   have e2:t=t':=by simpa using h2
   subst e1 e2;exact⟨P,c,Q,d,rfl,hc.1,hc.2,hd.1,hd.2,h.kp (Kp.af _ _)⟩
  |succ j=>simp at h1
 ·rw[abh,abw,abB _ ty _ j rfl];have:(dx [(Value.int .i64 t.1,Value.slice P t.2.1.length c,Value.slice Q t.2.2.length d)])[j]?= #[Value.int .i64 t.1,Value.slice P t.2.1.length c,Value.slice Q t.2.2.length d][j]?:=by simp[dx]
  rw[<-this];exact hu
end
def fJ(B:Nat)(w:World)(v:Value)(ts:List Nd):Prop:=∃vs,w.ownsRow B 39 3 v ts.length (dx vs)/\fM w (fun k=>v.ownBlock≠some k) vs ts
section
variable{w w':World}{B:Nat}{v:Value}{ts us:List Nd}{A:DV}
theorem fJ.from_(h:fJ B w v ts){k:Nat}(hk:v.ownBlock=some k):B<=k:=by
 obtain⟨vs,h,_⟩:=h;rcases h.2 with⟨rfl,_⟩|⟨g,cap,cur,rfl,hb,_⟩
 ·cases hk
 ·have:g=k:=by simpa [Value.ownBlock]using hk
  omega
theorem fJ.fP(h:fJ B w v ts){k:Nat}(hk:v.ownBlock=some k):k<w.heap.size:=by
 obtain⟨vs,h,_⟩:=h;rcases h.2 with⟨rfl,_⟩|⟨g,cap,cur,rfl,_,hh,_⟩
 ·cases hk
 ·have:g=k:=by simpa [Value.ownBlock]using hk
  subst this;exact(aa0.1 hh).1
theorem fJ.kp(h:fJ B w v ts)(k:Kp w w'):fJ B w' v ts:=by
 have hr:=fun k=>h.fP (k:=k)
 obtain⟨vs,⟨h1,h2⟩,hv⟩:=h;refine⟨vs,⟨h1,?_⟩,hv.mono k fun _ _ x=>x⟩;rcases h2 with h0|⟨g,cap,cur,rfl,hb,hg,r⟩
 ·exact .inl h0
 ·exact .inr ⟨g,cap,cur,rfl,hb,(k.block g (hr g rfl)).trans hg,r⟩
theorem fJ.form(h:fJ B w v ts):∃A c,v= .slice A ts.length c/\RdG w A ts/\ts.length<=c/\c<=9223372036854775807:=by
 obtain⟨vs,ho,hv⟩:=h;have ho':=ho;rcases ho.2 with⟨rfl,h0⟩|⟨g,cap,cur,rfl,_,hh,hn,hc,hcs,ht⟩
 ·have:ts=[]:=abd h0;subst this;exact⟨none,0,rfl,RdN.bU _ _ _,by simp,by simp⟩
 ·have hc':cap<=9223372036854775807:=by unfold maxLen at hc;omega
  refine⟨_,cap,rfl,⟨oM,vs,hv.mono (Kp.refl _) (fun _ _ _=>trivial),fun hp=>⟨_,rfl,(aa0.1 hh).1,fun j u hu=>?_⟩⟩,hn,hc'⟩;have hj:j<ts.length*3:=by have:=(aaU.1 hu).1;rw[iq,hv.len]at this;exact this
  rw[abh,abw,World.ownsRow.cellAt ho' j hj];exact hu
theorem fJ.zero(w:World)(hB:B<=w.heap.size):fJ B (w.alloc (.cells #[] 39)) (.slice (some ⟨w.heap.size,0,none⟩) 0 0) []:=
 ⟨[],World.ownsRow_lit (base:=B) (e:=39) (size:=3) w #[] 0 hB sC sC,fM.bU _ _⟩
theorem jD{row:Option Nat}(hg:w.grownBy w' row){A:DV}{xs:BU}(h:Rd w A xs)(hx:∀ad,A=some ad->0<xs.length->row≠some ad.block):Rd w' A xs:=
 ⟨h.1,fun hn=>by
  obtain⟨ad,e,hb,hc⟩:=h.2 hn;refine⟨ad,e,abj hb hg.size,fun j u hu=>?_⟩;have hne:some ad.block≠row:=fun e'=>hx ad e hn e'.symm
  rw[World.cell?_of_block (w:=w) (a:=ad.add j) (by rw[ah];exact hg.block _ hb hne)];exact hc j u hu⟩
theorem CM{row:Option Nat}{p:V3}{t:Nd}{Y:Nat->Prop}(hg:w.grownBy w' row)(h:Vn w (fun k=>row≠some k) p t)(hY:∀k,k<w.heap.size->row≠some k->Y k):Vn w' Y p t:=by
 obtain⟨A,c,B,d,e,c1,c2,d1,d2,r⟩:=h;refine⟨A,c,B,d,e,c1,c2,d1,d2,⟨jD hg r.ra r.xa,jD hg r.rn r.xn,fun ad h1 h2=>hY _ ?_ (r.xa ad h1 h2),fun ad h1 h2=>hY _ ?_ (r.xn ad h1 h2)⟩⟩
 ·obtain⟨ad',e',hb,_⟩:=r.ra.2 h2;rw[h1]at e';injection e' with e';subst e';exact hb
 ·obtain⟨ad',e',hb,_⟩:=r.rn.2 h2;rw[h1]at e';injection e' with e';subst e';exact hb
theorem vB(ho:fJ B w v ts)(c:Nat)(hr:RdN w (fun k=>v.ownBlock≠some k) A us)(hs:ts.length+us.length<=1000000)(hB:B<=w.heap.size)(ty:TypeId):
  ∃zs A' c' w',zs=ts++us/\(Builtin.append_ #[22,22] ty #[v, .slice A us.length c]).run Tryz.prog w= .ok (.slice A' zs.length c') w'/\fJ B w' (.slice A' zs.length c') zs/\Below B w w'/\(∀k,k<w.heap.size->some k≠v.ownBlock->w'.heap[k]?=w.heap[k]?):=by
 obtain⟨i,hi,hz,h1,h2⟩:=info_parts ur;have qw:=fun k=>ho.from_ (k:=k)
 obtain⟨vs,hown,hv⟩:=ho;obtain⟨_,qs,hq,hh⟩:=hr;have fin:∀(ad:Addr) (news:List Value) (m:Nat),news=dx qs->m=us.length->(∀j u,news[j]?=some u->w.cell? (ad.add j)=some u)->
   ∃zs A' c' w',zs=ts++us/\(Builtin.append_ #[22,22] ty #[v, .slice (some ad) m c]).run Tryz.prog w= .ok (.slice A' zs.length c') w'/\fJ B w' (.slice A' zs.length c') zs/\Below B w w'/\(∀k,k<w.heap.size->some k≠v.ownBlock->w'.heap[k]?=w.heap[k]?):=by
  intro ad news m hnews hm hc;subst hnews hm;obtain⟨v',w',hrun,gX,hg,_,hrow⟩:=run_append_own_at (P:=Tryz.prog) w B 22 ty 39 i _ 3 56 Tryz.underlying22 hi hz h1 h2 rfl oM _ _ _ hown ad us.length c (dx qs) (by rw[iq,hq.len]) hc
   (fun u hu=>by
    unfold dx at hu;rw[List.mem_flatMap]at hu;obtain⟨p,hp,hu⟩:=hu;obtain⟨j,hj⟩:=abC.1 hp;have hjl:j<us.length:=by have:=(aaU.1 hj).1;rw[hq.len]at this;exact this
    obtain⟨P,c1,Q,d1,ep,_⟩:=hq.at_ j p _ hj (aaV hjl);rw[ep]at hu;simp at hu;rcases hu with rfl|rfl|rfl<;>rfl) (by unfold maxLen;omega) oM hB
  have hv2:fM w' (fun k=>v'.ownBlock≠some k) (vs++qs) (ts++us):=by
   have hY:∀k,k<w.heap.size->v.ownBlock≠some k->v'.ownBlock≠some k:=by
    intro k hk hne;rcases hrow with hrow|hrow
    ·rw[hrow];exact hne
    ·rw[hrow];intro e;injection e with e;omega
   have a1:fM w' (fun k=>v'.ownBlock≠some k) vs ts:=⟨hv.len,fun j p t g1 g2=>CM hg (hv.at_ j p t g1 g2) hY⟩
   have a2:fM w' (fun k=>v'.ownBlock≠some k) qs us:=⟨hq.len,fun j p t g1 g2=>CM hg (hq.at_ j p t g1 g2) hY⟩
   exact a1.app a2
  have ho2:fJ B w' v' (ts++us):=⟨vs++qs,by rw[abf,iu];exact gX,hv2⟩
  obtain⟨A2,c2,rfl,_⟩:=ho2.form;exact⟨ts++us,A2,c2,w',rfl,hrun,ho2,(abu _ _).grown hg hB (fun k hk=>qw k hk),fun k hk hne=>hg.block k hk hne⟩
 by_cases hy:us=[]
 ·subst hy;have hqn:qs=[]:=abd (by rw[hq.len];rfl);subst hqn
  cases A with
  |none=>
   have ho2:fJ B w v ts:=⟨vs,hown,hv⟩
   obtain⟨A',c',rfl,_⟩:=ho2.form;refine⟨ts,A',c',w,by simp,?_,ho2,abu _ _,fun _ _ _=>rfl⟩;have ht:=abk (P:=Tryz.prog) (w:=w) Tryz.underlying22;rcases hown.2 with⟨e,h0⟩|⟨g,cap,cur,e,_,_,hn,_⟩
   ·injection e with e1 e2 e3
    subst e1 e3;rw[e2];simp[Builtin.append_,ht,sizeOf,typeInfo,hi,Builtin.lenOf,Builtin.firstCells]
   ·injection e with e1 e2 e3
    subst e1 e3;simp[Builtin.append_,ht,sizeOf,typeInfo,hi,Builtin.lenOf,Builtin.firstCells,hn,storeCells]
  |some ad=>exact fin ad [] 0 rfl rfl sC
 ·obtain⟨ad,rfl,_,hc⟩:=hh (List.length_pos_iff.2 hy);exact fin ad (dx qs) us.length rfl rfl hc
theorem mq{ops:Array Oper}{rest:List Oper}{o:Oper}{a:Act}{Q:Exit->Act->World->Prop}(hgd:Region.wanted o (yielded ops a.tmps)=true)(s x:Operand)
  (hop:o.op= .call {callee:= .builtin .append,args:= #[s,x],argTypes:= #[22,22]})
  (v:Value)(ts:List Nd)(hs:a.eval s=v)(ho:fJ B w v ts)(A:DV)(c:Nat)(us:List Nd)(n:Nat)(hx:a.eval x= .slice A n c)(hn:n=us.length)(hr:RdN w (fun k=>v.ownBlock≠some k) A us)
  (hl:ts.length+us.length<=1000000)(hB:B<=w.heap.size)
  (h:∀zs A' c' w',Hid (zs=ts++us)->fJ B w' (.slice A' zs.length c') zs->Below B w w'->(∀k,k<w.heap.size->some k≠v.ownBlock->w'.heap[k]?=w.heap[k]?)->wpList Tryz.prog ops Q rest (a.put o.dst (.slice A' zs.length c')) w'):wpList Tryz.prog ops Q (o::rest) a w:=by
 refine BigFrame.wpList_want hgd fun K hK=>?_
 subst hn;obtain⟨zs,A',c',w',e,hrun,h1,h2,h3⟩:=vB ho c hr hl hB o.type;unfold Oper.wp execOp;simp only[hop,resolve,invoke,builtin,acX,acW,acr,ab7,abT,ack,hs,hx,hrun];exact hK _ _ (h zs A' c' w' e h1 h2 h3)
end
abbrev ndV(t:Nd)(P:DV)(c:Nat)(Q:DV)(d:Nat):Value:= .agg #[.int .i64 t.1, .slice P t.2.1.length c, .slice Q t.2.2.length d]
def Nb(W:World)(b:Nat)(op:Int)(P:DV)(n c:Nat)(Q:DV)(m d:Nat):Prop:=W.heap[b]?=some (.cells #[.int .i64 op, .slice P n c, .slice Q m d] 39 (0,0))
section
variable{W W':World}{b n c m d:Nat}{op:Int}{P Q:DV}
theorem Nb.lt(h:Nb W b op P n c Q m d):b<W.heap.size:=(aa0.1 h).1
theorem Nb.c0(h:Nb W b op P n c Q m d):W.cell? ⟨b,0,none⟩=some (.int .i64 op):=by simp[World.cell?,show W.heap[b]?=_ from h]
theorem Nb.c1(h:Nb W b op P n c Q m d):W.cell? ⟨b,1,none⟩=some (.slice P n c):=by simp[World.cell?,show W.heap[b]?=_ from h]
theorem Nb.c2(h:Nb W b op P n c Q m d):W.cell? ⟨b,2,none⟩=some (.slice Q m d):=by simp[World.cell?,show W.heap[b]?=_ from h]
theorem Nb.f0(h:Nb W b op P n c Q m d)(i:Nat):W.frozen? ⟨b,i,none⟩=false:=by simp[World.frozen?,show W.heap[b]?=_ from h]
theorem Nb.kp(h:Nb W b op P n c Q m d)(k:Kp W W'):Nb W' b op P n c Q m d:=(k.block b h.lt).trans h
theorem Nb.af(h:Nb W b op P n c Q m d)(o:Obj):Nb (W.alloc o) b op P n c Q m d:=h.kp (Kp.af W o)
theorem Nb.new(h:b=W.heap.size):Nb (W.alloc (.cells #[.int .i64 op, .slice P n c, .slice Q m d] 39)) b op P n c Q m d:=by
 subst h;show(W.heap.push _)[W.heap.size]?=some _;simp
end
def zK(Q:DV)(d:Nat):DV:=if d=1 then Q else Q.map (·.add 1)
theorem EN(W:World)(ad:Addr)(n c:Nat)(hj:1<=n):(Instr.sliceAt 23 (.slice (some ad) n c) (some (.int .i64 1)) none none).run Tryz.prog W= .ok (.slice (zK (some ad) c) (n-1) (c-1)) W:=by
 have hu:Tryz.prog.underlying 23=some (.slice (Tryz.prog.elem 23)):=by kernel_rfl
 have hsz:((sizeOf (Tryz.prog.elem 23)).run Tryz.prog W)= .ok 1 W:=by
  obtain⟨i,hi,_,h1,_⟩:=info_parts dz;simp[sizeOf,typeInfo,show Tryz.prog.elem 23=3 by kernel_rfl,hi,h1]
 have:=run_slice_l W 23 (some ad) n c hu .i64 1 oM oM;rw[run_sliceAt_slice W _ _ _ _ _ hu,this,hsz];simp[Result.andThen,sliced,zK]
theorem Rd.QV{w:World}{ad:Addr}{x:Int}{s:BU}{d:Nat}(h:Rd w (some ad) (x::s))(hd:s.length+1<=d):Rd w (zK (some ad) d) s:=by
 show Rd w (if d=1 then some ad else some (ad.add 1)) s;by_cases e:d=1
 ·have:s=[]:=abd oM;rw[this];exact Rd.nil _ _
 ·rw[aaT e];refine⟨by have:=h.1;simp at this;omega,fun hp=>⟨_,rfl,?_,fun j u hj=>?_⟩⟩
  ·obtain⟨_,e,hb,_⟩:=h.2 sC;injection e with e;subst e;rw[ah];exact hb
  ·obtain⟨_,e,_,hc⟩:=h.2 sC;injection e with e;subst e;rw[Addr.add_add,Nat.add_comm];exact hc (j+1) u (by simpa using hj)
theorem oH{w:World}{Q:DV}{l:BU}(h:Rd w Q l)(hl:l≠ []):∃ad,Q=some ad/\ad.block<w.heap.size/\w.cell? ad=some (.int .i64 (l.getD 0 0))/\0<l.length:=by
 cases l with
 |nil=>exact absurd rfl hl
 |cons x s=>
  obtain⟨ad,y,e,hb,hx,hc⟩:=h.at_ (k:=0) sC;have e1:ad.add 0=ad:=by unfold Addr.add;simp
  rw[e1]at hc;have:x=y:=by simpa using hx
  subst this;exact⟨ad,e,hb,hc,by simp⟩
def yP(l:List Nd):Bool:=l.all (fun n=>decide (n.2.1.length<=30/\n.2.2.length<=30))&&decide (l.length<=30)
theorem Dy{p:Nd->Bool}{ts:List Nd}{k:Nat}{t:Nd}(ht:ts[k]?=some t):(ts.drop k).all p=(p t&&(ts.drop (k+1)).all p):=by
 obtain⟨h,e⟩:=aaU.1 ht;rw[abW h,e];rfl
theorem xJ(A:DV)(c:Nat)(l:List Nd)(w:World)(h:RdG w A l):
  CJ 12 #[.slice A l.length c] w fun e w'=>e= .returned (.bool (yP l))/\w'=w:=by
 have hl:=h.len;have HRD:=lH h;obtain⟨r,hr⟩:=eX (yP l);have HR:=lH hr;rw[<-hr];clear hr h;go_enter Tryz.func12,Tryz.ntmps12;go_wp2
 go_loopw [3] (fun i wx=>∃k:Nat,i= .int .i64 (k:Int)/\Hid (k<=l.length)/\Hid (r=((l.drop k).all (fun n=>decide (n.2.1.length<=30/\n.2.2.length<=30))&&decide (l.length<=30)))/\wx=w) (fun i _=>l.length-(intOf i).toNat)
 case atStart=>exact⟨0,rfl,aa6 _,HR.out,rfl⟩
 case round=>
  obtain⟨k,rfl,hk,hT,rfl⟩:=hrel;by_cases hj:k<l.length
  ·have hj':(k:Int)<(l.length:Int):=by omega
   obtain⟨ad,t,P,e,Q,f,rfl,hlt,ht,hc0,hc1,hc2,hN,_,_⟩:=HRD.out.at_ hj;have hd:=Dy (p:=fun n=>decide (n.2.1.length<=30/\n.2.2.length<=30)) ht;obtain⟨a,ha⟩:=eX (t.2.1.length);obtain⟨b,hb⟩:=eX (t.2.2.length);rw[<-ha]at hc1 hd;rw[<-hb]at hc2 hd;have HD:=lH hd;clear hd ht hN ha hb;by_cases h1:a<=30
   ·have i1:¬(30:Int)<(a:Int):=by omega
    by_cases h2:b<=30
    ·have i2:¬(30:Int)<(b:Int):=by omega
     have HT2:Hid (r=((l.drop (k+1)).all (fun n=>decide (n.2.1.length<=30/\n.2.2.length<=30))&&decide (l.length<=30))):=by show r=_;rw[hT.out,HD.out];simp[h1,h2]
     go_wp2;go_roundw
     case rel=>exact⟨k+1,by go_num,(by show k+1<=l.length;omega),HT2.out,(by first|rfl|trivial)⟩
     case measure=>simp[intOf];omega
    ·have i2:(30:Int)<(b:Int):=by omega
     have HT2:Hid (r=false):=by show r=_;rw[hT.out,HD.out];simp[h2]
     go_wp2;go_ret;exact⟨by rw[HT2.out];rfl,rfl⟩
   ·have i1:(30:Int)<(a:Int):=by omega
    have HT2:Hid (r=false):=by show r=_;rw[hT.out,HD.out];simp[h1]
    go_wp2;go_ret;exact⟨by rw[HT2.out];rfl,rfl⟩
  ·have hj':¬(k:Int)<(l.length:Int):=by omega
   have HT2:Hid (r=decide (l.length<=30)):=by show r=decide (l.length<=30);rw[hT.out,abU oM];rfl
   by_cases h3:(l.length:Int)<=30
   ·have HT3:Hid (r=true):=by show r=true;rw[HT2.out,abE];omega
    go_wp2;go_ret;exact⟨by rw[HT3.out];simp[h3],rfl⟩
   ·have HT3:Hid (r=false):=by show r=false;rw[HT2.out,acZ];omega
    go_wp2;go_ret;exact⟨by rw[HT3.out];simp[h3],rfl⟩
theorem IQ{n:Nd}(h:aM n=true)(h2:n.1=2):n.2.2≠ []:=by
 unfold aM at h;rw[aaT oM,aaW h2]at h;intro e;rw[e]at h
 cases h
def Ck(r:Bool)(l:List Nd)(i:Nat):Prop:=(∀(j:Nat) (n:Nd),j<i->l[j]?=some n->gq l j n=true)/\(r=true↔∀(j:Nat) (n:Nd),i<=j->l[j]?=some n->gq l j n=true)
theorem H6{l:List Nd}(h1:1<=l.length)(h2:l.length<=24):Ck (aK l) l 0:=by
 refine⟨fun j n h=>by omega,?_⟩;rw[aO];exact⟨fun h j n _ hn=>h.2.2 j n hn,fun h=>⟨h1,h2,fun j n hn=>h j n (aa6 _) hn⟩⟩
theorem Mc{r:Bool}{l:List Nd}{i:Nat}{n:Nd}(h:Ck r l i)(hn:l[i]?=some n)(hb:gq l i n=true):Ck r l (i+1):=by
 refine⟨fun j m hj hm=>?_,h.2.trans ⟨fun g j m hj hm=>g j m oM hm,fun g j m hj hm=>?_⟩⟩
 ·by_cases e:j=i
  ·subst e;rw[hn]at hm;injection hm with hm;subst hm;exact hb
  ·exact h.1 j m oM hm
 ·by_cases e:j=i
  ·subst e;rw[hn]at hm;injection hm with hm;subst hm;exact hb
  ·exact g j m oM hm
theorem Dj{r:Bool}{l:List Nd}{i:Nat}{n:Nd}(h:Ck r l i)(hn:l[i]?=some n)(hb:gq l i n=false):r=false:=by
 cases e:r with
 |false=>rfl
 |true=>
  rw[h.2]at e;rw[e i n (aaZ _) hn]at hb
  cases hb
theorem Pz{r:Bool}{l:List Nd}{i:Nat}(h:Ck r l i)(hi:l.length<=i):r=true:=by
 rw[h.2];intro j n hj hn;have:=(aaU.1 hn).1;omega
theorem PI{p:Int->Bool}{s:BU}{k:Nat}{x:Int}(h:s[k]?=some x):(s.drop k).all p=(p x&&(s.drop (k+1)).all p):=by
 obtain⟨hb,e⟩:=aaU.1 h;rw[abW hb,e];rfl
theorem Mt{p:Nd->Bool}{s:List Nd}{k:Nat}{x:Nd}(h:s[k]?=some x):(s.drop k).all p=(p x&&(s.drop (k+1)).all p):=by
 obtain⟨hb,e⟩:=aaU.1 h;rw[abW hb,e];rfl
theorem gT(op:Int):ak op<=2:=by unfold ak;repeat' split<;>omega
def Mz(xs:BU)(w:World)(e:Ending)(w':World):Prop:=∃A c,e= .returned (.slice A xs.length c)/\Own w.heap.size w' (.slice A xs.length c) xs/\Kp w w'
theorem Lx{l:List Nd}{j:Nat}{t:Nd}(h:l[j]?=some t):l.getD j nd0=t:=by rw[aaS,h];rfl
theorem Own.M9{B C:Nat}{w:World}{v:Value}{xs:BU}(h:Own C w v xs)(hB:B<=C):Own B w v xs:=by
 refine⟨h.1,?_⟩;rcases h.2 with h0|⟨g,cap,cur,e,hb,r⟩
 ·exact .inl h0
 ·exact .inr ⟨g,cap,cur,e,oM,r⟩
theorem yU{w:World}{Q:DV}{l:BU}(h:Rd w Q l)(hl:l≠ []):∃ad,Q=some ad/\ad.block<w.heap.size/\w.cell? ad=some (.int .i64 (l.getD 0 0))/\0<l.length:=by
 cases l with
 |nil=>exact absurd rfl hl
 |cons x s=>
  obtain⟨ad,y,e,hb,hx,hc⟩:=h.at_ (k:=0) sC;have e1:ad.add 0=ad:=by unfold Addr.add;simp
  rw[e1]at hc;have:x=y:=by simpa using hx
  subst this;exact⟨ad,e,hb,hc,by simp⟩
def W64(l:BU):Prop:=∀n∈l,-9223372036854775808<=n/\n<=9223372036854775807
def MV(t:Nd):Prop:=W64 [t.1]/\W64 t.2.1/\W64 t.2.2
def dV(l:List Nd):Prop:=l.length<=100/\∀t∈l,t.2.1.length<=100/\t.2.2.length<=100/\MV t
theorem gal{w w':World}(h:Kp w w')(o:Obj):Kp w (w'.alloc o):=h.tr (Kp.af _ _)
theorem RdN.lit{w:World}{X:Nat->Prop}{vs:List V3}{ts:List Nd}(h:fM w X vs ts)(hl:ts.length<=1000)(ty:TypeId):RdN (w.alloc (.cells (dx vs).toArray ty)) X (some ⟨w.heap.size,0,none⟩) ts:=
 ⟨oM,vs,h.mono (Kp.af _ _) (fun _ _ x=>x),fun hp=>⟨_,rfl,by simp,fun j u hu=>by
  rw[abh,abw,abB _ ty _ j rfl];simpa using hu⟩⟩
theorem fM.cons{w:World}{X:Nat->Prop}{p:V3}{t:Nd}{vs:List V3}{ts:List Nd}(h:Vn w X p t)(g:fM w X vs ts):fM w X (p::vs) (t::ts):=by
 refine⟨by rw[abg,abg,g.len],fun j q u h1 h2=>?_⟩
 cases j with
 |zero=>
  have e1:p=q:=by simpa using h1
  have e2:t=u:=by simpa using h2
  subst e1 e2;exact h
 |succ j=>exact g.at_ j q u (by simpa using h1) (by simpa using h2)
theorem jO{w:World}{P Q:DV}{op:Int}{a b:BU}{c d:Nat}(h:Rd w P a)(g:Rd w Q b)(h1:a.length<=c)(h2:c<=9223372036854775807)(h3:b.length<=d)(h4:d<=9223372036854775807):
  Vn w (fun _=>True) (.int .i64 op, .slice P a.length c, .slice Q b.length d) (op,a,b):=⟨P,c,Q,d,rfl,h1,h2,h3,h4,⟨h,g,fun _ _ _=>trivial,fun _ _ _=>trivial⟩⟩
theorem LK{l:List Nd}:yP l=true↔(∀t∈l,t.2.1.length<=30/\t.2.2.length<=30)/\l.length<=30:=by
 unfold yP;rw[abb,abn,abE];constructor
 ·rintro⟨h1,h2⟩;exact⟨fun t ht=>of_decide_eq_true (h1 t ht),h2⟩
 ·rintro⟨h1,h2⟩;exact⟨fun t ht=>abJ (h1 t ht),h2⟩
theorem zX{l:List Nd}(h:yP l=true)(N:∀t∈l,MV t):dV l:=by
 obtain⟨h1,h2⟩:=LK.1 h;exact⟨oM,fun t ht=>⟨by have:=(h1 t ht).1;omega,by have:=(h1 t ht).2;omega,N t ht⟩⟩
