import Derived.Test.YtokeebkaamjliaaGreatGrAll
import Derived.Lib.Bytes
import Derived.Test.YtokeebkaamjliaaGreatTnAll
set_option maxHeartbeats 16000000
set_option maxRecDepth 100000
set_option linter.unusedVariables false
set_option linter.unusedSimpArgs false
namespace Go.Proofs.InM
open ShM GrM
abbrev Sh:=BU×Int
def gE(op:Int)(nums:BU):Bool:=decide (0<=ak op)&&aM (op,[],nums)
def fe(s:BU)(so:Bool):Sh:=if so=true/\okS s=true then(s,0)else([],20)
def eG(s:BU)(at_:Int):Bool:=decide (0<=at_/\at_<(s.length:Int))
def fZ(a b:BU):Sh:=if a.length=2/\b.length=2/\a.getD 1 0=b.getD 0 0 then fe [a.getD 0 0,b.getD 1 0] true else([],20)
def pP(a:BU)(at_ from_ to_:Int):Sh:=if 0<=from_/\from_<to_/\to_<=a.getD at_.toNat 0 then(a.set at_.toNat (to_-from_),0)else([],20)
def nI(a b:BU)(at_:Int):Sh:=if a.length=b.length/\a.eraseIdx at_.toNat=b.eraseIdx at_.toNat then fe (a.set at_.toNat (a.getD at_.toNat 0+b.getD at_.toNat 0)) true else([],20)
def dQ(op:Int)(nums a b:BU):Sh:=
 if op=30 then fZ a b else if eG a (nums.getD 0 0)=false then([],20)else
 if op=42 then pP a (nums.getD 0 0) (nums.getD 1 0) (nums.getD 2 0)else if op=43 then nI a b (nums.getD 0 0)else(a.eraseIdx (nums.getD 0 0).toNat,0)
def aR(op:Int)(nums a b:BU):Sh:=
 if op=1 then(nums,0)else if op=2 then(nums.drop 1,0)else if op=3 then([],0)else if 10<=op/\op<=13 then bG a b else
 if 20<=op/\op<=23 then(a,0)else if op=40 then fe nums (decide (au nums=au a))else if op=41 then(a.reverse,0)else dQ op nums a b
def aF(op:Int)(nums:BU)(gs:List (BU)):Sh:=
 if gE op nums=true/\(gs.length:Int)=ak op/\gs.all okS=true then aR op nums (gs.getD 0 []) (gs.getD 1 [])else([],20)
def bY(acc:List (BU))(l:BU):List (BU):=l.map fun a=>acc.getD a.toNat []
def shF:List Nd->List (BU)->List (BU)×Int×Int
 | [],acc=>(acc,-1,0)
 |n::l,acc=>if(aF n.1 n.2.2 (bY acc n.2.1)).2=0 then shF l (acc++[(aF n.1 n.2.2 (bY acc n.2.1)).1])else([],(acc.length:Int),(aF n.1 n.2.2 (bY acc n.2.1)).2)
def aH(l:List Nd):List (BU)×Int×Int:=if aK l=true then shF l []else([],-1,100)
theorem dF(s:BU)(so:Bool):(fe s so=(s,0)/\so=true/\okS s=true)∨fe s so=([],20):=by
 unfold fe;by_cases h:so=true/\okS s=true
 ·rw[aaW h];exact .inl ⟨rfl,h⟩
 ·rw[aaT h];exact .inr rfl
theorem kO{s:BU}(h:s.all aX=true)(a:Nat):(s.eraseIdx a).all aX=true:=by
 rw[abn]at *;exact fun x hx=>h x (List.mem_of_mem_eraseIdx hx)
theorem jF{s:BU}(h:s.all aX=true){a:Nat}(ha:a<s.length):1<=s.getD a 0/\s.getD a 0<=16:=by
 have hx:s[a]?=some s[a]:=aaV ha;rw[List.getD,hx];exact cN h hx
theorem jh:∀{s:BU} {a:Nat},a<s.length->ai s=s.getD a 0*ai (s.eraseIdx a)
 | [],a,h=>by simp at h
 |x::r,0,h=>by simp[ai]
 |x::r,a+1,h=>by
  have h1:=jh (s:=r) (a:=a) (by simpa using h);show x*ai r=r.getD a 0*(x*ai (r.eraseIdx a));rw[h1,<-acy,<-acy,acn x]
theorem jI:∀{s:BU} {a:Nat} {y:Int},(s.set a y).eraseIdx a=s.eraseIdx a
 | [],a,y=>by simp
 |x::r,0,y=>by simp
 |x::r,a+1,y=>by
  show x::(r.set a y).eraseIdx a=x::r.eraseIdx a;rw[jI]
theorem NA{l:BU}{k:Nat}{y:Int}(hk:k<l.length):(l.set k y).getD k 0=y:=by
 unfold List.getD;rw[abt hk];rfl
theorem Fm{s:BU}{a:Nat}{y:Int}(ha:a<s.length):ai (s.set a y)=y*ai (s.eraseIdx a):=by
 rw[jh (s:=s.set a y) (a:=a) (by simpa using ha),NA ha,jI]
theorem rO{s:BU}(h:okS s=true){a:Nat}(ha:a<s.length):okS (s.eraseIdx a)=true:=by
 obtain⟨h1,h2,h3⟩:=aD.1 h;have e:=jh ha;have p:=aY (kO h2 a);have t:=abY (jF h2 ha).1 (show 0<=ai (s.eraseIdx a) by omega);rw[Int.one_mul]at t;exact aD.2 ⟨by have:=List.length_eraseIdx_le s a;omega,kO h2 a,oM⟩
theorem Mq{s:BU}(h:s.all aX=true)(a:Nat){y:Int}(hy:aX y=true):(s.set a y).all aX=true:=by
 rw[abn]at *;intro x hx;rcases acE hx with h1|h1
 ·exact h x h1
 ·rw[h1];exact hy
theorem Kw{s:BU}(h:okS s=true){a:Nat}(ha:a<s.length){y:Int}(h1:1<=y)(h2:y<=s.getD a 0):okS (s.set a y)=true/\ai (s.set a y)<=ai s:=by
 obtain⟨g1,g2,g3⟩:=aD.1 h;have sd:=jF g2 ha;have p:=aY (kO g2 a);have e:=jh ha;have t:=abY h2 (show 0<=ai (s.eraseIdx a) by omega);have e2:=Fm (y:=y) ha;exact⟨aD.2 ⟨by simpa using g1,Mq g2 a (ct.2 ⟨h1,oM⟩),oM⟩,oM⟩
theorem AZ{s:BU}(h:okS s=true):okS s.reverse=true:=by
 obtain⟨g1,g2,g3⟩:=aD.1 h;exact aD.2 ⟨by simpa using g1,by rw[rN];exact g2,by rw[eA];exact g3⟩
theorem iD(a:BU)(at_ f t:Int):(pP a at_ f t=(a.set at_.toNat (t-f),0)/\0<=f/\f<t/\t<=a.getD at_.toNat 0)∨pP a at_ f t=([],20):=by
 unfold pP;by_cases h:0<=f/\f<t/\t<=a.getD at_.toNat 0
 ·rw[aaW h];exact .inl ⟨rfl,h⟩
 ·rw[aaT h];exact .inr rfl
theorem gB(a b:BU)(at_:Int):(nI a b at_=(a.set at_.toNat (a.getD at_.toNat 0+b.getD at_.toNat 0),0)/\a.length=b.length/\a.eraseIdx at_.toNat=b.eraseIdx at_.toNat/\okS (a.set at_.toNat (a.getD at_.toNat 0+b.getD at_.toNat 0))=true)∨nI a b at_=([],20):=by
 unfold nI;by_cases h:a.length=b.length/\a.eraseIdx at_.toNat=b.eraseIdx at_.toNat
 ·rw[aaW h];rcases dF (a.set at_.toNat (a.getD at_.toNat 0+b.getD at_.toNat 0)) true with⟨e,_,o⟩|e
  ·exact .inl ⟨e,h.1,h.2,o⟩
  ·exact .inr e
 ·rw[aaT h];exact .inr rfl
theorem eV{s:BU}{x:Int}:eG s x=true↔0<=x/\x<(s.length:Int):=by unfold eG;rw[abE]
def Okd(r:Sh):Prop:=(r.2=0/\okS r.1=true)∨r=([],20)
theorem zL(a b:BU):Okd (fZ a b):=by
 unfold fZ;split
 ·rcases dF [a.getD 0 0,b.getD 1 0] true with⟨e,_,o⟩|e
  ·rw[e];exact .inl ⟨rfl,o⟩
  ·rw[e];exact .inr rfl
 ·exact .inr rfl
theorem F8(op:Int)(nums:BU){a:BU}(b:BU)(ha:okS a=true):Okd (dQ op nums a b):=by
 unfold dQ;split
 ·exact zL a b
 ·cases hx:eG a (nums.getD 0 0)with
  |false=>rw[aaW rfl];exact .inr rfl
  |true=>
   rw[aaT sC];obtain⟨x0,x1⟩:=eV.1 hx;have hk:(nums.getD 0 0).toNat<a.length:=by omega
   split
   ·rcases iD a (nums.getD 0 0) (nums.getD 1 0) (nums.getD 2 0)with⟨e,f0,f1,f2⟩|e
    ·rw[e];exact .inl ⟨rfl,(Kw ha hk oM oM).1⟩
    ·rw[e];exact .inr rfl
   ·split
    ·rcases gB a b (nums.getD 0 0)with⟨e,_,_,o⟩|e
     ·rw[e];exact .inl ⟨rfl,o⟩
     ·rw[e];exact .inr rfl
    ·exact .inl ⟨rfl,rO ha hk⟩
theorem Oo{nums:BU}{a:BU}(h:aM (1,a,nums)=true):okS nums=true:=by unfold aM at h;simpa using h
theorem vO{nums:BU}{a:BU}(h:aM (2,a,nums)=true):∃p s,nums=p::s/\0<=p/\p<=7/\okS s=true:=by
 have h:DM nums=true:=by simpa [aM]using h
 cases nums with
 |nil=>cases h
 |cons p s=>
  have h':decide (0<=p/\p<=7)=true/\okS s=true:=by
   have:(decide (0<=p/\p<=7)&&okS s)=true:=h;simpa using this
  exact⟨p,s,rfl,(of_decide_eq_true h'.1).1,(of_decide_eq_true h'.1).2,h'.2⟩
theorem GA{op:Int}{nums a b:BU}(hn:aM (op,[],nums)=true)(hr:0<=ak op)(h1:okS a=true):Okd (aR op nums a b):=by
 unfold aR;split
 ·rename_i e;subst e;exact .inl ⟨rfl,Oo hn⟩
 ·split
  ·rename_i e;subst e;obtain⟨p,s,rfl,_,_,o⟩:=vO hn;exact .inl ⟨rfl,o⟩
  ·split
   ·exact .inl ⟨rfl,dG⟩
   ·split
    ·rcases gA a b with⟨c,e,o⟩|e
     ·rw[e];exact .inl ⟨rfl,o⟩
     ·rw[e];exact .inr rfl
    ·split
     ·exact .inl ⟨rfl,h1⟩
     ·split
      ·rcases dF nums (decide (au nums=au a))with⟨e,_,o⟩|e
       ·rw[e];exact .inl ⟨rfl,o⟩
       ·rw[e];exact .inr rfl
      ·split
       ·exact .inl ⟨rfl,AZ h1⟩
       ·exact F8 op nums b h1
theorem jL{op:Int}{nums:BU}:gE op nums=true↔0<=ak op/\aM (op,[],nums)=true:=by
 unfold gE;rw[abb,abE]
theorem ul{gs:List (BU)}(h:gs.all okS=true)(k:Nat):okS (gs.getD k [])=true:=by
 rw[abn]at h;rw[List.getD]
 cases e:gs[k]? with
 |none=>decide
 |some x=>exact h x (aa1 e)
theorem FL(op:Int)(nums:BU)(gs:List (BU)):Okd (aF op nums gs):=by
 unfold aF;split
 ·rename_i h;obtain⟨g1,g2⟩:=jL.1 h.1;exact GA g2 g1 (ul h.2.2 0)
 ·exact .inr rfl
theorem iF(op:Int)(nums:BU)(gs:List (BU)):(∃s,aF op nums gs=(s,0)/\okS s=true)∨aF op nums gs=([],20):=by
 rcases FL op nums gs with⟨e,o⟩|e
 ·exact .inl ⟨(aF op nums gs).1,Prod.ext rfl e,o⟩
 ·exact .inr e
theorem bA{n:Nd}{l:List Nd}{acc:List (BU)}{s:BU}(h:aF n.1 n.2.2 (bY acc n.2.1)=(s,0)):shF (n::l) acc=shF l (acc++[s]):=by
 rw[shF,h];rfl
theorem jT{n:Nd}{l:List Nd}{acc:List (BU)}(h:aF n.1 n.2.2 (bY acc n.2.1)=([],20)):shF (n::l) acc=([],(acc.length:Int),20):=by
 rw[shF,h];rfl
theorem lP:∀(l:List Nd) (acc:List (BU)),(∃t,shF l acc=(acc++t,-1,0)/\t.length=l.length/\t.all okS=true)∨∃i:Nat,shF l acc=([],(i:Int),20)/\acc.length<=i/\i<acc.length+l.length
 | [],acc=> .inl ⟨[],by simp[shF],rfl,rfl⟩
 |n::l,acc=>by
  rcases iF n.1 n.2.2 (bY acc n.2.1)with⟨s,e,o⟩|e
  ·rw[bA e];rcases lP l (acc++[s])with⟨t,h1,h2,h3⟩|⟨i,h1,h2,h3⟩
   ·exact .inl ⟨s::t,by rw[h1,acA];rfl,by rw[abg,abg,h2],by rw[ach,o,h3];rfl⟩
   ·rw[abf,abI]at h2 h3;exact .inr ⟨i,h1,oM,by rw[abg];omega⟩
  ·rw[jT e];exact .inr ⟨acc.length,rfl,aaZ _,by rw[abg];omega⟩
theorem kX{l:List Nd}(h:aK l=true):(∃t,aH l=(t,-1,0)/\t.length=l.length/\t.all okS=true)∨∃i:Nat,aH l=([],(i:Int),20)/\i<l.length:=by
 unfold aH;rw[aaW h];rcases lP l []with⟨t,h1,h2,h3⟩|⟨i,h1,_,h3⟩
 ·exact .inl ⟨t,by rw[h1,acu],h2,h3⟩
 ·exact .inr ⟨i,h1,by simpa using h3⟩
end Go.Proofs.InM
namespace Go.Proofs.PkM
open Go
end Go.Proofs.PkM
namespace Go.Proofs.YtokeebkaamjliaaGreat.B8
open RowKit Proofs.YtokeebkaamjliaaGreat
end Go.Proofs.YtokeebkaamjliaaGreat.B8
namespace Go.Proofs.YtokeebkaamjliaaGreat
open RowKit ShM PkM
end Go.Proofs.YtokeebkaamjliaaGreat
namespace Go.Proofs.ImM
open PkM ShM
abbrev T:=BU×BU
def bO(t:T):Bool:=aB t.1 t.2
def N64(l:BU):Prop:=∀n∈l,-9223372036854775808<=n/\n<=9223372036854775807
theorem aA{t:T}:bO t=true↔okS t.1=true/\(t.2.length:Int)=au t.1:=by unfold bO aB;simp
theorem IV{s:BU}(h:okS s=true):s.length<=3:=(aD.1 h).1
theorem Ec{t:T}(h:bO t=true):t.2.length<=64/\1<=t.2.length/\t.1.length<=3:=by
 obtain⟨h1,h2⟩:=aA.1 h;rw[aL h1]at h2;have:=bT h1;exact⟨oM,oM,IV h1⟩
end Go.Proofs.ImM
namespace Go.Proofs.YtokeebkaamjliaaGreat
open RowKit ShM PkM ImM
theorem mA:(Tryz.prog.info? 25).map (fun i=>(i.zero,i.size,i.bytes))=some (some (.agg #[zS, zS]),2,48):=by kernel_rfl
abbrev V2:=Value×Value
def flat(vs:List V2):List Value:=vs.flatMap fun p=> [p.1,p.2]
theorem sO(p:V2)(vs:List V2):flat (p::vs)=p.1::p.2::flat vs:=rfl
theorem iY(a b:List V2):flat (a++b)=flat a++flat b:=by unfold flat;rw[List.flatMap_append]
theorem dO:∀vs:List V2,(flat vs).length=vs.length*2
 | []=>rfl
 |p::vs=>by rw[sO,abg,abg,dO vs,abg];omega
theorem uT:∀{vs:List V2} {j:Nat} {p:V2},vs[j]?=some p->(flat vs)[j*2]?=some p.1/\(flat vs)[j*2+1]?=some p.2
 | [],j,p,h=>by simp at h
 |q::vs,0,p,h=>by
  have:q=p:=by simpa using h
  subst this;exact⟨rfl,rfl⟩
 |q::vs,j+1,p,h=>by
  have:=uT (vs:=vs) (j:=j) (p:=p) (by simpa using h);rw[sO,show(j+1)*2=j*2+1+1 by omega];exact this
def Vt(w:World)(X:Nat->Prop)(p:V2)(t:T):Prop:=
 ∃A c B d,p=(.slice A t.1.length c, .slice B t.2.length d)/\TR w A t.1 B t.2/\(∀ad,A=some ad->0<t.1.length->X ad.block)/\(∀ad,B=some ad->0<t.2.length->X ad.block)/\(t.1.length<=c/\c<=9223372036854775807)/\t.2.length<=d/\d<=9223372036854775807
structure iO(w:World)(X:Nat->Prop)(vs:List V2)(ts:List T):Prop where
 len:vs.length=ts.length
 at_:∀(j:Nat) (p:V2) (t:T),vs[j]?=some p->ts[j]?=some t->Vt w X p t
def RdX(w:World)(X:Nat->Prop)(A:DV)(ts:List T):Prop:=
 ts.length<=9223372036854775807/\∃vs,iO w X vs ts/\(0<ts.length->∃ad,A=some ad/\ad.block<w.heap.size/\∀j u,(flat vs)[j]?=some u->w.cell? (ad.add j)=some u)
abbrev RdT(w:World)(A:DV)(ts:List T):Prop:=RdX w (fun _=>True) A ts
section
variable{w w':World}{X Y:Nat->Prop}{A:DV}{ts us:List T}{vs zs:List V2}
theorem Vt.mono{p:V2}{t:T}(h:Vt w X p t)(hk:Kp w w')(hx:∀k,k<w.heap.size->X k->Y k):Vt w' Y p t:=by
 obtain⟨A,c,B,d,e,r,x1,x2,b12⟩:=h;refine⟨A,c,B,d,e,r.kp hk,fun ad h1 h2=>hx _ ?_ (x1 ad h1 h2),fun ad h1 h2=>hx _ ?_ (x2 ad h1 h2),b12⟩
 ·obtain⟨ad',e',hb,_⟩:=r.s.2 h2;rw[h1]at e';injection e' with e';subst e';exact hb
 ·obtain⟨ad',e',hb,_⟩:=r.d.2 h2;rw[h1]at e';injection e' with e';subst e';exact hb
theorem iO.mono(h:iO w X vs ts)(hk:Kp w w')(hx:∀k,k<w.heap.size->X k->Y k):iO w' Y vs ts:=⟨h.len,fun j p t h1 h2=>(h.at_ j p t h1 h2).mono hk hx⟩
theorem iO.bU(w:World)(X:Nat->Prop):iO w X [] []:=⟨rfl,fun j p t h=>by simp at h⟩
theorem iO.app(h:iO w X vs ts)(g:iO w X zs us):iO w X (vs++zs) (ts++us):=by
 refine⟨by rw[abf,abf,h.len,g.len],fun j p t h1 h2=>?_⟩;rw[List.getElem?_append]at h1 h2;rw[h.len]at h1;split at h1
 ·rename_i hj;rw[aaW hj]at h2;exact h.at_ j p t h1 h2
 ·rename_i hj;rw[aaT hj]at h2;exact g.at_ _ p t h1 h2
theorem RdX.mono(h:RdX w X A ts)(hk:Kp w w')(hx:∀k,k<w.heap.size->X k->Y k):RdX w' Y A ts:=by
 obtain⟨h1,vs,h2,h3⟩:=h;exact⟨h1,vs,h2.mono hk hx,fun hp=>by
  obtain⟨ad,e,hb,hc⟩:=h3 hp;exact⟨ad,e,abj hb hk.size,fun j u hu=>(hk.cell (by rw[ah];exact hb)).trans (hc j u hu)⟩⟩
theorem RdX.kp(h:RdX w X A ts)(hk:Kp w w'):RdX w' X A ts:=h.mono hk fun _ _ x=>x
theorem RdX.all(h:RdX w X A ts):RdT w A ts:=h.mono (Kp.refl _) fun _ _ _=>trivial
theorem RdX.len(h:RdX w X A ts):ts.length<=9223372036854775807:=h.1
theorem RdX.bU(w:World)(X:Nat->Prop)(A:DV):RdX w X A []:=⟨by simp,[],iO.bU _ _,fun h=>absurd h sC⟩
theorem RdX.at_(h:RdX w X A ts){k:Nat}(hk:k<ts.length):∃ad t P c Q d,A=some ad/\ad.block<w.heap.size/\ts[k]?=some t/\w.cell? (ad.add (k*2))=some (.slice P t.1.length c)/\w.cell? ⟨(ad.add (k*2)).block,(ad.add (k*2)).off+1,none⟩=some (.slice Q t.2.length d)/\TR w P t.1 Q t.2:=by
 obtain⟨_,vs,hv,hh⟩:=h;obtain⟨ad,e,hb,hc⟩:=hh oM;have hl:=hv.len;have e1:vs[k]?=some vs[k]:=aaV oM;have e2:ts[k]?=some ts[k]:=aaV hk;obtain⟨P,c,Q,d,ep,r,_⟩:=hv.at_ k _ _ e1 e2;obtain⟨f1,f2⟩:=uT e1;refine⟨ad,ts[k],P,c,Q,d,e,hb,e2,?_,?_,r⟩
 ·rw[hc _ _ f1,ep]
 ·have e3:(⟨(ad.add (k*2)).block,(ad.add (k*2)).off+1,none⟩:Addr)=ad.add (k*2+1):=by rw[<-Addr.add_add];rfl
  rw[e3,hc _ _ f2,ep]
theorem RdX.DS(h:RdX w X A ts){k:Nat}(hk:k<ts.length):∃ad t P c Q d,A=some ad/\ad.block<w.heap.size/\ts[k]?=some t/\w.cell? (ad.add (k*2))=some (.slice P t.1.length c)/\w.cell? ⟨(ad.add (k*2)).block,(ad.add (k*2)).off+1,none⟩=some (.slice Q t.2.length d)/\TR w P t.1 Q t.2/\(∀ad,P=some ad->0<t.1.length->X ad.block)/\(∀ad,Q=some ad->0<t.2.length->X ad.block)/\(t.1.length<=c/\c<=9223372036854775807)/\t.2.length<=d/\d<=9223372036854775807:=by
 obtain⟨_,vs,hv,hh⟩:=h;obtain⟨ad,e,hb,hc⟩:=hh oM;have hl:=hv.len;have e1:vs[k]?=some vs[k]:=aaV oM;have e2:ts[k]?=some ts[k]:=aaV hk;obtain⟨P,c,Q,d,ep,r,x1,x2,b1,b2⟩:=hv.at_ k _ _ e1 e2;obtain⟨f1,f2⟩:=uT e1;refine⟨ad,ts[k],P,c,Q,d,e,hb,e2,?_,?_,r,x1,x2,b1,b2⟩
 ·rw[hc _ _ f1,ep]
 ·have e3:(⟨(ad.add (k*2)).block,(ad.add (k*2)).off+1,none⟩:Addr)=ad.add (k*2+1):=by rw[<-Addr.add_add];rfl
  rw[e3,hc _ _ f2,ep]
theorem RdX.one{P Q:DV}{t:T}{c d:Nat}(h:TR w P t.1 Q t.2)(hx1:∀ad,P=some ad->0<t.1.length->X ad.block)(hx2:∀ad,Q=some ad->0<t.2.length->X ad.block)(hc:t.1.length<=c/\c<=9223372036854775807)(hd:t.2.length<=d/\d<=9223372036854775807)(ty:TypeId):
  RdX (w.alloc (.cells #[.slice P t.1.length c, .slice Q t.2.length d] ty)) X (some ⟨w.heap.size,0,none⟩) [t]:=by
 refine⟨by simp,[(.slice P t.1.length c, .slice Q t.2.length d)],⟨rfl,fun j p t' h1 h2=>?_⟩,fun _=>⟨_,rfl,by simp,fun j u hu=>?_⟩⟩
 ·cases j with
  |zero=>
   have e1:(Value.slice P t.1.length c,Value.slice Q t.2.length d)=p:=by simpa using h1
   have e2:t=t':=by simpa using h2
   subst e1 e2;exact⟨P,c,Q,d,rfl,h.af _,hx1,hx2,hc,hd⟩
  |succ j=>simp at h1
 ·rw[abh,abw,abB _ ty _ j rfl];have:(flat [(Value.slice P t.1.length c,Value.slice Q t.2.length d)])[j]?= #[Value.slice P t.1.length c,Value.slice Q t.2.length d][j]?:=by simp[flat]
  rw[<-this];exact hu
end
def iP(B:Nat)(w:World)(v:Value)(ts:List T):Prop:=∃vs,w.ownsRow B 25 2 v ts.length (flat vs)/\iO w (fun k=>v.ownBlock≠some k) vs ts
section
variable{w w':World}{B:Nat}{v:Value}{ts us:List T}{A:DV}
theorem iP.bU(w:World)(B:Nat):iP B w (zS) []:=⟨[],World.ownsRow_nil w B _ 2,iO.bU _ _⟩
theorem iP.from_(h:iP B w v ts){k:Nat}(hk:v.ownBlock=some k):B<=k:=by
 obtain⟨vs,h,_⟩:=h;rcases h.2 with⟨rfl,_⟩|⟨g,cap,cur,rfl,hb,_⟩
 ·cases hk
 ·have:g=k:=by simpa [Value.ownBlock]using hk
  omega
theorem iP.fP(h:iP B w v ts){k:Nat}(hk:v.ownBlock=some k):k<w.heap.size:=by
 obtain⟨vs,h,_⟩:=h;rcases h.2 with⟨rfl,_⟩|⟨g,cap,cur,rfl,_,hh,_⟩
 ·cases hk
 ·have:g=k:=by simpa [Value.ownBlock]using hk
  subst this;exact(aa0.1 hh).1
theorem iP.kp(h:iP B w v ts)(k:Kp w w'):iP B w' v ts:=by
 have hr:=fun k=>h.fP (k:=k)
 obtain⟨vs,⟨h1,h2⟩,hv⟩:=h;refine⟨vs,⟨h1,?_⟩,hv.mono k fun _ _ x=>x⟩;rcases h2 with h0|⟨g,cap,cur,rfl,hb,hg,r⟩
 ·exact .inl h0
 ·exact .inr ⟨g,cap,cur,rfl,hb,(k.block g (hr g rfl)).trans hg,r⟩
theorem iP.form(h:iP B w v ts):∃A c,v= .slice A ts.length c/\RdT w A ts/\ts.length<=c/\c<=9223372036854775807:=by
 obtain⟨vs,ho,hv⟩:=h;have ho':=ho;rcases ho.2 with⟨rfl,h0⟩|⟨g,cap,cur,rfl,_,hh,hn,hc,hcs,ht⟩
 ·have:ts=[]:=abd h0;subst this;exact⟨none,0,rfl,RdX.bU _ _ _,by simp,by simp⟩
 ·have hc':cap<=9223372036854775807:=by unfold maxLen at hc;omega
  refine⟨_,cap,rfl,⟨oM,vs,hv.mono (Kp.refl _) (fun _ _ _=>trivial),fun hp=>⟨_,rfl,(aa0.1 hh).1,fun j u hu=>?_⟩⟩,hn,hc'⟩;have hj:j<ts.length*2:=by have:=(aaU.1 hu).1;rw[dO,hv.len]at this;exact this
  rw[abh,abw,World.ownsRow.cellAt ho' j hj];exact hu
theorem wm{row:Option Nat}(hg:w.grownBy w' row){A:DV}{xs:BU}(h:Rd w A xs)(hx:∀ad,A=some ad->0<xs.length->row≠some ad.block):Rd w' A xs:=
 ⟨h.1,fun hn=>by
  obtain⟨ad,e,hb,hc⟩:=h.2 hn;refine⟨ad,e,abj hb hg.size,fun j u hu=>?_⟩;have hne:some ad.block≠row:=fun e'=>hx ad e hn e'.symm
  rw[World.cell?_of_block (w:=w) (a:=ad.add j) (by rw[ah];exact hg.block _ hb hne)];exact hc j u hu⟩
theorem kL{row:Option Nat}{p:V2}{t:T}{Y:Nat->Prop}(hg:w.grownBy w' row)(h:Vt w (fun k=>row≠some k) p t)(hY:∀k,k<w.heap.size->row≠some k->Y k):Vt w' Y p t:=by
 obtain⟨A,c,B,d,e,r,x1,x2,b12⟩:=h;refine⟨A,c,B,d,e,⟨wm hg r.s x1,wm hg r.d x2⟩,fun ad h1 h2=>hY _ ?_ (x1 ad h1 h2),fun ad h1 h2=>hY _ ?_ (x2 ad h1 h2),b12⟩
 ·obtain⟨ad',e',hb,_⟩:=r.s.2 h2;rw[h1]at e';injection e' with e';subst e';exact hb
 ·obtain⟨ad',e',hb,_⟩:=r.d.2 h2;rw[h1]at e';injection e' with e';subst e';exact hb
