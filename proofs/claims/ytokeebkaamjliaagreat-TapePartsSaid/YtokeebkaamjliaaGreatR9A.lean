import Derived.Test.YtokeebkaamjliaaGreatVjM
set_option maxHeartbeats 16000000
set_option maxRecDepth 100000
set_option linter.unusedVariables false
set_option linter.unusedSimpArgs false
namespace Go.Proofs.YtokeebkaamjliaaGreat
open RowKit ShM PkM ImM
def MT(ts:List T)(most:Int):Bool:=ts.all (fun t=>sS t.1.length t.2.length)&&decide ((ts.length:Int)<=most)
theorem dA{p:T->Bool}{ts:List T}{k:Nat}{t:T}(ht:ts[k]?=some t):(ts.drop k).all p=(p t&&(ts.drop (k+1)).all p):=by
 obtain⟨h,e⟩:=aaU.1 ht;rw[abW h,e];rfl
theorem Al(A:DV)(c:Nat)(ts:List T)(most:Int)(w:World)(h:RdT w A ts):
  CJ 14 #[.slice A ts.length c, .int .i64 most] w fun e w'=>e= .returned (.bool (MT ts most))/\Kp w w':=by
 have hl:=h.len;have HRD:=lH h;obtain⟨r,hr⟩:=eX (MT ts most);have HF:Hid (∀(A B:DV) (c d n m:Nat) (W:World),n<=9223372036854775807->m<=9223372036854775807->CJ 13 #[.agg #[.slice A n c, .slice B m d]] W fun e w'=>e= .returned (.bool (sS n m))/\Kp W w'):=fun A B c d n m W h g=>C3 A B c d n m W h g
 have HR:=lH hr;rw[<-hr];clear hr h;go_enter Tryz.func14,Tryz.ntmps14;go_wp2
 go_loopw [5] (fun i wx=>∃k:Nat,i= .int .i64 (k:Int)/\Hid (k<=ts.length)/\Hid (r=((ts.drop k).all (fun t=>sS t.1.length t.2.length)&&decide ((ts.length:Int)<=most)))/\Hid (Kp w wx)) (fun i _=>ts.length-(intOf i).toNat)
 case atStart=>exact⟨0,rfl,aa6 _,HR.out,Kp.refl _⟩
 case round=>
  obtain⟨k,rfl,hk,hT,hK⟩:=hrel;by_cases hj:k<ts.length
  ·have hj':(k:Int)<(ts.length:Int):=by omega
   obtain⟨ad,t,P,e,Q,f,rfl,hlt,ht,hc1,hc2,hTR⟩:=(HRD.out.kp hK.out).at_ hj;have hd:=dA (p:=fun t:T=>sS t.1.length t.2.length) ht;have HC:=lH (HF.out P Q e f t.1.length t.2.length wr hTR.s.len hTR.d.len);obtain⟨q,hq⟩:=eX (sS t.1.length t.2.length);rw[<-hq]at HC hd;have HD:=lH hd;clear hd hq ht
   cases q with
   |true=>
    have HT2:Hid (r=((ts.drop (k+1)).all (fun t=>sS t.1.length t.2.length)&&decide ((ts.length:Int)<=most))):=by show r=_;rw[hT.out,HD.out];simp
    go_wp2_with fail;refine(Hid.out HC).mono ?_;rintro e w5 ⟨rfl,k5⟩;have K5:=lH (hK.out.tr k5);clear k5 HC;go_wp2;go_roundw
    case rel=>exact⟨k+1,by go_num,(by show k+1<=ts.length;omega),HT2.out,K5.out⟩
    case measure=>simp[intOf];omega
   |false=>
    have HT2:Hid (r=false):=by show r=_;rw[hT.out,HD.out];simp
    go_wp2_with fail;refine(Hid.out HC).mono ?_;rintro e w5 ⟨rfl,k5⟩;have K5:=lH (hK.out.tr k5);clear k5 HC;go_wp2;go_ret;exact⟨by rw[HT2.out];rfl,K5.out⟩
  ·have hj':¬(k:Int)<(ts.length:Int):=by omega
   have HT2:Hid (r=decide ((ts.length:Int)<=most)):=by show r=_;rw[hT.out,abU oM];simp
   go_wp2;go_ret;exact⟨by rw[HT2.out];rfl,hK.out⟩
open RowKit ShM PkM ImM
end Go.Proofs.YtokeebkaamjliaaGreat
namespace Go.Proofs.YtokeebkaamjliaaGreat
open RowKit ShM
def Vl(w:World)(X:Nat->Prop)(v:Value)(s:BU):Prop:=
 ∃P c,v= .slice P s.length c/\s.length<=c/\c<=9223372036854775807/\Rd w P s/\∀ad,P=some ad->0<s.length->X ad.block
structure lE(w:World)(X:Nat->Prop)(vs:List Value)(ss:List (BU)):Prop where
 len:vs.length=ss.length
 at_:∀(j:Nat) (p:Value) (t:BU),vs[j]?=some p->ss[j]?=some t->Vl w X p t
def iA(w:World)(X:Nat->Prop)(A:DV)(ss:List (BU)):Prop:=
 ss.length<=9223372036854775807/\∃vs,lE w X vs ss/\(0<ss.length->∃ad,A=some ad/\ad.block<w.heap.size/\∀j u,vs[j]?=some u->w.cell? (ad.add j)=some u)
abbrev RdL(w:World)(A:DV)(ss:List (BU)):Prop:=iA w (fun _=>True) A ss
section
variable{w w':World}{X Y:Nat->Prop}{A:DV}{ts us:List (BU)}{vs zs:List Value}
theorem Vl.mono{p:Value}{t:BU}(h:Vl w X p t)(hk:Kp w w')(hx:∀k,k<w.heap.size->X k->Y k):Vl w' Y p t:=by
 obtain⟨P,c,e,c1,c2,r,x⟩:=h;refine⟨P,c,e,c1,c2,r.kp hk,fun ad h1 h2=>hx _ ?_ (x ad h1 h2)⟩;obtain⟨ad',e',hb,_⟩:=r.2 h2;rw[h1]at e';injection e' with e';subst e';exact hb
theorem lE.mono(h:lE w X vs ts)(hk:Kp w w')(hx:∀k,k<w.heap.size->X k->Y k):lE w' Y vs ts:=⟨h.len,fun j p t h1 h2=>(h.at_ j p t h1 h2).mono hk hx⟩
theorem lE.bU(w:World)(X:Nat->Prop):lE w X [] []:=⟨rfl,fun j p t h=>by simp at h⟩
theorem lE.cons{p:Value}{t:BU}(h:Vl w X p t)(g:lE w X vs ts):lE w X (p::vs) (t::ts):=by
 refine⟨by rw[abg,abg,g.len],fun j q u h1 h2=>?_⟩
 cases j with
 |zero=>
  have e1:p=q:=by simpa using h1
  have e2:t=u:=by simpa using h2
  subst e1 e2;exact h
 |succ j=>exact g.at_ j q u (by simpa using h1) (by simpa using h2)
theorem lE.app(h:lE w X vs ts)(g:lE w X zs us):lE w X (vs++zs) (ts++us):=by
 refine⟨by rw[abf,abf,h.len,g.len],fun j p t h1 h2=>?_⟩;rw[List.getElem?_append]at h1 h2;rw[h.len]at h1;split at h1
 ·rename_i hj;rw[aaW hj]at h2;exact h.at_ j p t h1 h2
 ·rename_i hj;rw[aaT hj]at h2;exact g.at_ _ p t h1 h2
theorem iA.mono(h:iA w X A ts)(hk:Kp w w')(hx:∀k,k<w.heap.size->X k->Y k):iA w' Y A ts:=by
 obtain⟨h1,vs,h2,h3⟩:=h;exact⟨h1,vs,h2.mono hk hx,fun hp=>by
  obtain⟨ad,e,hb,hc⟩:=h3 hp;exact⟨ad,e,abj hb hk.size,fun j u hu=>(hk.cell (by rw[ah];exact hb)).trans (hc j u hu)⟩⟩
theorem iA.kp(h:iA w X A ts)(hk:Kp w w'):iA w' X A ts:=h.mono hk fun _ _ x=>x
theorem iA.all(h:iA w X A ts):RdL w A ts:=h.mono (Kp.refl _) fun _ _ _=>trivial
theorem iA.bU(w:World)(X:Nat->Prop)(A:DV):iA w X A []:=⟨by simp,[],lE.bU _ _,fun h=>absurd h sC⟩
theorem iA.at_(h:iA w X A ts){k:Nat}(hk:k<ts.length):∃ad t P c,A=some ad/\ad.block<w.heap.size/\ts[k]?=some t/\w.cell? (ad.add k)=some (.slice P t.length c)/\Rd w P t/\t.length<=c/\c<=9223372036854775807/\∀ad,P=some ad->0<t.length->X ad.block:=by
 obtain⟨_,vs,hv,hh⟩:=h;obtain⟨ad,e,hb,hc⟩:=hh oM;have hl:=hv.len;have e1:vs[k]?=some vs[k]:=aaV oM;have e2:ts[k]?=some ts[k]:=aaV hk;obtain⟨P,c,ep,c1,c2,r,x⟩:=hv.at_ k _ _ e1 e2;exact⟨ad,ts[k],P,c,e,hb,e2,by rw[hc _ _ e1,ep],r,c1,c2,x⟩
theorem iA.lit(h:lE w X vs ts)(hl:ts.length<=1000)(ty:TypeId):iA (w.alloc (.cells vs.toArray ty)) X (some ⟨w.heap.size,0,none⟩) ts:=
 ⟨oM,vs,h.mono (Kp.af _ _) (fun _ _ x=>x),fun hp=>⟨_,rfl,by simp,fun j u hu=>by
  rw[abh,abw,abB _ ty _ j rfl];simpa using hu⟩⟩
theorem iA.one{P:DV}{s:BU}{c:Nat}(h:Rd w P s)(h1:s.length<=c)(h2:c<=9223372036854775807)(x:∀ad,P=some ad->0<s.length->X ad.block)(ty:TypeId):iA (w.alloc (.cells #[.slice P s.length c] ty)) X (some ⟨w.heap.size,0,none⟩) [s]:=
 iA.lit (lE.cons ⟨P,c,rfl,h1,h2,h,x⟩ (lE.bU _ _)) sC ty
end
end Go.Proofs.YtokeebkaamjliaaGreat
namespace Go.Proofs.YtokeebkaamjliaaGreat
open RowKit ShM GrM InM ImM EvM
def SmT(t:T):Prop:=t.1.length<=100/\t.2.length<=100/\N64 t.1/\N64 t.2
def xh(ts:List T):Prop:=ts.length<=100/\∀t∈ts,SmT t
structure TRc(w:World)(P:DV)(c:Nat)(Q:DV)(d:Nat)(t:T):Prop where
 r:TR w P t.1 Q t.2
 c1:t.1.length<=c/\c<=9223372036854775807
 c2:t.2.length<=d/\d<=9223372036854775807
theorem TRc.kp{w w':World}{P Q:DV}{c d:Nat}{t:T}(h:TRc w P c Q d t)(k:Kp w w'):TRc w' P c Q d t:=⟨h.r.kp k,h.c1,h.c2⟩
def qM(ts:List T)(at_ err:Int)(k:Nat)(w:World)(e:Ending)(w':World):Prop:=
 ∃A c,e= .returned (.tuple #[.slice A k c, .int .i64 at_, .int .i64 err])/\Hid (RdT w' A ts)/\Hid (ts.length<=c/\c<=9223372036854775807)/\Kp w w'
def DQ(t:T)(ps:List T):Bool:=sS t.1.length t.2.length&&MT ps 10
theorem Aq{w:World}{P Q R S:DV}{t u:T}{a b c d:Nat}(h:TRc w P a Q b t)(g:TRc w R c S d u)(ty:TypeId):
  RdT (w.alloc (.cells #[.slice P t.1.length a, .slice Q t.2.length b, .slice R u.1.length c, .slice S u.2.length d] ty)) (some ⟨w.heap.size,0,none⟩) [t,u]:=by
 refine⟨by simp,[(.slice P t.1.length a, .slice Q t.2.length b),(.slice R u.1.length c, .slice S u.2.length d)],⟨rfl,fun j p t' h1 h2=>?_⟩,fun _=>⟨_,rfl,by simp,fun j x hu=>?_⟩⟩
 ·match j with
  |0=>
   have e1:(Value.slice P t.1.length a,Value.slice Q t.2.length b)=p:=by simpa using h1
   have e2:t=t':=by simpa using h2
   subst e1 e2;exact⟨P,a,Q,b,rfl,h.r.af _,fun _ _ _=>trivial,fun _ _ _=>trivial,h.c1,h.c2⟩
  |1=>
   have e1:(Value.slice R u.1.length c,Value.slice S u.2.length d)=p:=by simpa using h1
   have e2:u=t':=by simpa using h2
   subst e1 e2;exact⟨R,c,S,d,rfl,g.r.af _,fun _ _ _=>trivial,fun _ _ _=>trivial,g.c1,g.c2⟩
  |j+2=>simp at h1
 ·rw[abh,abw,abB _ ty _ j rfl];have:(flat [(Value.slice P t.1.length a,Value.slice Q t.2.length b),(Value.slice R u.1.length c,Value.slice S u.2.length d)])[j]?= #[Value.slice P t.1.length a,Value.slice Q t.2.length b,Value.slice R u.1.length c,Value.slice S u.2.length d][j]?:=by simp[flat]
  rw[<-this];exact hu
theorem cx{w:World}{X:Nat->Prop}{A:DV}{ts:List T}(h:RdX w X A ts){k:Nat}{t:T}(ht:ts[k]?=some t):∃ad P c Q d,A=some ad/\ad.block<w.heap.size/\w.cell? (ad.add (k*2))=some (.slice P t.1.length c)/\w.cell? ⟨(ad.add (k*2)).block,(ad.add (k*2)).off+1,none⟩=some (.slice Q t.2.length d)/\TRc w P c Q d t:=by
 obtain⟨ad,u,P,c,Q,d,e,hb,hu,h1,h2,r,_,_,b1,b2⟩:=h.DS (aaU.1 ht).1;rw[ht]at hu;injection hu with hu
 subst hu;exact⟨ad,P,c,Q,d,e,hb,h1,h2,r,b1,b2⟩
open ChangeShapes WideShapes ChangeAt
section
variable{H:Type}{enc:TypeId×Value->H}
theorem Na{n:Int}(h:(Lit.int .i64 n).wf=true): -9223372036854775808<=n/\n<=9223372036854775807:=by
 simp[Lit.wf,IntKind.min,IntKind.max,IntKind.signed,IntKind.bits]at h;omega
end
theorem jH{t:T}{ps:List T}(h:DQ t ps=true):(t.1.length<=100/\t.2.length<=100)/\ps.length<=10/\∀u∈ps,u.1.length<=100/\u.2.length<=100:=by
 unfold DQ MT sS at h;simp only[abb,abn,acz]at h;obtain⟨h1,h2,h3⟩:=h;exact⟨h1,oM,h2⟩
theorem UG{t:T}{ps:List T}(h:DQ t ps=true)(n1:N64 t.1)(n2:N64 t.2):SmT t:=⟨(jH h).1.1,(jH h).1.2,n1,n2⟩
theorem QY{t:T}{ps:List T}(h:DQ t ps=true)(n:∀u∈ps,N64 u.1/\N64 u.2):xh ps:=⟨by have:=(jH h).2.1;omega,fun u hu=>⟨((jH h).2.2 u hu).1,((jH h).2.2 u hu).2,(n u hu).1,(n u hu).2⟩⟩
end Go.Proofs.YtokeebkaamjliaaGreat
namespace Go.Proofs.EvM
open ShM cF GrM InM ImM
def iS(a b:T):Ev:=if a.2.length=0 then(b,0)else tnE (bg 10 a.1 a.2 b.1 b.2)
def cI:BU->List T->List T->List T×Int
 |a::l,b::bs,h=>if(iS (h.getD a.toNat eT) b).2=0 then cI l bs (h.set a.toNat (iS (h.getD a.toNat eT) b).1)else([],(iS (h.getD a.toNat eT) b).2)
 | [],_,h=>(h,0)
 |_::_,[],h=>(h,0)
def Kq(n:Nd)(hang fD:List T)(i:Nat):Ev:=iS (fD.getD (n.2.2.getD 0 0).toNat eT) (hang.getD i eT)
def bkG(n:Nd)(vals hang:List T)(i:Nat):List T×Int:=cU n.1 n.2.2 (cq vals n.2.1) (vals.getD i eT) (hang.getD i eT)
def dD(n:Nd)(vals hang fD:List T)(i:Nat):(List T×List T)×Int:=
 if n.1=2 then(if(Kq n hang fD i).2=0 then((hang,fD.set (n.2.2.getD 0 0).toNat (Kq n hang fD i).1),0)else(([],[]),(Kq n hang fD i).2))
 else if(bkG n vals hang i).2=0 then(if(cI n.2.1 (bkG n vals hang i).1 hang).2=0 then(((cI n.2.1 (bkG n vals hang i).1 hang).1,fD),0)else(([],[]),(cI n.2.1 (bkG n vals hang i).1 hang).2))
 else(([],[]),(bkG n vals hang i).2)
def gY(l:List Nd)(vals:List T)(live:BU):Nat->List T->List T->List T×Int×Int
 |0,_,fD=>(fD,-1,0)
 |i+1,hang,fD=>if live.contains (i:Int)=false then gY l vals live i hang fD else
   if(dD (l.getD i nd0) vals hang fD i).2=0 then gY l vals live i (dD (l.getD i nd0) vals hang fD i).1.1 (dD (l.getD i nd0) vals hang fD i).1.2
   else([],(i:Int),(dD (l.getD i nd0) vals hang fD i).2)
def eY(vals:List T):Nat->List Nd->List T->List T
 |_,[],g=>g
 |i,n::l,g=>eY vals (i+1) l (if n.1=2/\(g.getD (n.2.2.getD 0 0).toNat eT).2.length=0 then g.set (n.2.2.getD 0 0).toNat (tnE (dm (vals.getD i eT).1 0)).1 else g)
def qx(l:List Nd)(vals:List T):List T:=(List.replicate l.length eT).set (l.length-1) (tnE (dm (vals.getD (l.length-1) eT).1 4294967296)).1
def dB(l:List Nd)(vals:List T):List T×Int×Int:=gY l vals (fW l) l.length (qx l vals) (List.replicate 8 eT)
def jE(l:List Nd)(inp:T)(ps:List T):List T×Int×Int×Int:=
 if(fI l inp ps).2.2≠0 then([],0,(fI l inp ps).2.1,(fI l inp ps).2.2)else
 if 1<((fI l inp ps).1.getD (l.length-1) eT).2.length then([],0,(l.length:Int)-1,150)else
 if(dB l (fI l inp ps).1).2.2≠0 then([],0,(dB l (fI l inp ps).1).2.1,(dB l (fI l inp ps).1).2.2)else
 (eY (fI l inp ps).1 0 l (dB l (fI l inp ps).1).1,((fI l inp ps).1.getD (l.length-1) eT).2.getD 0 0,-1,0)
open ShM cF GrM InM ImM
open ShM cF GrM InM ImM
open ShM cF GrM InM ImM
open ShM cF GrM InM ImM
end Go.Proofs.EvM
namespace Go.Proofs.YtokeebkaamjliaaGreat
open RowKit ShM cF GrM InM ImM EvM
theorem mr(w:World):TRc w none 0 none 0 eT:=⟨⟨Rd.nil _ _,Rd.nil _ _⟩,⟨dG,dG⟩,⟨dG,dG⟩⟩
theorem mC:SmT eT:=⟨dG,dG,(fun _ h=>by cases h),fun _ h=>by cases h⟩
theorem Ew:xh []:=⟨dG,fun _ h=>by cases h⟩
theorem xw:dV []:=⟨dG,fun _ h=>by cases h⟩
end Go.Proofs.YtokeebkaamjliaaGreat
namespace Go.Proofs.YtokeebkaamjliaaGreat
open RowKit ShM GrM InM ImM EvM
def PU(ts:List T)(err:Int)(k:Nat)(w:World)(e:Ending)(w':World):Prop:=
 ∃A c,e= .returned (.tuple #[.slice A k c, .int .i64 err])/\Hid (RdT w' A ts)/\Hid (ts.length<=c/\c<=9223372036854775807)/\Kp w w'
