/- Layer 16's calls: what each answers, as one statement each. -/
import Derived.Test.YtokeebkaamjliaaGreatTpM
import Derived.Test.YtokeebkaamjliaaGreatTpH
set_option maxHeartbeats 16000000
set_option maxRecDepth 100000
set_option linter.unusedVariables false
set_option linter.unusedSimpArgs false
namespace Go.Proofs.YtokeebkaamjliaaGreat
open RowKit ShM cF GrM InM ImM EvM
/-- A tape in memory. -/
structure LI(w:World)(A:DV)(c:Nat)(P Q:DV)(e f:Nat)(R:DV)(d:Nat)(V:DV)(vc:Nat)(H:DV)(hc:Nat)(D:DV)(dc:Nat)(t:Tpe):Prop where
 g:RdG w A t.l
 gc:t.l.length<=c/\c<=9223372036854775807
 i:TRc w P e Q f t.inp
 p:RdT w R t.ps
 pc:t.ps.length<=d/\d<=9223372036854775807
 v:RdT w V t.vals
 vc:t.vals.length<=vc/\vc<=9223372036854775807
 h:RdT w H t.hang
 hc:t.hang.length<=hc/\hc<=9223372036854775807
 d:RdT w D t.fD
 dc:t.fD.length<=dc/\dc<=9223372036854775807
theorem LI.kp{w w':World}{A P Q R V H D:DV}{c e f d vc hc dc:Nat}{t:Tpe}(h:LI w A c P Q e f R d V vc H hc D dc t)(k:Kp w w'):LI w' A c P Q e f R d V vc H hc D dc t:=
 ⟨h.g.kp k,h.gc,h.i.kp k,h.p.kp k,h.pc,h.v.kp k,h.vc,h.h.kp k,h.hc,h.d.kp k,h.dc⟩
def E4(t:Tpe)(W:World)(e:Ending)(w':World):Prop:=
 ∃A c P Q e' f R d V vc H hc D dc,e= .returned (.agg #[.slice A t.l.length c, .slice P t.inp.1.length e', .slice Q t.inp.2.length f, .slice R t.ps.length d, .int .i64 t.phase, .int .i64 t.at_, .slice V t.vals.length vc, .slice H t.hang.length hc, .slice D t.fD.length dc, .int .i64 t.err])/\
  Hid (LI w' A c P Q e' f R d V vc H hc D dc t)/\Kp W w'
/-- What the calls answer. -/
structure TpC:Prop where
 begin:∀(A P Q R:DV) (c m a b e f k d:Nat) (l:List Nd) (t:T) (ps:List T) (W:World),RdG W A l->l.length<=c->c<=9223372036854775807->dV l->m=l.length->
   TRc W P e Q f t->SmT t->a=t.1.length->b=t.2.length->RdT W R ps->ps.length<=d->d<=9223372036854775807->xh ps->k=ps.length->
   CJ 6 #[.slice A m c, .agg #[.slice P a e, .slice Q b f], .slice R k d] W (E4 (eM l t ps) W)
 run:∀(A P Q R V H D:DV) (c e f d vc hc dc:Nat) (l:List Nd) (inp:T) (ps:List T) (k:Nat) (t:Tpe) (n:Int) (W:World),LI W A c P Q e f R d V vc H hc D dc t->t=gS k (eM l inp ps)->dV l->SmT inp->xh ps->In64 n->
   CJ 7 #[.agg #[.slice A t.l.length c, .slice P t.inp.1.length e, .slice Q t.inp.2.length f, .slice R t.ps.length d, .int .i64 t.phase, .int .i64 t.at_, .slice V t.vals.length vc, .slice H t.hang.length hc, .slice D t.fD.length dc, .int .i64 t.err], .int .i64 n] W (E4 (gS n.toNat t) W)
 step:∀(A P Q R V H D:DV) (c e f d vc hc dc:Nat) (l:List Nd) (inp:T) (ps:List T) (k:Nat) (t:Tpe) (W:World),LI W A c P Q e f R d V vc H hc D dc t->t=gS k (eM l inp ps)->dV l->SmT inp->xh ps->
   CJ 8 #[.agg #[.slice A t.l.length c, .slice P t.inp.1.length e, .slice Q t.inp.2.length f, .slice R t.ps.length d, .int .i64 t.phase, .int .i64 t.at_, .slice V t.vals.length vc, .slice H t.hang.length hc, .slice D t.fD.length dc, .int .i64 t.err]] W (E4 (gS 1 t) W)
theorem YG(A P Q R:DV)(n a b c e f k d:Nat)(l:List Nd)(t:T)(ps:List T)(w:World)(hn:n=l.length)(ha:a=t.1.length)(hb:b=t.2.length)(hk:k=ps.length)(hL:RdG w A l)(hT:TR w P t.1 Q t.2)(hR:RdT w R ps){q:Bool}(hq:(yP l&&DQ t ps)=q):
    CJ 5 #[.slice A n c, .agg #[.slice P a e, .slice Q b f], .slice R k d] w fun e w'=>e= .returned (.bool q)/\Kp w w':=by
  have la:=hT.s.len;have lb:=hT.d.len;obtain⟨V,hV⟩:∃V,V=w.alloc (.cells #[.slice P a e, .slice Q b f] 25):=⟨_,rfl⟩
  have HV:=lH hV;have F0:Hid (Bk V w.heap.size P a e Q b f):=by show Bk _ _ _ _ _ _ _ _;rw[hV];exact Bk.new rfl
  have K0:Hid (Kp w V):=by show Kp _ _;rw[hV];exact Kp.af _ _
  have HL:Hid (∀W,Kp w W->CJ 12 #[.slice A n c] W fun e w'=>e= .returned (.bool (yP l))/\w'=W):=fun W kw=>by rw[hn];exact xJ A c l W (hL.kp kw)
  have HT:Hid (∀W,CJ 13 #[.agg #[.slice P a e, .slice Q b f]] W fun e w'=>e= .returned (.bool (sS t.1.length t.2.length))/\Kp W w'):=fun W=>by
    rw[ha,hb];exact C3 P Q e f t.1.length t.2.length _ la lb
  have HR:Hid (∀W,Kp w W->CJ 14 #[.slice R k d, .int .i64 10] W fun e w'=>e= .returned (.bool (MT ps 10))/\Kp W w'):=fun W kw=>by rw[hk];exact Al R d ps 10 W (hR.kp kw)
  have p0:=F0.out.c0;have p1:=F0.out.c1;obtain⟨x,hx⟩:∃x,x=yP l:=⟨_,rfl⟩
  obtain⟨y,hy⟩:∃y,y=sS t.1.length t.2.length:=⟨_,rfl⟩
  obtain⟨z,hz⟩:∃z,z=MT ps 10:=⟨_,rfl⟩
  have hq':q=(x&&(y&&z)):=by rw[<-hq,hx,hy,hz];rfl
  rw[<-hx]at HL;rw[<-hy]at HT;rw[<-hz]at HR;clear hq hx hy hz hn ha hb hk hL hT hR la lb hV
  cases x with
  |false=>
    obtain rfl:q=false:=hq';go_enter Tryz.func5,Tryz.ntmps5;go_wp2_with fail;rw[<-HV.out];refine(HL.out _ K0.out).mono ?_;rintro e0 w1 ⟨rfl,rfl⟩;go_wp2;go_ret;exact⟨rfl,K0.out⟩
  |true=>
    cases y with
    |false=>
      obtain rfl:q=false:=hq';go_enter Tryz.func5,Tryz.ntmps5;go_wp2_with fail;rw[<-HV.out];refine(HL.out _ K0.out).mono ?_;rintro e0 w1 ⟨rfl,rfl⟩;go_wp2_with fail;refine(HT.out _).mono ?_;rintro e0 w2 ⟨rfl,k2⟩;have K2:=lH (K0.out.tr k2);clear k2 p0 p1;go_wp2;go_ret;exact⟨rfl,K2.out⟩
    |true=>
      obtain rfl:q=z:=hq';go_enter Tryz.func5,Tryz.ntmps5;go_wp2_with fail;rw[<-HV.out];refine(HL.out _ K0.out).mono ?_;rintro e0 w1 ⟨rfl,rfl⟩;go_wp2_with fail;refine(HT.out _).mono ?_;rintro e0 w2 ⟨rfl,k2⟩;have K2:=lH (K0.out.tr k2);clear k2 p0 p1;go_wp2_with fail;refine(HR.out _ K2.out).mono ?_;rintro e0 w3 ⟨rfl,k3⟩;have K3:=lH (K2.out.tr k3);clear k3;go_wp2;go_ret;exact⟨rfl,K3.out⟩
end Go.Proofs.YtokeebkaamjliaaGreat
namespace Go.Proofs.YtokeebkaamjliaaGreat.Ez
open RowKit ShM GrM InM ImM EvM
theorem Zh{vs:List V3}{k:Nat}(p:V3)(h:k<vs.length)(h0:(vs[k]'h).1=p.1):((dx vs).set (k*3+1) p.2.1).set (k*3+2) p.2.2=dx (vs.set k p):=by
 induction vs generalizing k with
 |nil=>simp at h
 |cons v vs ih=>
  have e:dx (v::vs)=v.1::v.2.1::v.2.2::dx vs:=rfl
  cases k with
  |zero=>
   have e0:v.1=p.1:=h0;rw[e,List.set_cons_zero,show dx (p::vs)=p.1::p.2.1::p.2.2::dx vs from rfl,<-e0];rfl
  |succ k=>
   have h9:=ih (k:=k) (by simpa using h) (by simpa using h0);rw[e,show(k+1)*3+1=k*3+1+1+1+1 by omega,show(k+1)*3+2=k*3+2+1+1+1 by omega,List.set_cons_succ,List.set_cons_succ,List.set_cons_succ,List.set_cons_succ,List.set_cons_succ,List.set_cons_succ,h9];rfl
/-- The first so many nodes of a row have their lists there. -/
def Zy(X:Nat->Prop)(w:World)(g k:Nat):Prop:=∀j,j<k->∃P n a Q m b,w.cell? ⟨g,j*3+1,none⟩=some (.slice P n a)/\w.cell? ⟨g,j*3+2,none⟩=some (.slice Q m b)/\(∀ad,P=some ad->0<n->X ad.block)/\(∀ad,Q=some ad->0<m->X ad.block)
section
variable{w w':World}{S Z:Nat->Prop}{B g n c k:Nat}{X Y:Nat->Prop}{v:Value}{ts:List Nd}
theorem Gw.lt(h:Gw B w v ts){k:Nat}(hk:v.ownBlock=some k):B<=k/\k<w.heap.size:=by
 obtain⟨vs,h,_⟩:=h;exact h.lt k hk
theorem Kq.aan(h:Kq S Z w w')(r:Gw B w v ts)(hz:∀k,¬Z k)(hv:∀g,v.ownBlock=some g->¬S g):Gw B w' v ts:=by
 have hr:=fun k=>r.lt (k:=k)
 obtain⟨vs,⟨h1,h2⟩,hv2⟩:=r;refine⟨vs,⟨h1,?_⟩,⟨hv2.len,fun j p t e1 e2=>h.vn (hv2.at_ j p t e1 e2) fun k _=>hz k⟩⟩;rcases h2 with h0|⟨g,cap,cur,rfl,hb,hg,r⟩
 · exact .inl h0
 · exact .inr ⟨g,cap,cur,rfl,hb,(h.block g (hr g rfl).2 (hv g rfl)).trans hg,r⟩
theorem Gw.kp(h:Gw B w v ts)(k:Kp w w'):Gw B w' v ts:=(Kq.kp (S:=fun _=>False) (Z:=fun _=>False) k).aan h (fun _ h=>h) fun _ _ h=>h
theorem Zy.kp(h:Zy X w g k)(kk:Kp w w'):Zy X w' g k:=fun j hj=>by
 obtain⟨P,n,a,Q,m,b,c1,c2,x⟩:=h j hj;exact⟨P,n,a,Q,m,b,Iz.ay c1 kk,Iz.ay c2 kk,x⟩
theorem Zy.put(h:Zy X w g k){P Q:DV}{n a m b:Nat}(c1:(w.cell? ⟨g,k*3+1,none⟩).isSome=true)(c2:(w.cell? ⟨g,k*3+2,none⟩).isSome=true)(xP:∀ad,P=some ad->0<n->X ad.block)(xQ:∀ad,Q=some ad->0<m->X ad.block):
  Zy X ((w.setCell ⟨g,k*3+1,none⟩ (.slice P n a)).setCell ⟨g,k*3+2,none⟩ (.slice Q m b)) g (k+1):=fun j hj=>by
 have ne:∀{x y:Nat},x≠y->(⟨g,x,none⟩:Addr)≠⟨g,y,none⟩:=fun h e=>h (by injection e)
 by_cases e:j=k
 · subst e
   obtain⟨u,hu⟩:=Option.isSome_iff_exists.1 c1;obtain⟨v,hv⟩:=Option.isSome_iff_exists.1 c2;refine⟨P,n,a,Q,m,b,bp (ne oM) ?_,?_,xP,xQ⟩
   · exact World.cell?_setCell_same _ _ _ hu
   · have h9:=bp (w:=w) (u:= .slice P n a) (ne (x:=j*3+1) (y:=j*3+2) oM) hv
     exact World.cell?_setCell_same _ _ _ h9
 · obtain⟨P',n',a',Q',m',b',d1,d2,x⟩:=h j oM
   exact⟨P',n',a',Q',m',b',bp (ne oM) (bp (ne oM) d1),bp (ne oM) (bp (ne oM) d2),x⟩
theorem Gw.num(h:Gw B w (.slice (some ⟨g,0,none⟩) n c) ts):n=ts.length:=by
 obtain⟨vs,h,_⟩:=h;rcases h.2 with⟨e,_⟩|⟨g',cap,cur,e,_⟩
 · cases e
 · injection e
theorem Gw.at_(h:Gw B w (.slice (some ⟨g,0,none⟩) n c) ts){k:Nat}(hk:k<ts.length):
  (∃P a Q b,w.cell? ⟨g,k*3,none⟩=some (.int .i64 (ts.getD k nd0).1)/\w.cell? ⟨g,k*3+1,none⟩=some (.slice P (ts.getD k nd0).2.1.length a)/\w.cell? ⟨g,k*3+2,none⟩=some (.slice Q (ts.getD k nd0).2.2.length b)/\Rd w P (ts.getD k nd0).2.1/\Rd w Q (ts.getD k nd0).2.2)/\∀i,w.frozen? ⟨g,i,none⟩=false:=by
 have hn:=h.num;subst hn;obtain⟨vs,hown,hv⟩:=h;have e1:vs[k]?=some (vs[k]'(by rw[hv.len];exact hk)):=aaV _;have e2:ts[k]?=some ts[k]:=aaV hk;have e3:ts.getD k nd0=ts[k]:=by rw[aaS,e2];rfl
 obtain⟨P,a,Q,b,ep,_,_,_,_,r⟩:=hv.at_ k _ _ e1 e2;obtain⟨f0,f1,f2⟩:=wF e1;rw[ep]at f0 f1 f2;rw[e3];refine⟨⟨P,a,Q,b,?_,?_,?_,r.ra,r.rn⟩,fun i=>World.ownsRow.frozenAt hown i⟩
 · rw[World.ownsRow.cellAt hown _ oM];exact f0
 · rw[World.ownsRow.cellAt hown _ oM];exact f1
 · rw[World.ownsRow.cellAt hown _ oM];exact f2
theorem Gw.put{P Q:DV}{a b k:Nat}(h:Gw B w (.slice (some ⟨g,0,none⟩) n c) ts)(hk:k<ts.length)(hP:Sl w P a (ts.getD k nd0).2.1)(hQ:Sl w Q b (ts.getD k nd0).2.2):
  Gw B ((w.setCell ⟨g,k*3+1,none⟩ (.slice P (ts.getD k nd0).2.1.length a)).setCell ⟨g,k*3+2,none⟩ (.slice Q (ts.getD k nd0).2.2.length b)) (.slice (some ⟨g,0,none⟩) n c) ts/\Kq (fun j=>j=g) (fun _=>False) w ((w.setCell ⟨g,k*3+1,none⟩ (.slice P (ts.getD k nd0).2.1.length a)).setCell ⟨g,k*3+2,none⟩ (.slice Q (ts.getD k nd0).2.2.length b)):=by
 obtain⟨⟨P0,a0,Q0,b0,c0,c1,c2,_⟩,_⟩:=h.at_ hk;have hn:=h.num;subst hn;obtain⟨vs,hown,hv⟩:=h;have e3:ts.getD k nd0=ts[k]:=by rw[aaS,aaV hk];rfl
 rw[e3]at c0 c1 c2 hP hQ⊢;have hK:Kq (fun j=>j=g) (fun _=>False) w ((w.setCell ⟨g,k*3+1,none⟩ (.slice P ts[k].2.1.length a)).setCell ⟨g,k*3+2,none⟩ (.slice Q ts[k].2.2.length b)):=
  (Kq.over (S:=fun j=>j=g) (Z:=fun _=>False) (p:=⟨g,k*3+1,none⟩) rfl ⟨_,_,_,c1⟩ _).tr (Kq.over (S:=fun j=>j=g) (Z:=fun _=>False) (p:=⟨g,k*3+2,none⟩) rfl ⟨_,_,_,bp (fun e=>by injection e with _ e;omega) c2⟩ _)
 have hkv:k<vs.length:=by rw[hv.len];exact hk
 obtain⟨P1,a1,Q1,b1,ep,_⟩:=hv.at_ k _ _ (aaV hkv) (aaV hk);refine⟨⟨vs.set k (.int .i64 ts[k].1, .slice P ts[k].2.1.length a, .slice Q ts[k].2.2.length b),?_,⟨by rw[abr,hv.len],fun j p t' e1 e2=>?_⟩⟩,hK⟩
 · have s2:=(World.ownsRow.stored (World.ownsRow.stored hown (k*3+1) (.slice P ts[k].2.1.length a)).1 (k*3+2) (.slice Q ts[k].2.2.length b)).1
   rw[Zh (.int .i64 ts[k].1, .slice P ts[k].2.1.length a, .slice Q ts[k].2.2.length b) hkv (by rw[ep])]at s2;exact s2
 · rw[List.getElem?_set]at e1
   by_cases e:k=j
   · subst e
     rw[aaW rfl,aaW hkv]at e1;rw[aaV hk]at e2;injection e1 with e1
     injection e2 with e2
     subst e1 e2;exact hK.vn ⟨P,a,Q,b,rfl,hP.le,hP.cap,hQ.le,hQ.cap,⟨hP.rd,hQ.rd,fun _ _ _=>trivial,fun _ _ _=>trivial⟩⟩ fun _ _ h=>h
   · rw[aaT e]at e1
     exact hK.vn (hv.at_ j p t' e1 e2) fun _ _ h=>h
end
/-- Nodes in a row of the call's own, all of whose lists lie there. -/
def Yz(B:Nat)(X:Nat->Prop)(w:World)(v:Value)(ts:List Nd):Prop:=∃vs,w.ownsRow B 39 3 v ts.length (dx vs)/\fM w X vs ts
section
variable{w w':World}{S Z:Nat->Prop}{B g n c k:Nat}{X Y:Nat->Prop}{v:Value}{ts:List Nd}
theorem Gw.loc(h:Gw B w (.slice (some ⟨g,0,none⟩) n c) ts)(hl:Zy X w g ts.length):Yz B X w (.slice (some ⟨g,0,none⟩) n c) ts:=by
 have hn:=h.num;subst hn;obtain⟨vs,hown,hv⟩:=h;refine⟨vs,hown,hv.len,fun j p t e1 e2=>?_⟩;obtain⟨P,a,Q,b,ep,q1,q2,q3,q4,r⟩:=hv.at_ j p t e1 e2;have hj:j<ts.length:=(aaU.1 e2).1;obtain⟨P',n',a',Q',m',b',c1,c2,x1,x2⟩:=hl j hj;obtain⟨_,f1,f2⟩:=wF e1;rw[World.ownsRow.cellAt hown _ oM,f1,ep]at c1;rw[World.ownsRow.cellAt hown _ oM,f2,ep]at c2;injection c1 with c1
 injection c1 with z1 z2 z3
 injection c2 with c2
 injection c2 with z4 z5 z6
 subst z1 z2 z4 z5;exact⟨P,a,Q,b,ep,q1,q2,q3,q4,⟨r.ra,r.rn,x1,x2⟩⟩
theorem Gw.aav(h:Gw B w v []):Yz B X w v []:=by
 obtain⟨vs,hown,hv⟩:=h;obtain rfl:vs=[]:=abd hv.len;exact⟨[],hown,fM.bU _ _⟩
theorem Yz.lt(h:Yz B X w v ts){k:Nat}(hk:v.ownBlock=some k):B<=k/\k<w.heap.size:=by
 obtain⟨vs,h,_⟩:=h;exact h.lt k hk
theorem Kq.Zd(h:Kq S Z w w')(r:Yz B X w v ts)(hx:∀k,X k->¬Z k)(hv:∀g,v.ownBlock=some g->¬S g):Yz B X w' v ts:=by
 have hr:=fun k=>r.lt (k:=k)
 obtain⟨vs,⟨h1,h2⟩,hv2⟩:=r;refine⟨vs,⟨h1,?_⟩,⟨hv2.len,fun j p t e1 e2=>h.vn (hv2.at_ j p t e1 e2) hx⟩⟩;rcases h2 with h0|⟨g,cap,cur,rfl,hb,hg,r⟩
 · exact .inl h0
 · exact .inr ⟨g,cap,cur,rfl,hb,(h.block g (hr g rfl).2 (hv g rfl)).trans hg,r⟩
theorem Yz.xm(h:Yz B X w v ts)(hx:∀k,k<w.heap.size->X k->Y k):Yz B Y w v ts:=by
 obtain⟨vs,h1,h2⟩:=h;exact⟨vs,h1,h2.mono (Kp.refl _) hx⟩
theorem Yz.form(h:Yz B X w v ts):∃A c,v= .slice A ts.length c/\RdN w X A ts/\ts.length<=c/\c<=9223372036854775807:=by
 obtain⟨vs,ho,hv⟩:=h;have ho':=ho;rcases ho.2 with⟨rfl,h0⟩|⟨g,cap,cur,rfl,_,hh,hn,hc,hcs,ht⟩
 · have:ts=[]:=abd h0
   subst this;exact⟨none,0,rfl,RdN.bU _ _ _,by simp,by simp⟩
 · have hc':cap<=9223372036854775807:=by unfold maxLen at hc;omega
   refine⟨_,cap,rfl,⟨oM,vs,hv,fun hp=>⟨_,rfl,(aa0.1 hh).1,fun j u hu=>?_⟩⟩,hn,hc'⟩;have hj:j<ts.length*3:=by have:=(aaU.1 hu).1;rw[iq,hv.len]at this;exact this
   rw[abh,abw,World.ownsRow.cellAt ho' j hj];exact hu
theorem Yz.bm{B':Nat}(h:Yz B X w v ts)(hb:B'<=B):Yz B' X w v ts:=by
 obtain⟨vs,⟨h1,h2⟩,hv⟩:=h;refine⟨vs,⟨h1,?_⟩,hv⟩;rcases h2 with h0|⟨g,cap,cur,e,hb',r⟩
 · exact .inl h0
 · exact .inr ⟨g,cap,cur,e,ab3 hb hb',r⟩
theorem zf.xm{us:List T}(h:zf B X w v us)(hx:∀k,k<w.heap.size->X k->Y k):zf B Y w v us:=by
 obtain⟨⟨vs,h1,h2⟩,h3⟩:=h;exact⟨⟨vs,h1,h2.mono (Kp.refl _) hx⟩,h3⟩
theorem zf.bm{B':Nat}{us:List T}(h:zf B X w v us)(hb:B'<=B):zf B' X w v us:=by
 obtain⟨⟨vs,⟨h1,h2⟩,hv⟩,h3⟩:=h;refine⟨⟨vs,⟨h1,?_⟩,hv⟩,h3⟩;rcases h2 with h0|⟨g,cap,cur,e,hb',r⟩
 · exact .inl h0
 · exact .inr ⟨g,cap,cur,e,ab3 hb hb',r⟩
end
/-- No two lie in one row. -/
def Ap(l:List Value):Prop:=l.Pairwise fun x y=>∀k,x.ownBlock=some k->y.ownBlock≠some k
/-- A tape's parts, each in memory of the call's own. -/
structure Ts(B:Nat)(X:Nat->Prop)(w:World)(G:Value)(P:DV)(e:Nat)(Q:DV)(f:Nat)(R V H D:Value)(t:Tpe):Prop where
 g:Yz B X w G t.l
 ip:Sl w P e t.inp.1/\∀ad,P=some ad->0<t.inp.1.length->X ad.block
 iq:Sl w Q f t.inp.2/\∀ad,Q=some ad->0<t.inp.2.length->X ad.block
 p:zf B X w R t.ps
 v:zf B X w V t.vals
 h:zf B X w H t.hang
 d:zf B X w D t.fD
 ap:Ap [G,R,V,H,D]
def Xb(B b:Nat)(k:Nat):Prop:=B<=k/\k≠b
/-- A reel in memory. -/
structure Rl(B b:Nat)(w:World)(G:Value)(P:DV)(e:Nat)(Q:DV)(f:Nat)(R V H D:Value)(t:Tpe):Prop where
 bx:Bx w b [G, .slice P t.inp.1.length e, .slice Q t.inp.2.length f,R, .int .i64 t.phase, .int .i64 t.at_,V,H,D, .int .i64 t.err] 51
 lb:B<=b
 nb:∀x∈[G,R,V,H,D],x.ownBlock≠some b
 ts:Ts B (Xb B b) w G P e Q f R V H D t
