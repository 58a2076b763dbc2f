/- A row of tensors that the call itself appends to, whatever its room: its cells are slices, so no numbers lie in it. -/
import Derived.Test.YtokeebkaamjliaaGreatEvZa
set_option maxRecDepth 100000
set_option maxHeartbeats 16000000
set_option linter.unusedVariables false
set_option linter.unusedSimpArgs false
namespace Go.Proofs.YtokeebkaamjliaaGreat.Ez
open RowKit ShM GrM InM ImM
set_option linter.unusedVariables false
set_option linter.unusedSimpArgs false
set_option maxHeartbeats 4000000
/-- All cells of the block are slices. -/
def Slc(w:World)(g:Nat):Prop:=∃cur t,w.heap[g]?=some (.cells cur t (0,0))/\∀u∈cur.toList,∃A n c,u=Value.slice A n c
/-- A row of tensors that the call itself appends to; X: where their numbers may lie. -/
def zf(B:Nat)(X:Nat->Prop)(w:World)(v:Value)(ts:List T):Prop:=(∃vs,w.ownsRow B 25 2 v ts.length (flat vs)/\iO w X vs ts)/\∀g,v.ownBlock=some g->Slc w g
section
variable{w w':World}{B:Nat}{X:Nat->Prop}{v:Value}{ts:List T}
theorem Slc.kp{g:Nat}(h:Slc w g)(k:Kp w w'):Slc w' g:=by
  obtain⟨cur,t,h1,h2⟩:=h;exact⟨cur,t,(k.block g (aa0.1 h1).1).trans h1,h2⟩
theorem Slc.apart{g:Nat}(h:Slc w g){A:DV}{xs:BU}(r:Rd w A xs):∀ad,A=some ad->0<xs.length->ad.block≠g:=by
  rintro ad rfl hpos e;obtain⟨cur,t,hb,hs⟩:=h;obtain⟨ad',e',_,hc⟩:=r.2 hpos;injection e' with e'
  subst e';have h0:=hc 0 _ (aaV hpos);have e1:ad.add 0=ad:=by unfold Addr.add;simp
  rw[e1]at h0;simp only[World.cell?]at h0;rw[e,hb]at h0;have h0:ad.spot=none/\cur[ad.off]?=some (Value.int IntKind.i64 xs[0]):=by simpa using h0
  have hm:Value.int IntKind.i64 xs[0]∈cur.toList:=by
    have:=Array.mem_of_getElem? h0.2;simpa using this
  obtain⟨A,n,c,e⟩:=hs _ hm
  cases e
theorem zf.bU(w:World)(B:Nat):zf B X w (.slice none 0 0) []:=⟨⟨[],World.ownsRow_nil w B _ 2,iO.bU _ _⟩,fun g h=>by cases h⟩
theorem zf.lt(h:zf B X w v ts){k:Nat}(hk:v.ownBlock=some k):B<=k/\k<w.heap.size:=by
  obtain⟨⟨vs,h,_⟩,_⟩:=h;exact h.lt k hk
theorem zf.kp(h:zf B X w v ts)(k:Kp w w'):zf B X w' v ts:=by
  have hr:=fun k=>h.lt (k:=k)
  obtain⟨⟨vs,⟨h1,h2⟩,hv⟩,hs⟩:=h;refine⟨⟨vs,⟨h1,?_⟩,hv.mono k fun _ _ x=>x⟩,fun g e=>(hs g e).kp k⟩;rcases h2 with h0|⟨g,cap,cur,rfl,hb,hg,r⟩
  · exact .inl h0
  · exact .inr ⟨g,cap,cur,rfl,hb,(k.block g (hr g rfl).2).trans hg,r⟩
theorem zf.form(h:zf B X w v ts):∃A c,v= .slice A ts.length c/\RdX w X A ts/\ts.length<=c/\c<=9223372036854775807:=by
  obtain⟨⟨vs,ho,hv⟩,_⟩:=h;have ho':=ho;rcases ho.2 with⟨rfl,h0⟩|⟨g,cap,cur,rfl,_,hh,hn,hc,hcs,ht⟩
  · have:ts=[]:=abd h0
    subst this;exact⟨none,0,rfl,RdX.bU _ _ _,by simp,by simp⟩
  · have hc':cap<=9223372036854775807:=by unfold maxLen at hc;omega
    refine⟨_,cap,rfl,⟨oM,vs,hv,fun hp=>⟨_,rfl,(aa0.1 hh).1,fun j u hu=>?_⟩⟩,hn,hc'⟩;have hj:j<ts.length*2:=by have:=(aaU.1 hu).1;rw[dO,hv.len]at this;exact this
    rw[abh,abw,World.ownsRow.cellAt ho' j hj];exact hu
theorem Slc.vt{row:Option Nat}{p:V2}{t:T}(hs:∀g,row=some g->Slc w g)(hg:w.grownBy w' row)(h:Vt w X p t):Vt w' X p t:=by
  obtain⟨A,c,B,d,e,r,x1,x2,b12⟩:=h;exact⟨A,c,B,d,e,⟨wm hg r.s fun ad e1 e2 e3=>(hs _ e3).apart r.s ad e1 e2 rfl,wm hg r.d fun ad e1 e2 e3=>(hs _ e3).apart r.d ad e1 e2 rfl⟩,x1,x2,b12⟩
theorem zj(n:Nat):∀u∈(Builtin.zeroCells #[Value.slice none 0 0,Value.slice none 0 0] n).toList,∃A m c,u=Value.slice A m c:=fun u hu=>by
  simp only[Builtin.zeroCells,Array.toList_map,abN]at hu;obtain⟨i,_,rfl⟩:=hu;have h2:i%2=0∨i%2=1:=by omega
  rcases h2 with e|e
  · exact⟨none,0,0,by simp[e]⟩
  · exact⟨none,0,0,by simp[e]⟩
/-- What append of some leaves. -/
theorem zf.apps(h:zf B X w v ts)(a:Addr)(us:List T)(hu:0<us.length)(c:Nat)(hr:RdX w X (some a) us)(hs:ts.length+us.length<=1000000)(hB:B<=w.heap.size)(ty:TypeId):
    ∃A' c' w',(Builtin.append_ #[26,26] ty #[v, .slice (some a) us.length c]).run Tryz.prog w= .ok (.slice A' (ts.length+us.length) c') w'/\zf B X w' (.slice A' (ts.length+us.length) c') (ts++us)/\Below B w w'/\(∀k,k<w.heap.size->some k≠v.ownBlock->w'.heap[k]?=w.heap[k]?)/\((Value.slice A' (ts.length+us.length) c').ownBlock=v.ownBlock∨(Value.slice A' (ts.length+us.length) c').ownBlock=some w.heap.size):=by
  obtain⟨i,hi,hz,h1,h2⟩:=info_parts mA;have qw:=fun k=>(h.lt (k:=k))
  obtain⟨⟨vs,hown,hv⟩,hS⟩:=h;obtain⟨q1,qs,hq,hh⟩:=hr;obtain⟨ad,ea,_,hcell⟩:=hh hu;injection ea with ea
  subst ea;have hql:(flat qs).length=us.length*2:=by rw[dO,hq.len]
  have hqs:=gC hq;have hvs:=gC hv;have hvl:(flat vs).length=ts.length*2:=hown.1;have hone:∀u∈flat qs,u.oneCell'=true:=fun u hu=>by obtain⟨A,x,y,rfl⟩:=hqs u hu;rfl
  have hzc:(Value.agg #[.slice none 0 0, .slice none 0 0]).cells= #[Value.slice none 0 0,Value.slice none 0 0]:=rfl;obtain⟨v',w',hrun,gX,hg,_,hrow⟩:=run_append_own_at (P:=Tryz.prog) w B 26 ty 25 i _ 2 48 Tryz.underlying26 hi hz h1 h2 rfl oM _ _ _ hown a us.length c (flat qs) hql hcell hone (by unfold maxLen;omega) oM hB;have hA:iO w' X (vs++qs) (ts++us):=(⟨hv.len,fun j p t g1 g2=>Slc.vt hS hg (hv.at_ j p t g1 g2)⟩:iO w' X vs ts).app ⟨hq.len,fun j p t g1 g2=>Slc.vt hS hg (hq.at_ j p t g1 g2)⟩;obtain⟨A',c',rfl⟩:∃A' c',v'= .slice A' (ts.length+us.length) c':=by
    rcases gX.2 with⟨_,h0⟩|⟨g,cap,cur,e,_⟩
    · omega
    · exact⟨_,_,e⟩
  refine⟨A',c',w',hrun,⟨⟨vs++qs,by rw[abf,iY];exact gX,hA⟩,?_⟩,(abu _ _).grown hg hB (fun k hk=>(qw k hk).1),fun k hk hne=>hg.block k hk hne,hrow⟩;intro g hg;rcases hown.2 with⟨rfl,h0⟩|⟨b,cap,cur,rfl,hbg,hb,hnc,hcm,hcs,htake⟩
  · have hr':=run_append_nil (P:=Tryz.prog) w 26 ty 25 i _ Tryz.underlying26 hi hz a us.length c (flat qs) (by rw[h1];exact hql) hcell hu oM (by rw[h2];omega)
    have e0:(Value.slice none 0 0)= .slice none 0 0:=rfl;rw[hr']at hrun;injection hrun with e1 e2
    injection e1 with e3 e4 e5
    subst e2 e3;have hgw:w.heap.size=g:=by simpa [Value.ownBlock]using hg
    subst hgw;refine⟨_,_,heap_alloc_new w.drew _,fun u hu=>?_⟩;rw[hzc]at hu;simp only[Array.toList_append,acg]at hu;rcases hu with hu|hu
    · exact hqs u hu
    · exact zj _ u hu
  · by_cases hroom:ts.length+us.length<=cap
    · have hr':=run_append_room (P:=Tryz.prog) w 26 ty 25 i Tryz.underlying26 hi b ts.length cap cur hb a us.length c (flat qs) (by rw[h1];exact hql) hcell hone hroom (by rw[h1,hql,hcs];omega)
      rw[hr']at hrun;injection hrun with e1 e2
      injection e1 with e3 e4 e5
      subst e2 e3;have hgw:b=g:=by simpa [Value.ownBlock]using hg
      subst hgw;obtain⟨WK,t2,hb2,hsl⟩:=hS b rfl;rw[hb]at hb2;injection hb2 with hb2
      injection hb2 with e6 e7 e8
      subst e6;refine⟨_,_,setRow_heap w b cur _ _ _ hb,fun u hu=>?_⟩;simp only[acA,acg]at hu;rcases hu with hu|hu|hu
      · exact hsl u (List.mem_of_mem_take hu)
      · exact hqs u hu
      · exact hsl u (List.mem_of_mem_drop hu)
    · have holds:∀j u,(flat vs)[j]?=some u->w.cell? ((⟨b,0,none⟩:Addr).add j)=some u:=hown.cells (g:=b) rfl
      have hr':=run_append_grow (P:=Tryz.prog) w 26 ty 25 i _ Tryz.underlying26 hi hz ⟨b,0,none⟩ ts.length cap (flat vs) (by rw[h1];exact hvl) holds a us.length c (flat qs) (by rw[h1];exact hql) hcell oM oM (growslice_fits oM (by rw[h2];omega));rw[hr']at hrun;injection hrun with e1 e2
      injection e1 with e3 e4 e5
      subst e2 e3;have hgw:w.heap.size=g:=by simpa [Value.ownBlock]using hg
      subst hgw;refine⟨_,_,heap_alloc_new w.drew _,fun u hu=>?_⟩;rw[hzc]at hu;simp only[Array.toList_append,acg]at hu;rcases hu with(hu|hu)|hu
      · exact hvs u hu
      · exact hqs u hu
      · exact zj _ u hu
theorem zf.app(h:zf B X w v ts)(a:Addr)(t:T)(c:Nat)(hr:RdX w X (some a) [t])(hs:ts.length+1<=1000000)(hB:B<=w.heap.size)(ty:TypeId):
    ∃A' c' w',(Builtin.append_ #[26,26] ty #[v, .slice (some a) 1 c]).run Tryz.prog w= .ok (.slice A' (ts.length+1) c') w'/\zf B X w' (.slice A' (ts.length+1) c') (ts++[t])/\Below B w w'/\(∀k,k<w.heap.size->some k≠v.ownBlock->w'.heap[k]?=w.heap[k]?)/\((Value.slice A' (ts.length+1) c').ownBlock=v.ownBlock∨(Value.slice A' (ts.length+1) c').ownBlock=some w.heap.size):=h.apps a [t] sC c hr hs hB ty
/-- append, for the walk: of a tensor whose numbers lie wherever. -/
theorem qQ{ops:Array Oper}{rest:List Oper}{o:Oper}{a:Act}{Q:Exit->Act->World->Prop}(hgd:Region.wanted o (yielded ops a.tmps)=true)(s x:Operand)
    (hop:o.op= .call {callee:= .builtin .append,args:= #[s,x],argTypes:= #[26,26]})
    (v:Value)(hs:a.eval s=v)(ho:zf B X w v ts)(n:Nat)(hn:n=ts.length)(ad:Addr)(c:Nat)(t:T)(hx:a.eval x= .slice (some ad) 1 c)(hr:RdX w X (some ad) [t])(hl:ts.length+1<=1000000)(hB:B<=w.heap.size)
    (h:∀A' c' w',zf B X w' (.slice A' (n+1) c') (ts++[t])->Below B w w'->(∀k,k<w.heap.size->some k≠v.ownBlock->w'.heap[k]?=w.heap[k]?)->wpList Tryz.prog ops Q rest (a.put o.dst (.slice A' (n+1) c')) w'):wpList Tryz.prog ops Q (o::rest) a w:=by
  refine BigFrame.wpList_want hgd fun K hK=>?_
  subst hn;obtain⟨A',c',w',hrun,h1,h2,h3,_⟩:=ho.app ad t c hr hl hB o.type;unfold Oper.wp execOp;simp only[hop,resolve,invoke,builtin,acX,acW,acr,ab7,abT,ack,hs,hx,hrun];exact hK _ _ (h A' c' w' h1 h2 h3)
end
end Go.Proofs.YtokeebkaamjliaaGreat.Ez
namespace Go.Proofs.YtokeebkaamjliaaGreat.Ez
open RowKit ShM GrM InM ImM EvM
/-- Blocks of S may change; ints, those of Z alone. -/
structure Kq(S Z:Nat->Prop)(w w':World):Prop where
 os:w'.os=w.os
 tape:w'.tape=w.tape
 output:w'.output=w.output
 size:w.heap.size<=w'.heap.size
 block:∀k,k<w.heap.size->¬S k->w'.heap[k]?=w.heap[k]?
 int:∀(a:Addr) (u:Int),¬Z a.block->w.cell? a=some (.int .i64 u)->w'.cell? a=some (.int .i64 u)
section
variable{S Z S':Nat->Prop}{w v w':World}{A:DV}{xs:BU}
theorem Kq.kp(h:Kp w w'):Kq S Z w w':=⟨h.os,h.tape,h.output,h.size,fun k hk _=>h.block k hk,fun a u _ hc=>(h.cell (yu hc)).trans hc⟩
theorem Kq.refl(w:World):Kq S Z w w:=Kq.kp (Kp.refl w)
theorem Kq.tr(h:Kq S Z w v)(k:Kq S Z v w'):Kq S Z w w':=
 ⟨k.os.trans h.os,k.tape.trans h.tape,k.output.trans h.output,ab3 h.size k.size,fun j hj hs=>(k.block j (abj hj h.size) hs).trans (h.block j hj hs),fun a u hz hc=>k.int a u hz (h.int a u hz hc)⟩
theorem Kq.mo{Z':Nat->Prop}(h:Kq S Z w w')(hs:∀k,S k->S' k)(hz:∀k,Z k->Z' k):Kq S' Z' w w':=⟨h.os,h.tape,h.output,h.size,fun k hk hn=>h.block k hk fun e=>hn (hs k e),fun a u hn=>h.int a u fun e=>hn (hz _ e)⟩
theorem Kq.to{w0:World}(h:Kq S Z w w')(k:Kp w0 w)(hs:∀j,S j->w0.heap.size<=j):Kp w0 w':=
 ⟨h.os.trans k.os,h.tape.trans k.tape,h.output.trans k.output,ab3 k.size h.size,fun j hj=>(h.block j (abj hj k.size) fun e=>by have:=hs j e;omega).trans (k.block j hj)⟩
theorem Kq.over{p:Addr}(hp:S p.block)(hc:∃B n c,w.cell? p=some (.slice B n c))(u:Value):Kq S Z w (w.setCell p u):=by
 obtain⟨B,n,c,hc⟩:=hc;refine⟨rfl,rfl,rfl,Nat.le_of_eq (abG ..).symm,fun k _ hn=>abq _ _ _ k (fun e=>hn (by rw[e];exact hp)),fun a u' _ h=>bp (fun e=>?_) h⟩;subst e;rw[hc]at h
 cases h
theorem Kq.aaw{p:Addr}(hp:S p.block)(hz:Z p.block)(u:Value):Kq S Z w (w.setCell p u):=
 ⟨rfl,rfl,rfl,Nat.le_of_eq (abG ..).symm,fun k _ hn=>abq _ _ _ k (fun e=>hn (by rw[e];exact hp)),fun a u' hn h=>bp (fun e=>hn (by rw[<-e];exact hz)) h⟩
theorem Kq.rd(h:Kq S Z w w')(r:Rd w A xs)(ha:0<xs.length->∀ad,A=some ad->¬Z ad.block):Rd w' A xs:=
 ⟨r.1,fun h0=>by
  obtain⟨ad,e,hb,hc⟩:=r.2 h0;exact⟨ad,e,abj hb h.size,fun j u hu=>h.int _ u (by rw[ah];exact ha h0 ad e) (hc j u hu)⟩⟩
theorem Kq.vt{X:Nat->Prop}{p:V2}{t:T}(h:Kq S Z w w')(r:Vt w X p t)(hx:∀k,X k->¬Z k):Vt w' X p t:=by
 obtain⟨A,c,B,d,e,r,x1,x2,b⟩:=r;exact⟨A,c,B,d,e,⟨h.rd r.s fun h0 ad e1=>hx _ (x1 ad e1 h0),h.rd r.d fun h0 ad e1=>hx _ (x2 ad e1 h0)⟩,x1,x2,b⟩
theorem Kq.vn{X:Nat->Prop}{p:V3}{t:Nd}(h:Kq S Z w w')(r:Vn w X p t)(hx:∀k,X k->¬Z k):Vn w' X p t:=by
 obtain⟨A,c,B,d,e,c1,c2,d1,d2,r⟩:=r;exact⟨A,c,B,d,e,c1,c2,d1,d2,⟨h.rd r.ra fun h0 ad e1=>hx _ (r.xa ad e1 h0),h.rd r.rn fun h0 ad e1=>hx _ (r.xn ad e1 h0),r.xa,r.xn⟩⟩
theorem Kq.cells(h:Kq S Z w w'){ad:Addr}{cs:List Value}(hb:ad.block<w.heap.size)(ha:¬S ad.block)(hc:∀(j:Nat) u,cs[j]?=some u->w.cell? (ad.add j)=some u):∀(j:Nat) u,cs[j]?=some u->w'.cell? (ad.add j)=some u:=fun j u hu=>by
 rw[World.cell?_of_block (w:=w) (a:=ad.add j) (by rw[ah];exact h.block _ hb ha)];exact hc j u hu
theorem Kq.bx{b:Nat}{cs:List Value}{t:TypeId}(h:Kq S Z w w')(hb:Bx w b cs t)(hs:¬S b):Bx w' b cs t:=(h.block b hb.lt hs).trans hb
theorem Kq.row{B:Nat}{X:Nat->Prop}{x:Value}{ts:List T}(h:Kq S Z w w')(r:zf B X w x ts)(hx:∀k,X k->¬Z k)(hv:∀g,x.ownBlock=some g->¬S g):zf B X w' x ts:=by
 have hr:=fun k=>r.lt (k:=k)
 obtain⟨⟨vs,⟨h1,h2⟩,hv2⟩,hs⟩:=r;refine⟨⟨vs,⟨h1,?_⟩,⟨hv2.len,fun j p t e1 e2=>h.vt (hv2.at_ j p t e1 e2) hx⟩⟩,fun g e=>?_⟩
 · rcases h2 with h0|⟨g,cap,cur,rfl,hb,hg,r⟩
   · exact .inl h0
   · exact .inr ⟨g,cap,cur,rfl,hb,(h.block g (hr g rfl).2 (hv g rfl)).trans hg,r⟩
 · obtain⟨cur,t,e1,e2⟩:=hs g e
   exact⟨cur,t,(h.block g (hr g e).2 (hv g e)).trans e1,e2⟩
end
theorem Zt{vs:List V2}{k:Nat}(p:V2)(h:k<vs.length):((flat vs).set (k*2) p.1).set (k*2+1) p.2=flat (vs.set k p):=by
 induction vs generalizing k with
 |nil=>simp at h
 |cons v vs ih=>
  have e:flat (v::vs)=v.1::v.2::flat vs:=rfl
  cases k with
  |zero=>rfl
  |succ k=>
   have h9:=ih (k:=k) (by simpa using h);rw[e,show(k+1)*2=k*2+1+1 by omega,List.set_cons_succ,List.set_cons_succ,List.set_cons_succ,List.set_cons_succ,h9];rfl
section
variable{w w':World}{B:Nat}{X:Nat->Prop}{g n c:Nat}{ts:List T}
theorem zf.num(h:zf B X w (.slice (some ⟨g,0,none⟩) n c) ts):n=ts.length:=by
 obtain⟨A,c',e,_⟩:=h.form;injection e
theorem zf.at_(h:zf B X w (.slice (some ⟨g,0,none⟩) n c) ts){k:Nat}(hk:k<ts.length):
  (∃P a Q b,w.cell? ⟨g,k*2,none⟩=some (.slice P (ts.getD k eT).1.length a)/\w.cell? ⟨g,k*2+1,none⟩=some (.slice Q (ts.getD k eT).2.length b)/\TRc w P a Q b (ts.getD k eT)/\(∀ad,P=some ad->0<(ts.getD k eT).1.length->X ad.block)/\∀ad,Q=some ad->0<(ts.getD k eT).2.length->X ad.block)/\∀i,w.frozen? ⟨g,i,none⟩=false:=by
 have hn:=h.num;subst hn;obtain⟨⟨vs,hown,hv⟩,hs⟩:=h;have e1:vs[k]?=some (vs[k]'(by rw[hv.len];exact hk)):=aaV _;have e2:ts[k]?=some ts[k]:=aaV hk;have e3:ts.getD k eT=ts[k]:=by rw[aaS,e2];rfl
 obtain⟨P,a,Q,b,ep,r,x1,x2,b1,b2⟩:=hv.at_ k _ _ e1 e2;obtain⟨f1,f2⟩:=uT e1;rw[ep]at f1 f2;rw[e3];refine⟨⟨P,a,Q,b,?_,?_,⟨r,b1,b2⟩,x1,x2⟩,fun i=>World.ownsRow.frozenAt hown i⟩
 · rw[World.ownsRow.cellAt hown _ oM];exact f1
 · rw[World.ownsRow.cellAt hown _ oM];exact f2
theorem zf.put{P Q:DV}{a b k:Nat}{t:T}(h:zf B X w (.slice (some ⟨g,0,none⟩) n c) ts)(hk:k<ts.length)(hT:TRc w P a Q b t)(xP:∀ad,P=some ad->0<t.1.length->X ad.block)(xQ:∀ad,Q=some ad->0<t.2.length->X ad.block):
  zf B X ((w.setCell ⟨g,k*2,none⟩ (.slice P t.1.length a)).setCell ⟨g,k*2+1,none⟩ (.slice Q t.2.length b)) (.slice (some ⟨g,0,none⟩) n c) (ts.set k t)/\Kq (fun j=>j=g) (fun _=>False) w ((w.setCell ⟨g,k*2,none⟩ (.slice P t.1.length a)).setCell ⟨g,k*2+1,none⟩ (.slice Q t.2.length b)):=by
 obtain⟨⟨P0,a0,Q0,b0,c0,c1,_⟩,_⟩:=h.at_ hk;have hn:=h.num;subst hn;obtain⟨⟨vs,hown,hv⟩,hs⟩:=h;have hK:Kq (fun j=>j=g) (fun _=>False) w ((w.setCell ⟨g,k*2,none⟩ (.slice P t.1.length a)).setCell ⟨g,k*2+1,none⟩ (.slice Q t.2.length b)):=
  (Kq.over (S:=fun j=>j=g) (Z:=fun _=>False) (p:=⟨g,k*2,none⟩) rfl ⟨_,_,_,c0⟩ _).tr (Kq.over (S:=fun j=>j=g) (Z:=fun _=>False) (p:=⟨g,k*2+1,none⟩) rfl ⟨_,_,_,bp (fun e=>by injection e with _ e;omega) c1⟩ _)
 refine⟨⟨⟨vs.set k (.slice P t.1.length a, .slice Q t.2.length b),?_,⟨by rw[abr,abr,hv.len],fun j p t' e1 e2=>?_⟩⟩,fun g' e=>?_⟩,hK⟩
 · have s2:=(World.ownsRow.stored (World.ownsRow.stored hown (k*2) (.slice P t.1.length a)).1 (k*2+1) (.slice Q t.2.length b)).1
   rw[Zt (.slice P t.1.length a, .slice Q t.2.length b) (by rw[hv.len];exact hk)]at s2;rw[abr];exact s2
 · rw[List.getElem?_set]at e1 e2
   by_cases e:k=j
   · subst e
     rw[aaW rfl,aaW (by rw[hv.len];exact hk)]at e1;rw[aaW rfl,aaW hk]at e2;injection e1 with e1
     injection e2 with e2
     subst e1 e2;exact hK.vt ⟨P,a,Q,b,rfl,hT.r,xP,xQ,hT.c1,hT.c2⟩ fun _ _ h=>h
   · rw[aaT e]at e1 e2
     exact hK.vt (hv.at_ j p t' e1 e2) fun _ _ h=>h
 · have e':g=g':=by simpa [Value.ownBlock]using e
   subst e';obtain⟨cur,ty,h1,h2⟩:=hs g rfl;refine⟨_,ty,heap_set (heap_set h1 (k*2) _) (k*2+1) _,fun u hu=>?_⟩;rw[Array.toList_setIfInBounds,Array.toList_setIfInBounds]at hu;rcases acE hu with hu|rfl
   · rcases acE hu with hu|rfl
     · exact h2 u hu
     · exact⟨_,_,_,rfl⟩
   · exact⟨_,_,_,rfl⟩
end
/-- A row of so many empty ones. -/
theorem aaq(n:Nat)(hn:n<=1000000):∃cs:Array Value,(∀W:World,(Instr.makeSlice 26 (.int .i64 (n:Int)) (.int .i64 (n:Int))).run Tryz.prog W= .ok (.slice (some ⟨W.heap.size,0,none⟩) n n) (W.alloc (.cells cs 25)))/\
  ∀(W:World) (B:Nat) (X:Nat->Prop),B<=W.heap.size->zf B X (W.alloc (.cells cs 25)) (.slice (some ⟨W.heap.size,0,none⟩) n n) (List.replicate n eT):=
 ⟨(List.replicate (2*n) (Value.slice none 0 0)).toArray,fun W=>by
  obtain⟨i,hi,hz,h1,h2⟩:=info_parts mA;have hr:=run_make (P:=Tryz.prog) W 26 25 i _ Tryz.underlying26 hi hz .i64 .i64 n n oM (Int.le_refl _) (by rw[h2];omega) oM;simp only[aa2,h1]at hr;rw[hr];congr 3;exact Array.toList_inj.1 (by rw[show(Value.agg #[.slice none 0 0, .slice none 0 0]).cells= #[Value.slice none 0 0,Value.slice none 0 0]from rfl];exact Gj n),fun W B X hB=>by
  have hb:(W.alloc (.cells (List.replicate (2*n) (Value.slice none 0 0)).toArray 25)).heap[W.heap.size]?=some (.cells (List.replicate (2*n) (Value.slice none 0 0)).toArray 25 (0,0)):=World.alloc_heap_new W _;have hf:flat (List.replicate n (Value.slice none 0 0,Value.slice none 0 0))=List.replicate (2*n) (Value.slice none 0 0):=by
   refine List.eq_replicate_iff.2 ⟨by rw[dO,aa5];omega,fun b hb=>?_⟩;unfold flat at hb;rw[List.mem_flatMap]at hb;obtain⟨p,hp,hb⟩:=hb;rw[acs hp]at hb;simpa using hb
  refine⟨⟨List.replicate n (.slice none 0 0, .slice none 0 0),⟨by rw[dO,aa5,aa5], .inr ⟨W.heap.size,n,_,by rw[aa5],hB,hb,by rw[aa5];omega,by unfold maxLen;omega,by simp;omega,by rw[hf];simp;omega⟩⟩,⟨by rw[aa5,aa5],fun j p t e1 e2=>?_⟩⟩,fun g hg=>?_⟩
  · have h1:=acs (aa1 e1)
    have h2:=acs (aa1 e2);subst h1 h2;exact⟨none,0,none,0,rfl,⟨Rd.nil _ _,Rd.nil _ _⟩,fun _ h=>(by cases h),fun _ h=>(by cases h),⟨dG,dG⟩,dG,dG⟩
  · have e':W.heap.size=g:=by simpa [Value.ownBlock]using hg
    subst e';exact⟨_,_,hb,fun u hu=>⟨none,0,0,acs (by simpa using hu)⟩⟩⟩
