import Derived.Test.YtdfknefcgijhmaaGreatTk
import Derived.Test.YtdfknefcgijhmaaGreatImM
set_option maxHeartbeats 16000000
set_option maxRecDepth 100000
set_option linter.unusedVariables false
set_option linter.unusedSimpArgs false
namespace Go.Proofs.YtdfknefcgijhmaaGreat
open Go.RowKit Go.Proofs.ShM Go.Proofs.PkM Go.Proofs.ImM
theorem mA:(Tryz.prog.info? 31).map (fun i=>(i.zero,i.size,i.bytes))=some (some (.agg #[.slice none 0 0, .slice none 0 0]),2,48):=by kernel_rfl
abbrev V2:=Value×Value
def flat(vs:List V2):List Value:=vs.flatMap fun p=> [p.1,p.2]
theorem sO(p:V2)(vs:List V2):flat (p::vs)=p.1::p.2::flat vs:=rfl
theorem iY(a b:List V2):flat (a++b)=flat a++flat b:=by unfold flat;rw[List.flatMap_append]
theorem dO:∀vs:List V2,(flat vs).length=vs.length*2
 | []=>rfl
 |p::vs=>by rw[sO,List.length_cons,List.length_cons,dO vs,List.length_cons];omega
theorem uT:∀{vs:List V2} {j:Nat} {p:V2},vs[j]?=some p→(flat vs)[j*2]?=some p.1∧(flat vs)[j*2+1]?=some p.2
 | [],j,p,h=>by simp at h
 |q::vs,0,p,h=>by
  have:q=p:=by simpa using h
  subst this;exact⟨rfl,rfl⟩
 |q::vs,j+1,p,h=>by
  have:=uT (vs:=vs) (j:=j) (p:=p) (by simpa using h);rw[sO,show(j+1)*2=j*2+1+1 by omega];exact this
def Vt(w:World)(X:Nat→Prop)(p:V2)(t:T):Prop:=
 ∃A c B d,p=(.slice A t.1.length c, .slice B t.2.length d)∧TR w A t.1 B t.2∧(∀ad,A=some ad→0<t.1.length→X ad.block)∧(∀ad,B=some ad→0<t.2.length→X ad.block)∧(t.1.length≤c∧c≤9223372036854775807)∧t.2.length≤d∧d≤9223372036854775807
structure iO(w:World)(X:Nat→Prop)(vs:List V2)(ts:List T):Prop where
 len:vs.length=ts.length
 at_:∀(j:Nat) (p:V2) (t:T),vs[j]?=some p→ts[j]?=some t→Vt w X p t
def RdX(w:World)(X:Nat→Prop)(A:Option Addr)(ts:List T):Prop:=
 ts.length≤9223372036854775807∧∃vs,iO w X vs ts∧(0<ts.length→∃ad,A=some ad∧ad.block<w.heap.size∧∀j u,(flat vs)[j]?=some u→w.cell? (ad.add j)=some u)
abbrev RdT(w:World)(A:Option Addr)(ts:List T):Prop:=RdX w (fun _=>True) A ts
section
variable{w w':World}{X Y:Nat→Prop}{A:Option Addr}{ts us:List T}{vs zs:List V2}
theorem Vt.mono{p:V2}{t:T}(h:Vt w X p t)(hk:Kp w w')(hx:∀k,k<w.heap.size→X k→Y k):Vt w' Y p t:=by
 obtain⟨A,c,B,d,e,r,x1,x2,b12⟩:=h;refine⟨A,c,B,d,e,r.kp hk,fun ad h1 h2=>hx _ ?_ (x1 ad h1 h2),fun ad h1 h2=>hx _ ?_ (x2 ad h1 h2),b12⟩
 ·obtain⟨ad',e',hb,_⟩:=r.s.2 h2;rw[h1]at e';injection e' with e';subst e';exact hb
 ·obtain⟨ad',e',hb,_⟩:=r.d.2 h2;rw[h1]at e';injection e' with e';subst e';exact hb
theorem iO.mono(h:iO w X vs ts)(hk:Kp w w')(hx:∀k,k<w.heap.size→X k→Y k):iO w' Y vs ts:=⟨h.len,fun j p t h1 h2=>(h.at_ j p t h1 h2).mono hk hx⟩
theorem iO.bU(w:World)(X:Nat→Prop):iO w X [] []:=⟨rfl,fun j p t h=>by simp at h⟩
theorem iO.app(h:iO w X vs ts)(g:iO w X zs us):iO w X (vs++zs) (ts++us):=by
 refine⟨by rw[List.length_append,List.length_append,h.len,g.len],fun j p t h1 h2=>?_⟩;rw[List.getElem?_append]at h1 h2;rw[h.len]at h1
 split at h1
 ·rename_i hj;rw[if_pos hj]at h2;exact h.at_ j p t h1 h2
 ·rename_i hj;rw[if_neg hj]at h2;exact g.at_ _ p t h1 h2
theorem RdX.mono(h:RdX w X A ts)(hk:Kp w w')(hx:∀k,k<w.heap.size→X k→Y k):RdX w' Y A ts:=by
 obtain⟨h1,vs,h2,h3⟩:=h;exact⟨h1,vs,h2.mono hk hx,fun hp=>by
  obtain⟨ad,e,hb,hc⟩:=h3 hp;exact⟨ad,e,Nat.lt_of_lt_of_le hb hk.size,fun j u hu=>(hk.cell (by rw[ah];exact hb)).trans (hc j u hu)⟩⟩
theorem RdX.kp(h:RdX w X A ts)(hk:Kp w w'):RdX w' X A ts:=h.mono hk fun _ _ x=>x
theorem RdX.all(h:RdX w X A ts):RdT w A ts:=h.mono (Kp.refl _) fun _ _ _=>trivial
theorem RdX.len(h:RdX w X A ts):ts.length≤9223372036854775807:=h.1
theorem RdX.bU(w:World)(X:Nat→Prop)(A:Option Addr):RdX w X A []:=⟨by simp,[],iO.bU _ _,fun h=>absurd h (by simp)⟩
theorem RdX.at_(h:RdX w X A ts){k:Nat}(hk:k<ts.length):∃ad t P c Q d,A=some ad∧ad.block<w.heap.size∧ts[k]?=some t∧w.cell? (ad.add (k*2))=some (.slice P t.1.length c)∧w.cell? ⟨(ad.add (k*2)).block,(ad.add (k*2)).off+1,none⟩=some (.slice Q t.2.length d)∧TR w P t.1 Q t.2:=by
 obtain⟨_,vs,hv,hh⟩:=h;obtain⟨ad,e,hb,hc⟩:=hh (by omega);have hl:=hv.len;have e1:vs[k]?=some vs[k]:=List.getElem?_eq_getElem (by omega);have e2:ts[k]?=some ts[k]:=List.getElem?_eq_getElem hk;obtain⟨P,c,Q,d,ep,r,_⟩:=hv.at_ k _ _ e1 e2;obtain⟨f1,f2⟩:=uT e1;refine⟨ad,ts[k],P,c,Q,d,e,hb,e2,?_,?_,r⟩
 ·rw[hc _ _ f1,ep]
 ·have e3:(⟨(ad.add (k*2)).block,(ad.add (k*2)).off+1,none⟩:Addr)=ad.add (k*2+1):=by rw[←Addr.add_add];rfl
  rw[e3,hc _ _ f2,ep]
theorem RdX.DS(h:RdX w X A ts){k:Nat}(hk:k<ts.length):∃ad t P c Q d,A=some ad∧ad.block<w.heap.size∧ts[k]?=some t∧w.cell? (ad.add (k*2))=some (.slice P t.1.length c)∧w.cell? ⟨(ad.add (k*2)).block,(ad.add (k*2)).off+1,none⟩=some (.slice Q t.2.length d)∧TR w P t.1 Q t.2∧(∀ad,P=some ad→0<t.1.length→X ad.block)∧(∀ad,Q=some ad→0<t.2.length→X ad.block)∧(t.1.length≤c∧c≤9223372036854775807)∧t.2.length≤d∧d≤9223372036854775807:=by
 obtain⟨_,vs,hv,hh⟩:=h;obtain⟨ad,e,hb,hc⟩:=hh (by omega);have hl:=hv.len;have e1:vs[k]?=some vs[k]:=List.getElem?_eq_getElem (by omega);have e2:ts[k]?=some ts[k]:=List.getElem?_eq_getElem hk;obtain⟨P,c,Q,d,ep,r,x1,x2,b1,b2⟩:=hv.at_ k _ _ e1 e2;obtain⟨f1,f2⟩:=uT e1;refine⟨ad,ts[k],P,c,Q,d,e,hb,e2,?_,?_,r,x1,x2,b1,b2⟩
 ·rw[hc _ _ f1,ep]
 ·have e3:(⟨(ad.add (k*2)).block,(ad.add (k*2)).off+1,none⟩:Addr)=ad.add (k*2+1):=by rw[←Addr.add_add];rfl
  rw[e3,hc _ _ f2,ep]
theorem RdX.one{P Q:Option Addr}{t:T}{c d:Nat}(h:TR w P t.1 Q t.2)(hx1:∀ad,P=some ad→0<t.1.length→X ad.block)(hx2:∀ad,Q=some ad→0<t.2.length→X ad.block)(hc:t.1.length≤c∧c≤9223372036854775807)(hd:t.2.length≤d∧d≤9223372036854775807)(ty:TypeId):
  RdX (w.alloc (.cells #[.slice P t.1.length c, .slice Q t.2.length d] ty)) X (some ⟨w.heap.size,0,none⟩) [t]:=by
 refine⟨by simp,[(.slice P t.1.length c, .slice Q t.2.length d)],⟨rfl,fun j p t' h1 h2=>?_⟩,fun _=>⟨_,rfl,by simp,fun j u hu=>?_⟩⟩
 ·cases j with
  |zero=>
   have e1:(Value.slice P t.1.length c,Value.slice Q t.2.length d)=p:=by simpa using h1
   have e2:t=t':=by simpa using h2
   subst e1 e2;exact⟨P,c,Q,d,rfl,h.af _,hx1,hx2,hc,hd⟩
  |succ j=>simp at h1
 ·rw[Go.WideShapes.add_plain,Nat.zero_add,World.cell?_alloc_at _ ty _ j rfl];have:(flat [(Value.slice P t.1.length c,Value.slice Q t.2.length d)])[j]?= #[Value.slice P t.1.length c,Value.slice Q t.2.length d][j]?:=by simp[flat]
  rw[←this];exact hu
end
def iP(B:Nat)(w:World)(v:Value)(ts:List T):Prop:=∃vs,w.ownsRow B 31 2 v ts.length (flat vs)∧iO w (fun k=>v.ownBlock≠some k) vs ts
section
variable{w w':World}{B:Nat}{v:Value}{ts us:List T}{A:Option Addr}
theorem iP.bU(w:World)(B:Nat):iP B w (.slice none 0 0) []:=⟨[],World.ownsRow_nil w B _ 2,iO.bU _ _⟩
theorem iP.from_(h:iP B w v ts){k:Nat}(hk:v.ownBlock=some k):B≤k:=by
 obtain⟨vs,h,_⟩:=h;rcases h.2 with⟨rfl,_⟩|⟨g,cap,cur,rfl,hb,_⟩
 ·cases hk
 ·have:g=k:=by simpa [Value.ownBlock]using hk
  omega
theorem iP.fP(h:iP B w v ts){k:Nat}(hk:v.ownBlock=some k):k<w.heap.size:=by
 obtain⟨vs,h,_⟩:=h;rcases h.2 with⟨rfl,_⟩|⟨g,cap,cur,rfl,_,hh,_⟩
 ·cases hk
 ·have:g=k:=by simpa [Value.ownBlock]using hk
  subst this;exact(Array.getElem?_eq_some_iff.1 hh).1
theorem iP.kp(h:iP B w v ts)(k:Kp w w'):iP B w' v ts:=by
 have hr:=fun k=>h.fP (k:=k)
 obtain⟨vs,⟨h1,h2⟩,hv⟩:=h;refine⟨vs,⟨h1,?_⟩,hv.mono k fun _ _ x=>x⟩;rcases h2 with h0|⟨g,cap,cur,rfl,hb,hg,r⟩
 ·exact .inl h0
 ·exact .inr ⟨g,cap,cur,rfl,hb,(k.block g (hr g rfl)).trans hg,r⟩
theorem iP.form(h:iP B w v ts):∃A c,v= .slice A ts.length c∧RdT w A ts∧ts.length≤c∧c≤9223372036854775807:=by
 obtain⟨vs,ho,hv⟩:=h;have ho':=ho;rcases ho.2 with⟨rfl,h0⟩|⟨g,cap,cur,rfl,_,hh,hn,hc,hcs,ht⟩
 ·have:ts=[]:=List.eq_nil_of_length_eq_zero h0;subst this;exact⟨none,0,rfl,RdX.bU _ _ _,by simp,by simp⟩
 ·have hc':cap≤9223372036854775807:=by unfold maxLen at hc;omega
  refine⟨_,cap,rfl,⟨by omega,vs,hv.mono (Kp.refl _) (fun _ _ _=>trivial),fun hp=>⟨_,rfl,(Array.getElem?_eq_some_iff.1 hh).1,fun j u hu=>?_⟩⟩,hn,hc'⟩;have hj:j<ts.length*2:=by have:=(List.getElem?_eq_some_iff.1 hu).1;rw[dO,hv.len]at this;exact this
  rw[Go.WideShapes.add_plain,Nat.zero_add,World.ownsRow.cellAt ho' j hj];exact hu
theorem wm{row:Option Nat}(hg:w.grownBy w' row){A:Option Addr}{xs:List Int}(h:Rd w A xs)(hx:∀ad,A=some ad→0<xs.length→row≠some ad.block):Rd w' A xs:=
 ⟨h.1,fun hn=>by
  obtain⟨ad,e,hb,hc⟩:=h.2 hn;refine⟨ad,e,Nat.lt_of_lt_of_le hb hg.size,fun j u hu=>?_⟩;have hne:some ad.block≠row:=fun e'=>hx ad e hn e'.symm
  rw[World.cell?_of_block (w:=w) (a:=ad.add j) (by rw[ah];exact hg.block _ hb hne)];exact hc j u hu⟩
theorem kL{row:Option Nat}{p:V2}{t:T}{Y:Nat→Prop}(hg:w.grownBy w' row)(h:Vt w (fun k=>row≠some k) p t)(hY:∀k,k<w.heap.size→row≠some k→Y k):Vt w' Y p t:=by
 obtain⟨A,c,B,d,e,r,x1,x2,b12⟩:=h;refine⟨A,c,B,d,e,⟨wm hg r.s x1,wm hg r.d x2⟩,fun ad h1 h2=>hY _ ?_ (x1 ad h1 h2),fun ad h1 h2=>hY _ ?_ (x2 ad h1 h2),b12⟩
 ·obtain⟨ad',e',hb,_⟩:=r.s.2 h2;rw[h1]at e';injection e' with e';subst e';exact hb
 ·obtain⟨ad',e',hb,_⟩:=r.d.2 h2;rw[h1]at e';injection e' with e';subst e';exact hb
theorem pE(ho:iP B w v ts)(c:Nat)(hr:RdX w (fun k=>v.ownBlock≠some k) A us)(hs:ts.length+us.length≤1000000)(hB:B≤w.heap.size)(ty:TypeId):
  ∃zs A' c' w',zs=ts++us∧(Builtin.append_ #[23,23] ty #[v, .slice A us.length c]).run Tryz.prog w= .ok (.slice A' zs.length c') w'∧iP B w' (.slice A' zs.length c') zs∧Below B w w'∧(∀k,k<w.heap.size→some k≠v.ownBlock→w'.heap[k]?=w.heap[k]?):=by
 obtain⟨i,hi,hz,h1,h2⟩:=info_parts mA;have qw:=fun k=>ho.from_ (k:=k)
 obtain⟨vs,hown,hv⟩:=ho;obtain⟨_,qs,hq,hh⟩:=hr;have fin:∀(ad:Addr) (news:List Value) (m:Nat),news=flat qs→m=us.length→(∀j u,news[j]?=some u→w.cell? (ad.add j)=some u)→
   ∃zs A' c' w',zs=ts++us∧(Builtin.append_ #[23,23] ty #[v, .slice (some ad) m c]).run Tryz.prog w= .ok (.slice A' zs.length c') w'∧iP B w' (.slice A' zs.length c') zs∧Below B w w'∧(∀k,k<w.heap.size→some k≠v.ownBlock→w'.heap[k]?=w.heap[k]?):=by
  intro ad news m hnews hm hc;subst hnews hm;obtain⟨v',w',hrun,gX,hg,_,hrow⟩:=run_append_own_at (P:=Tryz.prog) w B 23 ty 31 i _ 2 48 Tryz.underlying23 hi hz h1 h2 rfl (by omega) _ _ _ hown ad us.length c (flat qs) (by rw[dO,hq.len]) hc
   (fun u hu=>by
    unfold flat at hu;rw[List.mem_flatMap]at hu;obtain⟨p,hp,hu⟩:=hu;obtain⟨j,hj⟩:=List.mem_iff_getElem?.1 hp;have hjl:j<us.length:=by have:=(List.getElem?_eq_some_iff.1 hj).1;rw[hq.len]at this;exact this
    obtain⟨P,c1,Q,d1,ep,_⟩:=hq.at_ j p _ hj (List.getElem?_eq_getElem hjl);rw[ep]at hu;simp at hu;rcases hu with rfl|rfl<;>rfl) (by unfold maxLen;omega) (by omega) hB
  have hv2:iO w' (fun k=>v'.ownBlock≠some k) (vs++qs) (ts++us):=by
   have hY:∀k,k<w.heap.size→v.ownBlock≠some k→v'.ownBlock≠some k:=by
    intro k hk hne;rcases hrow with hrow|hrow
    ·rw[hrow];exact hne
    ·rw[hrow];intro e;injection e with e;omega
   have a1:iO w' (fun k=>v'.ownBlock≠some k) vs ts:=⟨hv.len,fun j p t g1 g2=>kL hg (hv.at_ j p t g1 g2) hY⟩
   have a2:iO w' (fun k=>v'.ownBlock≠some k) qs us:=⟨hq.len,fun j p t g1 g2=>kL hg (hq.at_ j p t g1 g2) hY⟩
   exact a1.app a2
  have ho2:iP B w' v' (ts++us):=⟨vs++qs,by rw[List.length_append,iY];exact gX,hv2⟩
  obtain⟨A2,c2,rfl,_⟩:=ho2.form;exact⟨ts++us,A2,c2,w',rfl,hrun,ho2,(Below.refl _ _).grown hg hB (fun k hk=>qw k hk),fun k hk hne=>hg.block k hk hne⟩
 by_cases hy:us=[]
 ·subst hy;have hqn:qs=[]:=List.eq_nil_of_length_eq_zero (by rw[hq.len];rfl);subst hqn
  cases A with
  |none=>
   have ho2:iP B w v ts:=⟨vs,hown,hv⟩
   obtain⟨A',c',rfl,_⟩:=ho2.form;refine⟨ts,A',c',w,by simp,?_,ho2,Below.refl _ _,fun _ _ _=>rfl⟩;have ht:=run_underlying (P:=Tryz.prog) (w:=w) Tryz.underlying23;rcases hown.2 with⟨e,h0⟩|⟨g,cap,cur,e,_,_,hn,_⟩
   ·injection e with e1 e2 e3
    subst e1 e3;rw[e2];simp[Builtin.append_,ht,sizeOf,typeInfo,hi,Builtin.lenOf,Builtin.firstCells]
   ·injection e with e1 e2 e3
    subst e1 e3;simp[Builtin.append_,ht,sizeOf,typeInfo,hi,Builtin.lenOf,Builtin.firstCells,hn,storeCells]
  |some ad=>exact fin ad [] 0 rfl rfl (by simp)
 ·obtain⟨ad,rfl,_,hc⟩:=hh (List.length_pos_iff.2 hy);exact fin ad (flat qs) us.length rfl rfl hc
theorem tG{ops:Array Oper}{rest:List Oper}{o:Oper}{a:Act}{Q:Exit→Act→World→Prop}(hgd:Region.wanted o (yielded ops a.tmps)=true)(s x:Operand)
  (hop:o.op= .call {callee:= .builtin .append,args:= #[s,x],argTypes:= #[23,23]})
  (v:Value)(ts:List T)(hs:a.eval s=v)(ho:iP B w v ts)(A:Option Addr)(c:Nat)(us:List T)(n:Nat)(hx:a.eval x= .slice A n c)(hn:n=us.length)(hr:RdX w (fun k=>v.ownBlock≠some k) A us)
  (hl:ts.length+us.length≤1000000)(hB:B≤w.heap.size)
  (h:∀zs A' c' w',Hid (zs=ts++us)→iP B w' (.slice A' zs.length c') zs→Below B w w'→(∀k,k<w.heap.size→some k≠v.ownBlock→w'.heap[k]?=w.heap[k]?)→wpList Tryz.prog ops Q rest (a.put o.dst (.slice A' zs.length c')) w'):wpList Tryz.prog ops Q (o::rest) a w:=by
 refine BigFrame.wpList_want hgd fun K hK=>?_
 subst hn;obtain⟨zs,A',c',w',e,hrun,h1,h2,h3⟩:=pE ho c hr hl hB o.type;unfold Oper.wp execOp;simp only[hop,resolve,invoke,builtin,Sem.run_bind,Sem.run_pure,Result.andThen_ok,List.map_toArray,List.map_cons,List.map_nil,hs,hx,hrun];exact hK _ _ (h zs A' c' w' e h1 h2 h3)
end
end Go.Proofs.YtdfknefcgijhmaaGreat
