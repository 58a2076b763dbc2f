import Derived.Test.YtokeebkaamjliaaGreatInZk
set_option maxHeartbeats 16000000
set_option maxRecDepth 100000
set_option linter.unusedVariables false
set_option linter.unusedSimpArgs false
namespace Go.Proofs.YtokeebkaamjliaaGreat.Ez
open RowKit ShM GrM InM ImM
def Bx(W:World)(b:Nat)(cs:List Value)(t:TypeId):Prop:=W.heap[b]?=some (.cells cs.toArray t (0,0))
section
variable{W W':World}{b:Nat}{cs:List Value}{t:TypeId}
theorem Bx.lt(h:Bx W b cs t):b<W.heap.size:=(aa0.1 h).1
theorem Bx.cell(h:Bx W b cs t){j:Nat}{v:Value}(hv:cs[j]?=some v):W.cell? ⟨b,j,none⟩=some v:=by
 simp only[World.cell?,show W.heap[b]?=_ from h];simpa using hv
theorem Bx.frz(h:Bx W b cs t)(i:Nat):W.frozen? ⟨b,i,none⟩=false:=by simp[World.frozen?,show W.heap[b]?=_ from h]
theorem Bx.kp(h:Bx W b cs t)(k:Kp W W'):Bx W' b cs t:=(k.block b h.lt).trans h
theorem Bx.new(h:b=W.heap.size):Bx (W.alloc (.cells cs.toArray t)) b cs t:=by
 subst h;show(W.heap.push _)[W.heap.size]?=some _;simp
theorem Bx.set(h:Bx W b cs t)(j:Nat)(x:Value):Bx (W.setCell ⟨b,j,none⟩ x) b (cs.set j x) t:=by
 have:=heap_set h j x;rw[List.setIfInBounds_toArray]at this;exact this
theorem Bx.other(h:Bx W b cs t){p:Addr}(hne:b≠p.block)(x:Value):Bx (W.setCell p x) b cs t:=by
 unfold Bx;rw[abq _ _ _ b hne];exact h
theorem Rd.NY{A0:DV}{xs:BU}{p q:Value}(hp:∀u:Int,p≠ .int .i64 u)(hq:∀u:Int,q≠ .int .i64 u)(r:Rd W A0 xs)(h:Bx W b [p,q, .int .i64 0] t)(x y:Value):
  Rd (((W.setCell ⟨b,0,none⟩ x).setCell ⟨b,1,none⟩ y).setCell ⟨b,2,none⟩ (.int .i64 0)) A0 xs:=by
 by_cases hne:∀ad,A0=some ad->0<xs.length->ad.block≠b
 ·cases xs with
  |nil=>exact Rd.nil _ _
  |cons z zs=>
   have RN:=fun ad e=>hne ad e sC
   exact((r.gW RN x).gW RN y).gW RN _
 ·have hex:∃ad,A0=some ad/\0<xs.length/\ad.block=b:=by
   apply Classical.byContradiction;intro hn;exact hne fun ad e hp hb=>hn ⟨ad,e,hp,hb⟩
  obtain⟨ad,rfl,hpos,hb⟩:=hex;obtain⟨ad',e',hlt,hc⟩:=r.2 hpos;injection e' with e';subst e';have hW:=((h.set 0 x).set 1 y).set 2 (.int .i64 0);refine⟨r.1,fun _=>⟨ad,rfl,by rw[hb];exact hW.lt,fun j u hu=>?_⟩⟩;have h0:=hc j u hu;have hbb:(ad.add j).block=b:=by rw[ah];exact hb
  generalize ad.add j=z at h0 hbb;obtain⟨zb,off,spot⟩:=z;have hbb:zb=b:=hbb;subst hbb;simp only[World.cell?,show W.heap[zb]?=_ from h]at h0;simp only[World.cell?,show(((W.setCell ⟨zb,0,none⟩ x).setCell ⟨zb,1,none⟩ y).setCell ⟨zb,2,none⟩ (.int .i64 0)).heap[zb]?=_ from hW]
  cases spot with
  |some s=>simp at h0
  |none=>
   match off,h0 with
   |0,h0=>exact absurd (by simpa using h0) (hp u)
   |1,h0=>exact absurd (by simpa using h0) (hq u)
   |2,h0=>simpa using h0
   |k+3,h0=>simp at h0
end
theorem aN(A:DV)(n c:Nat)(u:Int):Value.slice A n c≠ .int .i64 u:=by intro h;cases h
def bH(r:T×Int)(w:World)(e:Ending)(w':World):Prop:=
 ∃A c B d,e= .returned (.agg #[.slice A r.1.1.length c, .slice B r.1.2.length d, .int .i64 r.2])/\Sw w.heap.size w' A c r.1.1/\Sw w.heap.size w' B d r.1.2/\Kp w w'
theorem bH.box{r:T×Int}{s xs:BU}{err:Int}{w w3:World}{b n m:Nat}{A B:DV}{c d:Nat}{p q:Value}{t:TypeId}(hp:∀u:Int,p≠ .int .i64 u)(hq:∀u:Int,q≠ .int .i64 u)(hr:r=((s,xs),err))(hn:n=s.length)(hm:m=xs.length)(he:err≠0->s=[]/\xs=[])(hb:w.heap.size<=b)(F:Bx w3 b [p,q, .int .i64 0] t)
  (hA:Sw w.heap.size w3 A c s)(hB:Sw w.heap.size w3 B d xs)(k:Kp w w3):
  bH r w (.returned (.agg #[.slice A n c, .slice B m d, .int .i64 err])) (((w3.setCell ⟨b,0,none⟩ (.slice A n c)).setCell ⟨b,1,none⟩ (.slice B m d)).setCell ⟨b,2,none⟩ (.int .i64 err)):=by
 subst hr hn hm;have kk:=((k.setCell (p:=⟨b,0,none⟩) hb (.slice A s.length c)).setCell (p:=⟨b,1,none⟩) hb (.slice B xs.length d)).setCell (p:=⟨b,2,none⟩) hb (.int .i64 err);by_cases h0:err=0
 ·subst h0;exact⟨A,c,B,d,rfl,⟨⟨Rd.NY hp hq hA.toSl.rd F _ _,hA.toSl.le,hA.toSl.cap⟩,hA.nw⟩,⟨⟨Rd.NY hp hq hB.toSl.rd F _ _,hB.toSl.le,hB.toSl.cap⟩,hB.nw⟩,kk⟩
 ·obtain⟨rfl,rfl⟩:=he h0;exact⟨A,c,B,d,rfl,⟨⟨Rd.nil _ _,hA.toSl.le,hA.toSl.cap⟩,hA.nw⟩,⟨⟨Rd.nil _ _,hB.toSl.le,hB.toSl.cap⟩,hB.nw⟩,kk⟩
theorem gU(A B:DV)(n c m d:Nat)(err:Int)(w:World):
  CJ 80 #[.agg #[.slice A n c, .slice B m d], .int .i64 err] w fun e w'=>e= .returned (.agg #[.slice A n c, .slice B m d, .int .i64 err])/\Kp w w':=by
 go_enter Tryz.func80,Tryz.ntmps80;go_wp2;refine aaX (v:= .agg #[.slice A n c, .slice B m d, .int .i64 err]) (by simp[results,Tryz.results80,go_sem];try rfl) rfl ?_;exact⟨rfl,(Kp.af _ _).tr (Kp.af _ _)⟩
theorem Nr(A:DV)(n c:Nat)(err:Int)(w:World):
  CJ 78 #[.slice A n c, .int .i64 err] w fun e w'=>e= .returned (.agg #[.slice A n c, .int .i64 err])/\Kp w w':=by
 go_enter Tryz.func78,Tryz.ntmps78;go_wp2;refine aaX (v:= .agg #[.slice A n c, .int .i64 err]) (by simp[results,Tryz.results78,go_sem];try rfl) rfl ?_;exact⟨rfl,Kp.af _ _⟩
theorem nG{P:Program}(w:World)(dT sT ty elem:TypeId)(d a:DV)(dLen dCap sLen sCap:Nat)(hu:P.underlying dT=some (.slice elem))(hs:(P.info? elem).map (·.size)=some 2)(hn:Nat.min sLen dLen=0):
  (Builtin.copy_ #[dT,sT] ty #[.slice d dLen dCap, .slice a sLen sCap]).run P w= .ok (goInt 0) w:=by
 cases hq:P.info? elem with
 |none=>simp[hq]at hs
 |some i=>
  have hl:∀(x:Addr),(loadCells x 0).run P w= .ok #[] w:=fun x=>by simpa using run_loadCells_list (P:=P) w x [] sC
  cases d<;>cases a<;>simp[Builtin.copy_,abk hu,Builtin.lenOf,Builtin.firstCells,sizeOf,typeInfo,hq,hn,storeCells,hl]
theorem pz{P:Program}(w:World)(dT sT ty elem:TypeId)(g o dLen dCap:Nat)(a:Addr)(sLen sCap:Nat)(cur:Array Value)(t:TypeId)(cs:List Value)(n:Nat)
  (hu:P.underlying dT=some (.slice elem))(hs:(P.info? elem).map (·.size)=some 2)
  (hg:w.heap[g]?=some (.cells cur t (0,0)))(hn:n=Nat.min sLen dLen)(hc:cs.length=n*2)
  (hsrc:∀j v,cs[j]?=some v->w.cell? (a.add j)=some v)(hfit:o+cs.length<=cur.size)(h1:∀v∈cs,v.oneCell'=true):
  (Builtin.copy_ #[dT,sT] ty #[.slice (some ⟨g,o,none⟩) dLen dCap, .slice (some a) sLen sCap]).run P w=
   .ok (goInt n) (w.setRow g (cur.toList.take o++cs++cur.toList.drop (o+cs.length)).toArray):=by
 have hl:=run_loadCells_list (P:=P) w a cs hsrc;rw[hc]at hl;have hst:=run_storeCells_at P g o t cs 0 cur w hg (by simpa using hfit) h1
 cases hq:P.info? elem with
 |none=>simp[hq]at hs
 |some i=>
  have hi:i.size=2:=by simpa [hq]using hs
  simp[Builtin.copy_,abk hu,Builtin.lenOf,Builtin.firstCells,sizeOf,typeInfo,hq,hi,<-hn,hl,hst]
theorem kP{P:Program}{w:World}{ops:Array Oper}{rest:List Oper}{o:Oper}{a:Act}{Q:Exit->Act->World->Prop}(hgd:o.guard=none)(d s:Operand)(dT sT:TypeId)
  (ho:o.op= .call {callee:= .builtin .copy,args:= #[d,s],argTypes:= #[dT,sT]})(elem:TypeId)(hu:P.underlying dT=some (.slice elem))(hsz:(P.info? elem).map (·.size)=some 2)
  (dp sp:DV)(dLen dCap sLen sCap:Nat)(hd:a.eval d= .slice dp dLen dCap)(hs:a.eval s= .slice sp sLen sCap)
  (g off:Nat)(cur:List Value)(t:TypeId)(hg:w.heap[g]?=some (.cells cur.toArray t (0,0)))(cs:List Value)(n:Nat)(hn:n=Nat.min sLen dLen)(hc:cs.length=n*2)
  (hpos:0<cs.length->dp=some ⟨g,off,none⟩/\∃ad,sp=some ad/\∀j v,cs[j]?=some v->w.cell? (ad.add j)=some v)
  (hfit:off+cs.length<=cur.length)(h1:∀v∈cs,v.oneCell'=true)(B:Nat)(w0:World)(hb:Below B w0 w)(hBg:B<=g)
  (h:∀w',Hid (w'.heap[g]?=some (.cells (splice cur off cs).toArray t (0,0)))->Below B w0 w'->wpList P ops Q rest (a.put o.dst (goInt n)) w'):
  wpList P ops Q (o::rest) a w:=by
 refine wpList_plain hgd fun K hK=>?_
 by_cases h0:cs.length=0
 ·obtain rfl:cs=[]:=abd h0;have hrun:=nG (P:=P) w dT sT o.type elem dp sp dLen dCap sLen sCap hu hsz (by simp at hc;omega);unfold Oper.wp;simp[execOp,ho,resolve,invoke,builtin,hd,hs,hrun,Result.andThen];have hn0:n=0:=by simp at hc;omega
  subst hn0;exact hK _ _ (h w (show _=_ by simpa [splice]using hg) hb)
 ·obtain⟨rfl,ad,rfl,hsrc⟩:=hpos oM;have hrun:=pz (P:=P) w dT sT o.type elem g off dLen dCap ad sLen sCap cur.toArray t cs n hu hsz hg hn hc hsrc (by simpa using hfit) h1;unfold Oper.wp;simp[execOp,ho,resolve,invoke,builtin,hd,hs,hrun,Result.andThen];exact hK _ _ (h _ (show _=_ by simpa [splice]using setRow_heap w g _ _ t _ hg) (below_setRow hb hBg _))
def tE(B:Nat)(w:World)(g cap:Nat)(ts:List T):Prop:=
 B<=g/\ts.length<=cap/\cap<=1000000/\∃vs,Bx w g (flat vs++List.replicate (2*(cap-ts.length)) (.slice none 0 0)) 25/\iO w (fun k=>k≠g) vs ts
section
variable{w w':World}{B g cap:Nat}{ts:List T}
theorem gC{X:Nat->Prop}{vs:List V2}(h:iO w X vs ts):∀u∈flat vs,∃A n c,u=Value.slice A n c:=fun u hu=>by
 unfold flat at hu;rw[List.mem_flatMap]at hu;obtain⟨p,hp,hu⟩:=hu;obtain⟨j,hj⟩:=abC.1 hp;have hjl:j<ts.length:=by have:=(aaU.1 hj).1;rw[h.len]at this;exact this
 obtain⟨P,c1,Q,d1,ep,_⟩:=h.at_ j p _ hj (aaV hjl);rw[ep]at hu;simp at hu;rcases hu with rfl|rfl
 ·exact⟨_,_,_,rfl⟩
 ·exact⟨_,_,_,rfl⟩
theorem tE.kp(h:tE B w g cap ts)(k:Kp w w'):tE B w' g cap ts:=by
 obtain⟨h1,h2,h3,vs,hb,hv⟩:=h;exact⟨h1,h2,h3,vs,hb.kp k,hv.mono k fun _ _ x=>x⟩
theorem tE.rd(h:tE B w g cap ts):RdX w (fun k=>k≠g) (some ⟨g,0,none⟩) ts:=by
 obtain⟨h1,h2,h3,vs,hb,hv⟩:=h;refine⟨oM,vs,hv,fun hp=>⟨_,rfl,hb.lt,fun j u hu=>?_⟩⟩;rw[abh,abw];refine hb.cell ?_;rw[aco (aaU.1 hu).1];exact hu
theorem tE.apart(h:tE B w g cap ts){A:DV}{xs:BU}(r:Rd w A xs):∀ad,A=some ad->0<xs.length->ad.block≠g:=by
 rintro ad rfl hpos e;obtain⟨h1,h2,h3,vs,hb,hv⟩:=h;obtain⟨ad',e',_,hc⟩:=r.2 hpos;injection e' with e';subst e';have h0:=hc 0 _ (aaV hpos);have e1:ad.add 0=ad:=by unfold Addr.add;simp
 rw[e1]at h0;simp only[World.cell?]at h0;rw[e,show w.heap[g]?=_ from hb]at h0;have h0:ad.spot=none/\(flat vs++List.replicate (2*(cap-ts.length)) (Value.slice none 0 0))[ad.off]?=some (Value.int IntKind.i64 xs[0]):=by simpa using h0
 ·have hm:=aa1 h0.2;rcases acg.1 hm with hm|hm
  ·obtain⟨A,n,c,e⟩:=gC hv _ hm
   cases e
  ·have:=acs hm
   cases this
theorem Gj(n:Nat):(madeCells #[Value.slice none 0 0,Value.slice none 0 0] (n*2)).toList=(List.replicate (2*n) (Value.slice none 0 0)).toArray.toList:=by
 refine List.eq_replicate_iff.2 ⟨by simp[madeCells];omega,fun b hb=>?_⟩;simp only[madeCells,Array.toList_map,abN]at hb;obtain⟨i,_,rfl⟩:=hb;have h2:i%2=0∨i%2=1:=by omega
 rcases h2 with e|e<;>simp[e]
theorem tE.app(h:tE B w g cap ts)(a:Addr)(t:T)(c:Nat)(hr:RdT w (some a) [t])(hroom:ts.length+1<=cap)(ty:TypeId):
  ∃w',(Builtin.append_ #[26,26] ty #[.slice (some ⟨g,0,none⟩) ts.length cap, .slice (some a) 1 c]).run Tryz.prog w= .ok (.slice (some ⟨g,0,none⟩) (ts.length+1) cap) w'/\tE B w' g cap (ts++[t])/\Below B w w'/\∀k,k<w.heap.size->k≠g->w'.heap[k]?=w.heap[k]?:=by
 obtain⟨i,hi,hz,h1,h2⟩:=info_parts mA;have hap:=fun {A:DV} {xs:BU} (r:Rd w A xs)=>h.apart r
 obtain⟨hB,hl,hc6,vs,hb,hv⟩:=h;obtain⟨_,qs,hq,hh⟩:=hr;obtain⟨ad,e,_,hcell⟩:=hh sC;injection e with e;subst e;have hq1:qs.length=1:=hq.len;obtain⟨p,rfl⟩:∃p,qs=[p]:=by
  match qs,hq1 with
  | [p],_=>exact⟨p,rfl⟩
 obtain⟨P,c1,Q,d1,ep,rt,_,_,hcc⟩:=hq.at_ 0 p t rfl rfl;subst ep;have hfl:(flat vs).length=ts.length*2:=by rw[dO,hv.len]
 have hrun:=run_append_room (P:=Tryz.prog) w 26 ty 25 i Tryz.underlying26 hi g ts.length cap _ hb a 1 c (flat [(.slice P t.1.length c1, .slice Q t.2.length d1)]) (by rw[h1];rfl) hcell
  (fun u hu=>by simp[flat]at hu;rcases hu with rfl|rfl<;>rfl) hroom (by rw[h1];simp[dO,hv.len];omega)
 rw[h1]at hrun;have hcs:(((flat vs++List.replicate (2*(cap-ts.length)) (Value.slice none 0 0)).toArray.toList.take (ts.length*2)++flat [(Value.slice P t.1.length c1,Value.slice Q t.2.length d1)]++(flat vs++List.replicate (2*(cap-ts.length)) (Value.slice none 0 0)).toArray.toList.drop (ts.length*2+(flat [(Value.slice P t.1.length c1,Value.slice Q t.2.length d1)]).length)))=flat (vs++[(Value.slice P t.1.length c1,Value.slice Q t.2.length d1)])++List.replicate (2*(cap-(ts++[t]).length)) (Value.slice none 0 0):=by
  have e1:(flat [(Value.slice P t.1.length c1,Value.slice Q t.2.length d1)]).length=2:=rfl;rw[e1];simp only[List.toList_toArray];rw[<-hfl,List.take_left,List.drop_append,abU oM,acu,iY,show(flat vs).length+2-(flat vs).length=2 by omega,List.drop_replicate,acA,acA];congr 3;simp;omega
 rw[hcs]at hrun;have hgb:w.grownBy (w.setRow g (flat (vs++[(Value.slice P t.1.length c1,Value.slice Q t.2.length d1)])++List.replicate (2*(cap-(ts++[t]).length)) (Value.slice none 0 0)).toArray) (some g):=
  ⟨rfl,rfl,rfl,by simp,fun k _ hk=>setRow_other w g k _ (fun e=>hk (by simp[e]))⟩
 refine⟨_,hrun,⟨hB,by rw[abf];simpa using hroom,hc6,vs++[(Value.slice P t.1.length c1,Value.slice Q t.2.length d1)],setRow_heap w g _ _ _ _ hb,?_⟩,below_setRow (abu _ _) hB _,fun k hk hne=>setRow_other w g k _ hne⟩;have a1:iO (w.setRow g (flat (vs++[(Value.slice P t.1.length c1,Value.slice Q t.2.length d1)])++List.replicate (2*(cap-(ts++[t]).length)) (Value.slice none 0 0)).toArray) (fun k=>k≠g) vs ts:=⟨hv.len,fun j p t g1 g2=>by
  obtain⟨A,c,B,d,e,r,x1,x2,b12⟩:=hv.at_ j p t g1 g2;exact kL hgb ⟨A,c,B,d,e,r,fun ad q1 q2 e=>x1 ad q1 q2 (by simpa using e.symm),fun ad q1 q2 e=>x2 ad q1 q2 (by simpa using e.symm),b12⟩ (fun k _ hk e=>hk (by rw[e]))⟩
 refine a1.app ⟨rfl,fun j p t' g1 g2=>?_⟩
 match j,g1,g2 with
 |0,g1,g2=>
  simp only[List.getElem?_cons_zero,Option.some.injEq]at g1 g2;subst g1 g2;exact kL hgb ⟨P,c1,Q,d1,rfl,rt,fun ad q1 q2 e=>hap rt.s ad q1 q2 (by simpa using e.symm),fun ad q1 q2 e=>hap rt.d ad q1 q2 (by simpa using e.symm),hcc⟩ (fun k _ hk e=>hk (by rw[e]))
 |j+1,g1,g2=>simp at g1
end
end Go.Proofs.YtokeebkaamjliaaGreat.Ez
/- Three makings of boxes in any order. -/
namespace Go.Proofs.YtokeebkaamjliaaGreat.Ez
open RowKit ShM
section
variable{P:Program}{md:Region.Mode}{ops:Array Oper}{Q:Exit->Act->World->Prop}{S:World->Prop}{a:Act}{w:World}
/-- An operation that makes a box. -/
def Mk(P:Program)(ops:Array Oper)(i d:Nat)(t:TypeId)(z:List Value):Prop:=
 ∃o,ops[i]?=some o/\o.guard=none/\o.dst=some d/\∀(A:Act) (V:World),(execOp A.eval o).run P V= .ok (.value (pX V.heap.size 0)) (V.alloc (.cells z.toArray t))
theorem Mk.step{i d:Nat}{t:TypeId}{z:List Value}(h:Mk P ops i d t z){K:Act->World->Prop}(hK:K (a.put (some d) (pX w.heap.size 0)) (w.alloc (.cells z.toArray t))):wpOp P ops Q i K a w:=by
 obtain⟨o,h1,h2,h3,h4⟩:=h;unfold wpOp;simp only[h1,Region.wanted,h2,if_true,Oper.wp,h4,Oper.upon];rw[<-h3]at hK;exact .inl hK
theorem Qj{d e:Nat}(h:d≠e)(u v:Value):((a.put (some d) u).put (some e) v)=((a.put (some e) v).put (some d) u):=by
 unfold Act.put;simp only[ab8 _ _ h]
theorem al2{fuel:Nat}{l:Array Bool}{i j d e:Nat}{t u:TypeId}{z y:List Value}(hi:Mk P ops i d t z)(hj:Mk P ops j e u y)(hij:i≠j)(hde:d≠e)(hr:Region.ready md ops l=[i,j])(hr1:Region.ready md ops (l.setIfInBounds i true)=[j])(hr2:Region.ready md ops (l.setIfInBounds j true)=[i])(hS:∀V,Kp w V->S V)
  (H:∀V b c,Kp w V->Bx V b z t->Bx V c y u->w.heap.size<=b->w.heap.size<=c->b≠c->wpAnyH P md ops Q S fuel ((l.setIfInBounds i true).setIfInBounds j true) ((a.put (some d) (pX b 0)).put (some e) (pX c 0)) V):wpAnyH P md ops Q S (fuel+2) l a w:=by
 refine wpAnyH_all hr sC fun k hk=>?_
 simp only[abD,ab6,or_false]at hk;rcases hk with rfl|rfl
 · refine hi.step ⟨hS _ (Kp.af _ _),wpAnyH_all hr1 sC fun k hk=>?_⟩
   rw[abF.1 hk];refine hj.step ⟨hS _ ((Kp.af _ _).tr (Kp.af _ _)),?_⟩;exact H _ _ _ ((Kp.af _ _).tr (Kp.af _ _)) ((Bx.new rfl).kp (Kp.af _ _)) (Bx.new rfl) (aaZ _) (by rw[aaY];omega) (by rw[aaY];omega)
 · refine hj.step ⟨hS _ (Kp.af _ _),wpAnyH_all hr2 sC fun k hk=>?_⟩
   rw[abF.1 hk];refine hi.step ⟨hS _ ((Kp.af _ _).tr (Kp.af _ _)),?_⟩;rw[ab8 _ _ (Ne.symm hij),Qj (Ne.symm hde)];exact H _ _ _ ((Kp.af _ _).tr (Kp.af _ _)) (Bx.new rfl) ((Bx.new rfl).kp (Kp.af _ _)) (by rw[aaY];omega) (aaZ _) (by rw[aaY];omega)
theorem al3{fuel:Nat}{l:Array Bool}{i j k d e f:Nat}{t u v:TypeId}{z y x:List Value}(hi:Mk P ops i d t z)(hj:Mk P ops j e u y)(hk:Mk P ops k f v x)(hij:i≠j/\i≠k/\j≠k)(hde:d≠e/\d≠f/\e≠f)(hr:Region.ready md ops l=[i,j,k])
  (hr1:Region.ready md ops (l.setIfInBounds i true)=[j,k])(hr2:Region.ready md ops (l.setIfInBounds j true)=[i,k])(hr3:Region.ready md ops (l.setIfInBounds k true)=[i,j])
  (TN:Region.ready md ops ((l.setIfInBounds i true).setIfInBounds j true)=[k])(TM:Region.ready md ops ((l.setIfInBounds i true).setIfInBounds k true)=[j])(TK:Region.ready md ops ((l.setIfInBounds j true).setIfInBounds k true)=[i])(hS:∀V,Kp w V->S V)
  (H:∀V b c g,Kp w V->Bx V b z t->Bx V c y u->Bx V g x v->w.heap.size<=b->w.heap.size<=c->w.heap.size<=g->b≠c->b≠g->c≠g->wpAnyH P md ops Q S fuel (((l.setIfInBounds i true).setIfInBounds j true).setIfInBounds k true) (((a.put (some d) (pX b 0)).put (some e) (pX c 0)).put (some f) (pX g 0)) V):wpAnyH P md ops Q S (fuel+3) l a w:=by
 obtain⟨n1,n2,n3⟩:=hij;obtain⟨m1,m2,m3⟩:=hde;refine wpAnyH_all hr sC fun q hq=>?_
 simp only[abD,ab6,or_false]at hq;rcases hq with rfl|rfl|rfl
 · refine hi.step ⟨hS _ (Kp.af _ _),al2 hj hk n3 m3 hr1 TN TM (fun V kV=>hS V ((Kp.af _ _).tr kV)) fun V c g kV h1 h2 g1 g2 g3=>?_⟩
   have hb:w.heap.size<c/\w.heap.size<g:=by rw[aaY]at g1 g2;omega
   exact H V _ c g ((Kp.af _ _).tr kV) ((Bx.new rfl).kp kV) h1 h2 (aaZ _) oM oM oM oM g3
 · refine hj.step ⟨hS _ (Kp.af _ _),al2 hi hk n2 m2 hr2 (by rw[ab8 _ _ (Ne.symm n1)];exact TN) TK (fun V kV=>hS V ((Kp.af _ _).tr kV)) fun V b g kV h1 h2 g1 g2 g3=>?_⟩
   have hb:w.heap.size<b/\w.heap.size<g:=by rw[aaY]at g1 g2;omega
   have:=H V b _ g ((Kp.af _ _).tr kV) h1 ((Bx.new rfl).kp kV) h2 oM (aaZ _) oM oM g3 oM;rw[ab8 _ _ (Ne.symm n1),Qj (Ne.symm m1)];exact this
 · refine hk.step ⟨hS _ (Kp.af _ _),al2 hi hj n1 m1 hr3 (by rw[ab8 _ _ (Ne.symm n2)];exact TM) (by rw[ab8 _ _ (Ne.symm n3)];exact TK) (fun V kV=>hS V ((Kp.af _ _).tr kV)) fun V b c kV h1 h2 g1 g2 g3=>?_⟩
   have hb:w.heap.size<b/\w.heap.size<c:=by rw[aaY]at g1 g2;omega
   have:=H V b c _ ((Kp.af _ _).tr kV) h1 h2 ((Bx.new rfl).kp kV) oM oM (aaZ _) g3 oM oM;rw[ab8 _ _ (Ne.symm n2),ab8 _ _ (Ne.symm n3),Qj (Ne.symm m2),Qj (Ne.symm m3)];exact this
