/- The landed vjp: the rules, as a map. -/
import Derived.Test.YtokeebkaamjliaaGreatVkE
set_option maxHeartbeats 16000000
set_option maxRecDepth 100000
set_option linter.unusedVariables false
set_option linter.unusedSimpArgs false
namespace Go.Proofs.YtokeebkaamjliaaGreat.Ez
open RowKit ShM GrM InM ImM cF EvM Gz ChangeMaps
theorem MC{P:Program}{W:World}{g:Nat}{L:List (Int×Value)}{k:Int}{t kt et:TypeId}(h:Md W g L)(ht:P.underlying t=some (.map kt et))(hk:P.underlying kt=some (.int .i64))(hn:atM L k=none)(v:Value):
 ∃W',(Instr.mapUpdate t (.map (some g)) (.int .i64 k) v).run P W= .ok () W'/\Md W' g (L++[(k,v)])/\(∀B,B<=g->Below B W W')/\Kc W W':=by
 obtain⟨es,c,hb,e⟩:=h;obtain⟨r,q1,q2⟩:=dL (P:=P) (W:=W) hk e k;rw[hn]at q2;have hr:r=none:=by cases r with|none=>rfl|some x=>simp at q2
 subst hr;refine⟨setBlock W g (.map (es.push ⟨.int .i64 k,v,c⟩) (c+1)),?_,⟨_,_,heap_setBlock_same hb _,?_⟩,fun B hB=>?_,?_⟩
 · simp[Instr.mapUpdate,abk ht,abx hb,abH (e:=false) (n:=9999) hk (show MapKept.IsKey (.int .i64) (.int .i64 k)from rfl),q1,MapKept.run_setObj_map _ hb,Result.andThen,setBlock]
 · simp[e]
 · exact⟨rfl,rfl,rfl,by simp[setBlock],fun j hj=>heap_setBlock_other hb _ oM⟩
 · intro j c t f hj
   have hne:j≠g:=fun e=>by rw[e,hb]at hj;cases hj
   exact(heap_setBlock_other hb _ hne).trans hj
theorem jK{L:List (Int×Value)}{k:Int}(h:k∉L.map Prod.fst):atM L k=none:=by
 induction L with
 |nil=>rfl
 |cons x L ih=>
  have h1:k≠x.1:=fun e=>h (by simp[e])
  have h2:k∉L.map Prod.fst:=fun e=>h (by simp only[abT,abD];exact .inr e)
  have:=ih h2;simp[atM,h1,this]
theorem FN(r:Tn):N64 (DN 20 r).2.1:=by
 unfold DN;split
 · exact uw _ _
 · exact aE
theorem Jv{p q:Nat->Bool}(h:∀x,q x=true->p x=true):∀l:List Nat,l.countP q<=l.countP p
 | []=>aaZ _
 |x::l=>by
  have ih:=Jv h l;rw[List.countP_cons,List.countP_cons];have:=h x;split<;>split<;>simp_all<;>omega
theorem Ju{p q:Nat->Bool}(h:∀x,q x=true->p x=true){i:Nat}(hp:p i=true)(hq:q i=false):∀l:List Nat,i∈l->l.countP q<l.countP p
 | [],hi=>by cases hi
 |x::l,hi=>by
  have ih:=Ju h hp hq l;have hl:=Jv h l;rw[List.countP_cons,List.countP_cons];rcases abD.1 hi with rfl|hi
  · rw[aaT (by simp[hq]),aaW hp];omega
  · have:=ih hi
    have:=h x;split<;>split<;>simp_all<;>omega
theorem Mp{P:Program}{ops:Array Oper}{Q:Exit->Act->World->Prop}(I:Array Bool->Act->World->Prop)(hz:∀l a w,I l a w->l.size=ops.size)
  (hs:∀l a w i,I l a w->i∈Region.ready .any ops l->wpOp P ops Q i (fun a' w'=>I (l.setIfInBounds i true) a' w') a w)
  (he:∀l a w,I l a w->(∀i,i<ops.size->l.getD i true=true)->Q .normal a w)
  (hd:∀(i:Nat) (o:Oper),ops[i]?=some o->∀e∈o.after,e.on<i):
  ∀(fuel:Nat) (l:Array Bool) (a:Act) (w:World),I l a w->(List.range ops.size).countP (fun i=> !l.getD i true)<=fuel->wpAny P .any ops Q fuel l a w:=by
 have hall:∀(l:Array Bool),l.size=ops.size->Region.ready .any ops l=[]->∀i,i<ops.size->l.getD i true=true:=by
  intro l hl hr i
  induction i using Nat.strongRecOn with
  |ind i ih=>
   intro hi
   cases hc:l.getD i true with
   |true=>rfl
   |false=>
    have ho:ops[i]?=some ops[i]:=by simp[hi]
    have:i∈Region.ready .any ops l:=mem_ready.2 ⟨hc,_,ho,fun e h1 _=>by
     have h2:=hd i _ ho e h1;have h3:=ih e.on h2 oM;have h4:e.on<l.size:=by omega
     simpa [Array.getD,h4]using h3⟩
    rw[hr]at this
    cases this
 intro fuel
 induction fuel with
 |zero=>
  intro l a w hI hc;have h0:∀i,i<ops.size->l.getD i true=true:=fun i hi=>by
   have h1:=List.countP_eq_zero.1 (Nat.le_zero.1 hc) i (abZ.2 hi);simpa using h1
  refine⟨?_,he l a w hI h0⟩;refine List.eq_nil_iff_forall_not_mem.2 fun i hi=>?_
  obtain⟨h1,o,ho,_⟩:=mem_ready.1 hi;rw[h0 i (aa0.1 ho).1]at h1
  cases h1
 |succ fuel ih=>
  intro l a w hI hc;refine⟨fun hr=>he l a w hI (hall l (hz l a w hI) hr),fun i hi=>?_⟩;refine wpOp_mono (fun a' w' h'=>ih _ a' w' h' ?_) (hs l a w i hI hi);obtain⟨h1,o,ho,_⟩:=mem_ready.1 hi;have hio:=(aa0.1 ho).1;have hil:i<l.size:=by rw[hz l a w hI];exact hio
  have:=Ju (p:=fun j=> !l.getD j true) (q:=fun j=> !(l.setIfInBounds i true).getD j true) (fun x hx=>by
   by_cases e:i=x
   · subst e
     simp[Array.getD,hil]at hx
   · rwa [acP true e]at hx) (i:=i) (by simp only[h1];rfl) (by simp[Array.getD,hil]) (List.range ops.size) (abZ.2 hio)
  omega
theorem kQ{P:Program}{ops:Array Oper}{Q:Exit->Act->World->Prop}{i:Nat}{o:Oper}{a:Act}{w w':World}{v:Value}{K:Act->World->Prop}(ho:ops[i]?=some o)(hg:o.guard=none)(hr:(execOp a.eval o).run P w= .ok (.value v) w')(hK:K (a.put o.dst v) w'):wpOp P ops Q i K a w:=by
 unfold wpOp;simp only[ho,Region.wanted,hg,if_true,Oper.wp,hr,Oper.upon];exact .inl hK
theorem JD{P:Program}{ops:Array Oper}{Q:Exit->Act->World->Prop}{i:Nat}{o:Oper}{a:Act}{w w':World}{K:Act->World->Prop}(ho:ops[i]?=some o)(hg:o.guard=none)(hr:(execOp a.eval o).run P w= .ok .skip w')(hK:K (a.put o.dst undef) w'):wpOp P ops Q i K a w:=by
 unfold wpOp;simp only[ho,Region.wanted,hg,if_true,Oper.wp,hr,Oper.upon];exact .inl hK
theorem zu{P:Program}{ops:Array Oper}{Q:Exit->Act->World->Prop}{i:Nat}{o:Oper}{a:Act}{w:World}{f:FuncId}{args:Array Value}{R:Value->World->Prop}{K:Act->World->Prop}(ho:ops[i]?=some o)(hg:o.guard=none)(hr:(execOp a.eval o).run P w= .ok (.enter f args) w)(hc:Calls P f args w fun e w'=>∃v,e= .returned v/\R v w')(hK:∀v w',R v w'->K (a.put o.dst v) w'):wpOp P ops Q i K a w:=by
 unfold wpOp;simp only[ho,Region.wanted,hg,if_true,Oper.wp,hr,Oper.upon];refine .inl (hc.mono ?_);rintro e w' ⟨v,rfl,h⟩;exact hK v w' h
def Ent(RU:List Tn)(op:Int)(W0 V:World)(x:Int×Value):Prop:=
 ∃b vs,x.2= .slice (some ⟨b,0,none⟩) vs.length vs.length/\Ez.Bx V b vs 129/\(x.1=op->vs.length=RU.length/\∀(i:Nat) (v:Value) (r:Tn),vs[i]?=some v->RU[i]?=some r->Ru W0 V v True r)
theorem Ent.kc{RU:List Tn}{op:Int}{W0 V V':World}{x:Int×Value}(h:Ent RU op W0 V x)(k:Kc V V'):Ent RU op W0 V' x:=by
 obtain⟨b,vs,e,hx,hr⟩:=h;exact⟨b,vs,e,k _ _ _ _ hx,fun e=>⟨(hr e).1,fun i v r h1 h2=>((hr e).2 i v r h1 h2).kc k⟩⟩
theorem Ru.tt{W0 V:World}{v:Value}{C:Prop}{r:Tn}(h:Ru W0 V v C r)(c:C):Ru W0 V v True r:=by
 obtain⟨f,L,e,hc,h⟩:=h;exact⟨f,L,e,hc,fun U _ k0 k1=>h U c k0 k1⟩
abbrev Pv:=Option (Value ⊕ (Int×Tn) ⊕ Int)
abbrev Pv.no:Pv:=none
abbrev Pv.eq(v:Value):Pv:=some (.inl v)
abbrev Pv.ru(k:Int)(q:Tn):Pv:=some (.inr (.inl (k,q)))
abbrev Pv.ro(k:Int):Pv:=some (.inr (.inr k))
def Pv.ok(RU:List Tn)(op:Int)(W0:World):Pv->Value->World->Prop
 |none,_,_=>True
 |some (.inl u),v,_=>v=u
 |some (.inr (.inl (k,q))),v,w=>Ru W0 w v (k=op) q
 |some (.inr (.inr k)),v,w=>Ent RU op W0 w (k,v)
theorem Pv.kc{RU:List Tn}{op:Int}{W0 w w':World}{p:Pv}{v:Value}(h:p.ok RU op W0 v w)(k:Kc w w'):p.ok RU op W0 v w':=by
 match p,h with
 |none,_=>trivial
 |some (.inl u),h=>exact h
 |some (.inr (.inl (c,q))),h=>exact Ru.kc h k
 |some (.inr (.inr c)),h=>exact Ent.kc h k
def mkT(cs:List Value)(f:Nat->Value):Array Value:=(cs.set 2 (f 2)++(List.range 78).map fun k=>f (k+7)).toArray
def upd(f:Nat->Value)(d:Nat)(v:Value):Nat->Value:=fun k=>if k=d then v else f k
theorem mQ{cs:List Value}(hc:cs.length=7)(f:Nat->Value){d:Nat}(h1:d=2∨7<=d)(h2:d<85)(u:Value):(mkT cs f).getD d u=f d:=by
 rcases h1 with rfl|h1
 · unfold mkT
   simp[Array.getD,hc,List.getElem_append_left]
 · obtain⟨m,rfl⟩:∃m,d=m+7:=⟨d-7,oM⟩
   unfold mkT;simp[Array.getD,hc,List.getElem_append_right,show m<78 by omega]
   try (intro h;omega)
theorem uD{cs:List Value}(hc:cs.length=7)(f:Nat->Value){d:Nat}(h1:d=2∨7<=d)(v:Value):(mkT cs f).setIfInBounds d v=mkT cs (upd f d v):=by
 unfold mkT;rcases h1 with rfl|h1
 · rw[List.setIfInBounds_toArray,List.set_append_left _ _ (by simp;omega),List.set_set]
   have e1:upd f 2 v 2=v:=by simp[upd]
   have e2:(fun k=>upd f 2 v (k+7))=fun k=>f (k+7):=by funext k;simp[upd]
   rw[e1,e2]
 rw[List.setIfInBounds_toArray,acF _ _ (by simp;omega)];have e2:upd f d v 2=f 2:=by unfold upd;rw[aaT oM]
 rw[e2];congr 2;apply List.ext_getElem?;intro k;rw[List.getElem?_set];simp only[abA,abM,aa7,abr];unfold upd;by_cases hk:k<78
 · by_cases e:d-cs.length=k
   · rw[aaW e,aaW oM,abm hk]
     simp[show k+7=d by omega]
   · rw[aaT e,abm hk]
     simp[show¬k+7=d by omega]
 · have:(List.range 78)[k]?=none:=by rw[abO];simp;omega
   rw[this];by_cases e:d-cs.length=k
   · rw[aaW e,aaT oM];rfl
   · rw[aaT e];rfl
def dsl:List Nat:=[7,8,9,10,11,12,13,14,15,16,1000,17,18,19,20,21,22,23,24,25,1000,26,27,28,29,30,31,32,33,34,1000,35,36,37,38,39,40,41,42,43,1000,44,45,46,1000,47,48,49,1000,50,51,52,1000,53,54,55,1000,56,57,58,59,60,1000,61,62,63,1000,64,65,66,1000,67,68,69,1000,70,71,72,73,74,1000,75,76,77,1000,78,79,80,1000,81,82,83,1000,84,2]
def kyl:List (Option Int):=[none,none,none,none,none,none,none,none,none,none,some 10,none,none,none,none,none,none,none,none,none,some 11,none,none,none,none,none,none,none,none,none,some 12,none,none,none,none,none,none,none,none,none,some 13,none,none,none,some 20,none,none,none,some 21,none,none,none,some 22,none,none,none,some 23,none,none,none,none,none,some 30,none,none,none,some 40,none,none,none,some 41,none,none,none,some 42,none,none,none,none,none,some 43,none,none,none,some 50,none,none,none,some 51,none,none,none,some 52,none,none]
theorem SB:((List.range 95).all fun i=>(List.range 95).all fun j=>i==j||dsl.getD i 1000 !=dsl.getD j 1000||dsl.getD i 1000==1000)=true:=by kernel_rfl
theorem jA:((List.range 95).all fun i=>(List.range 95).all fun j=>i==j||kyl.getD i none !=kyl.getD j none||kyl.getD i none==none)=true:=by kernel_rfl
theorem lA{i j:Nat}(hi:i<95)(hj:j<95)(h:i≠j)(hd:dsl.getD i 1000≠1000):dsl.getD j 1000≠dsl.getD i 1000:=by
 have h1:=abn.1 (abn.1 SB i (abZ.2 hi)) j (abZ.2 hj);simp[h]at h1;exact fun e=>(h1.resolve_right hd) e.symm
theorem OE{i j:Nat}(hi:i<95)(hj:j<95){k:Int}(h1:kyl.getD i none=some k)(h2:kyl.getD j none=some k):i=j:=by
 have h3:=abn.1 (abn.1 jA i (abZ.2 hi)) j (abZ.2 hj);rw[h1,h2]at h3;by_cases e:i=j
 · exact e
 · simp[e]at h3
structure In(RU:List Tn)(op:Int)(W0:World)(cs:List Value)(ph:List Pv)(l:Array Bool)(a:Act)(w:World):Prop where
 hz:l.size=95
 ex:∃f,a={tmps:=mkT cs f,defers:=[]}/\(∀i,i<95->l.getD i true=true->(ph.getD i .no).ok RU op W0 (f (dsl.getD i 1000)) w)/\
  (l.getD 0 true=true->∃gm L,f 7= .map (some gm)/\W0.heap.size<=gm/\Md w gm L/\(∀x∈L,Ent RU op W0 w x)/\∀k,k∈L.map Prod.fst↔∃j,j<95/\l.getD j true=true/\kyl.getD j none=some k)/\(l.getD 93 true=true->f 84=f 7)/\(l.getD 94 true=true->f 2=f 7)
 kp:Kp W0 w
 hn:l.getD 0 true=false->∀j,j<95->(kyl.getD j none).isSome=true∨93<=j->l.getD j true=false
section
variable{P:Program}{ops:Array Oper}{Q:Exit->Act->World->Prop}{RU:List Tn}{op:Int}{W0:World}{cs:List Value}{ph:List Pv}{l:Array Bool}{a:Act}{w:World}{i:Nat}
theorem fO{l:Array Bool}(hz:l.size=95){i j:Nat}(hj:j<95)(h:(l.setIfInBounds i true).getD j true=true)(hne:i≠j):l.getD j true=true:=by rwa [acP true hne]at h
def key(o:Oper):Option Tmp×Op×Bool×List Nat:=(o.dst,o.op,o.guard.isNone,(o.after.toList.filter fun e=>Region.binds .any e).map (·.on))
theorem ia{T:List (Option Tmp×Op×Bool×List Nat)}(HT:ops.toList.map key=T){i:Nat}{d:Option Tmp}{p:Op}{ds:List Nat}(h:T[i]?=some (d,p,true,ds)):∃o,ops[i]?=some o/\o.dst=d/\o.op=p/\o.guard=none/\(o.after.toList.filter fun e=>Region.binds .any e).map (·.on)=ds:=by
 rw[<-HT,aa7]at h
 cases ho:ops.toList[i]? with
 |none=>rw[ho]at h;cases h
 |some o=>
  rw[ho]at h;have h:key o=(d,p,true,ds):=by simpa using h
  unfold key at h;obtain⟨e1,h⟩:=Prod.mk.inj h;obtain⟨e2,h⟩:=Prod.mk.inj h;obtain⟨e3,e4⟩:=Prod.mk.inj h;exact⟨o,by rw[<-Array.getElem?_toList];exact ho,e1,e2,by simpa using e3,e4⟩
theorem In.dep(h:In RU op W0 cs ph l a w)(hr:i∈Region.ready .any ops l){o:Oper}(ho:ops[i]?=some o){ds:List Nat}(hd:(o.after.toList.filter fun e=>Region.binds .any e).map (·.on)=ds){j:Nat}(hj:j∈ds)(hj3:j<95):l.getD j true=true:=by
 obtain⟨_,o',ho',hq⟩:=mem_ready.1 hr;rw[ho]at ho';injection ho' with ho'
 subst ho' hd;obtain⟨e,he,rfl⟩:=abN.1 hj;obtain⟨h1,h2⟩:=List.mem_filter.1 he;have:=hq e (by simpa using h1) h2;have hl:e.on<l.size:=by rw[h.hz];exact hj3
 simpa [Array.getD,hl]using this
theorem un(hr:i∈Region.ready .any ops l):l.getD i true=false:=(mem_ready.1 hr).1
theorem In.val(hc:cs.length=7)(h:In RU op W0 cs ph l a w)(hi:i<93)(hi0:i≠0)(hun:l.getD i true=false){d:Nat}(hd:dsl.getD i 1000=d)(h7:d=2∨7<=d)(h85:d<85){v:Value}{w':World}(hk:Kp w w')(hky:kyl.getD i none=none)
  (hp:∀f,a={tmps:=mkT cs f,defers:=[]}->(ph.getD i .no).ok RU op W0 v w'):In RU op W0 cs ph (l.setIfInBounds i true) (a.put (some d) v) w':=by
 obtain⟨hz,⟨f,rfl,hf,hm,hA,hB⟩,kp,hn⟩:=h;have hp:=hp f rfl;have hil:i<l.size:=by omega
 refine⟨by simpa using hz,⟨upd f d v,?_,fun j hj hl=>?_,fun h0=>?_,fun h0=>?_,fun h0=>?_⟩,kp.tr hk,fun h0 j hj hs=>?_⟩
 · show({tmps:=(mkT cs f).setIfInBounds d v,defers:=[]}:Act)=_
   rw[uD hc f h7]
 · by_cases e:i=j
   · subst e
     rw[hd];unfold upd;rw[aaW rfl];exact hp
   · have h1:=hf j hj (fO hz hj hl e)
     have h2:dsl.getD j 1000≠d:=by rw[<-hd];exact lA oM hj e oM
     unfold upd;rw[aaT h2];exact Pv.kc h1 (Kc.kp hk)
 · obtain⟨gm,L,e7,hW,h1,h2,h3⟩:=hm (fO hz oM h0 hi0)
   have h7d:7≠d:=by
    have:=lA (i:=i) (j:=0) oM oM hi0 oM;rw[hd]at this;exact this
   refine⟨gm,L,by unfold upd;rw[aaT h7d];exact e7,hW,h1.kp hk,fun x hx=>(h2 x hx).kc (Kc.kp hk),fun k=>(h3 k).trans ⟨fun⟨j,q1,q2,q3⟩=>⟨j,q1,?_,q3⟩,fun⟨j,q1,q2,q3⟩=>⟨j,q1,?_,q3⟩⟩⟩
   · by_cases e:i=j
     · subst e;rw[hky]at q3;cases q3
     · rw[acP true e];exact q2
   · by_cases e:i=j
     · subst e;rw[hky]at q3;cases q3
     · exact fO hz q1 q2 e
 · have q1:=lA (i:=i) (j:=93) oM oM oM oM
   have q2:=lA (i:=i) (j:=0) oM oM hi0 oM;rw[hd]at q1 q2;have q1:84≠d:=q1;have q2:7≠d:=q2;unfold upd;rw[aaT q1,aaT q2];exact hA (fO hz oM h0 oM)
 · have q1:=lA (i:=i) (j:=94) oM oM oM oM
   have q2:=lA (i:=i) (j:=0) oM oM hi0 oM;rw[hd]at q1 q2;have q1:2≠d:=q1;have q2:7≠d:=q2;unfold upd;rw[aaT q1,aaT q2];exact hB (fO hz oM h0 oM)
 · have e:i≠j:=fun e=>by
    subst e;rcases hs with hs|hs
    · rw[hky]at hs;cases hs
    · omega
   rw[acP true e];rw[acP true hi0]at h0;exact hn h0 j hj hs
theorem In.eval(hc:cs.length=7)(h:In RU op W0 cs ph l a w){j:Nat}(hj:j<95)(hl:l.getD j true=true){d:Nat}(hd:dsl.getD j 1000=d)(h7:d=2∨7<=d)(h85:d<85){p:Pv}(hp:ph.getD j .no=p):p.ok RU op W0 (a.eval (.tmp d)) w:=by
 obtain⟨hz,⟨f,rfl,hf,hm,hA,hB⟩,kp,hn⟩:=h;have:=hf j hj hl;rw[hd,hp]at this;show p.ok RU op W0 ((mkT cs f).getD d undef) w;rw[mQ hc f h7 h85];exact this
theorem In.evc(hc:cs.length=7)(h:In RU op W0 cs ph l a w){d:Nat}(hd:d<7)(hd2:d≠2):a.eval (.tmp d)=cs.getD d undef:=by
 obtain⟨hz,⟨f,rfl,hf,hm,hA,hB⟩,kp,hn⟩:=h;show(mkT cs f).getD d undef=_;unfold mkT;have:d<cs.length:=by omega
 simp[Array.getD,List.getElem_append_left,this,show d<cs.length+78 by omega,List.getElem_set,Ne.symm hd2]
theorem In.made(hc:cs.length=7)(h:In RU op W0 cs ph l a w)(hun:l.getD 0 true=false)(h00:ph.getD 0 .no= .no):In RU op W0 cs ph (l.setIfInBounds 0 true) (a.put (some 7) (.map (some w.heap.size))) (w.alloc (.map #[] 0)):=by
 obtain⟨hz,⟨f,rfl,hf,hm,hA,hB⟩,kp,hn⟩:=h;refine⟨by simpa using hz,⟨upd f 7 (.map (some w.heap.size)),?_,fun j hj hl=>?_,fun h0=>?_,fun h1=>?_,fun h1=>?_⟩,kp.tr (Kp.af _ _),fun h0=>by simp[Array.getD,show 0<l.size by omega]at h0⟩
 · show({tmps:=(mkT cs f).setIfInBounds 7 _,defers:=[]}:Act)=_
   rw[uD hc f oM]
 · by_cases e:0=j
   · subst e;rw[h00];trivial
   · have h1:=hf j hj (fO hz hj hl e)
     have h2:dsl.getD j 1000≠7:=lA (i:=0) oM hj e dG;unfold upd;rw[aaT h2];exact Pv.kc h1 (Kc.kp (Kp.af _ _))
 · refine⟨w.heap.size,[],by unfold upd;rw[aaW rfl],kp.size,Md.new w,fun x hx=>(by cases hx),fun k=>⟨fun hx=>(by cases hx),fun⟨j,q1,q2,q3⟩=>?_⟩⟩
   have h1:=hn hun j q1 (.inl (by rw[q3];rfl));have e:0≠j:=fun e=>by subst e;cases q3
   rw[acP true e,h1]at q2
   cases q2
 · rw[acP true oM,hn hun 93 oM (.inr oM)]at h1
   cases h1
 · rw[acP true oM,hn hun 94 oM (.inr oM)]at h1
   cases h1
theorem In.cp(hc:cs.length=7)(h:In RU op W0 cs ph l a w)(hi:i=93∨i=94)(h0:l.getD 0 true=true){d:Nat}(hd:dsl.getD i 1000=d)(hp:ph.getD i .no= .no):In RU op W0 cs ph (l.setIfInBounds i true) (a.put (some d) (a.eval (.tmp 7))) w:=by
 obtain⟨hz,⟨f,rfl,hf,hm,hA,hB⟩,kp,hn⟩:=h;have e7:({tmps:=mkT cs f,defers:=[]}:Act).eval (.tmp 7)=f 7:=mQ hc f oM oM _;rw[e7];have hd2:(i=93/\d=84)∨(i=94/\d=2):=by
  rcases hi with rfl|rfl
  · exact .inl ⟨rfl,hd.symm⟩
  · exact .inr ⟨rfl,hd.symm⟩
 have hky:kyl.getD i none=none:=by rcases hi with rfl|rfl<;>rfl
 refine⟨by simpa using hz,⟨upd f d (f 7),?_,fun j hj hl=>?_,fun _=>?_,fun h1=>?_,fun h1=>?_⟩,kp,fun h1=>by rw[acP true oM,h0]at h1;cases h1⟩
 · show({tmps:=(mkT cs f).setIfInBounds d _,defers:=[]}:Act)=_
   rw[uD hc f oM]
 · by_cases e:i=j
   · subst e;rw[hp];trivial
   · have h2:dsl.getD j 1000≠d:=by rw[<-hd];exact lA oM hj e oM
     unfold upd;rw[aaT h2];exact hf j hj (fO hz hj hl e)
 · obtain⟨gm,L,e7,hW,h1,h2,h3⟩:=hm h0
   refine⟨gm,L,by unfold upd;rw[aaT oM];exact e7,hW,h1,h2,fun k=>(h3 k).trans ⟨fun⟨j,q1,q2,q3⟩=>⟨j,q1,?_,q3⟩,fun⟨j,q1,q2,q3⟩=>⟨j,q1,?_,q3⟩⟩⟩
   · by_cases e:i=j
     · subst e;rw[hky]at q3;cases q3
     · rw[acP true e];exact q2
   · by_cases e:i=j
     · subst e;rw[hky]at q3;cases q3
     · exact fO hz q1 q2 e
 · unfold upd
   rw[aaT (show¬7=d by omega)];rcases hd2 with⟨rfl,rfl⟩|⟨rfl,rfl⟩
   · rw[aaW rfl]
   · rw[aaT oM];exact hA (fO hz oM h1 oM)
 · unfold upd
   rw[aaT (show¬7=d by omega)];rcases hd2 with⟨rfl,rfl⟩|⟨rfl,rfl⟩
   · rw[aaT oM];exact hB (fO hz oM h1 oM)
   · rw[aaW rfl]
theorem In.ins(hc:cs.length=7)(h:In RU op W0 cs ph l a w)(hi:i<93)(hi0:i≠0)(hun:l.getD i true=false)(h0:l.getD 0 true=true){k:Int}(hky:kyl.getD i none=some k)(hno:ph.getD i .no= .no){v:Value}(hv:Ent RU op W0 w (k,v)):
  ∃gm w',a.eval (.tmp 7)= .map (some gm)/\(Instr.mapUpdate 124 (.map (some gm)) (.int .i64 k) v).run Tryz.prog w= .ok () w'/\In RU op W0 cs ph (l.setIfInBounds i true) a w':=by
 obtain⟨hz,⟨f,rfl,hf,hm,hA,hB⟩,kp,hn⟩:=h;obtain⟨gm,L,e7,hW,h1,h2,h3⟩:=hm h0;have hil:i<l.size:=by omega
 have hk:k∉L.map Prod.fst:=fun hk=>by
  obtain⟨j,q1,q2,q3⟩:=(h3 k).1 hk;have:=OE oM q1 hky q3;subst this;rw[hun]at q2
  cases q2
 obtain⟨w',hrun,r1,r2,r3⟩:=MC h1 Tryz.underlying124 Tryz.underlying3 (jK hk) v;refine⟨gm,w',?_,hrun,by simpa using hz,⟨f,rfl,fun j hj hl=>?_,fun _=>⟨gm,_,e7,hW,r1,fun x hx=>?_,fun k'=>?_⟩,fun h1=>hA (fO hz oM h1 oM),fun h1=>hB (fO hz oM h1 oM)⟩,kp.trans (r2 _ hW),fun h1=>by rw[acP true hi0,h0]at h1;cases h1⟩
 · show(mkT cs f).getD 7 undef=_
   rw[mQ hc f oM oM];exact e7
 · by_cases e:i=j
   · subst e;rw[hno];trivial
   · exact Pv.kc (hf j hj (fO hz hj hl e)) r3
 · rcases acg.1 hx with hx|hx
   · exact(h2 x hx).kc r3
   · rw[abF.1 hx];exact hv.kc r3
 · rw[abK,acg,h3 k']
   refine⟨fun hx=>?_,fun⟨j,q1,q2,q3⟩=>?_⟩
   · rcases hx with⟨j,q1,q2,q3⟩|hx
     · refine⟨j,q1,?_,q3⟩
       by_cases e:i=j
       · subst e;simp[Array.getD,hil]
       · rw[acP true e];exact q2
     · have:k'=k:=by simpa using hx
       subst this;exact⟨i,oM,by simp[Array.getD,hil],hky⟩
   · by_cases e:i=j
     · subst e
       rw[hky]at q3;injection q3 with q3
       subst q3;exact .inr sC
     · exact .inl ⟨j,q1,fO hz q1 q2 e,q3⟩
end
section
variable{ops:Array Oper}{Q:Exit->Act->World->Prop}{RU:List Tn}{op:Int}{W0:World}{cs:List Value}{ph:List Pv}{l:Array Bool}{a:Act}{w:World}{i:Nat}{TA:List (Option Tmp×Op×Bool×List Nat)}
theorem Kp.rf(w:World):Kp w w:=Kp.refl _
theorem nB(hc:cs.length=7)(HT:ops.toList.map key=TA)(h:In RU op W0 cs ph l a w)(hr:i∈Region.ready .any ops l){d s:Nat}{v:Value}{ds:List Nat}(ht:TA[i]?=some (some d, .move (.tmp s),true,ds))(hi:i<93)(hi0:i≠0)(hd:dsl.getD i 1000=d)(h7:d=2∨7<=d)(h85:d<85)(hk:kyl.getD i none=none)(hs:s<7)(hs2:s≠2)(hv:cs.getD s undef=v)(hp:ph.getD i .no= .eq v):
  wpOp Tryz.prog ops Q i (fun a' w'=>In RU op W0 cs ph (l.setIfInBounds i true) a' w') a w:=by
 obtain⟨o,ho,e1,e2,hg,_⟩:=ia HT ht;refine kQ ho hg (v:=v) (w':=w) ?_ ?_
 · have:=(h.evc hc hs hs2).trans hv
   simp[execOp,e2,this]
 · rw[e1]
   exact h.val hc hi hi0 (un hr) hd h7 h85 (Kp.rf w) hk fun f _=>by rw[hp];rfl
theorem I6(hc:cs.length=7)(HT:ops.toList.map key=TA)(h:In RU op W0 cs ph l a w)(hr:i∈Region.ready .any ops l){d n bj off:Nat}{ds:List Nat}(ht:TA[i]?=some (some d, .fieldAddr 127 (.tmp 1) n,true,ds))(hi:i<93)(hi0:i≠0)(hd:dsl.getD i 1000=d)(h7:d=2∨7<=d)(h85:d<85)(hk:kyl.getD i none=none)(hv:cs.getD 1 undef= pX bj 0)
  (hf:∀w,(Instr.fieldAt 127 (pX bj 0) n).run Tryz.prog w= .ok (pX bj off) w)(hp:ph.getD i .no= .eq (pX bj off)):
  wpOp Tryz.prog ops Q i (fun a' w'=>In RU op W0 cs ph (l.setIfInBounds i true) a' w') a w:=by
 obtain⟨o,ho,e1,e2,hg,_⟩:=ia HT ht;refine kQ ho hg (v:= pX bj off) (w':=w) ?_ ?_
 · have:=(h.evc hc (d:=1) oM oM).trans hv
   simp[execOp,e2,this,hf,Result.andThen]
 · rw[e1]
   exact h.val hc hi hi0 (un hr) hd h7 h85 (Kp.rf w) hk fun f _=>by rw[hp];rfl
theorem I5(hc:cs.length=7)(HT:ops.toList.map key=TA)(h:In RU op W0 cs ph l a w)(hr:i∈Region.ready .any ops l){d s j bj off:Nat}{ds:List Nat}{S D:DV}{n c m e:Nat}(ht:TA[i]?=some (some d, .load 25 (.tmp s),true,ds))(hi:i<93)(hi0:i≠0)(hd:dsl.getD i 1000=d)(h7:d=2∨7<=d)(h85:d<85)(hk:kyl.getD i none=none)
  (hj:j∈ds)(hj3:j<95)(hs:dsl.getD j 1000=s)(h7s:s=2∨7<=s)(CI:s<85)(hpj:ph.getD j .no= .eq (pX bj off))(hf:∀w,Kp W0 w->(Instr.loadAt 25 (pX bj off)).run Tryz.prog w= .ok (.agg #[.slice S n c, .slice D m e]) w)(hp:ph.getD i .no= .eq (.agg #[.slice S n c, .slice D m e])):
  wpOp Tryz.prog ops Q i (fun a' w'=>In RU op W0 cs ph (l.setIfInBounds i true) a' w') a w:=by
 obtain⟨o,ho,e1,e2,hg,e3⟩:=ia HT ht;refine kQ ho hg (v:= .agg #[.slice S n c, .slice D m e]) (w':=w) ?_ ?_
 · have:a.eval (.tmp s)= pX bj off:=h.eval hc hj3 (h.dep hr ho e3 hj hj3) hs h7s CI hpj
   simp[execOp,e2,this,hf w h.kp,Result.andThen]
 · rw[e1]
   exact h.val hc hi hi0 (un hr) hd h7 h85 (Kp.rf w) hk fun f _=>by rw[hp];rfl
theorem vX(hc:cs.length=7)(HT:ops.toList.map key=TA)(h:In RU op W0 cs ph l a w)(hr:i∈Region.ready .any ops l){d s j m f bj:Nat}{ds:List Nat}{ty:TypeId}{kk:Int}{q:Tn}(hcf:∀args W,(callFunc f args).run Tryz.prog W= .ok (.enter f args) W)(ht:TA[i]?=some (some d, .call {callee:= .value (.tmp s),args:= #[.func m],argTypes:= #[ty]},true,ds))(hi:i<93)(hi0:i≠0)(hd:dsl.getD i 1000=d)(h7:d=2∨7<=d)(h85:d<85)(hk:kyl.getD i none=none)
  (hj:j∈ds)(hj3:j<95)(hs:dsl.getD j 1000=s)(h7s:s=2∨7<=s)(CI:s<85)(hpj:ph.getD j .no= .eq (.func (.func f) #[] #[pX bj 0]))(hp:ph.getD i .no= .ru kk q)
  (Sb:∀W,Kp W0 W->CJ f #[.func (.func m) #[] #[], pX bj 0] W fun e V=>∃v,e= .returned v/\Ru W0 V v (kk=op) q/\Kp W V):
  wpOp Tryz.prog ops Q i (fun a' w'=>In RU op W0 cs ph (l.setIfInBounds i true) a' w') a w:=by
 obtain⟨o,ho,e1,e2,hg,e3⟩:=ia HT ht;have:a.eval (.tmp s)= .func (.func f) #[] #[pX bj 0]:=h.eval hc hj3 (h.dep hr ho e3 hj hj3) hs h7s CI hpj;have hm:a.eval (.func m)= .func (.func m) #[] #[]:=rfl;refine zu ho hg (f:=f) (args:= #[.func (.func m) #[] #[], pX bj 0]) ?_ (Sb w h.kp) fun v w' hR=>?_
 · simp[execOp,e2,resolve,Deferred.ofValue,this,hm,invoke,hcf,Result.andThen]
 · rw[e1]
   exact h.val hc hi hi0 (un hr) hd h7 h85 hR.2 hk fun f _=>by rw[hp];exact hR.1
theorem I7(hc:cs.length=7)(HT:ops.toList.map key=TA)(h:In RU op W0 cs ph l a w)(hr:i∈Region.ready .any ops l){d s j s2 j2 m f bj:Nat}{ds:List Nat}{ty ty2:TypeId}{kk:Int}{q:Tn}{u:Value}(hcf:∀args W,(callFunc f args).run Tryz.prog W= .ok (.enter f args) W)(ht:TA[i]?=some (some d, .call {callee:= .value (.tmp s),args:= #[.func m, .tmp s2],argTypes:= #[ty,ty2]},true,ds))(hi:i<93)(hi0:i≠0)(hd:dsl.getD i 1000=d)(h7:d=2∨7<=d)(h85:d<85)(hk:kyl.getD i none=none)
  (hj:j∈ds)(hj3:j<95)(hs:dsl.getD j 1000=s)(h7s:s=2∨7<=s)(CI:s<85)(hpj:ph.getD j .no= .eq (.func (.func f) #[] #[pX bj 0]))(hj2:j2∈ds)(O0:j2<95)(hs2:dsl.getD j2 1000=s2)(Sk:s2=2∨7<=s2)(Lr:s2<85)(RJ:ph.getD j2 .no= .eq u)(hp:ph.getD i .no= .ru kk q)
  (Sb:∀W,Kp W0 W->CJ f #[.func (.func m) #[] #[],u, pX bj 0] W fun e V=>∃v,e= .returned v/\Ru W0 V v (kk=op) q/\Kp W V):
  wpOp Tryz.prog ops Q i (fun a' w'=>In RU op W0 cs ph (l.setIfInBounds i true) a' w') a w:=by
 obtain⟨o,ho,e1,e2,hg,e3⟩:=ia HT ht;have:a.eval (.tmp s)= .func (.func f) #[] #[pX bj 0]:=h.eval hc hj3 (h.dep hr ho e3 hj hj3) hs h7s CI hpj;have h2:a.eval (.tmp s2)=u:=h.eval hc O0 (h.dep hr ho e3 hj2 O0) hs2 Sk Lr RJ;have hm:a.eval (.func m)= .func (.func m) #[] #[]:=rfl;refine zu ho hg (f:=f) (args:= #[.func (.func m) #[] #[],u, pX bj 0]) ?_ (Sb w h.kp) fun v w' hR=>?_
 · simp[execOp,e2,resolve,Deferred.ofValue,this,hm,h2,invoke,hcf,Result.andThen]
 · rw[e1]
   exact h.val hc hi hi0 (un hr) hd h7 h85 hR.2 hk fun f _=>by rw[hp];exact hR.1
theorem DP(hc:cs.length=7)(HT:ops.toList.map key=TA)(h:In RU op W0 cs ph l a w)(hr:i∈Region.ready .any ops l){d s j:Nat}{ds:List Nat}{kk:Int}{q:Tn}(ht:TA[i]?=some (some d, .buildSlice 123 1 #[(0, .tmp s)],true,ds))(hi:i<93)(hi0:i≠0)(hd:dsl.getD i 1000=d)(h7:d=2∨7<=d)(h85:d<85)(hk:kyl.getD i none=none)
  (hj:j∈ds)(hj3:j<95)(hs:dsl.getD j 1000=s)(h7s:s=2∨7<=s)(CI:s<85)(hpj:ph.getD j .no= .ru kk q)(hp:ph.getD i .no= .ro kk)(hq:kk=op->RU=[q]):
  wpOp Tryz.prog ops Q i (fun a' w'=>In RU op W0 cs ph (l.setIfInBounds i true) a' w') a w:=by
 obtain⟨o,ho,e1,e2,hg,e3⟩:=ia HT ht;have h1:Ru W0 w (a.eval (.tmp s)) (kk=op) q:=h.eval hc hj3 (h.dep hr ho e3 hj hj3) hs h7s CI hpj;obtain⟨v,hv⟩:=eX (a.eval (.tmp s));rw[<-hv]at h1;refine kQ ho hg (v:= .slice (some ⟨w.heap.size,0,none⟩) 1 1) (w':=w.alloc (.cells #[v] 129)) ?_ ?_
 · obtain⟨f,L,rfl,_⟩:=h1
   rw[execOp,e2];simp only[ab7,abT,ack,<-hv];go_simp
 · rw[e1]
   refine h.val hc hi hi0 (un hr) hd h7 h85 (Kp.af _ _) hk fun f _=>?_
   rw[hp];refine⟨w.heap.size,[v],rfl,Ez.Bx.new rfl,fun e=>?_⟩;have e:kk=op:=e;rw[hq e];refine⟨rfl,fun n u r g1 g2=>?_⟩
   match n with
   |0=>
    simp at g1 g2;subst g1 g2;exact(h1.tt e).kc (Kc.kp (Kp.af _ _))
   |n+1=>simp at g1
theorem ML(hc:cs.length=7)(HT:ops.toList.map key=TA)(h:In RU op W0 cs ph l a w)(hr:i∈Region.ready .any ops l){d s j s2 j2:Nat}{ds:List Nat}{kk:Int}{q q2:Tn}(ht:TA[i]?=some (some d, .buildSlice 123 2 #[(0, .tmp s),(1, .tmp s2)],true,ds))(hi:i<93)(hi0:i≠0)(hd:dsl.getD i 1000=d)(h7:d=2∨7<=d)(h85:d<85)(hk:kyl.getD i none=none)
  (hj:j∈ds)(hj3:j<95)(hs:dsl.getD j 1000=s)(h7s:s=2∨7<=s)(CI:s<85)(hpj:ph.getD j .no= .ru kk q)(hj2:j2∈ds)(O0:j2<95)(hs2:dsl.getD j2 1000=s2)(Sk:s2=2∨7<=s2)(Lr:s2<85)(RJ:ph.getD j2 .no= .ru kk q2)(hp:ph.getD i .no= .ro kk)(hq:kk=op->RU=[q,q2]):
  wpOp Tryz.prog ops Q i (fun a' w'=>In RU op W0 cs ph (l.setIfInBounds i true) a' w') a w:=by
 obtain⟨o,ho,e1,e2,hg,e3⟩:=ia HT ht;have h1:Ru W0 w (a.eval (.tmp s)) (kk=op) q:=h.eval hc hj3 (h.dep hr ho e3 hj hj3) hs h7s CI hpj;have h2:Ru W0 w (a.eval (.tmp s2)) (kk=op) q2:=h.eval hc O0 (h.dep hr ho e3 hj2 O0) hs2 Sk Lr RJ;obtain⟨v,hv⟩:=eX (a.eval (.tmp s));obtain⟨v2,hv2⟩:=eX (a.eval (.tmp s2));rw[<-hv]at h1;rw[<-hv2]at h2;refine kQ ho hg (v:= .slice (some ⟨w.heap.size,0,none⟩) 2 2) (w':=w.alloc (.cells #[v,v2] 129)) ?_ ?_
 · obtain⟨f,L,rfl,_⟩:=h1
   obtain⟨f2,L2,rfl,_⟩:=h2;rw[execOp,e2];simp only[ab7,abT,ack,<-hv,<-hv2];go_simp
 · rw[e1]
   refine h.val hc hi hi0 (un hr) hd h7 h85 (Kp.af _ _) hk fun f _=>?_
   rw[hp];refine⟨w.heap.size,[v,v2],rfl,Ez.Bx.new rfl,fun e=>?_⟩;have e:kk=op:=e;rw[hq e];refine⟨rfl,fun n u r g1 g2=>?_⟩
   match n with
   |0=>
    simp at g1 g2;subst g1 g2;exact(h1.tt e).kc (Kc.kp (Kp.af _ _))
   |1=>
    simp at g1 g2;subst g1 g2;exact(h2.tt e).kc (Kc.kp (Kp.af _ _))
   |n+2=>simp at g1
theorem tD(hc:cs.length=7)(HT:ops.toList.map key=TA)(h:In RU op W0 cs ph l a w)(hr:i∈Region.ready .any ops l){s j:Nat}{ds:List Nat}{kk:Int}(ht:TA[i]?=some (none, .insert 124 (.tmp 7) (.const (.int .i64 kk)) (.tmp s),true,ds))(hi:i<93)(hi0:i≠0)(hk:kyl.getD i none=some kk)
  (hj:j∈ds)(hj0:0∈ds)(hj3:j<95)(hs:dsl.getD j 1000=s)(h7s:s=2∨7<=s)(CI:s<85)(hpj:ph.getD j .no= .ro kk)(hp:ph.getD i .no= .no):
  wpOp Tryz.prog ops Q i (fun a' w'=>In RU op W0 cs ph (l.setIfInBounds i true) a' w') a w:=by
 obtain⟨o,ho,e1,e2,hg,e3⟩:=ia HT ht;have h1:Ent RU op W0 w (kk,a.eval (.tmp s)):=h.eval hc hj3 (h.dep hr ho e3 hj hj3) hs h7s CI hpj;obtain⟨gm,w',q1,q2,q3⟩:=h.ins hc hi hi0 (un hr) (h.dep hr ho e3 hj0 oM) hk hp h1;refine JD ho hg (w':=w') ?_ ?_
 · have hx:a.eval (.const (.int .i64 kk))= .int .i64 kk:=rfl
   simp[execOp,e2,q1,hx,q2,Result.andThen]
 · rw[e1]
   exact q3
theorem U8(hc:cs.length=7)(HT:ops.toList.map key=TA)(h:In RU op W0 cs ph l a w)(hr:93∈Region.ready .any ops l){ds:List Nat}(ht:TA[93]?=some (some 84, .move (.tmp 7),true,ds))(h0:0∈ds)(hp:ph.getD 93 .no= .no):
  wpOp Tryz.prog ops Q 93 (fun a' w'=>In RU op W0 cs ph (l.setIfInBounds 93 true) a' w') a w:=by
 obtain⟨o,ho,e1,e2,hg,e3⟩:=ia HT ht;refine kQ ho hg (v:=a.eval (.tmp 7)) (w':=w) ?_ ?_
 · simp[execOp,e2]
 · rw[e1]
   exact h.cp hc (.inl rfl) (h.dep hr ho e3 h0 oM) rfl hp
theorem U9(hc:cs.length=7)(HT:ops.toList.map key=TA)(h:In RU op W0 cs ph l a w)(hr:94∈Region.ready .any ops l){ds:List Nat}(ht:TA[94]?=some (some 2, .assign (.tmp 84),true,ds))(h0:0∈ds)(h9:93∈ds)(hp:ph.getD 94 .no= .no):
  wpOp Tryz.prog ops Q 94 (fun a' w'=>In RU op W0 cs ph (l.setIfInBounds 94 true) a' w') a w:=by
 obtain⟨o,ho,e1,e2,hg,e3⟩:=ia HT ht;have hh:=h;obtain⟨hz,⟨f,rfl,hf,hm,hA,hB⟩,kp,hn⟩:=hh;have e:({tmps:=mkT cs f,defers:=[]}:Act).eval (.tmp 84)=({tmps:=mkT cs f,defers:=[]}:Act).eval (.tmp 7):=by
  show(mkT cs f).getD 84 undef=(mkT cs f).getD 7 undef;rw[mQ hc f oM oM,mQ hc f oM oM];exact hA (h.dep hr ho e3 h9 oM)
 refine kQ ho hg (v:=({tmps:=mkT cs f,defers:=[]}:Act).eval (.tmp 7)) (w':=w) ?_ ?_
 · simp[execOp,e2,e]
 · rw[e1]
   exact h.cp hc (.inr rfl) (h.dep hr ho e3 h0 oM) rfl hp
theorem U7(hc:cs.length=7)(HT:ops.toList.map key=TA)(h:In RU op W0 cs ph l a w)(hr:0∈Region.ready .any ops l){ds:List Nat}(ht:TA[0]?=some (some 7, .makeMap 124 none,true,ds))(hp:ph.getD 0 .no= .no):
  wpOp Tryz.prog ops Q 0 (fun a' w'=>In RU op W0 cs ph (l.setIfInBounds 0 true) a' w') a w:=by
 obtain⟨o,ho,e1,e2,hg,e3⟩:=ia HT ht;refine kQ ho hg (v:= .map (some w.heap.size)) (w':=w.alloc (.map #[] 0)) ?_ ?_
 · have hmm:= @run_makeMap Tryz.prog 124 w
   simp[execOp,e2,hmm,Result.andThen]
 · rw[e1]
   exact h.made hc (un hr) hp
end
structure Fq(op:Int)(nums:BU)(a b o g:T)(k:Nat)(y z z2:Int)(RU:List Tn):Prop where
 f21:op=21->a.2.length=g.2.length/\g.2.length<=1000/\g.1.length<=1000
 f22:op=22->a.2.length<=1000
 fk:op=42∨op=43∨(50<=op/\op<=52)->nums[0]?=some (k:Int)/\a.1[k]?=some y
 f42:op=42->nums[1]?=some z
 f43:op=43->g.1[k]?=some z2
 f51:op=51->1<=y/\y<=16
 q10:10=op->RU=[cG ((g.1,g.2,0)) a.1,cG ((g.1,g.2,0)) b.1]
 q11:11=op->RU=[cG ((g.1,g.2,0)) a.1,cG (dS 20 g.1 g.2) b.1]
 q12:12=op->RU=[cG (bg 12 g.1 g.2 b.1 b.2) a.1,cG (bg 12 g.1 g.2 a.1 a.2) b.1]
 q13:13=op->RU=[cG (bg 13 g.1 g.2 b.1 b.2) a.1,cG (DN 20 (xg 13 (bg 12 g.1 g.2 o.1 o.2) b)) b.1]
 q20:20=op->RU=[dS 20 g.1 g.2]
 q21:21=op->RU=[(g.1,f9 a.2 g.2,0)]
 q22:22=op->RU=[fY 12 g (gH a)]
 q23:23=op->RU=[fY 13 g (bg 10 o.1 o.2 o.1 o.2)]
 q30:30=op->RU=[fL g.1 g.2 b.1 b.2,di a.1 a.2 g.1 g.2]
 q40:40=op->RU=[aJ g.1 g.2 a.1]
 q41:41=op->RU=[bF g.1 g.2]
 q42:42=op->RU=[lS g.1 g.2 (k:Int) z y]
 q43:43=op->RU=[aS g.1 g.2 (k:Int) 0 y,aS g.1 g.2 (k:Int) y z2]
 q50:50=op->RU=[bE g.1 g.2 (k:Int) y]
 q51:51=op->RU=[bE (bg 13 g.1 g.2 [] [4294967296*y]).1 (bg 13 g.1 g.2 [] [4294967296*y]).2.1 (k:Int) y]
 q52:52=op->RU=[bg 12 (bE g.1 g.2 (k:Int) y).1 (bE g.1 g.2 (k:Int) y).2.1 (cH a.1 a.2 (k:Int)).1 (cH a.1 a.2 (k:Int)).2.1]
end Go.Proofs.YtokeebkaamjliaaGreat.Ez
/- The landed vjp: the rules, as a map. -/
namespace Go.Proofs.YtokeebkaamjliaaGreat.Ez
open RowKit ShM GrM InM ImM cF EvM Gz ChangeMaps
def taL:List (Option Tmp×Op×Bool×List Nat):=
 [(some 7, .makeMap 124 none,true,[]),
  (some 8, .move (.tmp 4),true,[]),
  (some 9, .fieldAddr 127 (.tmp 1) 1,true,[]),
  (some 10, .load 25 (.tmp 9),true,[2]),
  (some 11, .call {callee:= .value (.tmp 8),args:= #[.func 136, .tmp 10],argTypes:= #[155,25]},true,[1,3]),
  (some 12, .move (.tmp 4),true,[]),
  (some 13, .fieldAddr 127 (.tmp 1) 2,true,[]),
  (some 14, .load 25 (.tmp 13),true,[6]),
  (some 15, .call {callee:= .value (.tmp 12),args:= #[.func 136, .tmp 14],argTypes:= #[155,25]},true,[5,7,4]),
  (some 16, .buildSlice 123 2 #[(0, .tmp 11),(1, .tmp 15)],true,[4,8]),
  (none, .insert 124 (.tmp 7) (.const (.int .i64 10)) (.tmp 16),true,[0,9]),
  (some 17, .move (.tmp 4),true,[]),
  (some 18, .fieldAddr 127 (.tmp 1) 1,true,[]),
  (some 19, .load 25 (.tmp 18),true,[12]),
  (some 20, .call {callee:= .value (.tmp 17),args:= #[.func 136, .tmp 19],argTypes:= #[155,25]},true,[11,13,8]),
  (some 21, .move (.tmp 4),true,[]),
  (some 22, .fieldAddr 127 (.tmp 1) 2,true,[]),
  (some 23, .load 25 (.tmp 22),true,[16]),
  (some 24, .call {callee:= .value (.tmp 21),args:= #[.func 137, .tmp 23],argTypes:= #[155,25]},true,[15,17,14]),
  (some 25, .buildSlice 123 2 #[(0, .tmp 20),(1, .tmp 24)],true,[14,18]),
  (none, .insert 124 (.tmp 7) (.const (.int .i64 11)) (.tmp 25),true,[0,19]),
  (some 26, .move (.tmp 4),true,[]),
  (some 27, .fieldAddr 127 (.tmp 1) 1,true,[]),
  (some 28, .load 25 (.tmp 27),true,[22]),
  (some 29, .call {callee:= .value (.tmp 26),args:= #[.func 138, .tmp 28],argTypes:= #[155,25]},true,[21,23,18]),
  (some 30, .move (.tmp 4),true,[]),
  (some 31, .fieldAddr 127 (.tmp 1) 2,true,[]),
  (some 32, .load 25 (.tmp 31),true,[26]),
  (some 33, .call {callee:= .value (.tmp 30),args:= #[.func 139, .tmp 32],argTypes:= #[155,25]},true,[25,27,24]),
  (some 34, .buildSlice 123 2 #[(0, .tmp 29),(1, .tmp 33)],true,[24,28]),
  (none, .insert 124 (.tmp 7) (.const (.int .i64 12)) (.tmp 34),true,[0,29]),
  (some 35, .move (.tmp 4),true,[]),
  (some 36, .fieldAddr 127 (.tmp 1) 1,true,[]),
  (some 37, .load 25 (.tmp 36),true,[32]),
  (some 38, .call {callee:= .value (.tmp 35),args:= #[.func 140, .tmp 37],argTypes:= #[155,25]},true,[31,33,28]),
  (some 39, .move (.tmp 4),true,[]),
  (some 40, .fieldAddr 127 (.tmp 1) 2,true,[]),
  (some 41, .load 25 (.tmp 40),true,[36]),
  (some 42, .call {callee:= .value (.tmp 39),args:= #[.func 141, .tmp 41],argTypes:= #[155,25]},true,[35,37,34]),
  (some 43, .buildSlice 123 2 #[(0, .tmp 38),(1, .tmp 42)],true,[34,38]),
  (none, .insert 124 (.tmp 7) (.const (.int .i64 13)) (.tmp 43),true,[0,39]),
  (some 44, .move (.tmp 3),true,[]),
  (some 45, .call {callee:= .value (.tmp 44),args:= #[.func 137],argTypes:= #[155]},true,[41,38]),
  (some 46, .buildSlice 123 1 #[(0, .tmp 45)],true,[42]),
  (none, .insert 124 (.tmp 7) (.const (.int .i64 20)) (.tmp 46),true,[0,43]),
  (some 47, .move (.tmp 3),true,[]),
  (some 48, .call {callee:= .value (.tmp 47),args:= #[.func 142],argTypes:= #[155]},true,[45,42]),
  (some 49, .buildSlice 123 1 #[(0, .tmp 48)],true,[46]),
  (none, .insert 124 (.tmp 7) (.const (.int .i64 21)) (.tmp 49),true,[0,47]),
  (some 50, .move (.tmp 3),true,[]),
  (some 51, .call {callee:= .value (.tmp 50),args:= #[.func 143],argTypes:= #[155]},true,[49,46]),
  (some 52, .buildSlice 123 1 #[(0, .tmp 51)],true,[50]),
  (none, .insert 124 (.tmp 7) (.const (.int .i64 22)) (.tmp 52),true,[0,51]),
  (some 53, .move (.tmp 3),true,[]),
  (some 54, .call {callee:= .value (.tmp 53),args:= #[.func 144],argTypes:= #[155]},true,[53,50]),
  (some 55, .buildSlice 123 1 #[(0, .tmp 54)],true,[54]),
  (none, .insert 124 (.tmp 7) (.const (.int .i64 23)) (.tmp 55),true,[0,55]),
  (some 56, .move (.tmp 3),true,[]),
  (some 57, .call {callee:= .value (.tmp 56),args:= #[.func 145],argTypes:= #[155]},true,[57,54]),
  (some 58, .move (.tmp 3),true,[]),
  (some 59, .call {callee:= .value (.tmp 58),args:= #[.func 146],argTypes:= #[155]},true,[59,58]),
  (some 60, .buildSlice 123 2 #[(0, .tmp 57),(1, .tmp 59)],true,[58,60]),
  (none, .insert 124 (.tmp 7) (.const (.int .i64 30)) (.tmp 60),true,[0,61]),
  (some 61, .move (.tmp 3),true,[]),
  (some 62, .call {callee:= .value (.tmp 61),args:= #[.func 147],argTypes:= #[155]},true,[63,60]),
  (some 63, .buildSlice 123 1 #[(0, .tmp 62)],true,[64]),
  (none, .insert 124 (.tmp 7) (.const (.int .i64 40)) (.tmp 63),true,[0,65]),
  (some 64, .move (.tmp 3),true,[]),
  (some 65, .call {callee:= .value (.tmp 64),args:= #[.func 148],argTypes:= #[155]},true,[67,64]),
  (some 66, .buildSlice 123 1 #[(0, .tmp 65)],true,[68]),
  (none, .insert 124 (.tmp 7) (.const (.int .i64 41)) (.tmp 66),true,[0,69]),
  (some 67, .move (.tmp 3),true,[]),
  (some 68, .call {callee:= .value (.tmp 67),args:= #[.func 149],argTypes:= #[155]},true,[71,68]),
  (some 69, .buildSlice 123 1 #[(0, .tmp 68)],true,[72]),
  (none, .insert 124 (.tmp 7) (.const (.int .i64 42)) (.tmp 69),true,[0,73]),
  (some 70, .move (.tmp 3),true,[]),
  (some 71, .call {callee:= .value (.tmp 70),args:= #[.func 150],argTypes:= #[155]},true,[75,72]),
  (some 72, .move (.tmp 3),true,[]),
  (some 73, .call {callee:= .value (.tmp 72),args:= #[.func 151],argTypes:= #[155]},true,[77,76]),
  (some 74, .buildSlice 123 2 #[(0, .tmp 71),(1, .tmp 73)],true,[76,78]),
  (none, .insert 124 (.tmp 7) (.const (.int .i64 43)) (.tmp 74),true,[0,79]),
  (some 75, .move (.tmp 3),true,[]),
  (some 76, .call {callee:= .value (.tmp 75),args:= #[.func 152],argTypes:= #[155]},true,[81,78]),
  (some 77, .buildSlice 123 1 #[(0, .tmp 76)],true,[82]),
  (none, .insert 124 (.tmp 7) (.const (.int .i64 50)) (.tmp 77),true,[0,83]),
  (some 78, .move (.tmp 3),true,[]),
  (some 79, .call {callee:= .value (.tmp 78),args:= #[.func 153],argTypes:= #[155]},true,[85,82]),
  (some 80, .buildSlice 123 1 #[(0, .tmp 79)],true,[86]),
  (none, .insert 124 (.tmp 7) (.const (.int .i64 51)) (.tmp 80),true,[0,87]),
  (some 81, .move (.tmp 3),true,[]),
  (some 82, .call {callee:= .value (.tmp 81),args:= #[.func 154],argTypes:= #[155]},true,[89,86]),
  (some 83, .buildSlice 123 1 #[(0, .tmp 82)],true,[90]),
  (none, .insert 124 (.tmp 7) (.const (.int .i64 52)) (.tmp 83),true,[0,91]),
  (some 84, .move (.tmp 7),true,[0,1,2,3,4,5,6,7,8,9,10,11,12,13,14,15,16,17,18,19,20,21,22,23,24,25,26,27,28,29,30,31,32,33,34,35,36,37,38,39,40,41,42,43,44,45,46,47,48,49,50,51,52,53,54,55,56,57,58,59,60,61,62,63,64,65,66,67,68,69,70,71,72,73,74,75,76,77,78,79,80,81,82,83,84,85,86,87,88,89,90,91,92]),
  (some 2, .assign (.tmp 84),true,[93,90,0,1,2,3,4,5,6,7,8,9,10,11,12,13,14,15,16,17,18,19,20,21,22,23,24,25,26,27,28,29,30,31,32,33,34,35,36,37,38,39,40,41,42,43,44,45,46,47,48,49,50,51,52,53,54,55,56,57,58,59,60,61,62,63,64,65,66,67,68,69,70,71,72,73,74,75,76,77,78,79,80,81,82,83,84,85,86,87,88,89,90,91,92,93])]
def phL(bj:Nat)(A1 A2 B1 B2:DV)(a1 a2 b1 b2 k:Nat)(y z z2:Int)(a b o g:T):List Pv:=[.no, .eq (.func (.func 133) #[] #[pX bj 0]), .eq (pX bj 3), .eq (.agg #[.slice A1 a.1.length a1, .slice A2 a.2.length a2]), .ru 10 (cG ((g.1,g.2,0)) a.1), .eq (.func (.func 133) #[] #[pX bj 0]), .eq (pX bj 5), .eq (.agg #[.slice B1 b.1.length b1, .slice B2 b.2.length b2]), .ru 10 (cG ((g.1,g.2,0)) b.1), .ro 10, .no, .eq (.func (.func 133) #[] #[pX bj 0]), .eq (pX bj 3), .eq (.agg #[.slice A1 a.1.length a1, .slice A2 a.2.length a2]), .ru 11 (cG ((g.1,g.2,0)) a.1), .eq (.func (.func 133) #[] #[pX bj 0]), .eq (pX bj 5), .eq (.agg #[.slice B1 b.1.length b1, .slice B2 b.2.length b2]), .ru 11 (cG (dS 20 g.1 g.2) b.1), .ro 11, .no, .eq (.func (.func 133) #[] #[pX bj 0]), .eq (pX bj 3), .eq (.agg #[.slice A1 a.1.length a1, .slice A2 a.2.length a2]), .ru 12 (cG (bg 12 g.1 g.2 b.1 b.2) a.1), .eq (.func (.func 133) #[] #[pX bj 0]), .eq (pX bj 5), .eq (.agg #[.slice B1 b.1.length b1, .slice B2 b.2.length b2]), .ru 12 (cG (bg 12 g.1 g.2 a.1 a.2) b.1), .ro 12, .no, .eq (.func (.func 133) #[] #[pX bj 0]), .eq (pX bj 3), .eq (.agg #[.slice A1 a.1.length a1, .slice A2 a.2.length a2]), .ru 13 (cG (bg 13 g.1 g.2 b.1 b.2) a.1), .eq (.func (.func 133) #[] #[pX bj 0]), .eq (pX bj 5), .eq (.agg #[.slice B1 b.1.length b1, .slice B2 b.2.length b2]), .ru 13 (cG (DN 20 (xg 13 (bg 12 g.1 g.2 o.1 o.2) b)) b.1), .ro 13, .no, .eq (.func (.func 131) #[] #[pX bj 0]), .ru 20 (dS 20 g.1 g.2), .ro 20, .no, .eq (.func (.func 131) #[] #[pX bj 0]), .ru 21 ((g.1,f9 a.2 g.2,0)), .ro 21, .no, .eq (.func (.func 131) #[] #[pX bj 0]), .ru 22 (fY 12 g (gH a)), .ro 22, .no, .eq (.func (.func 131) #[] #[pX bj 0]), .ru 23 (fY 13 g (bg 10 o.1 o.2 o.1 o.2)), .ro 23, .no, .eq (.func (.func 131) #[] #[pX bj 0]), .ru 30 (fL g.1 g.2 b.1 b.2), .eq (.func (.func 131) #[] #[pX bj 0]), .ru 30 (di a.1 a.2 g.1 g.2), .ro 30, .no, .eq (.func (.func 131) #[] #[pX bj 0]), .ru 40 (aJ g.1 g.2 a.1), .ro 40, .no, .eq (.func (.func 131) #[] #[pX bj 0]), .ru 41 (bF g.1 g.2), .ro 41, .no, .eq (.func (.func 131) #[] #[pX bj 0]), .ru 42 (lS g.1 g.2 (k:Int) z y), .ro 42, .no, .eq (.func (.func 131) #[] #[pX bj 0]), .ru 43 (aS g.1 g.2 (k:Int) 0 y), .eq (.func (.func 131) #[] #[pX bj 0]), .ru 43 (aS g.1 g.2 (k:Int) y z2), .ro 43, .no, .eq (.func (.func 131) #[] #[pX bj 0]), .ru 50 (bE g.1 g.2 (k:Int) y), .ro 50, .no, .eq (.func (.func 131) #[] #[pX bj 0]), .ru 51 (bE (bg 13 g.1 g.2 [] [4294967296*y]).1 (bg 13 g.1 g.2 [] [4294967296*y]).2.1 (k:Int) y), .ro 51, .no, .eq (.func (.func 131) #[] #[pX bj 0]), .ru 52 (bg 12 (bE g.1 g.2 (k:Int) y).1 (bE g.1 g.2 (k:Int) y).2.1 (cH a.1 a.2 (k:Int)).1 (cH a.1 a.2 (k:Int)).2.1), .ro 52, .no, .no, .no]
section
variable{W:World}{op:Int}{P Q A1 A2 B1 B2 O1 O2 G1 G2:DV}{nP cP d a1 a2 b1 b2 o1 o2 g1 g2:Nat}{nums:BU}{a b o g:T}
theorem xH{ops:Array Oper}{QQ:Exit->Act->World->Prop}{W0:World}{bj k:Nat}{y z z2:Int}{RU:List Tn}{csv:List Value}(hcs:csv=[.agg #[.int .i64 op, .slice P nP cP, .slice Q nums.length d, .slice A1 a.1.length a1, .slice A2 a.2.length a2, .slice B1 b.1.length b1, .slice B2 b.2.length b2, .slice O1 o.1.length o1, .slice O2 o.2.length o2, .slice G1 g.1.length g1, .slice G2 g.2.length g2], pX bj 0, .map none, .func (.func 131) #[] #[pX bj 0], .func (.func 133) #[] #[pX bj 0], .func (.func 131) #[] #[pX bj 0], .func (.func 133) #[] #[pX bj 0]])(HT:ops.toList.map key=taL)(hb:Ez.Bx W0 bj [.int .i64 op, .slice P nP cP, .slice Q nums.length d, .slice A1 a.1.length a1, .slice A2 a.2.length a2, .slice B1 b.1.length b1, .slice B2 b.2.length b2, .slice O1 o.1.length o1, .slice O2 o.2.length o2, .slice G1 g.1.length g1, .slice G2 g.2.length g2] 127)(HJ:Jb W0 Q A1 A2 B1 B2 O1 O2 G1 G2 d a1 a2 b1 b2 o1 o2 g1 g2 nums a b o g)(hF:Fq op nums a b o g k y z z2 RU):
  ∀l A w i,In RU op W0 csv (phL bj A1 A2 B1 B2 a1 a2 b1 b2 k y z z2 a b o g) l A w->i∈Region.ready .any ops l->wpOp Tryz.prog ops QQ i (fun a' w'=>In RU op W0 csv (phL bj A1 A2 B1 B2 a1 a2 b1 b2 k y z z2 a b o g) (l.setIfInBounds i true) a' w') A w:=by
 have HJB:=lH HJ;have FQ:=lH hF;have HNG:=lH HJ.ng;have wk:∀args W,(callFunc 131 args).run Tryz.prog W= .ok (.enter 131 args) W:=fun args W=>MuLone.run_callFunc_enter Tryz.func131 kM rfl args W
 have Ji:∀args W,(callFunc 133 args).run Tryz.prog W= .ok (.enter 133 args) W:=fun args W=>MuLone.run_callFunc_enter Tryz.func133 kM rfl args W
 have hc:csv.length=7:=by rw[hcs];rfl
 have c1:csv.getD 1 undef= pX bj 0:=by rw[hcs];rfl
 have c3:csv.getD 3 undef= .func (.func 131) #[] #[pX bj 0]:=by rw[hcs];rfl
 have c4:csv.getD 4 undef= .func (.func 133) #[] #[pX bj 0]:=by rw[hcs];rfl
 have f1:∀w,(Instr.fieldAt 127 (pX bj 0) 1).run Tryz.prog w= .ok (pX bj 3) w:=by intro w;go_simp
 have f2:∀w,(Instr.fieldAt 127 (pX bj 0) 2).run Tryz.prog w= .ok (pX bj 5) w:=by intro w;go_simp
 have la:∀w,Kp W0 w->(Instr.loadAt 25 (pX bj 3)).run Tryz.prog w= .ok (.agg #[.slice A1 a.1.length a1, .slice A2 a.2.length a2]) w:=by
  intro w kw;have x3:=(hb.kp kw).cell (j:=3) rfl;have x4:=(hb.kp kw).cell (j:=4) rfl;go_simp
 have lb:∀w,Kp W0 w->(Instr.loadAt 25 (pX bj 5)).run Tryz.prog w= .ok (.agg #[.slice B1 b.1.length b1, .slice B2 b.2.length b2]) w:=by
  intro w kw;have x5:=(hb.kp kw).cell (j:=5) rfl;have x6:=(hb.kp kw).cell (j:=6) rfl;go_simp
 clear hcs HJ hF;intro l A w i h hr;have hi:i<95:=by
  obtain⟨_,o,ho,_⟩:=mem_ready.1 hr;have h1:=(aa0.1 ho).1;have h2:ops.toList.length=95:=by rw[<-abA (f:=key),HT];rfl
  simpa using h2▸h1
 match i,hi,hr with
 |0,hi,hr=>exact U7 hc HT h hr rfl rfl
 |1,hi,hr=>exact nB hc HT h hr rfl dG dG rfl dG dG rfl dG dG c4 rfl
 |2,hi,hr=>exact I6 hc HT h hr rfl dG dG rfl dG dG rfl c1 f1 rfl
 |3,hi,hr=>exact I5 hc HT h hr (j:=2) rfl dG dG rfl dG dG rfl dG dG rfl dG dG rfl la rfl
 |4,hi,hr=>exact I7 hc HT h hr (j:=1) (j2:=3) Ji rfl dG dG rfl dG dG rfl dG dG rfl dG dG rfl dG dG rfl dG dG rfl rfl fun W kW=>fT (fun args W=>MuLone.run_callFunc_enter Tryz.func136 kM rfl args W) hb HJB.out.ra.r.s (by exact HNG.out) (fun h V kV=>BM (HJB.out.kp kV))
 |5,hi,hr=>exact nB hc HT h hr rfl dG dG rfl dG dG rfl dG dG c4 rfl
 |6,hi,hr=>exact I6 hc HT h hr rfl dG dG rfl dG dG rfl c1 f2 rfl
 |7,hi,hr=>exact I5 hc HT h hr (j:=6) rfl dG dG rfl dG dG rfl dG dG rfl dG dG rfl lb rfl
 |8,hi,hr=>exact I7 hc HT h hr (j:=5) (j2:=7) Ji rfl dG dG rfl dG dG rfl dG dG rfl dG dG rfl dG dG rfl dG dG rfl rfl fun W kW=>fT (fun args W=>MuLone.run_callFunc_enter Tryz.func136 kM rfl args W) hb HJB.out.rb.r.s (by exact HNG.out) (fun h V kV=>BM (HJB.out.kp kV))
 |9,hi,hr=>exact ML hc HT h hr (j:=4) (j2:=8) rfl dG dG rfl dG dG rfl dG dG rfl dG dG rfl dG dG rfl dG dG rfl rfl FQ.out.q10
 |10,hi,hr=>exact tD hc HT h hr (j:=9) rfl dG dG rfl dG dG dG rfl dG dG rfl rfl
 |11,hi,hr=>exact nB hc HT h hr rfl dG dG rfl dG dG rfl dG dG c4 rfl
 |12,hi,hr=>exact I6 hc HT h hr rfl dG dG rfl dG dG rfl c1 f1 rfl
 |13,hi,hr=>exact I5 hc HT h hr (j:=12) rfl dG dG rfl dG dG rfl dG dG rfl dG dG rfl la rfl
 |14,hi,hr=>exact I7 hc HT h hr (j:=11) (j2:=13) Ji rfl dG dG rfl dG dG rfl dG dG rfl dG dG rfl dG dG rfl dG dG rfl rfl fun W kW=>fT (fun args W=>MuLone.run_callFunc_enter Tryz.func136 kM rfl args W) hb HJB.out.ra.r.s (by exact HNG.out) (fun h V kV=>BM (HJB.out.kp kV))
 |15,hi,hr=>exact nB hc HT h hr rfl dG dG rfl dG dG rfl dG dG c4 rfl
 |16,hi,hr=>exact I6 hc HT h hr rfl dG dG rfl dG dG rfl c1 f2 rfl
 |17,hi,hr=>exact I5 hc HT h hr (j:=16) rfl dG dG rfl dG dG rfl dG dG rfl dG dG rfl lb rfl
 |18,hi,hr=>exact I7 hc HT h hr (j:=15) (j2:=17) Ji rfl dG dG rfl dG dG rfl dG dG rfl dG dG rfl dG dG rfl dG dG rfl rfl fun W kW=>fT (fun args W=>MuLone.run_callFunc_enter Tryz.func137 kM rfl args W) hb HJB.out.rb.r.s (by exact uw _ _) (fun h V kV=>(om (HJB.out.kp kV)).mono fun _ _ r=>r.mo (aa6 _))
 |19,hi,hr=>exact ML hc HT h hr (j:=14) (j2:=18) rfl dG dG rfl dG dG rfl dG dG rfl dG dG rfl dG dG rfl dG dG rfl rfl FQ.out.q11
 |20,hi,hr=>exact tD hc HT h hr (j:=19) rfl dG dG rfl dG dG dG rfl dG dG rfl rfl
 |21,hi,hr=>exact nB hc HT h hr rfl dG dG rfl dG dG rfl dG dG c4 rfl
 |22,hi,hr=>exact I6 hc HT h hr rfl dG dG rfl dG dG rfl c1 f1 rfl
 |23,hi,hr=>exact I5 hc HT h hr (j:=22) rfl dG dG rfl dG dG rfl dG dG rfl dG dG rfl la rfl
 |24,hi,hr=>exact I7 hc HT h hr (j:=21) (j2:=23) Ji rfl dG dG rfl dG dG rfl dG dG rfl dG dG rfl dG dG rfl dG dG rfl rfl fun W kW=>fT (fun args W=>MuLone.run_callFunc_enter Tryz.func138 kM rfl args W) hb HJB.out.ra.r.s (by exact gM _ _ _ _ _) (fun h V kV=>(Gl (HJB.out.kp kV)).mono fun _ _ r=>r.mo (aa6 _))
 |25,hi,hr=>exact nB hc HT h hr rfl dG dG rfl dG dG rfl dG dG c4 rfl
 |26,hi,hr=>exact I6 hc HT h hr rfl dG dG rfl dG dG rfl c1 f2 rfl
 |27,hi,hr=>exact I5 hc HT h hr (j:=26) rfl dG dG rfl dG dG rfl dG dG rfl dG dG rfl lb rfl
 |28,hi,hr=>exact I7 hc HT h hr (j:=25) (j2:=27) Ji rfl dG dG rfl dG dG rfl dG dG rfl dG dG rfl dG dG rfl dG dG rfl rfl fun W kW=>fT (fun args W=>MuLone.run_callFunc_enter Tryz.func139 kM rfl args W) hb HJB.out.rb.r.s (by exact gM _ _ _ _ _) (fun h V kV=>(Gm (HJB.out.kp kV)).mono fun _ _ r=>r.mo (aa6 _))
 |29,hi,hr=>exact ML hc HT h hr (j:=24) (j2:=28) rfl dG dG rfl dG dG rfl dG dG rfl dG dG rfl dG dG rfl dG dG rfl rfl FQ.out.q12
 |30,hi,hr=>exact tD hc HT h hr (j:=29) rfl dG dG rfl dG dG dG rfl dG dG rfl rfl
 |31,hi,hr=>exact nB hc HT h hr rfl dG dG rfl dG dG rfl dG dG c4 rfl
 |32,hi,hr=>exact I6 hc HT h hr rfl dG dG rfl dG dG rfl c1 f1 rfl
 |33,hi,hr=>exact I5 hc HT h hr (j:=32) rfl dG dG rfl dG dG rfl dG dG rfl dG dG rfl la rfl
 |34,hi,hr=>exact I7 hc HT h hr (j:=31) (j2:=33) Ji rfl dG dG rfl dG dG rfl dG dG rfl dG dG rfl dG dG rfl dG dG rfl rfl fun W kW=>fT (fun args W=>MuLone.run_callFunc_enter Tryz.func140 kM rfl args W) hb HJB.out.ra.r.s (by exact gM _ _ _ _ _) (fun h V kV=>(Rt (HJB.out.kp kV)).mono fun _ _ r=>r.mo (aa6 _))
 |35,hi,hr=>exact nB hc HT h hr rfl dG dG rfl dG dG rfl dG dG c4 rfl
 |36,hi,hr=>exact I6 hc HT h hr rfl dG dG rfl dG dG rfl c1 f2 rfl
 |37,hi,hr=>exact I5 hc HT h hr (j:=36) rfl dG dG rfl dG dG rfl dG dG rfl dG dG rfl lb rfl
 |38,hi,hr=>exact I7 hc HT h hr (j:=35) (j2:=37) Ji rfl dG dG rfl dG dG rfl dG dG rfl dG dG rfl dG dG rfl dG dG rfl rfl fun W kW=>fT (fun args W=>MuLone.run_callFunc_enter Tryz.func141 kM rfl args W) hb HJB.out.rb.r.s (by exact FN _) (fun h V kV=>(yt (HJB.out.kp kV)).mono fun _ _ r=>r.mo (aa6 _))
 |39,hi,hr=>exact ML hc HT h hr (j:=34) (j2:=38) rfl dG dG rfl dG dG rfl dG dG rfl dG dG rfl dG dG rfl dG dG rfl rfl FQ.out.q13
 |40,hi,hr=>exact tD hc HT h hr (j:=39) rfl dG dG rfl dG dG dG rfl dG dG rfl rfl
 |41,hi,hr=>exact nB hc HT h hr rfl dG dG rfl dG dG rfl dG dG c3 rfl
 |42,hi,hr=>exact vX hc HT h hr (j:=41) wk rfl dG dG rfl dG dG rfl dG dG rfl dG dG rfl rfl fun W kW=>fN (fun args W=>MuLone.run_callFunc_enter Tryz.func137 kM rfl args W) hb (fun h V kV=>om (HJB.out.kp kV))
 |43,hi,hr=>exact DP hc HT h hr (j:=42) rfl dG dG rfl dG dG rfl dG dG rfl dG dG rfl rfl FQ.out.q20
 |44,hi,hr=>exact tD hc HT h hr (j:=43) rfl dG dG rfl dG dG dG rfl dG dG rfl rfl
 |45,hi,hr=>exact nB hc HT h hr rfl dG dG rfl dG dG rfl dG dG c3 rfl
 |46,hi,hr=>exact vX hc HT h hr (j:=45) wk rfl dG dG rfl dG dG rfl dG dG rfl dG dG rfl rfl fun W kW=>fN (fun args W=>MuLone.run_callFunc_enter Tryz.func142 kM rfl args W) hb (fun h V kV=>r9 (HJB.out.kp kV) (FQ.out.f21 h.symm).1 (FQ.out.f21 h.symm).2.1 (FQ.out.f21 h.symm).2.2)
 |47,hi,hr=>exact DP hc HT h hr (j:=46) rfl dG dG rfl dG dG rfl dG dG rfl dG dG rfl rfl FQ.out.q21
 |48,hi,hr=>exact tD hc HT h hr (j:=47) rfl dG dG rfl dG dG dG rfl dG dG rfl rfl
 |49,hi,hr=>exact nB hc HT h hr rfl dG dG rfl dG dG rfl dG dG c3 rfl
 |50,hi,hr=>exact vX hc HT h hr (j:=49) wk rfl dG dG rfl dG dG rfl dG dG rfl dG dG rfl rfl fun W kW=>fN (fun args W=>MuLone.run_callFunc_enter Tryz.func143 kM rfl args W) hb (fun h V kV=>si (HJB.out.kp kV) (FQ.out.f22 h.symm))
 |51,hi,hr=>exact DP hc HT h hr (j:=50) rfl dG dG rfl dG dG rfl dG dG rfl dG dG rfl rfl FQ.out.q22
 |52,hi,hr=>exact tD hc HT h hr (j:=51) rfl dG dG rfl dG dG dG rfl dG dG rfl rfl
 |53,hi,hr=>exact nB hc HT h hr rfl dG dG rfl dG dG rfl dG dG c3 rfl
 |54,hi,hr=>exact vX hc HT h hr (j:=53) wk rfl dG dG rfl dG dG rfl dG dG rfl dG dG rfl rfl fun W kW=>fN (fun args W=>MuLone.run_callFunc_enter Tryz.func144 kM rfl args W) hb (fun h V kV=>qh (HJB.out.kp kV))
 |55,hi,hr=>exact DP hc HT h hr (j:=54) rfl dG dG rfl dG dG rfl dG dG rfl dG dG rfl rfl FQ.out.q23
 |56,hi,hr=>exact tD hc HT h hr (j:=55) rfl dG dG rfl dG dG dG rfl dG dG rfl rfl
 |57,hi,hr=>exact nB hc HT h hr rfl dG dG rfl dG dG rfl dG dG c3 rfl
 |58,hi,hr=>exact vX hc HT h hr (j:=57) wk rfl dG dG rfl dG dG rfl dG dG rfl dG dG rfl rfl fun W kW=>fN (fun args W=>MuLone.run_callFunc_enter Tryz.func145 kM rfl args W) hb (fun h V kV=>Oy (HJB.out.kp kV))
 |59,hi,hr=>exact nB hc HT h hr rfl dG dG rfl dG dG rfl dG dG c3 rfl
 |60,hi,hr=>exact vX hc HT h hr (j:=59) wk rfl dG dG rfl dG dG rfl dG dG rfl dG dG rfl rfl fun W kW=>fN (fun args W=>MuLone.run_callFunc_enter Tryz.func146 kM rfl args W) hb (fun h V kV=>KY (HJB.out.kp kV))
 |61,hi,hr=>exact ML hc HT h hr (j:=58) (j2:=60) rfl dG dG rfl dG dG rfl dG dG rfl dG dG rfl dG dG rfl dG dG rfl rfl FQ.out.q30
 |62,hi,hr=>exact tD hc HT h hr (j:=61) rfl dG dG rfl dG dG dG rfl dG dG rfl rfl
 |63,hi,hr=>exact nB hc HT h hr rfl dG dG rfl dG dG rfl dG dG c3 rfl
 |64,hi,hr=>exact vX hc HT h hr (j:=63) wk rfl dG dG rfl dG dG rfl dG dG rfl dG dG rfl rfl fun W kW=>fN (fun args W=>MuLone.run_callFunc_enter Tryz.func147 kM rfl args W) hb (fun h V kV=>yq (HJB.out.kp kV))
 |65,hi,hr=>exact DP hc HT h hr (j:=64) rfl dG dG rfl dG dG rfl dG dG rfl dG dG rfl rfl FQ.out.q40
 |66,hi,hr=>exact tD hc HT h hr (j:=65) rfl dG dG rfl dG dG dG rfl dG dG rfl rfl
 |67,hi,hr=>exact nB hc HT h hr rfl dG dG rfl dG dG rfl dG dG c3 rfl
 |68,hi,hr=>exact vX hc HT h hr (j:=67) wk rfl dG dG rfl dG dG rfl dG dG rfl dG dG rfl rfl fun W kW=>fN (fun args W=>MuLone.run_callFunc_enter Tryz.func148 kM rfl args W) hb (fun h V kV=>Gk (HJB.out.kp kV))
 |69,hi,hr=>exact DP hc HT h hr (j:=68) rfl dG dG rfl dG dG rfl dG dG rfl dG dG rfl rfl FQ.out.q41
 |70,hi,hr=>exact tD hc HT h hr (j:=69) rfl dG dG rfl dG dG dG rfl dG dG rfl rfl
 |71,hi,hr=>exact nB hc HT h hr rfl dG dG rfl dG dG rfl dG dG c3 rfl
 |72,hi,hr=>exact vX hc HT h hr (j:=71) wk rfl dG dG rfl dG dG rfl dG dG rfl dG dG rfl rfl fun W kW=>fN (fun args W=>MuLone.run_callFunc_enter Tryz.func149 kM rfl args W) hb (fun h V kV=>Gq (HJB.out.kp kV) ((FQ.out.fk oM).1) ((FQ.out.fk oM).2) (FQ.out.f42 h.symm))
 |73,hi,hr=>exact DP hc HT h hr (j:=72) rfl dG dG rfl dG dG rfl dG dG rfl dG dG rfl rfl FQ.out.q42
 |74,hi,hr=>exact tD hc HT h hr (j:=73) rfl dG dG rfl dG dG dG rfl dG dG rfl rfl
 |75,hi,hr=>exact nB hc HT h hr rfl dG dG rfl dG dG rfl dG dG c3 rfl
 |76,hi,hr=>exact vX hc HT h hr (j:=75) wk rfl dG dG rfl dG dG rfl dG dG rfl dG dG rfl rfl fun W kW=>fN (fun args W=>MuLone.run_callFunc_enter Tryz.func150 kM rfl args W) hb (fun h V kV=>KZ (HJB.out.kp kV) ((FQ.out.fk oM).1) ((FQ.out.fk oM).2))
 |77,hi,hr=>exact nB hc HT h hr rfl dG dG rfl dG dG rfl dG dG c3 rfl
 |78,hi,hr=>exact vX hc HT h hr (j:=77) wk rfl dG dG rfl dG dG rfl dG dG rfl dG dG rfl rfl fun W kW=>fN (fun args W=>MuLone.run_callFunc_enter Tryz.func151 kM rfl args W) hb (fun h V kV=>Gp (HJB.out.kp kV) ((FQ.out.fk oM).1) ((FQ.out.fk oM).2) (FQ.out.f43 h.symm))
 |79,hi,hr=>exact ML hc HT h hr (j:=76) (j2:=78) rfl dG dG rfl dG dG rfl dG dG rfl dG dG rfl dG dG rfl dG dG rfl rfl FQ.out.q43
 |80,hi,hr=>exact tD hc HT h hr (j:=79) rfl dG dG rfl dG dG dG rfl dG dG rfl rfl
 |81,hi,hr=>exact nB hc HT h hr rfl dG dG rfl dG dG rfl dG dG c3 rfl
 |82,hi,hr=>exact vX hc HT h hr (j:=81) wk rfl dG dG rfl dG dG rfl dG dG rfl dG dG rfl rfl fun W kW=>fN (fun args W=>MuLone.run_callFunc_enter Tryz.func152 kM rfl args W) hb (fun h V kV=>BP (HJB.out.kp kV) ((FQ.out.fk oM).1) ((FQ.out.fk oM).2))
 |83,hi,hr=>exact DP hc HT h hr (j:=82) rfl dG dG rfl dG dG rfl dG dG rfl dG dG rfl rfl FQ.out.q50
 |84,hi,hr=>exact tD hc HT h hr (j:=83) rfl dG dG rfl dG dG dG rfl dG dG rfl rfl
 |85,hi,hr=>exact nB hc HT h hr rfl dG dG rfl dG dG rfl dG dG c3 rfl
 |86,hi,hr=>exact vX hc HT h hr (j:=85) wk rfl dG dG rfl dG dG rfl dG dG rfl dG dG rfl rfl fun W kW=>fN (fun args W=>MuLone.run_callFunc_enter Tryz.func153 kM rfl args W) hb (fun h V kV=>Gn (HJB.out.kp kV) ((FQ.out.fk oM).1) ((FQ.out.fk oM).2) (FQ.out.f51 h.symm))
 |87,hi,hr=>exact DP hc HT h hr (j:=86) rfl dG dG rfl dG dG rfl dG dG rfl dG dG rfl rfl FQ.out.q51
 |88,hi,hr=>exact tD hc HT h hr (j:=87) rfl dG dG rfl dG dG dG rfl dG dG rfl rfl
 |89,hi,hr=>exact nB hc HT h hr rfl dG dG rfl dG dG rfl dG dG c3 rfl
 |90,hi,hr=>exact vX hc HT h hr (j:=89) wk rfl dG dG rfl dG dG rfl dG dG rfl dG dG rfl rfl fun W kW=>fN (fun args W=>MuLone.run_callFunc_enter Tryz.func154 kM rfl args W) hb (fun h V kV=>mS (HJB.out.kp kV) ((FQ.out.fk oM).1) ((FQ.out.fk oM).2))
 |91,hi,hr=>exact DP hc HT h hr (j:=90) rfl dG dG rfl dG dG rfl dG dG rfl dG dG rfl rfl FQ.out.q52
 |92,hi,hr=>exact tD hc HT h hr (j:=91) rfl dG dG rfl dG dG dG rfl dG dG rfl rfl
 |93,hi,hr=>exact U8 hc HT h hr rfl dG rfl
 |94,hi,hr=>exact U9 hc HT h hr rfl dG dG rfl
 |k+95,hi,hr=>omega
end
end Go.Proofs.YtokeebkaamjliaaGreat.Ez
/- The landed vjp: the rules, as a map. -/
namespace Go.Proofs.YtokeebkaamjliaaGreat.Ez
open RowKit ShM GrM InM ImM cF EvM Gz ChangeMaps
section
variable{W:World}{op:Int}{P Q A1 A2 B1 B2 O1 O2 G1 G2:DV}{nP cP d a1 a2 b1 b2 o1 o2 g1 g2:Nat}{nums:BU}{a b o g:T}
def KSL:BU:=[10,11,12,13,20,21,22,23,30,40,41,42,43,50,51,52]
def Fin(RU:List Tn)(op:Int)(W0:World)(gm:Nat)(w:World):Prop:=∃L,Md w gm L/\(∀x∈L,Ent RU op W0 w x)/\∀k,k∈L.map Prod.fst↔k∈KSL
theorem OT{RU:List Tn}{W0:World}{cs:List Value}{ph:List Pv}{l:Array Bool}{A:Act}{w:World}(h:In RU op W0 cs ph l A w)(hl:∀i,i<95->l.getD i true=true):∃f gm,A={tmps:=mkT cs f,defers:=[]}/\f 2= .map (some gm)/\Fin RU op W0 gm w/\Kp W0 w:=by
 obtain⟨hz,⟨f,rfl,hf,hm,hA,hB⟩,kp,hn⟩:=h;obtain⟨gm,L,e7,hW,h1,h2,h3⟩:=hm (hl 0 oM);refine⟨f,gm,rfl,(hB (hl 94 oM)).trans e7,⟨L,h1,h2,fun k=>(h3 k).trans ⟨fun⟨j,q1,_,q3⟩=>?_,fun hk=>?_⟩⟩,kp⟩
 · have:(some k)∈kyl:=by
    rw[<-q3,aaS];have hj:j<kyl.length:=q1;rw[aaV hj];exact List.getElem_mem hj
   simp only[kyl,abD,Option.some.injEq,reduceCtorEq,false_or,ab6,or_false]at this;simp only[KSL,abD,ab6,or_false];exact this
 · simp only[KSL,abD,ab6,or_false]at hk
   rcases hk with rfl|rfl|rfl|rfl|rfl|rfl|rfl|rfl|rfl|rfl|rfl|rfl|rfl|rfl|rfl|rfl
   · exact⟨10,dG,hl _ dG,rfl⟩
   · exact⟨20,dG,hl _ dG,rfl⟩
   · exact⟨30,dG,hl _ dG,rfl⟩
   · exact⟨40,dG,hl _ dG,rfl⟩
   · exact⟨44,dG,hl _ dG,rfl⟩
   · exact⟨48,dG,hl _ dG,rfl⟩
   · exact⟨52,dG,hl _ dG,rfl⟩
   · exact⟨56,dG,hl _ dG,rfl⟩
   · exact⟨62,dG,hl _ dG,rfl⟩
   · exact⟨66,dG,hl _ dG,rfl⟩
   · exact⟨70,dG,hl _ dG,rfl⟩
   · exact⟨74,dG,hl _ dG,rfl⟩
   · exact⟨80,dG,hl _ dG,rfl⟩
   · exact⟨84,dG,hl _ dG,rfl⟩
   · exact⟨88,dG,hl _ dG,rfl⟩
   · exact⟨92,dG,hl _ dG,rfl⟩
theorem Iv{α β γ:Type}:∀{A B:List (α×β×γ)},A.map (fun x=>(x.1,x.2.2))=B.map (fun x=>(x.1,x.2.2))->A.map (fun x=>x.2.1)=B.map (fun x=>x.2.1)->A=B
 | [],[],_,_=>rfl
 | [],_::_,h,_=>by cases h
 |_::_,[],h,_=>by cases h
 |(x1,x2,x3)::A,(y1,y2,y3)::B,h,g=>by
  simp only[abT,List.cons.injEq,Prod.mk.injEq]at h g;obtain⟨⟨rfl,rfl⟩,h⟩:=h;obtain⟨rfl,g⟩:=g;rw[Iv h g]
theorem mD{ops:Array Oper}{QQ:Exit->Act->World->Prop}{W0 w:World}{bj k:Nat}{y z z2:Int}{RU:List Tn}{csv:List Value}(hcs:csv=[.agg #[.int .i64 op, .slice P nP cP, .slice Q nums.length d, .slice A1 a.1.length a1, .slice A2 a.2.length a2, .slice B1 b.1.length b1, .slice B2 b.2.length b2, .slice O1 o.1.length o1, .slice O2 o.2.length o2, .slice G1 g.1.length g1, .slice G2 g.2.length g2], pX bj 0, .map none, .func (.func 131) #[] #[pX bj 0], .func (.func 133) #[] #[pX bj 0], .func (.func 131) #[] #[pX bj 0], .func (.func 133) #[] #[pX bj 0]])(hb:Ez.Bx W0 bj [.int .i64 op, .slice P nP cP, .slice Q nums.length d, .slice A1 a.1.length a1, .slice A2 a.2.length a2, .slice B1 b.1.length b1, .slice B2 b.2.length b2, .slice O1 o.1.length o1, .slice O2 o.2.length o2, .slice G1 g.1.length g1, .slice G2 g.2.length g2] 127)(HJ:Jb W0 Q A1 A2 B1 B2 O1 O2 G1 G2 d a1 a2 b1 b2 o1 o2 g1 g2 nums a b o g)(hF:Fq op nums a b o g k y z z2 RU)
  (hQ:∀f gm w,f 2= .map (some gm)->Fin RU op W0 gm w->Kp W0 w->QQ .normal {tmps:=mkT csv f,defers:=[]} w)(hw:Kp W0 w)(hm:Tryz.prog.follows .mixedOrders=true)(id:Nat)
  (h1:(ops.toList.map key).map (fun x=>(x.1,x.2.2))=taL.map (fun x=>(x.1,x.2.2)))(h2:(ops.toList.map key).map (fun x=>x.2.1)=taL.map (fun x=>x.2.1))(h3:ops.toList.map (fun o=>o.after.toList.map (·.on))=taL.map fun x=>x.2.2.2):
  (Code.region id ops true).wp Tryz.prog QQ {tmps:=mkT csv fun k=>if k=2 then .map none else undef,defers:=[]} w:=by
 have HT:=Iv h1 h2;have hsz:ops.size=95:=by
  have h:ops.toList.length=95:=by rw[<-abA (f:=key),HT];rfl
  simpa using h
 have hdd:(List.range 95).all (fun i=>(taL.map fun x=>x.2.2.2)[i]?.all fun l=>l.all fun j=>decide (j<i))=true:=by kernel_rfl
 refine wp_region_any hm (Mp (In RU op W0 csv (phL bj A1 A2 B1 B2 a1 a2 b1 b2 k y z z2 a b o g)) (fun l A w h=>by rw[h.hz,hsz]) (xH hcs HT hb HJ hF) (fun l A w h hl=>?_) (fun i o ho e he=>?_) _ _ _ _ ?_ ?_)
 · rw[hsz]at hl
   obtain⟨f,gm,rfl,e7,hfin,kp⟩:=OT h hl;exact hQ f gm w e7 hfin kp
 · have hi:i<95:=by have:=(aa0.1 ho).1;omega
   have h4:=abn.1 hdd i (abZ.2 hi);rw[<-h3,aa7,Array.getElem?_toList,ho]at h4;have h4:(o.after.toList.map (·.on)).all (fun j=>decide (j<i))=true:=h4;have h5:=abn.1 h4 e.on (abN.2 ⟨e,by simpa using he,rfl⟩);simpa using h5
 · have hun:∀i,i<95->(Array.replicate ops.size false).getD i true=false:=fun i hi=>by simp[Array.getD,hsz,hi]
   refine⟨by simp[hsz],⟨fun k=>if k=2 then .map none else undef,rfl,fun i hi hl=>?_,fun h0=>?_,fun h0=>?_,fun h0=>?_⟩,hw.tr ⟨rfl,rfl,rfl,aaZ _,fun _ _=>rfl⟩,fun _ j hj _=>hun j hj⟩
   · rw[hun i hi]at hl;cases hl
   · rw[hun 0 oM]at h0;cases h0
   · rw[hun 93 oM]at h0;cases h0
   · rw[hun 94 oM]at h0;cases h0
 · have:=List.countP_le_length (p:=fun i=> !(Array.replicate ops.size false).getD i true) (l:=List.range ops.size)
   rwa [abM]at this
theorem J7(H:Jb W Q A1 A2 B1 B2 O1 O2 G1 G2 d a1 a2 b1 b2 o1 o2 g1 g2 nums a b o g){k:Nat}{y z z2:Int}{RU:List Tn}(hF:Fq op nums a b o g k y z z2 RU):CJ 107 #[.agg #[.int .i64 op, .slice P nP cP, .slice Q nums.length d, .slice A1 a.1.length a1, .slice A2 a.2.length a2, .slice B1 b.1.length b1, .slice B2 b.2.length b2, .slice O1 o.1.length o1, .slice O2 o.2.length o2, .slice G1 g.1.length g1, .slice G2 g.2.length g2]] W fun e V=>∃gm W0,e= .returned (.map (some gm))/\Hid (Fin RU op W0 gm V)/\Hid (Kp W W0)/\Hid (Kp W0 V):=by
 obtain⟨w1,hw1⟩:=eX (W.alloc (.cells #[.int .i64 op, .slice P nP cP, .slice Q nums.length d, .slice A1 a.1.length a1, .slice A2 a.2.length a2, .slice B1 b.1.length b1, .slice B2 b.2.length b2, .slice O1 o.1.length o1, .slice O2 o.2.length o2, .slice G1 g.1.length g1, .slice G2 g.2.length g2] 127));have K1:Hid (Kp W w1):=by rw[hw1];exact Kp.af _ _
 have BJ:Hid (Ez.Bx w1 W.heap.size [.int .i64 op, .slice P nP cP, .slice Q nums.length d, .slice A1 a.1.length a1, .slice A2 a.2.length a2, .slice B1 b.1.length b1, .slice B2 b.2.length b2, .slice O1 o.1.length o1, .slice O2 o.2.length o2, .slice G1 g.1.length g1, .slice G2 g.2.length g2] 127):=by rw[hw1];exact Ez.Bx.new rfl
 have HJB:=lH (H.kp K1.out);have FQ:=lH hF;have HW:=lH hw1;have hmf:∀(fn:Fn) (first cap:Array Value) (w:World),(Instr.makeFunc fn first cap).run Tryz.prog w= .ok (.func fn first cap) w:=fun _ _ _ _=>rfl
 clear hw1 H hF;go_enter Tryz.func107,Tryz.ntmps107;go_wp2_with fail;rw[<-HW.out];clear hmf
 go_cut [2] (fun v2 wx=>∃gm,v2= .map (some gm)/\Hid (Fin RU op w1 gm wx)/\Hid (Kp w1 wx))
 case first=>
  refine mD (csv:=[.agg #[.int .i64 op, .slice P nP cP, .slice Q nums.length d, .slice A1 a.1.length a1, .slice A2 a.2.length a2, .slice B1 b.1.length b1, .slice B2 b.2.length b2, .slice O1 o.1.length o1, .slice O2 o.2.length o2, .slice G1 g.1.length g1, .slice G2 g.2.length g2], pX W.heap.size 0, .map none, .func (.func 131) #[] #[pX W.heap.size 0], .func (.func 133) #[] #[pX W.heap.size 0], .func (.func 131) #[] #[pX W.heap.size 0], .func (.func 133) #[] #[pX W.heap.size 0]]) rfl BJ.out HJB.out FQ.out ?_ (Kp.refl _) kM _ kM kM kM;intro f gm w e7 hfin kp;have e:mkT [.agg #[.int .i64 op, .slice P nP cP, .slice Q nums.length d, .slice A1 a.1.length a1, .slice A2 a.2.length a2, .slice B1 b.1.length b1, .slice B2 b.2.length b2, .slice O1 o.1.length o1, .slice O2 o.2.length o2, .slice G1 g.1.length g1, .slice G2 g.2.length g2], pX W.heap.size 0, .map none, .func (.func 131) #[] #[pX W.heap.size 0], .func (.func 133) #[] #[pX W.heap.size 0], .func (.func 131) #[] #[pX W.heap.size 0], .func (.func 133) #[] #[pX W.heap.size 0]] f= #[.agg #[.int .i64 op, .slice P nP cP, .slice Q nums.length d, .slice A1 a.1.length a1, .slice A2 a.2.length a2, .slice B1 b.1.length b1, .slice B2 b.2.length b2, .slice O1 o.1.length o1, .slice O2 o.2.length o2, .slice G1 g.1.length g1, .slice G2 g.2.length g2], pX W.heap.size 0,f 2, .func (.func 131) #[] #[pX W.heap.size 0], .func (.func 133) #[] #[pX W.heap.size 0], .func (.func 131) #[] #[pX W.heap.size 0], .func (.func 133) #[] #[pX W.heap.size 0],f 7,f 8,f 9,f 10,f 11,f 12,f 13,f 14,f 15,f 16,f 17,f 18,f 19,f 20,f 21,f 22,f 23,f 24,f 25,f 26,f 27,f 28,f 29,f 30,f 31,f 32,f 33,f 34,f 35,f 36,f 37,f 38,f 39,f 40,f 41,f 42,f 43,f 44,f 45,f 46,f 47,f 48,f 49,f 50,f 51,f 52,f 53,f 54,f 55,f 56,f 57,f 58,f 59,f 60,f 61,f 62,f 63,f 64,f 65,f 66,f 67,f 68,f 69,f 70,f 71,f 72,f 73,f 74,f 75,f 76,f 77,f 78,f 79,f 80,f 81,f 82,f 83,f 84]:=rfl;dsimp only at e;rw[e,e7];go_wp2;go_meet;exact⟨gm,rfl,hfin,kp⟩
 case rest=>
 obtain⟨gm,rfl,HFI,KV⟩:=hcut;go_wp2;refine aaX (v:= .map (some gm)) (by simp[results,Tryz.results107,go_sem];try rfl) rfl ?_;exact⟨gm,w1,rfl,HFI,K1,KV⟩
