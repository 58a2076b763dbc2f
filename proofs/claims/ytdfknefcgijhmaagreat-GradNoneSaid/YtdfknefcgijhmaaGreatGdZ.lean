import Derived.Test.YtdfknefcgijhmaaGreatTk
import Derived.Test.YtdfknefcgijhmaaGreatEvC
import Derived.Test.YtdfknefcgijhmaaGreatElAll
import Derived.MapKept
import Derived.Test.YtdfknefcgijhmaaGreatGdP
import Derived.Test.YtdfknefcgijhmaaGreatVjC
import Derived.Test.YtdfknefcgijhmaaGreatEvRw
import Derived.Test.YtdfknefcgijhmaaGreatEvZi
import Derived.Test.YtdfknefcgijhmaaGreatGdC
import Derived.Test.YtdfknefcgijhmaaGreatVjY
set_option maxHeartbeats 16000000
set_option maxRecDepth 100000
set_option linter.unusedVariables false
set_option linter.unusedSimpArgs false
namespace Go.Proofs.YtdfknefcgijhmaaGreat.Dz
open Go.RowKit Go.Proofs.ShM Go.Proofs.GrM Go.Proofs.InM Go.Proofs.ImM Go.Proofs.cF Go.Proofs.EvM Go.ChangeMaps
theorem XP(k:Int)(v:Value):∀(es:List MapEntry) (L:List (Int×Value)) (i:Nat),es.map (fun e=>(e.key,e.val))=L.map (fun x=>(Value.int .i64 x.1,x.2))→
  (Instr.findNow (.int .i64) (.int .i64 k) es i=some none∧atM L k=none)∨
  ∃(m:Nat) (e:MapEntry),Instr.findNow (.int .i64) (.int .i64 k) es i=some (some (i+m,e.val))∧atM L k=some e.val∧es[m]?=some e∧e.key= .int .i64 k∧
   ∃L',(es.modify m fun e=>{e with key:= .int .i64 k,val:=v}).map (fun e=>(e.key,e.val))=L'.map (fun x=>(Value.int .i64 x.1,x.2))∧∀j,atM L' j=if j=k then some v else atM L j:=by
 intro es
 induction es with
 |nil=>
  intro L i h
  cases L with
  |nil=>exact .inl ⟨rfl,rfl⟩
  |cons x L=>simp at h
 |cons e es ih=>
  intro L i h
  cases L with
  |nil=>simp at h
  |cons x L=>
   simp only[List.map_cons,List.cons.injEq,Prod.mk.injEq]at h
   obtain⟨⟨h1,h2⟩,h3⟩:=h
   by_cases hk:k=x.1
   · refine .inr ⟨0,e,?_,?_,rfl,by rw[h1,hk],(k,v)::L,?_,fun j=>?_⟩
     · simp[Instr.findNow,Instr.sameNow,h1,hk]
     · simp[atM,hk,h2]
     · simp[List.modify,h3]
     · by_cases hj:j=k
       · simp[atM,hj]
       · simp[atM,hj,←hk]
   · have hf:(k==x.1)=false:=by simpa using hk
     rcases ih L (i+1) h3 with⟨q1,q2⟩|⟨m,e',q1,q2,q3,q4,L',q5,q6⟩
     · exact .inl ⟨by simp[Instr.findNow,Instr.sameNow,h1,hf,q1],by simp[atM,hk,q2]⟩
     · refine .inr ⟨m+1,e',?_,by simp[atM,hk,q2],by simpa using q3,q4,x::L',?_,fun j=>?_⟩
       · simp[Instr.findNow,Instr.sameNow,h1,hf,q1]
         omega
       · simp[List.modify_succ_cons,h1,h2,q5]
       · by_cases hj:j=x.1
         · have:¬j=k:=fun e=>hk (e▸hj)
           simp[atM,hj]
           intro e
           exact absurd e.symm hk
         · simp[atM,hj,q6]
def Km(a b:Nat)(w w':World):Prop:=w'.os=w.os∧w'.tape=w.tape∧w'.output=w.output∧w.heap.size≤w'.heap.size∧(∀k,k<w.heap.size→k≠a→k≠b→w'.heap[k]?=w.heap[k]?)∧
 ∀(k:Nat) (c:Array Value) (t:TypeId) (f:Nat×Nat),w.heap[k]?=some (.cells c t f)→w'.heap[k]?=some (.cells c t f)
theorem Km.kp{a b:Nat}{w w':World}(h:Kp w w'):Km a b w w':=⟨h.os,h.tape,h.output,h.size,fun k hk _ _=>h.block k hk,fun k c t f e=>(h.block k (Array.getElem?_eq_some_iff.1 e).1).trans e⟩
theorem Km.tr{a b:Nat}{w v u:World}(h:Km a b w v)(k:Km a b v u):Km a b w u:=⟨k.1.trans h.1,k.2.1.trans h.2.1,k.2.2.1.trans h.2.2.1,Nat.le_trans h.2.2.2.1 k.2.2.2.1,
 fun j hj h1 h2=>(k.2.2.2.2.1 j (Nat.lt_of_lt_of_le hj h.2.2.2.1) h1 h2).trans (h.2.2.2.2.1 j hj h1 h2),fun j c t f e=>k.2.2.2.2.2 j c t f (h.2.2.2.2.2 j c t f e)⟩
theorem Km.left{a:Nat}(b:Nat){w w':World}(h:Km a a w w'):Km a b w w':=⟨h.1,h.2.1,h.2.2.1,h.2.2.2.1,fun k hk h1 _=>h.2.2.2.2.1 k hk h1 h1,h.2.2.2.2.2⟩
theorem Km.right{b:Nat}(a:Nat){w w':World}(h:Km b b w w'):Km a b w w':=⟨h.1,h.2.1,h.2.2.1,h.2.2.2.1,fun k hk _ h1=>h.2.2.2.2.1 k hk h1 h1,h.2.2.2.2.2⟩
theorem Km.size{a b:Nat}{w w':World}(h:Km a b w w'):w.heap.size≤w'.heap.size:=h.2.2.2.1
theorem Km.to{a b:Nat}{w0 w w':World}(h:Km a b w w')(k:Kp w0 w)(ha:w0.heap.size≤a)(hb:w0.heap.size≤b):Kp w0 w':=
 ⟨h.1.trans k.os,h.2.1.trans k.tape,h.2.2.1.trans k.output,Nat.le_trans k.size h.2.2.2.1,fun j hj=>(h.2.2.2.2.1 j (Nat.lt_of_lt_of_le hj k.size) (by omega) (by omega)).trans (k.block j hj)⟩
theorem Km.cell{a b:Nat}{w w':World}(h:Km a b w w'){p:Addr}{v:Value}(hc:w.cell? p=some v):w'.cell? p=some v:=by
 unfold World.cell? at hc⊢
 split at hc
 · rename_i c t f e
   rw[h.2.2.2.2.2 _ _ _ _ e]
   exact hc
 · cases hc
theorem Km.rd{a b:Nat}{w w':World}(h:Km a b w w'){A:Option Addr}{xs:List Int}(r:Rd w A xs):Rd w' A xs:=⟨r.1,fun hp=>by
 obtain⟨ad,e,hl,hc⟩:=r.2 hp
 exact⟨ad,e,Nat.lt_of_lt_of_le hl h.size,fun j u hu=>h.cell (hc j u hu)⟩⟩
theorem Km.trc{a b:Nat}{w w':World}(h:Km a b w w'){P Q:Option Addr}{c d:Nat}{t:T}(r:TRc w P c Q d t):TRc w' P c Q d t:=⟨⟨h.rd r.r.s,h.rd r.r.d⟩,r.c1,r.c2⟩
def Mp(W:World)(g:Nat)(M:Int→Option Value):Prop:=∃L,Md W g L∧∀k,atM L k=M k
theorem Mp.lt{W:World}{g:Nat}{M:Int→Option Value}(h:Mp W g M):g<W.heap.size:=by obtain⟨L,h,_⟩:=h;exact h.lt
theorem Mp.km{a b g:Nat}{w w':World}{M:Int→Option Value}(h:Mp w g M)(k:Km a b w w')(ha:g≠a)(hb:g≠b):Mp w' g M:=by
 have hl:=h.lt
 obtain⟨L,⟨es,c,h,e⟩,hM⟩:=h
 exact⟨L,⟨es,c,(k.2.2.2.2.1 g hl ha hb).trans h,e⟩,hM⟩
theorem Mp.kp{g:Nat}{w w':World}{M:Int→Option Value}(h:Mp w g M)(k:Kp w w'):Mp w' g M:=by
 obtain⟨L,h,hM⟩:=h
 exact⟨L,h.kp k,hM⟩
theorem XI(k:Int)(W:World){P:Program}:(Instr.keyThatStays (.int .i64 k) (.int .i64 k)).run P W= .ok (.int .i64 k) W:=by
 simp[Instr.keyThatStays,Instr.sameBits]
section
variable{P:Program}{W:World}{g:Nat}{M:Int→Option Value}
theorem XS{es:Array MapEntry}{c:Nat}(hb:W.heap[g]?=some (.map es c))(o:Obj):Km g g W (setBlock W g o):=
 ⟨rfl,rfl,rfl,by simp[setBlock],fun j _ hj _=>heap_setBlock_other hb _ hj,fun j c t f hj=>by
  have hne:j≠g:=fun e=>by rw[e,hb]at hj;cases hj
  exact(heap_setBlock_other hb _ hne).trans hj⟩
theorem Mp.put{t kt et:TypeId}(h:Mp W g M)(ht:P.underlying t=some (.map kt et))(hk:P.underlying kt=some (.int .i64))(k:Int)(v:Value):
  ∃W',(Instr.mapUpdate t (.map (some g)) (.int .i64 k) v).run P W= .ok () W'∧Mp W' g (fun j=>if j=k then some v else M j)∧Km g g W W':=by
 obtain⟨L,⟨es,c,hb,e⟩,hM⟩:=h
 rcases XP k v es.toList L 0 e with⟨q1,q2⟩|⟨m,e',q1,q2,q3,q4,L',q5,q6⟩
 · have hf:(Instr.findKey kt (.int .i64 k) es.toList).run P W= .ok none W:=by simp[Instr.findKey,run_underlying hk,q1,Result.andThen]
   refine⟨setBlock W g (.map (es.push ⟨.int .i64 k,v,c⟩) (c+1)),?_,⟨L++[(k,v)],⟨_,_,heap_setBlock_same hb _,by simp[e]⟩,fun j=>?_⟩,XS hb _⟩
   · simp[Instr.mapUpdate,run_underlying ht,MapKept.run_getObj_map hb,MapKept.run_checkKey (e:=false) (n:=9999) hk (show MapKept.IsKey (.int .i64) (.int .i64 k)from rfl),hf,MapKept.run_setObj_map _ hb,Result.andThen,setBlock]
   · have ha:∀L:List (Int×Value),atM L k=none→atM (L++[(k,v)]) j=if j=k then some v else atM L j:=by
      intro L
      induction L with
      |nil=>intro _;simp[atM]
      |cons x L ih=>
       intro hn
       simp only[List.cons_append,atM]at hn⊢
       by_cases h1:k=x.1
       · simp[h1]at hn
       · rw[if_neg h1]at hn
         rw[ih hn]
         by_cases h2:j=x.1
         · rw[if_pos h2,if_neg (fun e:j=k=>h1 (e.symm.trans h2)),if_pos h2]
         · rw[if_neg h2,if_neg h2]
     rw[ha L q2,hM]
 · rw[Nat.zero_add]at q1
   have hf:(Instr.findKey kt (.int .i64 k) es.toList).run P W= .ok (some (m,e'.val)) W:=by simp[Instr.findKey,run_underlying hk,q1,Result.andThen]
   have hm:es[m]?=some e':=by simpa using q3
   refine⟨setBlock W g (.map (es.modify m fun e=>{e with key:= .int .i64 k,val:=v}) c),?_,⟨L',⟨_,_,heap_setBlock_same hb _,?_⟩,fun j=>?_⟩,XS hb _⟩
   · simp[Instr.mapUpdate,run_underlying ht,MapKept.run_getObj_map hb,MapKept.run_checkKey (e:=false) (n:=9999) hk (show MapKept.IsKey (.int .i64) (.int .i64 k)from rfl),hf,hm,q4,XI,MapKept.run_setObj_map _ hb,Result.andThen,setBlock]
   · rw[Array.toList_modify];exact q5
   · rw[q6,hM]
theorem Mp.get{t kt et:TypeId}(h:Mp W g M)(ht:P.underlying t=some (.map kt et))(hk:P.underlying kt=some (.int .i64)){z:Value}(hz:(zeroValue et).run P W= .ok z W)(k:Int):
  (Instr.lookup t (.map (some g)) (.int .i64 k) false).run P W= .ok ((M k).getD z) W∧(Instr.lookup t (.map (some g)) (.int .i64 k) true).run P W= .ok (.tuple #[(M k).getD z, .bool (M k).isSome]) W:=by
 obtain⟨L,⟨es,c,hb,e⟩,hM⟩:=h
 obtain⟨r,q1,q2⟩:=dL (P:=P) (W:=W) hk e k
 rw[←hM,←q2]
 cases r with
 |none=>exact⟨by simp[Instr.lookup,run_underlying ht,MapKept.run_getObj_map hb,MapKept.run_checkKey (n:=9999) hk (show MapKept.IsKey (.int .i64) (.int .i64 k)from rfl),q1,hz,Result.andThen],by simp[Instr.lookup,run_underlying ht,MapKept.run_getObj_map hb,MapKept.run_checkKey (n:=9999) hk (show MapKept.IsKey (.int .i64) (.int .i64 k)from rfl),q1,hz,Result.andThen]⟩
 |some x=>exact⟨by simp[Instr.lookup,run_underlying ht,MapKept.run_getObj_map hb,MapKept.run_checkKey (n:=9999) hk (show MapKept.IsKey (.int .i64) (.int .i64 k)from rfl),q1,Result.andThen],by simp[Instr.lookup,run_underlying ht,MapKept.run_getObj_map hb,MapKept.run_checkKey (n:=9999) hk (show MapKept.IsKey (.int .i64) (.int .i64 k)from rfl),q1,Result.andThen]⟩
end
theorem Xd(W:World):(zeroValue 31).run Tryz.prog W= .ok (.agg #[.slice none 0 0, .slice none 0 0]) W:=by
 obtain⟨i,hi,hz⟩:∃i,Tryz.prog.info? 31=some i∧i.zero=some (.agg #[.slice none 0 0, .slice none 0 0]):=by
  have h:(Tryz.prog.info? 31).map (fun i=>i.zero)=some (some (.agg #[.slice none 0 0, .slice none 0 0])):=by kernel_rfl
  cases hi:Tryz.prog.info? 31 with
  |none=>rw[hi]at h;cases h
  |some i=>rw[hi]at h;exact⟨i,rfl,by injection h⟩
 simp[zeroValue,typeInfo,hi,hz]
def Hm(w:World)(g:Nat)(ts:List T):Prop:=∃M,Mp w g M∧∀k:Nat,((ts.getD k eT).2.length=0∧M (k:Int)=none)∨((ts.getD k eT).2.length≠0∧∃P c Q d,M (k:Int)=some (.agg #[.slice P (ts.getD k eT).1.length c, .slice Q (ts.getD k eT).2.length d])∧TRc w P c Q d (ts.getD k eT))
theorem Hm.lt{w:World}{g:Nat}{ts:List T}(h:Hm w g ts):g<w.heap.size:=by obtain⟨M,h,_⟩:=h;exact h.lt
theorem Hm.km{a b g:Nat}{w w':World}{ts:List T}(h:Hm w g ts)(k:Km a b w w')(ha:g≠a)(hb:g≠b):Hm w' g ts:=by
 obtain⟨M,h,hM⟩:=h
 refine⟨M,h.km k ha hb,fun j=>?_⟩
 rcases hM j with h1|⟨h1,P,c,Q,d,h2,h3⟩
 · exact .inl h1
 · exact .inr ⟨h1,P,c,Q,d,h2,k.trc h3⟩
theorem Hm.kp{g:Nat}{w w':World}{ts:List T}(h:Hm w g ts)(k:Kp w w'):Hm w' g ts:=by
 obtain⟨M,h,hM⟩:=h
 refine⟨M,h.kp k,fun j=>?_⟩
 rcases hM j with h1|⟨h1,P,c,Q,d,h2,h3⟩
 · exact .inl h1
 · exact .inr ⟨h1,P,c,Q,d,h2,h3.kp k⟩
theorem Hm.new{W:World}(n:Nat):Hm (W.alloc (.map #[] 0)) W.heap.size (List.replicate n eT):=⟨fun _=>none,⟨[],Md.new W,fun _=>rfl⟩,fun k=> .inl ⟨by
 rw[List.getD_eq_getElem?_getD,List.getElem?_replicate]
 split<;>rfl,rfl⟩⟩
theorem Hm.put{W:World}{g n:Nat}{ts:List T}{t:T}{P Q:Option Addr}{c d:Nat}(h:Hm W g ts)(hn:n<ts.length)(hT:TRc W P c Q d t)(ht:t.2.length≠0):
  ∃W',(Instr.mapUpdate 44 (.map (some g)) (.int .i64 (n:Int)) (.agg #[.slice P t.1.length c, .slice Q t.2.length d])).run Tryz.prog W= .ok () W'∧Hm W' g (ts.set n t)∧Km g g W W':=by
 obtain⟨M,h,hM⟩:=h
 obtain⟨W',r1,r2,r3⟩:=h.put (P:=Tryz.prog) Tryz.underlying44 Tryz.underlying3 (n:Int) (.agg #[.slice P t.1.length c, .slice Q t.2.length d])
 refine⟨W',r1,⟨_,r2,fun k=>?_⟩,r3⟩
 by_cases e:n=k
 · subst e
   rw[List.getD_eq_getElem?_getD,List.getElem?_set_self hn]
   exact .inr ⟨ht,P,c,Q,d,if_pos rfl,r3.trc hT⟩
 · rw[List.getD_eq_getElem?_getD,List.getElem?_set_ne e,←List.getD_eq_getElem?_getD,if_neg (by omega)]
   rcases hM k with h1|⟨h1,P,c,Q,d,h2,h3⟩
   · exact .inl h1
   · exact .inr ⟨h1,P,c,Q,d,h2,r3.trc h3⟩
theorem Hm.get{W:World}{g:Nat}{ts:List T}(h:Hm W g ts)(k:Nat)(hq:(ts.getD k eT).2.length=0→ts.getD k eT=eT):∃P c Q d,TRc W P c Q d (ts.getD k eT)∧∀V:World,V.heap[g]?=W.heap[g]?→
  (Instr.lookup 44 (.map (some g)) (.int .i64 (k:Int)) false).run Tryz.prog V= .ok (.agg #[.slice P (ts.getD k eT).1.length c, .slice Q (ts.getD k eT).2.length d]) V∧
  (Instr.lookup 44 (.map (some g)) (.int .i64 (k:Int)) true).run Tryz.prog V= .ok (.tuple #[.agg #[.slice P (ts.getD k eT).1.length c, .slice Q (ts.getD k eT).2.length d], .bool (decide ((ts.getD k eT).2.length≠0))]) V:=by
 obtain⟨M,⟨L,⟨es,c0,hb,e0⟩,hL⟩,hM⟩:=h
 have hg:∀V:World,V.heap[g]?=W.heap[g]?→Mp V g M:=fun V e=>⟨L,⟨es,c0,e.trans hb,e0⟩,hL⟩
 rcases hM k with⟨h1,h2⟩|⟨h1,P,c,Q,d,h2,h3⟩
 · rw[hq h1]
   refine⟨none,0,none,0,⟨⟨Rd.nil _ _,Rd.nil _ _⟩,⟨by decide,by decide⟩,⟨by decide,by decide⟩⟩,fun V e=>?_⟩
   have h9:=(hg V e).get (P:=Tryz.prog) Tryz.underlying44 Tryz.underlying3 (Xd V) (k:Int)
   rw[h2]at h9
   exact h9
 · refine⟨P,c,Q,d,h3,fun V e=>?_⟩
   have h9:=(hg V e).get (P:=Tryz.prog) Tryz.underlying44 Tryz.underlying3 (Xd V) (k:Int)
   rw[h2]at h9
   rw[decide_eq_true h1]
   exact h9
theorem WW{W:World}{g n:Nat}{ts:List T}{t:T}{P Q:Option Addr}{c d:Nat}{ops:Array Oper}{rest:List Oper}{o:Oper}{a:Act}{K:Exit→Act→World→Prop}(hg:o.guard=none)(m x v:Operand)
  (hop:o.op=Op.mapUpdate 44 m x v)(hm:a.eval m= .map (some g))(hx:a.eval x= .int .i64 (n:Int))(hv:a.eval v= .agg #[.slice P t.1.length c, .slice Q t.2.length d])(h:Hm W g ts)(hn:n<ts.length)(hT:TRc W P c Q d t)(ht:t.2.length≠0)
  (hK:∀W',Hm W' g (ts.set n t)→Km g g W W'→wpList Tryz.prog ops K rest (a.put o.dst undef) W'):wpList Tryz.prog ops K (o::rest) a W:=by
 refine wpList_plain hg fun K' hK'=>?_
 obtain⟨W',hrun,r1,r2⟩:=h.put hn hT ht
 unfold Oper.wp
 simp[execOp,hop,hm,hx,hv,hrun,Result.andThen]
 exact hK' _ _ (hK W' r1 r2)
open Go.RowKit Go.Proofs.ShM Go.Proofs.GrM Go.Proofs.InM Go.Proofs.ImM Go.Proofs.cF Go.Proofs.EvM
theorem WU{w:World}{A:Option Addr}{ts:List T}(h:RdT w A ts){k:Nat}(hk:k<ts.length):∃ad t P c Q d,A=some ad∧ad.block<w.heap.size∧ts[k]?=some t∧w.cell? (ad.add (k*2))=some (.slice P t.1.length c)∧w.cell? ⟨(ad.add (k*2)).block,(ad.add (k*2)).off+1,none⟩=some (.slice Q t.2.length d)∧TRc w P c Q d t:=by
 obtain⟨ad,t,P,c,Q,d,e,hb,ht,h1,h2,r,_,_,b1,b2⟩:=h.DS hk
 exact⟨ad,t,P,c,Q,d,e,hb,ht,h1,h2,r,b1,b2⟩
def Yi(g n:Nat)(ts:List T)(r:Ev)(W:World)(e:Ending)(w':World):Prop:=e= .returned (.int .i64 r.2)∧(r.2=0→Hm w' g (ts.set n r.1))∧Km g g W w'
theorem Yd(g n:Nat)(ts:List T)(t:T)(r:Ev)(P Q:Option Addr)(c d:Nat)(W:World)(hm:Hm W g ts)(hn:n<ts.length)(hq:Tq (ts.getD n eT))(hT:TRc W P c Q d t)(ht:bO t=true∧N64 t.2)(hr:iS (ts.getD n eT) t=r):
  Calls Tryz.prog 26 #[.map (some g), .int .i64 (n:Int), .agg #[.slice P t.1.length c, .slice Q t.2.length d]] W (Yi g n ts r W):=by
 have KW:Hid (Kp W (W.alloc (.cells #[.slice P t.1.length c, .slice Q t.2.length d] 31))):=Kp.af _ _
 obtain⟨P2,c2,Q2,d2,hS,Xn⟩:=(hm.kp KW.out).get n fun h=>Xc hq h
 obtain⟨_,hlk⟩:=Xn _ rfl
 clear Xn
 obtain⟨s,hs⟩:=eX (ts.getD n eT)
 rw[←hs]at hS hlk hq hr
 have HHN:=lH hn
 have HMK:Hid (∀V,Kp W V→Hm V g ts):=fun V k=>hm.kp k
 have KX:Hid (Kp W ((W.alloc (.cells #[.slice P t.1.length c, .slice Q t.2.length d] 31)).alloc (.cells #[.slice P2 s.1.length c2, .slice Q2 s.2.length d2] 31))):=KW.out.tr (Kp.af _ _)
 have BT:Hid (Bk ((W.alloc (.cells #[.slice P t.1.length c, .slice Q t.2.length d] 31)).alloc (.cells #[.slice P2 s.1.length c2, .slice Q2 s.2.length d2] 31)) W.heap.size P t.1.length c Q t.2.length d):=(Bk.new rfl).af _
 have BS:Hid (Bk ((W.alloc (.cells #[.slice P t.1.length c, .slice Q t.2.length d] 31)).alloc (.cells #[.slice P2 s.1.length c2, .slice Q2 s.2.length d2] 31)) (W.heap.size+1) P2 s.1.length c2 Q2 s.2.length d2):=Bk.new (by rw[World.size_alloc])
 have HMX:=lH (hm.kp KX.out)
 have HTX:=lH (hT.kp KX.out)
 have HNE:=lH (WN ht.1)
 have u0:=BT.out.c0
 have u1:=BT.out.c1
 have z0:=BS.out.c0
 have z1:=BS.out.c1
 by_cases h0:s.2.length=0
 · have hd:decide (s.2.length≠0)=false:=decide_eq_false fun h=>h h0
   rw[hd]at hlk
   have hv:r=(t,0):=by rw[←hr];unfold iS;rw[if_pos h0]
   subst hv
   clear hm hn hq hT ht hr hS hs h0 hd z0 z1
   go_enter Tryz.func26,Tryz.ntmps26
   go_wp2_with (refine WW (g:=g) (n:=n) (ts:=ts) (t:=t) (P:=P) (Q:=Q) (c:=c) (d:=d) rfl (.tmp 18) (.tmp 19) (.tmp 20) rfl rfl rfl rfl HMX.out HHN.out HTX.out HNE.out ?_;intro w3 m3 k3;have M3:=lH m3;have K3:=lH k3;clear m3 k3)
   refine bodyPost_ret (v:= .int .i64 0) (by simp[results,Tryz.results26,go_sem];try rfl) rfl ?_
   exact⟨rfl,fun _=>M3.out,(Km.kp KX.out).tr K3.out⟩
 · have hd:decide (s.2.length≠0)=true:=decide_eq_true h0
   rw[hd]at hlk
   have hsq:=XU hq h0
   have HC:Hid (∀V,Kp W V→Kp ((W.alloc (.cells #[.slice P t.1.length c, .slice Q t.2.length d] 31)).alloc (.cells #[.slice P2 s.1.length c2, .slice Q2 s.2.length d2] 31)) V→Calls Tryz.prog 41 #[.int .i64 10, .agg #[.slice P2 s.1.length c2, .slice Q2 s.2.length d2], .agg #[.slice P t.1.length c, .slice Q t.2.length d]] V (aG (bg 10 s.1 s.2 t.1 t.2) V)):=
    fun V kV kX=>eZ 10 P2 Q2 P Q c2 d2 c d s.1 s.2 t.1 t.2 V ((hS.r.s.kp (Kp.af _ _)).kp kX) ((hS.r.d.kp (Kp.af _ _)).kp kX) (hT.r.s.kp kV) (hT.r.d.kp kV) hsq.2 ht.2
   have hv:r=tnE (bg 10 s.1 s.2 t.1 t.2):=by rw[←hr];unfold iS;rw[if_neg h0]
   obtain⟨R,hR⟩:=eX (bg 10 s.1 s.2 t.1 t.2)
   have HTR:Hid (R.2.2=0→R.2.1.length≠0):=fun h=>by
    have:=Xa (a:=s) ht (by unfold iS;rw[if_neg h0,←hR];exact h)
    unfold iS at this
    rw[if_neg h0,←hR]at this
    exact WN this.1
   rw[←hR]at HC hv
   subst hv
   clear hm hn hq hT ht hr hS hs hsq h0 hd hR
   go_enter Tryz.func26,Tryz.ntmps26
   go_wp2_with fail
   refine(HC.out _ KX.out (Kp.refl _)).mono ?_;rintro e5 w5 ⟨A6,c6,B6,d6,rfl,s6,t6,k6⟩
   have BS5:=lH (BS.out.kp k6)
   have S6:=lH (s6.past BS5.out (.slice A6 R.1.length c6) (.slice B6 R.2.1.length d6))
   have T6:=lH (t6.past BS5.out (.slice A6 R.1.length c6) (.slice B6 R.2.1.length d6))
   have K6:Hid (Kp W ((w5.setCell ⟨W.heap.size+1,0,none⟩ (.slice A6 R.1.length c6)).setCell ⟨W.heap.size+1,1,none⟩ (.slice B6 R.2.1.length d6))):=((KX.out.tr k6).setCell (p:=⟨W.heap.size+1,0,none⟩) (Nat.le_succ _) _).setCell (p:=⟨W.heap.size+1,1,none⟩) (Nat.le_succ _) _
   have BP:Hid (Bk ((w5.setCell ⟨W.heap.size+1,0,none⟩ (.slice A6 R.1.length c6)).setCell ⟨W.heap.size+1,1,none⟩ (.slice B6 R.2.1.length d6)) (W.heap.size+1) A6 R.1.length c6 B6 R.2.1.length d6):=BS5.out.put
   have f0:=BS5.out.f0
   have o0:=BS5.out.c0
   have o1:=BS5.out.c1
   have v0:=BP.out.c0
   have v1:=BP.out.c1
   have HM6:Hid (Hm ((w5.setCell ⟨W.heap.size+1,0,none⟩ (.slice A6 R.1.length c6)).setCell ⟨W.heap.size+1,1,none⟩ (.slice B6 R.2.1.length d6)) g ts):=HMK.out _ K6.out
   clear k6 s6 t6 u0 u1 z0 z1
   dsimp only
   by_cases he:R.2.2=0
   · have HNZ:=lH (HTR.out he)
     have HE:=lH he
     rw[he]
     clear he
     go_wp2_with (refine WW (g:=g) (n:=n) (ts:=ts) (t:=(R.1,R.2.1)) (P:=A6) (Q:=B6) (c:=c6) (d:=d6) rfl (.tmp 30) (.tmp 31) (.tmp 32) rfl rfl rfl rfl HM6.out HHN.out ⟨⟨S6.out.rd,T6.out.rd⟩,⟨S6.out.le,S6.out.cap⟩,⟨T6.out.le,T6.out.cap⟩⟩ HNZ.out ?_;intro w7 m7 k7;have M7:=lH m7;have K7:=lH k7;clear m7 k7)
     refine bodyPost_ret (v:= .int .i64 0) (by simp[results,Tryz.results26,go_sem];try rfl) rfl ?_
     exact⟨by show _=Ending.returned (.int .i64 R.2.2);rw[HE.out],fun _=>M7.out,(Km.kp K6.out).tr K7.out⟩
   · have he':(R.2.2 !=0)=true:=by simpa using he
     have HE:=lH he
     clear he
     go_wp2
     refine bodyPost_ret (v:= .int .i64 R.2.2) (by simp[results,Tryz.results26,go_sem];try rfl) rfl ?_
     exact⟨rfl,fun h=>absurd h HE.out,Km.kp K6.out⟩
def DT(g:Nat)(r:List T×Int)(W:World)(e:Ending)(w':World):Prop:=e= .returned (.int .i64 r.2)∧(r.2=0→Hm w' g r.1)∧Km g g W w'
theorem XR(g N:Nat)(args:List Int)(bs ts:List T)(r:List T×Int)(A B:Option Addr)(n m ca cb:Nat)(W:World)(hm:Hm W g ts)(HI:Hi N ts)(hA:Rd W A args)(hB:RdT W B bs)(hb:∀b∈bs,bO b=true∧N64 b.2)(ha:∀a∈args,0≤a∧a<(N:Int))
  (hl:args.length=bs.length)(hn:n=args.length)(hmm:m=bs.length)(hr:cI args bs ts=r):
  Calls Tryz.prog 28 #[.map (some g), .slice A n ca, .slice B m cb] W (DT g r W):=by
 have hml:m≤9223372036854775807:=by rw[hmm,←hl];exact hA.1
 have HL:=lH hmm
 have HN:Hid (n=m):=by show n=m;omega
 have HRA:=lH hA
 have HRB:=lH hB
 have HB:=lH hb
 have HA:=lH ha
 have HLA:Hid (args.length=m):=by show _=_;omega
 have HM:=lH hm
 have HII:=lH HI
 have HR:=lH hr
 clear hm HI hA hB hb ha hl hn hmm hr
 go_enter Tryz.func28,Tryz.ntmps28
 go_wp2_with fail
 go_loopw [12] (fun i wx=>∃k:Nat,∃h:List T,i= .int .i64 (k:Int)∧Hid (k≤m)∧Hid (Hm wx g h)∧Hid (Hi N h)∧Hid (cI (args.drop k) (bs.drop k) h=r)∧Hid (Km g g W wx)) (fun i _=>m-(intOf i).toNat)
 case atStart=>exact⟨0,ts,rfl,Nat.zero_le _,HM.out,HII.out,HR.out,Km.kp (Kp.refl _)⟩
 case round=>
  obtain⟨k,h,rfl,hk,hh,hi,hp,hK⟩:=hrel
  obtain⟨wo,hwo⟩:=eX (wr)
  subst hwo
  by_cases hj:k<m
  · have hj':(k:Int)<(m:Int):=by omega
    have hjn:(k:Int)<(n:Int):=by rw[HN.out];exact hj'
    have hk0:(0:Int)≤(k:Int):=by omega
    obtain⟨bd,t,P,c,Q,d,rfl,hlt,ht,y0,y1,hT⟩:=WU HRB.out (show k<bs.length by rw[←HL.out];exact hj)
    obtain⟨ad,a,rfl,Jg,hx,y2⟩:=HRA.out.at_ (show k<args.length by rw[HLA.out];exact hj)
    have Qx:=Nat.lt_of_lt_of_le hlt hK.out.size
    have Qw:=Nat.lt_of_lt_of_le Jg hK.out.size
    have z0:=hK.out.cell y0
    have z1:=hK.out.cell y1
    have z2:=hK.out.cell y2
    have hTB:=HB.out t (List.mem_of_getElem? ht)
    obtain⟨a0,a1⟩:=HA.out a (List.mem_of_getElem? hx)
    obtain⟨i,rfl⟩:∃i:Nat,a=(i:Int):=⟨a.toNat,by omega⟩
    have hin:i<h.length:=by rw[hi.out.len];omega
    have hTq:=hi.out.tq i
    obtain⟨R,hR⟩:=eX (iS (h.getD i eT) t)
    have hdr:cI (args.drop k) (bs.drop k) h=if R.2=0 then cI (args.drop (k+1)) (bs.drop (k+1)) (h.set i R.1)else([],R.2):=by
     rw[List.drop_eq_getElem_cons (List.getElem?_eq_some_iff.1 hx).1,List.drop_eq_getElem_cons (List.getElem?_eq_some_iff.1 ht).1,(List.getElem?_eq_some_iff.1 hx).2,(List.getElem?_eq_some_iff.1 ht).2]
     by_cases h0:R.2=0
     · rw[Xe (by rw[Int.toNat_natCast,←hR];exact h0),Int.toNat_natCast,←hR,if_pos h0]
     · rw[Xl (by rw[Int.toNat_natCast,←hR];exact h0),Int.toNat_natCast,←hR,if_neg h0]
    rw[hp.out]at hdr
    have HDR:=lH hdr
    have HNX:Hid (R.2=0→Hi N (h.set i R.1)):=fun h0=>hi.out.set (by rw[hR];exact Xa hTB (by rw[←hR];exact h0)) i
    have HCA:Hid (∀V,Kp wo V→Calls Tryz.prog 26 #[.map (some g), .int .i64 (i:Int), .agg #[.slice P t.1.length c, .slice Q t.2.length d]] V (Yi g i h R V)):=fun V kV=>Yd g i h t R P Q c d V (hh.out.kp kV) hin hTq ((hK.out.trc hT).kp kV) hTB hR.symm
    have BX:Hid (Bk (wo.alloc (.cells #[.slice P t.1.length c, .slice Q t.2.length d] 31)) wo.heap.size P t.1.length c Q t.2.length d):=Bk.new rfl
    have KX:Hid (Kp wo (wo.alloc (.cells #[.slice P t.1.length c, .slice Q t.2.length d] 31))):=Kp.af _ _
    obtain⟨wx,hwx⟩:=eX (wo.alloc (.cells #[.slice P t.1.length c, .slice Q t.2.length d] 31))
    have hgo:(if R.2=0 then True else True):=by split<;>trivial
    have HWX:=lH hwx
    have BY:Hid (Bk wx wo.heap.size P t.1.length c Q t.2.length d):=by rw[hwx];exact BX.out
    have KY:Hid (Kp wo wx):=by rw[hwx];exact KX.out
    have z5:Hid (wx.cell? (ad.add k)=some (.int .i64 (i:Int))):=(Km.kp (a:=g) (b:=g) KY.out).cell z2
    have HSS:Hid (∀V,Km g g wx V→V.cell? (ad.add k)=some (.int .i64 (i:Int))∧V.cell? ⟨wo.heap.size,0,none⟩=some (.slice P t.1.length c)∧V.cell? ⟨wo.heap.size,1,none⟩=some (.slice Q t.2.length d)):=fun V kV=>⟨kV.cell z5.out,kV.cell BY.out.c0,kV.cell BY.out.c1⟩
    clear hwx hdr hR hTB hTq hT ht hx y0 y1 y2 hin a0 a1 hp hgo
    go_wp2_with fail
    rw[←HWX.out]
    refine wp_region_held_drew (S:=fun V=>V.cell? (ad.add k)=some (.int .i64 (i:Int))∧V.cell? ⟨wo.heap.size,0,none⟩=some (.slice P t.1.length c)∧V.cell? ⟨wo.heap.size,1,none⟩=some (.slice Q t.2.length d)) (by kernel_rfl) (HSS.out _ (Km.kp (Below.drew (Kp.refl _)))) (fun hHeld=>?_)
    have X0:Hid (Kp wx wx.drew):=Below.drew (Kp.refl _)
    generalize wx.drew=V0 at X0 hHeld⊢
    refine tK 0 (.map (some g)) rfl hHeld<|tK 1 (.slice (some ad) n ca) rfl hHeld<|tK 2 (.int .i64 (k:Int)) rfl hHeld<|tK 3 (.pointer (some (ad.add k))) rfl hHeld<|tK 4 (.int .i64 (i:Int)) rfl hHeld<|tK 5 (.agg #[.slice P t.1.length c, .slice Q t.2.length d]) rfl hHeld ?_
    refine rD 6 rfl fun K9_ hK9=>?_
    go_simp
    refine(HCA.out _ (KY.out.tr X0.out)).mono ?_;rintro e5 w5 ⟨rfl,m5,k5⟩
    dsimp only
    have X5:Hid (Km g g wx w5):=(Km.kp X0.out).tr k5
    have K5:Hid (Km g g W w5):=hK.out.tr ((Km.kp KY.out).tr X5.out)
    have M5:=lH m5
    refine hK9.out _ _ (HSS.out _ X5.out) fun hHeld=>?_
    clear hK9 k5 m5
    refine rD 7 rfl fun K9_ hK9=>?_
    go_simp
    refine hK9.out _ _ (HSS.out _ X5.out) fun hHeld=>?_
    clear hK9
    refine wpAnyH_done (by kernel_rfl) ?_ _
    clear hHeld z0 z1 z2
    by_cases h0:R.2=0
    · have HX:=HNX.out h0
      have HXX:=lH HX
      have M6:=lH (M5.out h0)
      have hd:r=cI (args.drop (k+1)) (bs.drop (k+1)) (h.set i R.1):=by have:=HDR.out;rwa [if_pos h0]at this
      have HD:=lH hd.symm
      clear HX hd
      rw[h0]
      clear h0
      go_wp2
      go_roundw
      case rel=>exact⟨k+1,_,by go_num,(by show k+1≤m;omega),M6.out,HXX.out,HD.out,K5.out⟩
      case measure=>simp[intOf];omega
    · have he:(R.2 !=0)=true:=by simpa using h0
      have hd:Hid (r=([],R.2)):=by have:=HDR.out;rwa [if_neg h0]at this
      have H0:=lH h0
      clear h0
      go_wp2
      refine bodyPost_ret (v:= .int .i64 R.2) (by simp[results,Tryz.results28,go_sem];try rfl) rfl ?_
      rw[hd.out]
      exact⟨rfl,fun h=>absurd h H0.out,K5.out⟩
  · have hj':¬(k:Int)<(m:Int):=by omega
    have hd:Hid (r=(h,0)):=by
     have:=hp.out
     rw[List.drop_of_length_le (by rw[HLA.out];omega)]at this
     rw[←this];rfl
    go_wp2
    refine bodyPost_ret (v:= .int .i64 0) (by simp[results,Tryz.results28,go_sem];try rfl) rfl ?_
    rw[hd.out]
    exact⟨rfl,fun _=>hh.out,hK.out⟩
open Go.RowKit Go.Proofs.ShM Go.Proofs.GrM Go.Proofs.InM Go.Proofs.ImM Go.Proofs.cF Go.Proofs.EvM
def Yf(gh gs:Nat)(r:(List T×List T)×Int)(W:World)(e:Ending)(w':World):Prop:=e= .returned (.int .i64 r.2)∧(r.2=0→Hm w' gh r.1.1∧Hm w' gs r.1.2)∧Km gh gs W w'
section
variable{l:List Nd}{vals:List T}{inp:T}{ps:List T}{hang fD:List T}{n:Nd}{r:(List T×List T)×Int}{A B:Option Addr}{m ca mv cb b1 b2 b3 b4 gs gh i:Nat}{W:World}
theorem XF(G:Gv l vals inp ps)(hl:RdG W A l)(hm:m=l.length)(hh:Hm W gh hang)(hs:Hm W gs fD)(hne:gh≠gs)(HI:Hi l.length hang)(HG:Hi 8 fD)(hn:l[i]?=some n)(h2:n.1=2)(hp:(hang.getD i eT).2.length≠0)
  (c1:W.cell? ⟨b1,0,none⟩=some (.slice A m ca))(c2:W.cell? ⟨b2,0,none⟩=some (.map (some gs)))(c3:W.cell? ⟨b3,0,none⟩=some (.map (some gh)))(hr:dD n vals hang fD i=r):
  Calls Tryz.prog 25 #[.int .i64 (i:Int), .pointer (some ⟨b1,0,none⟩), .pointer (some ⟨b2,0,none⟩), .pointer (some ⟨b3,0,none⟩), .pointer (some ⟨b4,0,none⟩)] W (Yf gh gs r W):=by
 have hil:=(List.getElem?_eq_some_iff.1 hn).1
 obtain⟨ad,t,P,e,Q,g,rfl,hlt,ht,y0,y1,y2,hN,hcP,hcQ⟩:=hl.at_ hil
 rw[hn]at ht
 injection ht with ht
 subst ht
 obtain⟨hn0,hpm⟩:=Oa G.ck hn h2
 have hp7:=((kx G.ck).1 hpm).1
 obtain⟨p,hpe⟩:∃p:Nat,n.2.2.getD 0 0=(p:Int):=⟨(n.2.2.getD 0 0).toNat,by omega⟩
 obtain⟨qd,rfl,Yp,hcq,hpos⟩:=yU hN.rn hn0
 rw[hpe]at hcq
 have hpg:p<fD.length:=by rw[HG.len];omega
 obtain⟨PT,cT,QT,dT,hT,Xn⟩:=hh.get i fun h=>absurd h hp
 obtain⟨t,htt⟩:=eX (hang.getD i eT)
 rw[←htt]at hT Xn hp
 have htk:bO t=true∧N64 t.2:=by rw[htt];exact XU (HI.tq i) (by rw[←htt];exact hp)
 obtain⟨R,hR⟩:=eX (iS (fD.getD p eT) t)
 have hv:r=if R.2=0 then((hang,fD.set p R.1),0)else(([],[]),R.2):=by
  rw[←hr,Xp h2]
  unfold Kq
  rw[hpe,Int.toNat_natCast,←htt,←hR]
 have HV:=lH hv
 have HCA:Hid (∀V,Kp W V→Calls Tryz.prog 26 #[.map (some gs), .int .i64 (p:Int), .agg #[.slice PT t.1.length cT, .slice QT t.2.length dT]] V (Yi gs p fD R V)):=fun V kV=>Yd gs p fD t R PT QT cT dT V (hs.kp kV) hpg (HG.tq p) (hT.kp kV) htk hR.symm
 have HH:=lH hh
 have hgl:=hh.lt
 obtain⟨n0,hnn⟩:=eX (n.2.1.length)
 obtain⟨m0,hmm⟩:=eX (n.2.2.length)
 rw[←hnn]at y1
 rw[←hmm]at y2 hpos
 rw[h2]at y0
 have hi1:(i:Int)<(m:Int):=by rw[hm];omega
 have hi0:(0:Int)≤(i:Int):=by omega
 have hm0:(0:Int)<(m0:Int):=by omega
 obtain⟨w1,hw1⟩:=eX (W.alloc (.cells #[.int .i64 2, .slice P n0 e, .slice (some qd) m0 g] 37))
 have HW:=lH hw1
 have KY:Hid (Kp W w1):=by rw[hw1];exact Kp.af _ _
 have BY:Hid (Nb w1 W.heap.size 2 P n0 e (some qd) m0 g):=by rw[hw1];exact Nb.new rfl
 have v0:=(Nb.new (b:=W.heap.size) (W:=W) (op:=2) (P:=P) (n:=n0) (c:=e) (Q:=some qd) (m:=m0) (d:=g) rfl).c0
 have x2:=lH (Iz.ay c2 KY.out)
 have x3:=lH (Iz.ay c3 KY.out)
 have xq:=lH (Iz.ay hcq KY.out)
 have HLK:Hid (∀V,V.heap[gh]?=w1.heap[gh]?→(Instr.lookup 44 (.map (some gh)) (.int .i64 (i:Int)) false).run Tryz.prog V= .ok (.agg #[.slice PT t.1.length cT, .slice QT t.2.length dT]) V):=fun V e=>(Xn V (e.trans (KY.out.block gh hgl))).1
 have HSS:Hid (∀V,Km gs gs w1 V→V.cell? ⟨b2,0,none⟩=some (.map (some gs))∧V.cell? ⟨b3,0,none⟩=some (.map (some gh))∧V.cell? ⟨W.heap.size,2,none⟩=some (.slice (some qd) m0 g)∧V.cell? qd=some (.int .i64 (p:Int))∧(Instr.lookup 44 (.map (some gh)) (.int .i64 (i:Int)) false).run Tryz.prog V= .ok (.agg #[.slice PT t.1.length cT, .slice QT t.2.length dT]) V):=fun V kV=>
  ⟨kV.cell x2.out,kV.cell x3.out,kV.cell BY.out.c2,kV.cell xq.out,HLK.out V (kV.2.2.2.2.1 gh (Nat.lt_of_lt_of_le hgl KY.out.size) hne hne)⟩
 have HNE:=lH hne
 clear hw1 hil hlt hn hN hcP hcQ hn0 hpm hp7 hpe Yp hcq hpg Xn htk hT hp htt hR hv hr hl hm hh hs hne HI HG h2 G hgl hnn hmm c2 c3
 go_enter Tryz.func25,Tryz.ntmps25
 go_wp2_with fail
 rw[←HW.out]
 refine wp_region_held_drew (S:=fun V=>V.cell? ⟨b2,0,none⟩=some (.map (some gs))∧V.cell? ⟨b3,0,none⟩=some (.map (some gh))∧V.cell? ⟨W.heap.size,2,none⟩=some (.slice (some qd) m0 g)∧V.cell? qd=some (.int .i64 (p:Int))∧(Instr.lookup 44 (.map (some gh)) (.int .i64 (i:Int)) false).run Tryz.prog V= .ok (.agg #[.slice PT t.1.length cT, .slice QT t.2.length dT]) V) (by kernel_rfl) (HSS.out _ (Km.kp (Below.drew (Kp.refl _)))) (fun hHeld=>?_)
 have X0:Hid (Kp w1 w1.drew):=Below.drew (Kp.refl _)
 generalize w1.drew=V0 at X0 hHeld⊢
 refine tK 0 (.map (some gs)) rfl hHeld<|tK 1 (.pointer (some ⟨W.heap.size,2,none⟩)) rfl hHeld<|tK 2 (.slice (some qd) m0 g) rfl hHeld<|tK 3 (.pointer (some qd)) rfl hHeld<|tK 4 (.int .i64 (p:Int)) rfl hHeld<|tK 5 (.map (some gh)) rfl hHeld<|tK 6 (.int .i64 (i:Int)) rfl hHeld<|tK 7 (.agg #[.slice PT t.1.length cT, .slice QT t.2.length dT]) rfl hHeld ?_
 refine rD 8 rfl fun K9_ hK9=>?_
 go_simp
 refine(HCA.out _ (KY.out.tr X0.out)).mono ?_;rintro e5 w5 ⟨rfl,m5,k5⟩
 dsimp only
 have X5:Hid (Km gs gs w1 w5):=(Km.kp X0.out).tr k5
 have K5:Hid (Km gs gs W w5):=(Km.kp KY.out).tr X5.out
 have M5:=lH m5
 refine hK9.out _ _ (HSS.out _ X5.out) fun hHeld=>?_
 clear hK9 k5 m5
 refine rD 9 rfl fun K9_ hK9=>?_
 go_simp
 refine hK9.out _ _ (HSS.out _ X5.out) fun hHeld=>?_
 clear hK9
 refine wpAnyH_done (by kernel_rfl) ?_ _
 clear hHeld
 go_wp2
 refine bodyPost_ret (v:= .int .i64 R.2) (by simp[results,Tryz.results25,go_sem];try rfl) rfl ?_
 rw[HV.out]
 by_cases h0:R.2=0
 · rw[if_pos h0]
   exact⟨by rw[h0],fun _=>⟨HH.out.km K5.out HNE.out HNE.out,M5.out h0⟩,K5.out.right gh⟩
 · rw[if_neg h0]
   exact⟨rfl,fun h=>absurd h h0,K5.out.right gh⟩
theorem XH(G:Gv l vals inp ps)(hn:l[i]?=some n):xh (cq vals n.2.1)∧n.2.1.length≤2:=by
 obtain⟨a1,a2,a3⟩:=WL G.ck hn
 have h2:=gT n.1
 have hil:=(List.getElem?_eq_some_iff.1 hn).1
 refine⟨⟨by unfold cq;rw[List.length_map];omega,fun t ht=>?_⟩,by omega⟩
 unfold cq at ht
 obtain⟨a,ha,rfl⟩:=List.mem_map.1 ht
 have h3:=a3 a ha
 refine G.few _ ?_
 rw[List.getD_eq_getElem?_getD,List.getElem?_eq_getElem (by rw[G.len];omega)]
 exact List.getElem_mem _
theorem XT(C:VjC)(G:Gv l vals inp ps)(hl:RdG W A l)(hb:RdT W B vals)(hS:dV l)(hm:m=l.length)(hmv:mv=vals.length)(hh:Hm W gh hang)(hs:Hm W gs fD)(hne:gh≠gs)(HI:Hi l.length hang)(hn:l[i]?=some n)(h2:n.1≠2)
  (c1:W.cell? ⟨b1,0,none⟩=some (.slice A m ca))(c3:W.cell? ⟨b3,0,none⟩=some (.map (some gh)))(c4:W.cell? ⟨b4,0,none⟩=some (.slice B mv cb))(hr:dD n vals hang fD i=r):
  Calls Tryz.prog 25 #[.int .i64 (i:Int), .pointer (some ⟨b1,0,none⟩), .pointer (some ⟨b2,0,none⟩), .pointer (some ⟨b3,0,none⟩), .pointer (some ⟨b4,0,none⟩)] W (Yf gh gs r W):=by
 have hil:=(List.getElem?_eq_some_iff.1 hn).1
 obtain⟨ad,t,P,e,Q,g,rfl,hlt,ht,y0,y1,y2,hN,hcP,hcQ⟩:=hl.at_ hil
 rw[hn]at ht
 injection ht with ht
 subst ht
 obtain⟨hsm,hl2⟩:=XH G hn
 obtain⟨hs1,hs2,hs3⟩:=hS.2 n (List.mem_of_getElem? hn)
 obtain⟨_,_,ha3⟩:=WL G.ck hn
 obtain⟨PT,cT,QT,dT,hT,Xn⟩:=hh.get i fun h=>Xc (HI.tq i) h
 have htf:=Xw (HI.tq i)
 obtain⟨bd,o,PO,cO,QO,dO,rfl,XB,hto,w0,w1,hO⟩:=WU hb (show i<vals.length by rw[G.len];exact hil)
 have hof:=G.few o (List.mem_of_getElem? hto)
 have hoe:vals.getD i eT=o:=by rw[List.getD_eq_getElem?_getD,hto];rfl
 obtain⟨u,htt⟩:=eX (hang.getD i eT)
 rw[←htt]at hT Xn htf
 obtain⟨xs,er,hbk⟩:∃xs er,cU n.1 n.2.2 (cq vals n.2.1) o u=(xs,er):=⟨_,_,rfl⟩
 have hbg:bkG n vals hang i=(xs,er):=by unfold bkG;rw[hoe,←htt];exact hbk
 have hv:er≠0→r.2=er:=fun h=>by
  rw[←hr,Xq h2 (by rw[hbg];exact h),hbg]
 have hv2:er=0→r=(if(cI n.2.1 xs hang).2=0 then(((cI n.2.1 xs hang).1,fD),0)else(([],[]),(cI n.2.1 xs hang).2))∧xs.length=n.2.1.length∧∀b∈xs,bO b=true∧N64 b.2:=fun h=>by
  have hb0:(bkG n vals hang i).2=0:=by rw[hbg];exact h
  have h9:=Yc G hn HI hb0
  rw[hbg]at h9
  exact⟨by rw[←hr,Xo h2 hb0,hbg],h9⟩
 have HV:=lH hv
 have HV2:=lH hv2
 obtain⟨n0,hnn⟩:=eX (n.2.1.length)
 obtain⟨m0,hmm⟩:=eX (n.2.2.length)
 obtain⟨op,hop⟩:=eX (n.1)
 have HCB:Hid (∀V A8 ng c8,Kp W V→RdT V A8 (cq vals n.2.1)→(cq vals n.2.1).length≤c8→c8≤9223372036854775807→ng=(cq vals n.2.1).length→Calls Tryz.prog 27 #[.agg #[.int .i64 op, .slice P n0 e, .slice Q m0 g], .slice A8 ng c8, .agg #[.slice PO o.1.length cO, .slice QO o.2.length dO], .agg #[.slice PT u.1.length cT, .slice QT u.2.length dT]] V (PU xs er xs.length V)):=
  fun V A8 ng c8 kV h8 l8 m8 e8=>by
   rw[hop,hnn,hmm]
   exact C.back P Q PO QO PT QT A8 _ _ e g _ _ cO dO _ _ cT dT ng c8 n o u _ xs er _ V (hN.ra.kp kV) (hN.rn.kp kV) rfl rfl hcP hcQ (by omega) (by omega) hs3 h8 l8 m8 hsm e8 (hO.kp kV) hof rfl rfl (hT.kp kV) htf rfl rfl hbk rfl
 have HCP:Hid (∀V A9 c9 rr,Kp W V→RdT V A9 xs→(∀b∈xs,bO b=true∧N64 b.2)→n.2.1.length=xs.length→cI n.2.1 xs hang=rr→Calls Tryz.prog 28 #[.map (some gh), .slice P n0 e, .slice A9 xs.length c9] V (DT gh rr V)):=
  fun V A9 c9 rr kV h8 h9 h10 h11=>XR gh l.length n.2.1 xs hang rr P A9 n0 xs.length e c9 V (hh.kp kV) HI (hN.ra.kp kV) h8 h9 (fun a ha=>by have:=ha3 a ha;omega) h10 hnn rfl h11
 have HH:=lH hh
 have HS:=lH hs
 have hgl:=hh.lt
 have HA3:Hid (∀a∈n.2.1,0≤a∧a<(i:Int)):=ha3
 have HVL:Hid (vals.length=l.length):=G.len
 have HIL:=lH hil
 have HMV:=lH hmv
 have HB:=lH hb
 have HNR:=lH hN
 have HL2:=lH hl2
 have HNN:=lH hnn
 rw[←hnn]at y1
 rw[←hmm]at y2
 rw[←hop]at y0
 have hi1:(i:Int)<(m:Int):=by rw[hm];omega
 have hi2:(i:Int)<(mv:Int):=by rw[hmv,G.len];omega
 have hi0:(0:Int)≤(i:Int):=by omega
 have hop2:(op==2)=false:=by rw[hop];simpa using h2
 have hnm:n0≤9223372036854775807:=by rw[hnn];omega
 obtain⟨wb,hwb⟩:=eX (W.alloc (.cells #[.int .i64 op, .slice P n0 e, .slice Q m0 g] 37))
 have KB:Hid (Kp W wb):=by rw[hwb];exact Kp.af _ _
 have FW:Hid (Nb wb W.heap.size op P n0 e Q m0 g):=by rw[hwb];exact Nb.new rfl
 have FB:=Nb.new (b:=W.heap.size) (W:=W) (op:=op) (P:=P) (n:=n0) (c:=e) (Q:=Q) (m:=m0) (d:=g) rfl
 have v0:=FB.c0
 have v1:=FB.c1
 have x3:=lH (Iz.ay c3 KB.out)
 have x4:=lH (Iz.ay c4 KB.out)
 have xw0:=lH (Iz.ay w0 KB.out)
 have xw1:=lH (Iz.ay w1 KB.out)
 have HLK:Hid (∀V,V.heap[gh]?=wb.heap[gh]?→(Instr.lookup 44 (.map (some gh)) (.int .i64 (i:Int)) false).run Tryz.prog V= .ok (.agg #[.slice PT u.1.length cT, .slice QT u.2.length dT]) V):=fun V e=>(Xn V (e.trans (KB.out.block gh hgl))).1
 have Yq:=lH (Nat.lt_of_lt_of_le hgl KB.out.size)
 have HSS:Hid (∀V,Kp wb V→V.cell? ⟨W.heap.size,0,none⟩=some (.int .i64 op)∧V.cell? ⟨W.heap.size,1,none⟩=some (.slice P n0 e)∧V.cell? ⟨W.heap.size,2,none⟩=some (.slice Q m0 g)∧V.cell? ⟨b3,0,none⟩=some (.map (some gh))∧V.cell? ⟨b4,0,none⟩=some (.slice (some bd) mv cb)∧V.cell? (bd.add (i*2))=some (.slice PO o.1.length cO)∧V.cell? ⟨(bd.add (i*2)).block,(bd.add (i*2)).off+1,none⟩=some (.slice QO o.2.length dO)∧
   (Instr.lookup 44 (.map (some gh)) (.int .i64 (i:Int)) false).run Tryz.prog V= .ok (.agg #[.slice PT u.1.length cT, .slice QT u.2.length dT]) V):=fun V kV=>
  ⟨(FW.out.kp kV).c0,(FW.out.kp kV).c1,(FW.out.kp kV).c2,Iz.ay x3.out kV,Iz.ay x4.out kV,Iz.ay xw0.out kV,Iz.ay xw1.out kV,HLK.out V (kV.block gh Yq.out)⟩
 have HNE:=lH hne
 clear hil hlt hn hN hcP hcQ hsm hl2 hs1 hs2 hs3 ha3 Xn htf XB hto w0 w1 hO hof hoe htt hbk hbg hv hv2 hnn hmm hop hr hl hb hS hm hmv hh hs hne HI h2 G hgl c3 c4 hT FB
 go_enter Tryz.func25,Tryz.ntmps25
 go_wp2_with fail
 rw[←hwb]
 clear hwb v0 v1 y0 y1 y2 c1
 go_loopw [8,32] (fun v i wx=>∃j:Nat,∃gs:List T,Hid (Ez.zf wb.heap.size wx v gs)∧i= .int .i64 (j:Int)∧Hid (j≤n0)∧Hid (gs=cq vals (n.2.1.take j))∧Hid (Kp wb wx)) (fun _ i _=>n0-(intOf i).toNat)
 case atStart=>exact⟨0,[],Ez.zf.bU _ _,rfl,Nat.zero_le _,rfl,Kp.refl _⟩
 case round=>
  obtain⟨j,zs,hG,rfl,hjn,hgs,hK2⟩:=hrel
  obtain⟨wo,hwo⟩:=eX (wr)
  subst hwo
  have KR:=lH (KB.out.tr hK2.out)
  obtain⟨A8,c8,rfl,hR8,CH,CG⟩:=hG.out.1.form
  have hgl:Hid (zs.length≤2):=by show _≤_;rw[hgs.out];unfold cq;rw[List.length_map,List.length_take,←HNN.out];have:=HL2.out;have:=HNN.out;omega
  have q4:=Iz.ay x4.out hK2.out
  by_cases hq:j<n0
  · have hq':(j:Int)<(n0:Int):=by omega
    obtain⟨ap,a,rfl,hlp,ha,hca⟩:=(HNR.out.ra.kp KR.out).at_ (k:=j) (by rw[←HNN.out];exact hq)
    obtain⟨ha0,ha1⟩:=HA3.out a (List.mem_of_getElem? ha)
    obtain⟨a',rfl⟩:∃a':Nat,a=(a':Int):=⟨a.toNat,by omega⟩
    have hak:a'<vals.length:=by rw[HVL.out];have:=HIL.out;omega
    obtain⟨bd6,s,P6,e6,Q6,f6,e66,hl6,hs,hc6,hd6,rs⟩:=WU (HB.out.kp KR.out) hak
    injection e66 with e66
    subst e66
    have Vi:(a':Int)<(mv:Int):=by rw[HMV.out];omega
    have HZ1:Hid (cq vals (n.2.1.take (j+1))=zs++[s]):=by show _=_;rw[Ez.yX ha hs,hgs.out]
    have HX3:Hid (∀ty,RdT (wo.alloc (.cells #[.slice P6 s.1.length e6, .slice Q6 s.2.length f6] ty)) (some ⟨wo.heap.size,0,none⟩) [s]):=fun ty=>RdX.one (X:=fun _=>True) (t:=s) rs.r (fun _ _ _=>trivial) (fun _ _ _=>trivial) rs.c1 rs.c2 ty
    have HSZ:Hid (wb.heap.size≤wo.heap.size):=hK2.out.size
    clear ha hs rs hR8 hak ha0 ha1
    go_wp2_with (at_builtin;refine Ez.qQ (B:=wb.heap.size) rfl (.tmp 36) (.tmp 41) rfl _ rfl (hG.out.kp (Kp.af _ _)) zs.length rfl _ 1 s rfl (HX3.out _) (by have:=hgl.out;omega) (by have:=HSZ.out;simp;omega) ?_;intro A9 c9 w9 o9 b9 _;have O9:=lH o9;have K9:Hid (Kp wb w9):=(gal hK2.out _).trans b9;clear o9 b9)
    go_roundw
    case rel=>exact⟨j+1,_,O9.out,by go_num,(by show j+1≤n0;omega),HZ1.out.symm,K9.out⟩
    case measure=>simp[intOf];omega
  · have hq':¬(j:Int)<(n0:Int):=by omega
    have HGS:Hid (zs=cq vals n.2.1):=by show _=_;rw[hgs.out,List.take_of_length_le (by rw[←HNN.out];omega)]
    obtain⟨ng,hng⟩:=eX (zs.length)
    have hR9:RdT wo A8 (cq vals n.2.1):=by rw[←HGS.out];exact hR8.all
    have HCC:Hid (∀V,Kp wo V→Calls Tryz.prog 27 #[.agg #[.int .i64 op, .slice P n0 e, .slice Q m0 g], .slice A8 ng c8, .agg #[.slice PO o.1.length cO, .slice QO o.2.length dO], .agg #[.slice PT u.1.length cT, .slice QT u.2.length dT]] V (PU xs er xs.length V)):=fun V kV=>
     HCB.out V A8 ng c8 (KR.out.tr kV) (hR9.kp kV) (by rw[←HGS.out];exact CH) CG (by rw[hng,HGS.out])
    rw[←hng]
    clear hR8 hR9 hng CH CG hgs
    go_wp2_with fail
    refine wp_region_held_drew (S:=fun V=>V.cell? ⟨W.heap.size,0,none⟩=some (.int .i64 op)∧V.cell? ⟨W.heap.size,1,none⟩=some (.slice P n0 e)∧V.cell? ⟨W.heap.size,2,none⟩=some (.slice Q m0 g)∧V.cell? ⟨b3,0,none⟩=some (.map (some gh))∧V.cell? ⟨b4,0,none⟩=some (.slice (some bd) mv cb)∧V.cell? (bd.add (i*2))=some (.slice PO o.1.length cO)∧V.cell? ⟨(bd.add (i*2)).block,(bd.add (i*2)).off+1,none⟩=some (.slice QO o.2.length dO)∧
     (Instr.lookup 44 (.map (some gh)) (.int .i64 (i:Int)) false).run Tryz.prog V= .ok (.agg #[.slice PT u.1.length cT, .slice QT u.2.length dT]) V) (by kernel_rfl) (HSS.out _ (hK2.out.tr (Below.drew (Kp.refl _)))) (fun hHeld=>?_)
    have X0:Hid (Kp wo wo.drew):=Below.drew (Kp.refl _)
    generalize wo.drew=V0 at X0 hHeld⊢
    refine tK 0 (.agg #[.int .i64 op, .slice P n0 e, .slice Q m0 g]) rfl hHeld<|tK 1 (.slice A8 ng c8) rfl hHeld<|tK 2 (.slice (some bd) mv cb) rfl hHeld<|tK 3 (.int .i64 (i:Int)) rfl hHeld<|tK 4 (.pointer (some (bd.add (i*2)))) rfl hHeld<|tK 5 (.agg #[.slice PO o.1.length cO, .slice QO o.2.length dO]) rfl hHeld<|tK 6 (.map (some gh)) rfl hHeld<|tK 7 (.int .i64 (i:Int)) rfl hHeld<|tK 8 (.agg #[.slice PT u.1.length cT, .slice QT u.2.length dT]) rfl hHeld ?_
    refine rD 9 rfl fun K9_ hK9=>?_
    go_simp
    refine(HCC.out _ X0.out).mono ?_;rintro e5 w5 ⟨A9,c9,rfl,r9,l9,k5⟩
    dsimp only
    have X5:Hid (Kp wo w5):=X0.out.tr k5
    have K5:Hid (Kp wb w5):=hK2.out.tr X5.out
    refine hK9.out _ _ (HSS.out _ K5.out) fun hHeld=>?_
    clear hK9 k5
    refine tK 10 (.tuple #[.slice A9 xs.length c9, .int .i64 er]) rfl hHeld<|tK 11 (.slice A9 xs.length c9) rfl hHeld<|tK 12 (.int .i64 er) rfl hHeld ?_
    refine rD 13 rfl fun K9_ hK9=>?_
    go_simp
    refine hK9.out _ _ (HSS.out _ K5.out) fun hHeld=>?_
    clear hK9
    refine rD 14 rfl fun K9_ hK9=>?_
    go_simp
    refine hK9.out _ _ (HSS.out _ K5.out) fun hHeld=>?_
    clear hK9
    refine wpAnyH_done (by kernel_rfl) ?_ _
    clear hHeld
    have K6:Hid (Kp W w5):=KB.out.tr K5.out
    by_cases h0:er=0
    · obtain⟨g1,g2,g3⟩:=HV2.out h0
      have HR:=lH g1
      obtain⟨rr,hrr⟩:=eX (cI n.2.1 xs hang)
      have HCQ:=lH (HCP.out w5 A9 c9 rr K6.out r9.out g3 g2.symm hrr.symm)
      have HRR:Hid (r=if rr.2=0 then((rr.1,fD),0)else(([],[]),rr.2)):=by show _=_;rw[hrr];exact g1
      have p3:=Iz.ay x3.out K5.out
      have p1:=(FW.out.kp K5.out).c1
      rw[h0]
      clear h0 g1 g2 g3 hrr r9 l9 HR
      go_wp2_with fail
      refine HCQ.out.mono ?_;rintro e7 w7 ⟨rfl,m7,k7⟩
      have M7:=lH m7
      have K7:Hid (Km gh gh W w7):=(Km.kp K6.out).tr k7
      clear m7 k7
      dsimp only
      go_wp2
      refine bodyPost_ret (v:= .int .i64 rr.2) (by simp[results,Tryz.results25,go_sem];try rfl) rfl ?_
      rw[HRR.out]
      by_cases h0:rr.2=0
      · rw[if_pos h0]
        exact⟨by rw[h0],fun _=>⟨M7.out h0,HS.out.km K7.out (fun e=>HNE.out e.symm) (fun e=>HNE.out e.symm)⟩,K7.out.left gs⟩
      · rw[if_neg h0]
        exact⟨rfl,fun h=>absurd h h0,K7.out.left gs⟩
    · have he:(er !=0)=true:=by simpa using h0
      have h9:=HV.out h0
      have H0:=lH h0
      have H9:=lH h9
      clear h0 h9
      go_wp2
      refine bodyPost_ret (v:= .int .i64 er) (by simp[results,Tryz.results25,go_sem];try rfl) rfl ?_
      exact⟨by rw[H9.out],fun h=>absurd (H9.out.symm.trans h) H0.out,Km.kp K6.out⟩
end
open Go.RowKit Go.Proofs.ShM Go.Proofs.GrM Go.Proofs.InM Go.Proofs.ImM Go.Proofs.cF Go.Proofs.EvM
theorem Xz{w:World}{B:Nat}{A:Option Addr}{c:Nat}{r:List Int}(h:Own B w (.slice A r.length c) r):Rd w A r∧r.length≤c∧c≤9223372036854775807:=by
 obtain⟨A2,c2,e2,h1,h2,h3⟩:=h.ints
 injection e2 with e3 e4 e5
 subst e3 e5
 exact⟨h3,h1,by unfold maxLen at h2;omega⟩
theorem pc{w:World}{p:Addr}{v:Value}{o:Obj}(h:w.cell? p=some v):(w.alloc o).cell? p=some v:=Iz.ay h (Kp.af _ _)
theorem WT{w:World}{v:Value}{t:TypeId}{b:Nat}(hb:b=w.heap.size):(w.alloc (.cells #[v] t)).cell? ⟨b,0,none⟩=some v:=by
 subst hb
 rw[World.cell?_alloc_at _ _ _ _ rfl]
 rfl
theorem XZ{l:List Nd}{vals:List T}{inp:T}{ps:List T}(G:Gv l vals inp ps){lv:List Int}(h:lv=fW l):lv.length≤9223372036854775807:=by
 subst h
 rw[←Xb G.ck]
 unfold upTo
 have h1:=List.length_filter_le (fun i=>(fW l).contains i) ((List.range l.length).map fun i:Nat=>(i:Int))
 rw[List.length_map,List.length_range]at h1
 have:=(aO.1 G.ck).2.1
 omega
section
variable{l:List Nd}{vals:List T}{inp:T}{ps:List T}{A B:Option Addr}{m ca mv cb:Nat}{W:World}
theorem XW(C:VjC){hang fD:List T}{r:(List T×List T)×Int}{b1 b2 b3 b4 gs gh i:Nat}{R:List Int}(G:Gv l vals inp ps)(hl:RdG W A l)(hb:RdT W B vals)(hS:dV l)(hm:m=l.length)(hmv:mv=vals.length)(hh:Hm W gh hang)(hs:Hm W gs fD)(hne:gh≠gs)(L:Li l ((i:Int)::R) hang fD)(D:Dn l ((i:Int)::R))
  (c1:W.cell? ⟨b1,0,none⟩=some (.slice A m ca))(c2:W.cell? ⟨b2,0,none⟩=some (.map (some gs)))(c3:W.cell? ⟨b3,0,none⟩=some (.map (some gh)))(c4:W.cell? ⟨b4,0,none⟩=some (.slice B mv cb))(hr:dD (l.getD i nd0) vals hang fD i=r):
  Calls Tryz.prog 25 #[.int .i64 (i:Int), .pointer (some ⟨b1,0,none⟩), .pointer (some ⟨b2,0,none⟩), .pointer (some ⟨b3,0,none⟩), .pointer (some ⟨b4,0,none⟩)] W (Yf gh gs r W):=by
 have hx:=D.ge (i:Int) (by simp)
 have hn:l[i]?=some (l.getD i nd0):=by
  rw[List.getD_eq_getElem?_getD,List.getElem?_eq_getElem (by omega)];rfl
 have hd:=L.head G.ck D
 rw[Int.toNat_natCast]at hd
 by_cases h2:(l.getD i nd0).1=2
 · exact XF G hl hm hh hs hne L.hh L.hg hn h2 hd c1 c2 c3 hr
 · exact XT C G hl hb hS hm hmv hh hs hne L.hh hn h2 c1 c3 c4 hr
def oP(s:List T×Int×Int)(W:World)(e:Ending)(w':World):Prop:=((s.2.2=0∧∃g,e= .returned (.tuple #[.map (some g), .int .i64 (-1), .int .i64 0])∧Hid (Hm w' g s.1))∨(s.2.2≠0∧e= .returned (.tuple #[.map none, .int .i64 s.2.1, .int .i64 s.2.2])))∧Kp W w'
theorem XE(C:VjC)(s:List T×Int×Int)(G:Gv l vals inp ps)(hl:RdG W A l)(hb:RdT W B vals)(hS:dV l)(hca:l.length≤ca∧ca≤9223372036854775807)(hm:m=l.length)(hmv:mv=vals.length)(hs:dB l vals=s):
  Calls Tryz.prog 14 #[.slice A m ca, .slice B mv cb] W (oP s W):=by
 obtain⟨s1,t1,hf,htk,htn,hhg⟩:=XA G
 have h24:=(aO.1 G.ck).1
 have Ye:=(aO.1 G.ck).2.1
 obtain⟨q,hq⟩:=eX (l.length-1)
 rw[←hq]at hf hhg
 have hqm:(q:Int)<(mv:Int):=by rw[hmv,G.len];omega
 have hq0:(0:Int)≤(q:Int):=by omega
 have hwq:IntKind.i64.wrap ((m:Int)-1)=(q:Int):=by rw[IntKind.wrap_i64];omega
 obtain⟨bd,o,PO,cO,QO,dO,rfl,XB,hto,w0,w1,hO⟩:=WU hb (show q<vals.length by rw[G.len];omega)
 have hoe:vals.getD q eT=o:=by rw[List.getD_eq_getElem?_getD,hto];rfl
 rw[hoe]at hf
 rw[Xj G.ck]at hs
 obtain⟨lv,hlv⟩:=eX (fW l)
 have hD:=Xh G.ck
 have hLi:=Xm G
 rw[←hlv]at hs hD hLi
 obtain⟨w6,hw6⟩:=eX ((((((W.alloc (.cells #[.slice A m ca] 27)).alloc (.cells #[.slice (some bd) mv cb] 23)).alloc (.map #[] 0)).alloc (.map #[] 0)).alloc (.cells #[.map (some (W.heap.size+1+1))] 44)).alloc (.cells #[.map (some (W.heap.size+1+1+1))] 44))
 have KW:Hid (Kp W w6):=by rw[hw6];exact(((((Kp.af _ _).tr (Kp.af _ _)).tr (Kp.af _ _)).tr (Kp.af _ _)).tr (Kp.af _ _)).tr (Kp.af _ _)
 have c1:Hid (w6.cell? ⟨W.heap.size,0,none⟩=some (.slice A m ca)):=by show _=_;rw[hw6];exact pc (pc (pc (pc (pc (WT rfl)))))
 have c4:Hid (w6.cell? ⟨W.heap.size+1,0,none⟩=some (.slice (some bd) mv cb)):=by show _=_;rw[hw6];exact pc (pc (pc (pc (WT (by simp only[World.size_alloc])))))
 have c3:Hid (w6.cell? ⟨W.heap.size+1+1+1+1,0,none⟩=some (.map (some (W.heap.size+1+1)))):=by show _=_;rw[hw6];exact pc (WT (by simp only[World.size_alloc]))
 have c2:Hid (w6.cell? ⟨W.heap.size+1+1+1+1+1,0,none⟩=some (.map (some (W.heap.size+1+1+1)))):=by show _=_;rw[hw6];exact WT (by simp only[World.size_alloc])
 have HG6:Hid (Hm w6 (W.heap.size+1+1) (List.replicate l.length eT)):=by
  show Hm _ _ _
  rw[hw6]
  have h9:=Hm.new (W:=(W.alloc (.cells #[.slice A m ca] 27)).alloc (.cells #[.slice (some bd) mv cb] 23)) l.length
  simp only[World.size_alloc]at h9
  exact((h9.kp (Kp.af _ _)).kp (Kp.af _ _)).kp (Kp.af _ _)
 have HS6:Hid (Hm w6 (W.heap.size+1+1+1) (List.replicate 8 eT)):=by
  show Hm _ _ _
  rw[hw6]
  have h9:=Hm.new (W:=((W.alloc (.cells #[.slice A m ca] 27)).alloc (.cells #[.slice (some bd) mv cb] 23)).alloc (.map #[] 0)) 8
  simp only[World.size_alloc]at h9
  exact(h9.kp (Kp.af _ _)).kp (Kp.af _ _)
 have HCF:Hid (∀V,Kp W V→Calls Tryz.prog 29 #[.slice PO o.1.length cO, .int .i64 4294967296] V (aG (s1,t1,0) V)):=fun V kV=>by
  have h9:=qy PO cO o.1 4294967296 V (hO.r.s.kp kV)
  rw[hf]at h9
  exact h9
 have HCL:Hid (∀V,Kp W V→Calls Tryz.prog 30 #[.slice A m ca] V (Mz lv V)):=fun V kV=>Gz.Tz A ca m l lv V (hl.kp kV) hca.1 hca.2 hm hlv.symm
 have HCT:Hid (∀V (hang fD:List T) (i:Nat) R r,Kp W V→Km (W.heap.size+1+1) (W.heap.size+1+1+1) w6 V→Hm V (W.heap.size+1+1) hang→Hm V (W.heap.size+1+1+1) fD→Li l ((i:Int)::R) hang fD→Dn l ((i:Int)::R)→dD (l.getD i nd0) vals hang fD i=r→
   Calls Tryz.prog 25 #[.int .i64 (i:Int), .pointer (some ⟨W.heap.size,0,none⟩), .pointer (some ⟨W.heap.size+1+1+1+1+1,0,none⟩), .pointer (some ⟨W.heap.size+1+1+1+1,0,none⟩), .pointer (some ⟨W.heap.size+1,0,none⟩)] V (Yf (W.heap.size+1+1) (W.heap.size+1+1+1) r V)):=
  fun V hang fD i R r kV kM h1 h2 L D hr=>XW C G (hl.kp kV) (hb.kp kV) hS hm hmv h1 h2 (by omega) L D (kM.cell c1.out) (kM.cell c2.out) (kM.cell c3.out) (kM.cell c4.out) hr
 have xo:=lH (Iz.ay w0 KW.out)
 have HSS:Hid (∀V,Km (W.heap.size+1+1) (W.heap.size+1+1) w6 V→V.cell? ⟨W.heap.size+1+1+1+1,0,none⟩=some (.map (some (W.heap.size+1+1)))∧V.cell? ⟨W.heap.size+1,0,none⟩=some (.slice (some bd) mv cb)∧V.cell? (bd.add (q*2))=some (.slice PO o.1.length cO)):=fun V kV=>⟨kV.cell c3.out,kV.cell c4.out,kV.cell xo.out⟩
 have Yr:Hid (t1.length≠0):=WN htk
 have HQL:Hid (q<(List.replicate l.length eT).length):=by show _<_;rw[List.length_replicate];omega
 have HHG:Hid (qx l vals=(List.replicate l.length eT).set q (s1,t1)):=hhg
 have HLI:Hid (Li l lv.reverse (qx l vals) (List.replicate 8 eT)):=hLi
 have HDN:Hid (Dn l lv.reverse):=hD
 have HBK:Hid (WQ l vals lv.reverse (qx l vals) (List.replicate 8 eT)=s):=hs
 have HGV:=lH G
 have HW6:=lH hw6
 have hmf:∀fn first cap w,(Instr.makeFunc fn first cap).run Tryz.prog w= .ok (.func fn first cap) w:=fun _ _ _ _=>rfl
 have hmk:∀w,(Instr.makeMap 44 none).run Tryz.prog w= .ok (.map (some w.heap.size)) (w.alloc (.map #[] 0)):=fun w=> @run_makeMap Tryz.prog 44 w
 have HM:=lH hm
 have HMV:=lH hmv
 have Yo:lv.length≤9223372036854775807:=XZ G hlv
 clear h24 Ye hq hto hm hmv hw6 hf htk htn hhg XB w0 w1 hO hoe hs hD hLi hlv hl hb hS hca
 go_enter Tryz.func14,Tryz.ntmps14
 go_wp2_with fail
 rw[←HW6.out]
 refine wp_region_held_drew (S:=fun V=>V.cell? ⟨W.heap.size+1+1+1+1,0,none⟩=some (.map (some (W.heap.size+1+1)))∧V.cell? ⟨W.heap.size+1,0,none⟩=some (.slice (some bd) mv cb)∧V.cell? (bd.add (q*2))=some (.slice PO o.1.length cO)) (by kernel_rfl) (HSS.out _ (Km.kp (Below.drew (Kp.refl _)))) (fun hHeld=>?_)
 have X0:Hid (Kp w6 w6.drew):=Below.drew (Kp.refl _)
 generalize w6.drew=V0 at X0 hHeld⊢
 refine tK 0 (.map (some (W.heap.size+1+1))) rfl hHeld<|tK 1 (.int .i64 (q:Int)) rfl hHeld<|tK 2 (.slice (some bd) mv cb) rfl hHeld<|tK 3 (.int .i64 (q:Int)) rfl hHeld<|tK 4 (.pointer (some (bd.add (q*2)))) rfl hHeld<|tK 5 (.pointer (some (bd.add (q*2)))) rfl hHeld<|tK 6 (.slice PO o.1.length cO) rfl hHeld ?_
 refine rD 7 rfl fun K9_ hK9=>?_
 go_simp
 refine(HCF.out _ (KW.out.tr X0.out)).mono ?_;rintro e5 w5 ⟨A6,c6,B6,d6,rfl,s6,t6,k5⟩
 dsimp only at s6 t6⊢
 have X5:Hid (Kp w6 w5):=X0.out.tr k5
 obtain⟨w7,hup,m7,k7⟩:=(HG6.out.kp X5.out).put (t:=(s1,t1)) HQL.out ⟨⟨s6.rd,t6.rd⟩,⟨s6.le,s6.cap⟩,⟨t6.le,t6.cap⟩⟩ Yr.out
 dsimp only at hup
 rw[←HHG.out]at m7
 have M7:=lH m7
 have K7:Hid (Km (W.heap.size+1+1) (W.heap.size+1+1) w6 w7):=(Km.kp X5.out).tr k7
 refine hK9.out _ _ (HSS.out _ (Km.kp X5.out)) fun hHeld=>?_
 clear hK9 k5 s6 t6 m7 k7
 refine tK 8 (.tuple #[.agg #[.slice A6 s1.length c6, .slice B6 t1.length d6], .int .i64 0]) rfl hHeld<|tK 9 (.agg #[.slice A6 s1.length c6, .slice B6 t1.length d6]) rfl hHeld<|tK 10 (.int .i64 0) rfl hHeld ?_
 refine rD 11 rfl fun K9_ hK9=>?_
 go_simp
 refine hK9.out _ _ (HSS.out _ K7.out) fun hHeld=>?_
 clear hK9 hup
 refine wpAnyH_done (by kernel_rfl) ?_ _
 clear hHeld
 have KL:Hid (Km (W.heap.size+1+1) (W.heap.size+1+1+1) w6 w7):=K7.out.left _
 have KW7:Hid (Kp W w7):=KL.out.to KW.out (by omega) (by omega)
 have MS7:Hid (Hm w7 (W.heap.size+1+1+1) (List.replicate 8 eT)):=HS6.out.km K7.out (by omega) (by omega)
 have z1:=KL.out.cell c1.out
 go_wp2_with fail
 refine(HCL.out _ KW7.out).mono ?_;rintro e8 w8 ⟨AL,cL,rfl,oL,k8⟩
 obtain⟨hRL,hL1,hL2⟩:=Xz oL
 have HRL:=lH hRL
 have K8:Hid (Km (W.heap.size+1+1) (W.heap.size+1+1+1) w6 w8):=KL.out.tr (Km.kp k8)
 have M8:=lH (M7.out.kp k8)
 have MS8:=lH (MS7.out.kp k8)
 obtain⟨nL,hnL⟩:=eX lv.length
 rw[←hnL]at Yo⊢
 have HNL:=lH hnL
 clear oL k8 hRL hL1 hL2 hnL z1
 dsimp only
 go_wp2_with fail
 go_loopw [36] (fun i wx=>∃k:Nat,∃hang fD:List T,i= .int .i64 (k:Int)∧Hid (k≤nL)∧Hid (Hm wx (W.heap.size+1+1) hang)∧Hid (Hm wx (W.heap.size+1+1+1) fD)∧Hid (Li l (lv.reverse.drop k) hang fD)∧Hid (WQ l vals (lv.reverse.drop k) hang fD=s)∧Hid (Km (W.heap.size+1+1) (W.heap.size+1+1+1) w8 wx)) (fun i _=>nL-(intOf i).toNat)
 case atStart=>exact⟨0,_,_,rfl,Nat.zero_le _,M8.out,MS8.out,HLI.out,HBK.out,Km.kp (Kp.refl _)⟩
 case round=>
  obtain⟨k,hang,fD,rfl,hk,hmh,hms,hli,hbk,hKx⟩:=hrel
  obtain⟨wo,hwo⟩:=eX (wr)
  subst hwo
  have KX:Hid (Km (W.heap.size+1+1) (W.heap.size+1+1+1) w6 wo):=K8.out.tr hKx.out
  have KWX:Hid (Kp W wo):=KX.out.to KW.out (by omega) (by omega)
  by_cases hj:k<nL
  · have hj':(k:Int)<(nL:Int):=by omega
    obtain⟨p,hp⟩:=eX (nL-1-k)
    have hpn:p<lv.length:=by rw[←HNL.out];omega
    obtain⟨al,x,rfl,Jg,hx,y2⟩:=HRL.out.at_ hpn
    have Qx:=Nat.lt_of_lt_of_le Jg hKx.out.size
    have z2:=hKx.out.cell y2
    have hwa:IntKind.i64.wrap ((nL:Int)-1)=((nL-1:Nat):Int):=by rw[IntKind.wrap_i64];omega
    obtain⟨n1,hn1⟩:=eX (nL-1)
    rw[←hn1]at hwa hp
    have hwb:IntKind.i64.wrap ((n1:Int)-(k:Int))=(p:Int):=by rw[IntKind.wrap_i64];omega
    have hpl:(p:Int)<(nL:Int):=by omega
    have hp0:(0:Int)≤(p:Int):=by omega
    have hrx:lv.reverse[k]?=some x:=by
     rw[List.getElem?_reverse (by rw[←HNL.out];exact hj),←HNL.out,←hn1,←hp];exact hx
    have hdr:lv.reverse.drop k=x::lv.reverse.drop (k+1):=by
     rw[List.drop_eq_getElem_cons (List.getElem?_eq_some_iff.1 hrx).1,(List.getElem?_eq_some_iff.1 hrx).2]
    have hDk:=HDN.out.drop k
    rw[hdr]at hDk hli hbk
    have hxg:=hDk.ge x (by simp)
    obtain⟨i,rfl⟩:∃i:Nat,x=(i:Int):=⟨x.toNat,by omega⟩
    obtain⟨r,hr⟩:=eX (dD (l.getD i nd0) vals hang fD i)
    have hni:l[i]?=some (l.getD i nd0):=by
     rw[List.getD_eq_getElem?_getD,List.getElem?_eq_getElem (by omega)];rfl
    have HTC:=lH (HCT.out wo hang fD i _ r KWX.out KX.out hmh.out hms.out hli.out hDk hr.symm)
    have HST:Hid (r.2=0→Li l (lv.reverse.drop (k+1)) r.1.1 r.1.2):=fun h0=>by
     have h9:=hli.out.step HGV.out hDk hni (by rw[Int.toNat_natCast,←hr];exact h0)
     rw[Int.toNat_natCast,←hr]at h9
     exact h9
    have HSB:Hid (s=if r.2=0 then WQ l vals (lv.reverse.drop (k+1)) r.1.1 r.1.2 else([],(i:Int),r.2)):=by
     have h9:=hbk.out
     rw[WQ,Int.toNat_natCast,←hr]at h9
     exact h9.symm
    clear hx hrx hdr hDk hxg hr hni y2 hp hn1 Jg
    go_wp2_with fail
    refine HTC.out.mono ?_;rintro e9 w9 ⟨rfl,m9,k9⟩
    have M9:=lH m9
    have K9:Hid (Km (W.heap.size+1+1) (W.heap.size+1+1+1) w8 w9):=hKx.out.tr k9
    clear m9 k9 z2
    dsimp only
    by_cases h0:r.2=0
    · have HL:=lH (HST.out h0)
      have HB2:Hid (WQ l vals (lv.reverse.drop (k+1)) r.1.1 r.1.2=s):=by have h9:=HSB.out;rw[if_pos h0]at h9;exact h9.symm
      have H1:=lH (M9.out h0).1
      have H2:=lH (M9.out h0).2
      rw[h0]
      clear h0
      go_wp2
      go_roundw
      case rel=>exact⟨k+1,_,_,by go_num,(by show k+1≤nL;omega),H1.out,H2.out,HL.out,HB2.out,K9.out⟩
      case measure=>simp[intOf];omega
    · have he:(r.2 !=0)=true:=by simpa using h0
      have HB2:Hid (s=([],(i:Int),r.2)):=by have h9:=HSB.out;rw[if_neg h0]at h9;exact h9
      have H0:=lH h0
      have KE:Hid (Kp W w9):=(K8.out.tr K9.out).to KW.out (by omega) (by omega)
      clear h0
      go_wp2
      refine bodyPost_ret (v:= .tuple #[.map none, .int .i64 (i:Int), .int .i64 r.2]) (by simp[results,Tryz.results14,go_sem];try rfl) rfl ?_
      rw[HB2.out]
      exact⟨.inr ⟨H0.out,rfl⟩,KE.out⟩
  · have hj':¬(k:Int)<(nL:Int):=by omega
    have HB2:Hid (s=(fD,-1,0)):=by
     have h9:=hbk.out
     rw[List.drop_of_length_le (by rw[List.length_reverse,←HNL.out];omega)]at h9
     exact h9.symm
    have z2:=KX.out.cell c2.out
    go_wp2
    refine bodyPost_ret (v:= .tuple #[.map (some (W.heap.size+1+1+1)), .int .i64 (-1), .int .i64 0]) (by simp[results,Tryz.results14,go_sem];try rfl) rfl ?_
    rw[HB2.out]
    exact⟨.inl ⟨rfl,_,rfl,hms⟩,KWX.out⟩
end
open Go.RowKit Go.Proofs.ShM Go.Proofs.GrM Go.Proofs.InM Go.Proofs.ImM Go.Proofs.cF Go.Proofs.EvM
def Rb(w:World)(b:Nat)(ts:List T):Prop:=∃vs:List V2,Ez.Bx w b (flat vs) 31∧iO w (fun _=>True) vs ts
section
variable{w w':World}{b:Nat}{ts:List T}
theorem Rb.kp(h:Rb w b ts)(k:Kp w w'):Rb w' b ts:=by
 obtain⟨vs,h1,h2⟩:=h
 exact⟨vs,h1.kp k,h2.len,fun j p t e1 e2=>(h2.at_ j p t e1 e2).mono k fun _ _ _=>trivial⟩
theorem uT{vs:List V2}{k:Nat}{p:V2}(h:vs[k]?=some p):(flat vs)[k*2]?=some p.1∧(flat vs)[k*2+1]?=some p.2:=by
 induction vs generalizing k with
 |nil=>cases h
 |cons v vs ih=>
  cases k with
  |zero=>
   have e:v=p:=by simpa using h
   subst e
   exact⟨rfl,rfl⟩
  |succ k=>
   have h9:=ih (k:=k) (by simpa using h)
   have e:flat (v::vs)=v.1::v.2::flat vs:=rfl
   rw[e,show(k+1)*2=k*2+1+1 by omega]
   exact h9
theorem XO{vs:List V2}{k:Nat}(p:V2)(h:k<vs.length):((flat vs).set (k*2) p.1).set (k*2+1) p.2=flat (vs.set k p):=by
 induction vs generalizing k with
 |nil=>simp at h
 |cons v vs ih=>
  have e:flat (v::vs)=v.1::v.2::flat vs:=rfl
  cases k with
  |zero=>rfl
  |succ k=>
   have h9:=ih (k:=k) (by simpa using h)
   rw[e,show(k+1)*2=k*2+1+1 by omega,List.set_cons_succ,List.set_cons_succ,List.set_cons_succ,List.set_cons_succ,h9]
   rfl
theorem Rb.cells(h:Rb w b ts){k:Nat}(hk:k<ts.length):(∃u,w.cell? ⟨b,k*2,none⟩=some u)∧(∃u,w.cell? ⟨b,k*2+1,none⟩=some u)∧(∀i,w.frozen? ⟨b,i,none⟩=false):=by
 obtain⟨vs,h1,h2⟩:=h
 obtain⟨e1,e2⟩:=uT (List.getElem?_eq_getElem (show k<vs.length by rw[h2.len];exact hk))
 exact⟨⟨_,h1.cell e1⟩,⟨_,h1.cell e2⟩,h1.frz⟩
theorem Rb.Yb(h:Rb w b ts){k:Nat}(hk:k<ts.length)(x:Value):(∃u,(w.setCell ⟨b,k*2,none⟩ x).cell? ⟨b,k*2+1,none⟩=some u)∧(w.setCell ⟨b,k*2,none⟩ x).frozen? ⟨b,k*2+1,none⟩=false:=by
 obtain⟨vs,h1,h2⟩:=h
 obtain⟨e1,e2⟩:=uT (List.getElem?_eq_getElem (show k<vs.length by rw[h2.len];exact hk))
 have h3:=h1.set (k*2) x
 exact⟨⟨_,h3.cell (j:=k*2+1) (by rw[List.getElem?_set_ne (by omega)];exact e2)⟩,h3.frz _⟩
theorem Xt{p:V2}{t:T}(h:Vt w (fun _=>True) p t){cs:List Value}{ty:TypeId}(hb:Ez.Bx w b cs ty)(hs:∀v∈cs,∀u,v≠ .int .i64 u)(j:Nat)(x:Value):Vt (w.setCell ⟨b,j,none⟩ x) (fun _=>True) p t:=by
 obtain⟨A,c,B,d,e,r,h1,h2,h3,h4⟩:=h
 have hr:∀(A:Option Addr) (xs:List Int),Rd w A xs→Rd (w.setCell ⟨b,j,none⟩ x) A xs:=fun A xs r=>by
  refine⟨r.1,fun hp=>?_⟩
  obtain⟨ad,e,hl,hc⟩:=r.2 hp
  have hne:ad.block≠b:=fun e9=>by
   obtain⟨u,hu⟩:∃u,xs[0]?=some u:=⟨_,List.getElem?_eq_getElem hp⟩
   have h9:=hc 0 u hu
   have h10:cs.toArray[(ad.add 0).off]?=some (.int .i64 u):=by
    unfold World.cell? at h9
    rw[ah,e9,show w.heap[b]?=_ from hb]at h9
    by_cases hsp:(ad.add 0).spot.isSome=true
    · simp[hsp]at h9
    · simpa [hsp]using h9
   exact hs _ (List.mem_of_getElem? (by simpa using h10)) u rfl
  refine⟨ad,e,by simpa [World.setCell]using hl,fun i u hu=>?_⟩
  rw[←hc i u hu]
  unfold World.cell?
  rw[ah,Below.heap_setCell _ _ _ _ hne]
 exact⟨A,c,B,d,e,⟨hr _ _ r.s,hr _ _ r.d⟩,h1,h2,h3,h4⟩
theorem Rb.set(h:Rb w b ts){k:Nat}{t:T}{P Q:Option Addr}{c d:Nat}(hk:k<ts.length)(hT:TRc w P c Q d t):Rb ((w.setCell ⟨b,k*2,none⟩ (.slice P t.1.length c)).setCell ⟨b,k*2+1,none⟩ (.slice Q t.2.length d)) b (ts.set k t):=by
 obtain⟨vs,h1,h2⟩:=h
 have hkv:k<vs.length:=by rw[h2.len];exact hk
 have hsl:∀v∈flat vs,∀u,v≠ .int .i64 u:=fun v hv u e=>by
  obtain⟨A,x,y,e9⟩:=Ez.gC h2 v hv
  rw[e9]at e
  cases e
 have hb1:Ez.Bx (w.setCell ⟨b,k*2,none⟩ (.slice P t.1.length c)) b ((flat vs).set (k*2) (.slice P t.1.length c)) 31:=h1.set _ _
 have Yn:∀v∈(flat vs).set (k*2) (.slice P t.1.length c),∀u,v≠ .int .i64 u:=fun v hv u e=>by
  rcases List.mem_or_eq_of_mem_set hv with h|h
  · exact hsl v h u e
  · rw[h]at e;cases e
 have hvt:∀p t',Vt w (fun _=>True) p t'→Vt ((w.setCell ⟨b,k*2,none⟩ (.slice P t.1.length c)).setCell ⟨b,k*2+1,none⟩ (.slice Q t.2.length d)) (fun _=>True) p t':=fun p t' h=>Xt (Xt h h1 hsl _ _) hb1 Yn _ _
 refine⟨vs.set k (.slice P t.1.length c, .slice Q t.2.length d),?_,⟨by rw[List.length_set,List.length_set,h2.len],fun j p t' e1 e2=>?_⟩⟩
 · rw[←XO (.slice P t.1.length c, .slice Q t.2.length d) hkv]
   exact hb1.set _ _
 · by_cases e:k=j
   · subst e
     rw[List.getElem?_set_self hkv]at e1
     rw[List.getElem?_set_self hk]at e2
     injection e1 with e1
     injection e2 with e2
     subst e1 e2
     exact hvt _ _ ⟨P,c,Q,d,rfl,hT.r,fun _ _ _=>trivial,fun _ _ _=>trivial,hT.c1,hT.c2⟩
   · rw[List.getElem?_set_ne e]at e1 e2
     exact hvt _ _ (h2.at_ j p t' e1 e2)
theorem Rb.rd(h:Rb w b ts)(hl:ts.length≤9223372036854775807):RdT w (some ⟨b,0,none⟩) ts:=by
 obtain⟨vs,h1,h2⟩:=h
 refine⟨hl,vs,h2,fun _=>⟨_,rfl,h1.lt,fun j u hu=>?_⟩⟩
 rw[Go.WideShapes.add_plain,Nat.zero_add]
 exact h1.cell hu
theorem mk8(W:World):(Instr.makeSlice 23 (.int .i64 8) (.int .i64 8)).run Tryz.prog W= .ok (.slice (some ⟨W.heap.size,0,none⟩) 8 8) (W.alloc (.cells (List.replicate 16 (Value.slice none 0 0)).toArray 31)):=by
 obtain⟨i,hi,hz,h1,h2⟩:=info_parts mA
 have hr:=run_make (P:=Tryz.prog) W 23 31 i _ Tryz.underlying23 hi hz .i64 .i64 8 8 (by omega) (by omega) (by rw[h2];omega) (by omega)
 simp only[h1]at hr
 rw[hr]
 have e:madeCells (Value.agg #[.slice none 0 0, .slice none 0 0]).cells (8*2)=(List.replicate 16 (Value.slice none 0 0)).toArray:=Array.toList_inj.1 (by rw[show(Value.agg #[.slice none 0 0, .slice none 0 0]).cells= #[Value.slice none 0 0,Value.slice none 0 0]from rfl];exact Ez.Gj 8)
 show Result.ok (Value.slice (some ⟨W.heap.size,0,none⟩) 8 8) (W.alloc (.cells (madeCells (Value.agg #[.slice none 0 0, .slice none 0 0]).cells (8*2)) 31))=_
 rw[e]
theorem Rb.new(W:World){b:Nat}(hb:b=W.heap.size):Rb (W.alloc (.cells (List.replicate 16 (Value.slice none 0 0)).toArray 31)) b (List.replicate 8 eT):=
 ⟨List.replicate 8 (.slice none 0 0, .slice none 0 0),Ez.Bx.new hb,rfl,fun j p t e1 e2=>by
  have h1:=List.eq_of_mem_replicate (List.mem_of_getElem? e1)
  have h2:=List.eq_of_mem_replicate (List.mem_of_getElem? e2)
  subst h1 h2
  exact⟨none,0,none,0,rfl,⟨Rd.nil _ _,Rd.nil _ _⟩,fun _ h=>(by cases h),fun _ h=>(by cases h),⟨by decide,by decide⟩,by decide,by decide⟩⟩
end
def oQ(r:List T)(W:World)(e:Ending)(w':World):Prop:=∃A c,e= .returned (.slice A 8 c)∧Hid (RdT w' A r)∧Hid (r.length≤c∧c≤9223372036854775807)∧Kp W w'
theorem Ym(gm:Nat)(g ps r:List T)(named:List Int)(A R:Option Addr)(n ca k d:Nat)(W:World)(hm:Hm W gm g)(HI:Hi 8 g)(hA:Rd W A named)(hn:n=named.length)(hR:RdT W R ps)(hk:k=ps.length)(hps:∀p∈named,0≤p∧p<8∧p.toNat<ps.length∧okS (ps.getD p.toNat eT).1=true)(hr:ofV ps g named (List.replicate 8 eT)=r):
  Calls Tryz.prog 15 #[.map (some gm), .slice A n ca, .slice R k d] W (oQ r W):=by
 have hnl:n≤9223372036854775807:=by rw[hn];exact hA.1
 have HM:=lH hm
 have HN:=lH hn
 have HRA:=lH hA
 have HRR:=lH hR
 have HPS:=lH hps
 have HR:=lH hr
 have HKP:=lH hk
 have hmk:=mk8 W
 have H0:=lH (Rb.new W rfl)
 have KB:Hid (Kp W (W.alloc (.cells (List.replicate 16 (Value.slice none 0 0)).toArray 31))):=Kp.af _ _
 obtain⟨a0,ha0⟩:∃a0:Addr,a0=⟨W.heap.size,0,none⟩:=⟨_,rfl⟩
 have HA0:=lH ha0
 rw[←ha0]at hmk
 generalize (List.replicate 16 (Value.slice none 0 0)).toArray=csz at hmk H0 KB
 obtain⟨wb,hwb⟩:=eX (W.alloc (.cells csz 31))
 rw[←hwb]at hmk H0 KB
 clear hm hn hA hR hk hps hr ha0 hwb
 go_enter Tryz.func15,Tryz.ntmps15
 go_wp2_with fail
 go_loopw [15] (fun i wx=>∃j:Nat,∃all:List T,i= .int .i64 (j:Int)∧Hid (j≤n)∧Hid (Rb wx W.heap.size all)∧Hid (all.length=8)∧Hid (ofV ps g (named.drop j) all=r)∧Hid (Kp W wx)) (fun i _=>n-(intOf i).toNat)
 case atStart=>exact⟨0,_,rfl,Nat.zero_le _,H0.out,List.length_replicate,HR.out,KB.out⟩
 case round=>
  obtain⟨j,all,rfl,hj,hrb,hal,hof,hK⟩:=hrel
  obtain⟨wo,hwo⟩:=eX (wr)
  subst hwo
  by_cases hq:j<n
  · have hq':(j:Int)<(n:Int):=by omega
    obtain⟨ap,x,rfl,hlp,hx,y2⟩:=HRA.out.at_ (show j<named.length by rw[←HN.out];exact hq)
    have z2:=Iz.ay y2 hK.out
    obtain⟨p0,p1,p2,p3⟩:=HPS.out x (List.mem_of_getElem? hx)
    obtain⟨p,rfl⟩:∃p:Nat,x=(p:Int):=⟨x.toNat,by omega⟩
    rw[Int.toNat_natCast]at p2 p3
    obtain⟨PS,c2,QS,d2,hS,Xn⟩:=(HM.out.kp hK.out).get p fun h=>Xc (HI.tq p) h
    obtain⟨_,hlk⟩:=Xn wo rfl
    obtain⟨s,hs⟩:=eX (g.getD p eT)
    rw[←hs]at hS hlk
    obtain⟨u,hu⟩:=eX (if s.2.length=0 then(tnE (dm (ps.getD p eT).1 0)).1 else s)
    have HOF:Hid (ofV ps g (named.drop (j+1)) (all.set p u)=r):=by
     have h9:=hof.out
     rw[List.drop_eq_getElem_cons (List.getElem?_eq_some_iff.1 hx).1,(List.getElem?_eq_some_iff.1 hx).2,ofV,Int.toNat_natCast,←hs,←hu]at h9
     exact h9
    have hp8:p<all.length:=by rw[hal.out];omega
    have hpI:(p:Int)<8:=p1
    have hp0:(0:Int)≤(p:Int):=p0
    obtain⟨rd,o,PO,cO,QO,dO,e6,XB,hto,w0,w1,hO⟩:=WU HRR.out p2
    have hoe:ps.getD p eT=o:=by rw[List.getD_eq_getElem?_getD,hto];rfl
    rw[hoe]at hu p3
    subst e6
    have hpk:(p:Int)<(k:Int):=by rw[HKP.out];omega
    have x0:=Iz.ay w0 hK.out
    have BS:Hid (Bk (wo.alloc (.cells #[.slice PS s.1.length c2, .slice QS s.2.length d2] 31)) wo.heap.size PS s.1.length c2 QS s.2.length d2):=Bk.new rfl
    have KS:Hid (Kp wo (wo.alloc (.cells #[.slice PS s.1.length c2, .slice QS s.2.length d2] 31))):=Kp.af _ _
    have RS:=lH (hrb.out.kp KS.out)
    have x9:=Iz.ay x0 KS.out
    have HP8:=lH hp8
    have HSZ:=hK.out.size
    have Yj:Hid (∀w6:World,Kp W w6→Rb w6 W.heap.size all→∀P c Q d,TRc w6 P c Q d u→Rb ((w6.setCell (a0.add (p*2)) (.slice P u.1.length c)).setCell ⟨(a0.add (p*2)).block,(a0.add (p*2)).off+1,none⟩ (.slice Q u.2.length d)) W.heap.size (all.set p u)∧Kp W ((w6.setCell (a0.add (p*2)) (.slice P u.1.length c)).setCell ⟨(a0.add (p*2)).block,(a0.add (p*2)).off+1,none⟩ (.slice Q u.2.length d))):=fun w6 k6 r6 P c Q d t6=>by
     have e1:a0.add (p*2)=⟨W.heap.size,p*2,none⟩:=by rw[HA0.out,Go.WideShapes.add_plain,Nat.zero_add]
     rw[e1]
     exact⟨r6.set HP8.out t6,(k6.setCell (p:=⟨W.heap.size,p*2,none⟩) (Nat.le_refl _) _).setCell (p:=⟨W.heap.size,p*2+1,none⟩) (Nat.le_refl _) _⟩
    have HCE:Hid (∀w6:World,Rb w6 W.heap.size all→(∃v,w6.cell? (a0.add (p*2))=some v)∧(∃v,w6.cell? ⟨(a0.add (p*2)).block,(a0.add (p*2)).off+1,none⟩=some v)∧w6.frozen? (a0.add (p*2))=false∧w6.frozen? ⟨(a0.add (p*2)).block,(a0.add (p*2)).off+1,none⟩=false∧∀x,(∃v,(w6.setCell (a0.add (p*2)) x).cell? ⟨(a0.add (p*2)).block,(a0.add (p*2)).off+1,none⟩=some v)∧(w6.setCell (a0.add (p*2)) x).frozen? ⟨(a0.add (p*2)).block,(a0.add (p*2)).off+1,none⟩=false):=fun w6 r6=>by
     have e1:a0.add (p*2)=⟨W.heap.size,p*2,none⟩:=by rw[HA0.out,Go.WideShapes.add_plain,Nat.zero_add]
     rw[e1]
     obtain⟨g1,g2,g3⟩:=r6.cells HP8.out
     exact⟨g1,g2,g3 _,g3 _,fun x=>r6.Yb HP8.out x⟩
    by_cases h0:s.2.length=0
    · have hd:decide (s.2.length≠0)=false:=decide_eq_false fun h=>h h0
      rw[hd]at hlk
      rw[if_pos h0]at hu
      have hf:dm o.1 0=(u.1,u.2,0):=by
       have e:dm o.1 0=(o.1,List.replicate (au o.1).toNat 0,0):=by unfold dm;rw[if_pos p3]
       rw[hu,e];rfl
      have HCF:Hid (∀V,Kp wo V→Calls Tryz.prog 29 #[.slice PO o.1.length cO, .int .i64 0] V (aG (u.1,u.2,0) V)):=fun V kV=>by
       have h9:=qy PO cO o.1 0 V ((hO.r.s.kp hK.out).kp kV)
       rw[hf]at h9
       exact h9
      clear Xn hs hu hp8 p1 p0 hoe hO XB hto w0 w1 h0 hd hf hx y2 hlp p2 p3 hof hS HSZ
      go_wp2_with fail
      refine(HCF.out _ KS.out).mono ?_;rintro e5 w5 ⟨A6,c6,B6,d6,rfl,s6,t6,k6⟩
      dsimp only at s6 t6⊢
      have BS5:=lH (BS.out.kp k6)
      have S6:=lH (s6.past BS5.out (.slice A6 u.1.length c6) (.slice B6 u.2.length d6))
      have T6:=lH (t6.past BS5.out (.slice A6 u.1.length c6) (.slice B6 u.2.length d6))
      have K6:Hid (Kp wo ((w5.setCell ⟨wo.heap.size,0,none⟩ (.slice A6 u.1.length c6)).setCell ⟨wo.heap.size,1,none⟩ (.slice B6 u.2.length d6))):=((KS.out.tr k6).setCell (p:=⟨wo.heap.size,0,none⟩) (Nat.le_refl _) _).setCell (p:=⟨wo.heap.size,1,none⟩) (Nat.le_refl _) _
      have BP:Hid (Bk ((w5.setCell ⟨wo.heap.size,0,none⟩ (.slice A6 u.1.length c6)).setCell ⟨wo.heap.size,1,none⟩ (.slice B6 u.2.length d6)) wo.heap.size A6 u.1.length c6 B6 u.2.length d6):=BS5.out.put
      have f0:=BS5.out.f0
      have o0:=BS5.out.c0
      have o1:=BS5.out.c1
      have v0:=BP.out.c0
      have v1:=BP.out.c1
      have R6:=lH (hrb.out.kp K6.out)
      obtain⟨⟨x1,g1⟩,⟨x2,g2⟩,g3,g4,g56⟩:=HCE.out _ R6.out
      obtain⟨⟨x3,g5⟩,g6⟩:=g56 (.slice A6 u.1.length c6)
      obtain⟨q1,q2⟩:=Yj.out _ (hK.out.tr K6.out) R6.out A6 c6 B6 d6 ⟨⟨S6.out.rd,T6.out.rd⟩,⟨S6.out.le,S6.out.cap⟩,⟨T6.out.le,T6.out.cap⟩⟩
      have Q1:=lH q1
      have Q2:=lH q2
      clear k6 s6 t6 q1 q2
      go_wp2
      go_roundw
      case rel=>exact⟨j+1,_,by go_num,(by show j+1≤n;omega),Q1.out,(by show _=_;rw[List.length_set];exact hal.out),HOF.out,Q2.out⟩
      case measure=>simp[intOf];omega
    · have hd:decide (s.2.length≠0)=true:=decide_eq_true h0
      rw[hd]at hlk
      rw[if_neg h0]at hu
      subst hu
      have v0:=BS.out.c0
      have v1:=BS.out.c1
      obtain⟨⟨x1,g1⟩,⟨x2,g2⟩,g3,g4,g56⟩:=HCE.out _ RS.out
      obtain⟨⟨x3,g5⟩,g6⟩:=g56 (.slice PS u.1.length c2)
      obtain⟨q1,q2⟩:=Yj.out _ (hK.out.tr KS.out) RS.out PS c2 QS d2 (hS.kp KS.out)
      have Q1:=lH q1
      have Q2:=lH q2
      clear Xn hs hp8 p1 p0 hoe hO XB hto w0 w1 h0 hd hx y2 hlp p2 p3 hof hS HSZ q1 q2
      go_wp2
      go_roundw
      case rel=>exact⟨j+1,_,by go_num,(by show j+1≤n;omega),Q1.out,(by show _=_;rw[List.length_set];exact hal.out),HOF.out,Q2.out⟩
      case measure=>simp[intOf];omega
  · have hq':¬(j:Int)<(n:Int):=by omega
    have HE:Hid (r=all):=by
     have h9:=hof.out
     rw[List.drop_of_length_le (by rw[←HN.out];omega)]at h9
     exact h9.symm
    go_wp2
    refine bodyPost_ret (v:= .slice (some a0) 8 8) (by simp[results,Tryz.results15,go_sem];try rfl) rfl ?_
    rw[HE.out]
    refine⟨some a0,8,rfl,?_,⟨by rw[hal.out];exact Nat.le_refl _,by omega⟩,hK.out⟩
    show RdT _ _ _
    rw[HA0.out]
    exact hrb.out.rd (by rw[hal.out];omega)
open Go.RowKit Go.Proofs.ShM Go.Proofs.GrM Go.Proofs.InM Go.Proofs.ImM Go.Proofs.cF Go.Proofs.EvM
theorem XL{l:List Nd}{inp:T}{ps vals:List T}{a er:Int}(h:fI l inp ps=(vals,a,er))(he:er≠0):jE l inp ps=([],0,a,er):=by
 unfold jE;rw[h,if_pos he]
theorem XM{l:List Nd}{inp:T}{ps vals:List T}{a:Int}{o:T}(h:fI l inp ps=(vals,a,0))(ho:vals.getD (l.length-1) eT=o)(hb:1<o.2.length):jE l inp ps=([],0,(l.length:Int)-1,150):=by
 unfold jE;rw[h,if_neg (by simp),ho,if_pos hb]
theorem XK{l:List Nd}{inp:T}{ps vals:List T}{a:Int}{o:T}{s:List T×Int×Int}(h:fI l inp ps=(vals,a,0))(ho:vals.getD (l.length-1) eT=o)(hb:¬1<o.2.length)(hs:dB l vals=s):
  jE l inp ps=if s.2.2≠0 then([],0,s.2.1,s.2.2)else(eY vals 0 l s.1,o.2.getD 0 0,-1,0):=by
 unfold jE;rw[h,if_neg (by simp),ho,if_neg hb,hs]
theorem Xg{r:List T×Int×Int×Int}{loss at_ err:Int}{w w':World}(hr:r=([],loss,at_,err))(k:Kp w w'):PY r.1 r.2.1 r.2.2.1 r.2.2.2 r.1.length w (.returned (.tuple #[.slice none 0 0, .int .i64 loss, .int .i64 at_, .int .i64 err])) w':=by
 subst hr
 exact⟨none,0,rfl,RdX.bU _ _ _,⟨Nat.le_refl _,by omega⟩,k⟩
theorem Ya(C:VjC)(A P Q R:Option Addr)(c m a b e f k d:Nat)(l:List Nd)(t:T)(ps:List T)(r:List T×Int×Int×Int)(W:World)(hl:RdG W A l)(hc1:l.length≤c)(hc2:c≤9223372036854775807)(hS:dV l)(hm:m=l.length)(hT:TRc W P e Q f t)(hst:SmT t)(ha:a=t.1.length)(hb:b=t.2.length)
  (hR:RdT W R ps)(hps:xh ps)(hk:k=ps.length)(hr:jE l t ps=r):Calls Tryz.prog 8 #[.slice A m c, .agg #[.slice P a e, .slice Q b f], .slice R k d] W (PY r.1 r.2.1 r.2.2.1 r.2.2.2 r.1.length W):=by
 obtain⟨vals,at1,er,hal⟩:∃vals at1 er,fI l t ps=(vals,at1,er):=⟨_,_,_,rfl⟩
 have HCE:Hid (∀V,Kp W V→Calls Tryz.prog 13 #[.slice A m c, .agg #[.slice P a e, .slice Q b f], .slice R k d] V (qM vals at1 er vals.length V)):=fun V kV=>by
  have h9:=Ez.Vz A P Q R c m a e b f k d l t ps _ V (hl.kp kV) hc1 hc2 hS hm (hT.kp kV) (hR.kp kV) ha hb hk hst.2.2.2 (fun t ht=>(hps.2 t ht).2.2.2) hal
  exact h9
 obtain⟨w1,hw1⟩:=eX (W.alloc (.cells #[.slice P a e, .slice Q b f] 31))
 have HW:=lH hw1
 have K1:Hid (Kp W w1):=by rw[hw1];exact Kp.af _ _
 have B1:=Bk.new (W:=W) (b:=W.heap.size) (A:=P) (n:=a) (c:=e) (B:=Q) (m:=b) (d:=f) rfl
 have u0:=B1.c0
 have u1:=B1.c1
 by_cases he:er=0
 · subst he
   have G:=Yh hal hst.2.2.2 (fun t ht=>(hps.2 t ht).2.2.2) (fun n hn=>(hS.2 n hn).2.2.2.2)
   have h24:=(aO.1 G.ck).1
   have Ye:=(aO.1 G.ck).2.1
   obtain⟨q,hq⟩:=eX (l.length-1)
   have hql:q<vals.length:=by rw[G.len];omega
   obtain⟨o,hoo⟩:=eX (vals.getD q eT)
   have hto:vals[q]?=some o:=by rw[hoo,List.getD_eq_getElem?_getD,List.getElem?_eq_getElem hql];rfl
   have hok:=WN (G.tok o (List.mem_of_getElem? hto))
   have hwq:IntKind.i64.wrap ((m:Int)-1)=(q:Int):=by rw[IntKind.wrap_i64];omega
   have hm1:(l.length:Int)-1=(q:Int):=by omega
   obtain⟨nv,hnv⟩:=eX vals.length
   have hqm:(q:Int)<(nv:Int):=by rw[hnv];omega
   have hq0:(0:Int)≤(q:Int):=by omega
   have HNV:=lH hnv
   have HQL:=lH hql
   have HTO:=lH hto
   rw[←hnv]at HCE
   by_cases hbig:1<o.2.length
   · have hv:=XM hal (by rw[←hq,hoo]) hbig
     rw[hr,hm1]at hv
     have HV:=lH hv
     obtain⟨x,hx⟩:=eX o.2.length
     have hxb:(1:Int)<(x:Int):=by omega
     have HX:=lH hx
     clear hl hc1 hc2 hS hm hT hst ha hb hR hps hk hr hal hw1 G h24 Ye hq hql hoo hto hok hm1 hnv hbig hv hx B1
     go_enter Tryz.func8,Tryz.ntmps8
     go_wp2_with fail
     rw[←HW.out]
     refine(HCE.out _ K1.out).mono ?_;rintro e2 w2 ⟨AV,cV,rfl,rV,lV,k2⟩
     obtain⟨bd,o',PO,cO,QO,dO,rfl,XB,XJ,w0,w1',hO⟩:=WU rV HQL.out
     rw[HTO.out]at XJ
     injection XJ with XJ
     subst XJ
     have K2:=lH (K1.out.tr k2)
     rw[←HX.out]at w1'
     clear rV lV k2 hO w0 XB
     dsimp only
     go_wp2
     refine bodyPost_ret (v:= .tuple #[.slice none 0 0, .int .i64 0, .int .i64 (q:Int), .int .i64 150]) (by simp[results,Tryz.results8,go_sem];try rfl) rfl ?_
     exact Xg HV.out K2.out
   · obtain⟨s,hs⟩:=eX (dB l vals)
     have hv:=XK hal (by rw[←hq,hoo]) hbig hs.symm
     rw[hr]at hv
     obtain⟨x,hx⟩:∃x,o.2=[x]:=by
      match ho:o.2,hok,hbig with
      | [x],_,_=>exact⟨x,rfl⟩
      | [],h,_=>exact absurd rfl h
      |_::_::_,_,h=>exact absurd (by simp) h
     have hxb:¬(1:Int)<((1:Nat):Int):=by omega
     have HX:=lH hx
     have hg0:o.2.getD 0 0=x:=by rw[hx];rfl
     rw[hg0]at hv
     have HV:=lH hv
     have HCT:Hid (∀V B cb,Kp W V→RdT V B vals→Calls Tryz.prog 14 #[.slice A m c, .slice B nv cb] V (oP s V)):=fun V B cb kV hB=>XE C s G (hl.kp kV) hB hS ⟨hc1,hc2⟩ hm hnv hs.symm
     have HCP:Hid (∀V,Kp W V→Calls Tryz.prog 16 #[.slice A m c] V (Mz (gJ l) V)):=fun V kV=>Gz.Qk A c m l _ V (hl.kp kV) hc1 hc2 hm rfl
     have hfin:=WX G _ _ _ (Xm G) (Xh G.ck)
     rw[←Xj G.ck,←hs]at hfin
     have hpp:∀p∈gJ l,0≤p∧p<8∧p.toNat<ps.length∧okS (ps.getD p.toNat eT).1=true:=fun p hp=>by
      have h1:=((kx G.ck).1 hp).1
      obtain⟨i,n,hn,h2,h3⟩:=Ql G.ck hp
      obtain⟨_,_,_,p4,p5⟩:=Xf G hn h2
      rw[h3]at p4 p5
      exact⟨h1.1,by omega,p4,p5⟩
     have HCO:Hid (s.2.2=0→∀V g AP cP,Kp W V→Hm V g s.1→Rd V AP (gJ l)→Calls Tryz.prog 15 #[.map (some g), .slice AP (gJ l).length cP, .slice R k d] V (oQ r.1 V)):=fun h0 V g AP cP kV hM hAP=>by
      rcases hfin with⟨h',g',e1,L⟩|⟨_,_,e1,e2⟩
      · rw[e1]at hM
        refine Ym g g' ps r.1 (gJ l) AP R _ cP k d V hM L.hg hAP rfl (hR.kp kV) hk hpp ?_
        rw[hv,if_neg (fun h=>h h0),e1]
        exact(XD G L).symm
      · rw[e1]at h0
        exact absurd h0 e2
     have HR8:Hid (s.2.2=0→r.1.length=8):=fun h0=>by
      rcases hfin with⟨h',g',e1,L⟩|⟨_,_,e1,e2⟩
      · rw[hv,if_neg (fun h=>h h0),WM,e1]
        exact L.hg.len
      · rw[e1]at h0
        exact absurd h0 e2
     obtain⟨np,hnp⟩:=eX (gJ l).length
     have HNP:=lH hnp
     clear hl hc1 hc2 hS hm hT hst ha hb hR hps hk hr hal hw1 G h24 Ye hq hql hoo hto hok hm1 hnv hbig hv hx B1 hs hg0 hfin hpp hnp
     go_enter Tryz.func8,Tryz.ntmps8
     go_wp2_with fail
     rw[←HW.out]
     refine(HCE.out _ K1.out).mono ?_;rintro e2 w2 ⟨AV,cV,rfl,rV,lV,k2⟩
     obtain⟨bd,o',PO,cO,QO,dO,rfl,XB,XJ,w0,w1',hO⟩:=WU rV HQL.out
     rw[HTO.out]at XJ
     injection XJ with XJ
     subst XJ
     obtain⟨qd,eq,hlq,hcq⟩:=hO.r.d.2 (by rw[HX.out];exact Nat.zero_lt_one)
     subst eq
     have hc0:w2.cell? qd=some (.int .i64 x):=by
      have h9:=hcq 0 x (by rw[HX.out];rfl)
      simpa [Addr.add]using h9
     have K2:=lH (K1.out.tr k2)
     rw[HX.out]at w1'
     have HRV:=lH rV
     have y1:=lH w1'
     have y2:=lH hc0
     clear rV lV k2 hO w0 XB hcq hlq hc0
     dsimp only at w1'⊢
     go_wp2_with fail
     refine(HCT.out _ _ _ K2.out HRV.out).mono ?_;rintro e3 w3 ⟨h3,k3⟩
     have K3:=lH (K2.out.tr k3)
     have HSS:Hid (∀V,Kp w3 V→V.cell? ⟨(bd.add (q*2)).block,(bd.add (q*2)).off+1,none⟩=some (.slice (some qd) 1 dO)∧V.cell? qd=some (.int .i64 x)):=fun V kV=>⟨Iz.ay y1.out (k3.tr kV),Iz.ay y2.out (k3.tr kV)⟩
     rcases h3 with⟨h0,g,rfl,hM⟩|⟨h0,rfl⟩
     · have HCQ:=lH (HCO.out h0)
       have H8:=lH (HR8.out h0)
       have HM:=lH hM.out
       have HVV:Hid (r=(eY vals 0 l s.1,x,-1,0)):=by have h9:=HV.out;rw[if_neg (fun h=>h h0)]at h9;exact h9
       clear h0 hM k3 w1'
       dsimp only
       go_wp2_with fail
       refine wp_region_held_drew (S:=fun V=>V.cell? ⟨(bd.add (q*2)).block,(bd.add (q*2)).off+1,none⟩=some (.slice (some qd) 1 dO)∧V.cell? qd=some (.int .i64 x)) (by kernel_rfl) (HSS.out _ (Below.drew (Kp.refl _))) (fun hHeld=>?_)
       have X0:Hid (Kp w3 w3.drew):=Below.drew (Kp.refl _)
       generalize w3.drew=V0 at X0 hHeld⊢
       refine tK 0 (.map (some g)) rfl hHeld<|tK 1 (.slice A m c) rfl hHeld<|tK 3 (.slice R k d) rfl hHeld<|tK 5 (.slice (some bd) nv cV) rfl hHeld<|tK 6 (.int .i64 (q:Int)) rfl hHeld<|tK 7 (.pointer (some (bd.add (q*2)))) rfl hHeld<|tK 8 (.pointer (some ⟨(bd.add (q*2)).block,(bd.add (q*2)).off+1,none⟩)) rfl hHeld<|tK 9 (.slice (some qd) 1 dO) rfl hHeld<|tK 10 (.pointer (some qd)) rfl hHeld<|tK 11 (.int .i64 x) rfl hHeld ?_
       refine rD 2 rfl fun K9_ hK9=>?_
       go_simp
       refine(HCP.out _ (K3.out.tr X0.out)).mono ?_;rintro e5 w5 ⟨AP,cP,rfl,oP,k5⟩
       have hRP:=(Xz oP).1
       dsimp only
       have X5:Hid (Kp w3 w5):=X0.out.tr k5
       refine hK9.out _ _ (HSS.out _ X5.out) fun hHeld=>?_
       clear hK9 oP k5
       refine rD 4 rfl fun K9_ hK9=>?_
       go_simp
       refine(HCQ.out w5 g AP cP (K3.out.tr X5.out) (HM.out.kp X5.out) hRP).mono ?_;rintro e6 w6 ⟨AO,cO6,rfl,rO,lO,k6⟩
       dsimp only
       have X6:Hid (Kp w3 w6):=X5.out.tr k6
       refine hK9.out _ _ (HSS.out _ X6.out) fun hHeld=>?_
       clear hK9 k6 hRP
       refine rD 12 rfl fun K9_ hK9=>?_
       go_simp
       refine hK9.out _ _ (HSS.out _ X6.out) fun hHeld=>?_
       clear hK9
       refine rD 13 rfl fun K9_ hK9=>?_
       go_simp
       refine hK9.out _ _ (HSS.out _ X6.out) fun hHeld=>?_
       clear hK9
       refine rD 14 rfl fun K9_ hK9=>?_
       go_simp
       refine hK9.out _ _ (HSS.out _ X6.out) fun hHeld=>?_
       clear hK9
       refine rD 15 rfl fun K9_ hK9=>?_
       go_simp
       refine hK9.out _ _ (HSS.out _ X6.out) fun hHeld=>?_
       clear hK9
       refine wpAnyH_done (by kernel_rfl) ?_ _
       clear hHeld
       go_wp2
       refine bodyPost_ret (v:= .tuple #[.slice AO 8 cO6, .int .i64 x, .int .i64 (-1), .int .i64 0]) (by simp[results,Tryz.results8,go_sem];try rfl) rfl ?_
       refine⟨AO,cO6,?_,rO,lO,K3.out.tr X6.out⟩
       rw[H8.out,HVV.out]
     · have he:(s.2.2 !=0)=true:=by simpa using h0
       have HVV:Hid (r=([],0,s.2.1,s.2.2)):=by have h9:=HV.out;rw[if_pos h0]at h9;exact h9
       clear h0 k3 w1'
       dsimp only
       go_wp2
       refine bodyPost_ret (v:= .tuple #[.slice none 0 0, .int .i64 0, .int .i64 s.2.1, .int .i64 s.2.2]) (by simp[results,Tryz.results8,go_sem];try rfl) rfl ?_
       exact Xg HVV.out K3.out
 · have hv:=XL hal he
   rw[hr]at hv
   have HV:=lH hv
   have he':(er !=0)=true:=by simpa using he
   clear hl hc1 hc2 hS hm hT hst ha hb hR hps hk hr hal hw1 he hv B1
   go_enter Tryz.func8,Tryz.ntmps8
   go_wp2_with fail
   rw[←HW.out]
   refine(HCE.out _ K1.out).mono ?_;rintro e2 w2 ⟨AV,cV,rfl,rV,lV,k2⟩
   have K2:=lH (K1.out.tr k2)
   clear rV lV k2
   dsimp only
   go_wp2
   refine bodyPost_ret (v:= .tuple #[.slice none 0 0, .int .i64 0, .int .i64 at1, .int .i64 er]) (by simp[results,Tryz.results8,go_sem];try rfl) rfl ?_
   exact Xg HV.out K2.out
end Go.Proofs.YtdfknefcgijhmaaGreat.Dz
namespace Go.Proofs.YtdfknefcgijhmaaGreat
open Go.RowKit Go.Proofs.ShM Go.Proofs.GrM Go.Proofs.InM Go.Proofs.ImM Go.Proofs.cF Go.Proofs.EvM
theorem gdc:GdC where
 mul:=fun a b r err W ha hb hr=>(Fx.qd a b ha hb W).mono fun e w' g=>⟨by rw[g.1,hr],g.2.below⟩
 all:=fun A P Q R c m a b e f k d l t ps v at_ err j W h h1 h2 hS hm hT hs ha hb hR _ _ hps hk hr hj=>by
  have h9:=Ez.Vz A P Q R c m a e b f k d l t ps (v,at_,err) W h h1 h2 hS hm hT hR ha hb hk hs.2.2.2 (fun t ht=>(hps.2 t ht).2.2.2) hr
  subst hj
  exact h9
 Lv:=fun A P Q R c m a b e f k d l t ps v loss at_ err j W h h1 h2 hS hm hT hs ha hb hR _ _ hps hk hr hj=>by
  subst hj
  exact Dz.Ya vjc A P Q R c m a b e f k d l t ps _ W h h1 h2 hS hm hT hs ha hb hR hps hk hr
end Go.Proofs.YtdfknefcgijhmaaGreat
