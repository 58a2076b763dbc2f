import Derived.Test.YtokeebkaamjliaaGreatTnAll
import Derived.Test.YtokeebkaamjliaaGreatFxAll
import Derived.Conc.MuLone
import Derived.Laws.EntriesVeiled
set_option maxHeartbeats 16000000
set_option maxRecDepth 100000
set_option linter.unusedVariables false
set_option linter.unusedSimpArgs false
namespace Go.Proofs.YtokeebkaamjliaaGreat
open RowKit ShM ChangeMaps
def atM:List (Int×Value)->Int->Option Value
 | [],_=>none
 |(j,v)::L,k=>if k=j then some v else atM L k
def Md(W:World)(g:Nat)(L:List (Int×Value)):Prop:=
 ∃es clock,W.heap[g]?=some (.map es clock)/\es.toList.map (fun e=>(e.key,e.val))=L.map (fun x=>(Value.int .i64 x.1,x.2))
section
variable{P:Program}{W W':World}{g:Nat}{L:List (Int×Value)}{k:Int}
theorem Md.lt(h:Md W g L):g<W.heap.size:=by obtain⟨es,c,h,_⟩:=h;exact(aa0.1 h).1
theorem Md.kp(h:Md W g L)(kp:Kp W W'):Md W' g L:=by
 have hl:=h.lt;obtain⟨es,c,h,e⟩:=h;exact⟨es,c,(kp.block g hl).trans h,e⟩
theorem Md.new(W:World):Md (W.alloc (.map #[] 0)) W.heap.size []:=⟨#[],0,by show(W.heap.push _)[W.heap.size]?=_;simp,rfl⟩
theorem qA(k:Int):∀(es:List MapEntry) (L:List (Int×Value)) (i:Nat),es.map (fun e=>(e.key,e.val))=L.map (fun x=>(Value.int .i64 x.1,x.2))->
  ∃r,Instr.findNow (.int .i64) (.int .i64 k) es i=some r/\r.map (·.2)=atM L k:=by
 intro es
 induction es with
 |nil=>
  intro L i h
  cases L with
  |nil=>exact⟨none,rfl,rfl⟩
  |cons x L=>simp at h
 |cons e es ih=>
  intro L i h
  cases L with
  |nil=>simp at h
  |cons x L=>
   simp only[abT,List.cons.injEq,Prod.mk.injEq]at h;obtain⟨⟨h1,h2⟩,h3⟩:=h;by_cases hk:k=x.1
   ·refine⟨some (i,e.val),?_,?_⟩
    ·simp[Instr.findNow,Instr.sameNow,h1,hk]
    ·simp[atM,hk,h2]
   ·obtain⟨r,q1,q2⟩:=ih L (i+1) h3;refine⟨r,?_,?_⟩
    ·have hf:(k==x.1)=false:=by simpa using hk
     simp[Instr.findNow,Instr.sameNow,h1,hf,q1]
    ·simp[atM,hk,q2]
theorem dL{kt:TypeId}(hk:P.underlying kt=some (.int .i64)){es:Array MapEntry}(h:es.toList.map (fun e=>(e.key,e.val))=L.map (fun x=>(Value.int .i64 x.1,x.2)))(k:Int):
  ∃r,(Instr.findKey kt (.int .i64 k) es.toList).run P W= .ok r W/\r.map (·.2)=atM L k:=by
 obtain⟨r,q1,q2⟩:=qA k es.toList L 0 h;refine⟨r,?_,q2⟩;simp[Instr.findKey,abk hk,q1,Result.andThen]
theorem Md.put{t kt et:TypeId}(h:Md W g L)(ht:P.underlying t=some (.map kt et))(hk:P.underlying kt=some (.int .i64))(hn:atM L k=none)(v:Value):
  ∃W',(Instr.mapUpdate t (.map (some g)) (.int .i64 k) v).run P W= .ok () W'/\Md W' g (L++[(k,v)])/\∀B,B<=g->Below B W W':=by
 obtain⟨es,c,hb,e⟩:=h;obtain⟨r,q1,q2⟩:=dL (P:=P) (W:=W) hk e k;rw[hn]at q2;have hr:r=none:=by cases r with|none=>rfl|some x=>simp at q2
 subst hr;refine⟨setBlock W g (.map (es.push ⟨.int .i64 k,v,c⟩) (c+1)),?_,⟨_,_,heap_setBlock_same hb _,?_⟩,fun B hB=>?_⟩
 ·simp[Instr.mapUpdate,abk ht,abx hb,abH (e:=false) (n:=9999) hk (show MapKept.IsKey (.int .i64) (.int .i64 k)from rfl),q1,MapKept.run_setObj_map _ hb,Result.andThen,setBlock]
 ·simp[e]
 ·exact⟨rfl,rfl,rfl,by simp[setBlock],fun j hj=>heap_setBlock_other hb _ oM⟩
theorem Md.get{t kt et:TypeId}(h:Md W g L)(ht:P.underlying t=some (.map kt et))(hk:P.underlying kt=some (.int .i64)){z:Value}(hz:(zeroValue et).run P W= .ok z W)(k:Int):
  (Instr.lookup t (.map (some g)) (.int .i64 k) false).run P W= .ok ((atM L k).getD z) W:=by
 obtain⟨es,c,hb,e⟩:=h;obtain⟨r,q1,q2⟩:=dL (P:=P) (W:=W) hk e k;rw[<-q2]
 cases r with
 |none=>simp[Instr.lookup,abk ht,abx hb,abH (n:=9999) hk (show MapKept.IsKey (.int .i64) (.int .i64 k)from rfl),q1,hz,Result.andThen]
 |some x=>simp[Instr.lookup,abk ht,abx hb,abH (n:=9999) hk (show MapKept.IsKey (.int .i64) (.int .i64 k)from rfl),q1,Result.andThen]
end
theorem Cl(W:World):(zeroValue 135).run Tryz.prog W= .ok (.agg #[.nilFunc, .nilFunc]) W:=by
 obtain⟨i,hi,hz⟩:∃i,Tryz.prog.info? 135=some i/\i.zero=some (.agg #[.nilFunc, .nilFunc]):=by
  have h:(Tryz.prog.info? 135).map (fun i=>i.zero)=some (some (.agg #[.nilFunc, .nilFunc])):=by kernel_rfl
  cases hi:Tryz.prog.info? 135 with
  |none=>rw[hi]at h;cases h
  |some i=>rw[hi]at h;exact⟨i,rfl,by injection h⟩
 simp[zeroValue,typeInfo,hi,hz]
theorem aC{W:World}{g:Nat}{L:List (Int×Value)}{ops:Array Oper}{rest:List Oper}{o:Oper}{a:Act}{Q:Exit->Act->World->Prop}(hg:o.guard=none)(m x v:Operand)
  (hop:o.op=Op.insert 136 m x v)(k:Int)(val:Value)(hm:a.eval m= .map (some g))(hx:a.eval x= .int .i64 k)(hv:a.eval v=val)(h:Md W g L)(hn:atM L k=none)
  (hK:∀W',Md W' g (L++[(k,val)])->(∀B,B<=g->Below B W W')->wpList Tryz.prog ops Q rest (a.put o.dst undef) W'):wpList Tryz.prog ops Q (o::rest) a W:=by
 refine wpList_plain hg fun K' hK'=>?_
 obtain⟨W',hrun,r1,r2⟩:=h.put Tryz.underlying136 Tryz.underlying3 hn val;unfold Oper.wp;simp[execOp,hop,hm,hx,hv,hrun,Result.andThen];exact hK' _ _ (hK W' r1 r2)
theorem cM{W:World}{g:Nat}{L:List (Int×Value)}{ops:Array Oper}{rest:List Oper}{o:Oper}{a:Act}{Q:Exit->Act->World->Prop}(hg:o.guard=none)(m x:Operand)
  (hop:o.op=Op.lookup 136 m x false)(k:Int)(hm:a.eval m= .map (some g))(hx:a.eval x= .int .i64 k)(h:Md W g L)(v:Value)(hv:(atM L k).getD (.agg #[.nilFunc, .nilFunc])=v)
  (hK:wpList Tryz.prog ops Q rest (a.put o.dst v) W):wpList Tryz.prog ops Q (o::rest) a W:=by
 refine wpList_plain hg fun K' hK'=>?_
 have hrun:=h.get Tryz.underlying136 Tryz.underlying3 (Cl W) k;rw[hv]at hrun;unfold Oper.wp;simp[execOp,hop,hm,hx,hrun,Result.andThen];exact hK' _ _ hK
def fB:List (Int×Value):=
 [(10, .agg #[.nilFunc, .func (.func 127) #[] #[]]),(11, .agg #[.nilFunc, .func (.func 155) #[] #[]]),(12, .agg #[.nilFunc, .func (.func 156) #[] #[]]),(13, .agg #[.nilFunc, .func (.func 128) #[] #[]]),
  (20, .agg #[.func (.func 157) #[] #[], .nilFunc]),(21, .agg #[.func (.func 158) #[] #[], .nilFunc]),(22, .agg #[.func (.func 159) #[] #[], .nilFunc]),(23, .agg #[.func (.func 160) #[] #[], .nilFunc])]
theorem eD(w:World):CJ 110 #[] w fun e w'=>∃g,e= .returned (.map (some g))/\Md w' g fB/\Kp w w':=by
 have hmm:= @run_makeMap Tryz.prog;have h0:=Md.new w;go_enter Tryz.func110,Tryz.ntmps110;go_wp2_with (first
  |(refine aC (L:=fB.take 0) rfl _ _ _ rfl 10 (.agg #[.nilFunc, .func (.func 127) #[] #[]]) rfl rfl rfl h0 rfl ?_;intro w1 h1 b1)
  |(refine aC (L:=fB.take 1) rfl _ _ _ rfl 11 (.agg #[.nilFunc, .func (.func 155) #[] #[]]) rfl rfl rfl h1 rfl ?_;intro w2 h2 b2)
  |(refine aC (L:=fB.take 2) rfl _ _ _ rfl 12 (.agg #[.nilFunc, .func (.func 156) #[] #[]]) rfl rfl rfl h2 rfl ?_;intro w3 h3 b3)
  |(refine aC (L:=fB.take 3) rfl _ _ _ rfl 13 (.agg #[.nilFunc, .func (.func 128) #[] #[]]) rfl rfl rfl h3 rfl ?_;intro w4 h4 b4)
  |(refine aC (L:=fB.take 4) rfl _ _ _ rfl 20 (.agg #[.func (.func 157) #[] #[], .nilFunc]) rfl rfl rfl h4 rfl ?_;intro w5 h5 b5)
  |(refine aC (L:=fB.take 5) rfl _ _ _ rfl 21 (.agg #[.func (.func 158) #[] #[], .nilFunc]) rfl rfl rfl h5 rfl ?_;intro w6 h6 b6)
  |(refine aC (L:=fB.take 6) rfl _ _ _ rfl 22 (.agg #[.func (.func 159) #[] #[], .nilFunc]) rfl rfl rfl h6 rfl ?_;intro w7 h7 b7)
  |(refine aC (L:=fB.take 7) rfl _ _ _ rfl 23 (.agg #[.func (.func 160) #[] #[], .nilFunc]) rfl rfl rfl h7 rfl ?_;intro w8 h8 b8))
 go_ret;have n:=aaZ w.heap.size;exact⟨_,rfl,h8,(Kp.af _ _).trans (((((((b1 _ n).trans (b2 _ n)).trans (b3 _ n)).trans (b4 _ n)).trans (b5 _ n)).trans (b6 _ n)).trans (b7 _ n)|>.trans (b8 _ n))⟩
end Go.Proofs.YtokeebkaamjliaaGreat
namespace Go.Proofs.ShM
open cF
def cE{α:Type}(f:α->Int×Int):List α->Int
 | []=>0
 |x::l=>if(f x).2=0 then cE f l else(f x).2
def cL{α:Type}(f:α->Int×Int)(l:List α):BU×Int:=if cE f l=0 then(l.map fun x=>(f x).1,0)else([],cE f l)
section
variable{α:Type}{f g:α->Int×Int}{l:List α}{k:Nat}{zs:BU}{x:α}
theorem fH:cE f l=0↔∀x∈l,(f x).2=0:=by
 induction l with
 |nil=>simp[cE]
 |cons x l ih=>
  unfold cE;by_cases h:(f x).2=0
  ·rw[aaW h,ih];simp[h]
  ·rw[aaT h];simp[h]
theorem sR{β:Type}{F:β->Int×Int}{h:α->β}(e:∀x∈l,(F (h x)).2=(f x).2):cE F (l.map h)=cE f l:=by
 induction l with
 |nil=>rfl
 |cons x l ih=>
  simp only[abT,cE];rw[e x sC,ih fun y hy=>e y (by simp[hy])]
theorem yj{β:Type}{F:β->Int×Int}{h:α->β}(e:∀x∈l,F (h x)=f x):cL F (l.map h)=cL f l:=by
 have e1:cE F (l.map h)=cE f l:=sR fun x hx=>by rw[e x hx]
 unfold cL;rw[e1];split
 ·rw[List.map_map];congr 1;exact List.map_congr_left fun x hx=>by simp only[Function.comp_apply];rw[e x hx]
 ·rfl
theorem I3:(cL f l).2=cE f l:=by
 unfold cL;split
 ·rename_i hz;exact hz.symm
 ·rfl
theorem mR(h:(cL f l).2=0):cE f l=0/\cL f l=(l.map fun x=>(f x).1,0):=by
 rw[I3]at h;exact⟨h,by unfold cL;rw[aaW h]⟩
theorem jx(h:(cL f l).2=0):(cL f l).1.length=l.length:=by
 rw[(mR h).2];simp
theorem eu{x:α}:cE f (x::l)=if(f x).2=0 then cE f l else(f x).2:=rfl
def Ee(f:α->Int×Int)(l:List α)(k:Nat)(zs:BU):Prop:=
 k<=l.length/\zs.length=l.length/\cE f (l.drop k)=cE f l/\zs.take k=(l.take k).map fun x=>(f x).1
theorem mo:Ee f l 0 (List.replicate l.length 0):=⟨aa6 _,by simp,by simp,by simp⟩
theorem qF(h:Ee f l k zs)(hx:l[k]?=some x)(he:(f x).2=0):Ee f l (k+1) (zs.set k (f x).1):=by
 obtain⟨h1,h2,h3,h4⟩:=h;have hk:=(aaU.1 hx).1;refine⟨hk,by simpa using h2,?_,?_⟩
 ·rw[<-h3,bP hx,eu];rw[aaW he]
 ·rw[cr hx,abK,<-h4,cr (x:=(f x).1) (by rw[abt oM]),List.take_set_of_le oM];rfl
theorem wO(h:Ee f l k zs)(hx:l[k]?=some x)(he:(f x).2≠0):cL f l=([],(f x).2):=by
 obtain⟨h1,h2,h3,h4⟩:=h;have e:cE f l=(f x).2:=by rw[<-h3,bP hx,eu];rw[aaT he]
 unfold cL;rw[e,aaT he]
theorem wN(h:Ee f l k zs)(hk:¬k<l.length):cL f l=(zs,0):=by
 obtain⟨h1,h2,h3,h4⟩:=h;have e:k=l.length:=by omega
 subst e;rw[acI]at h3;rw[acj,<-h2,acj]at h4;unfold cL;rw[<-h3,h4];rfl
end
def tC(op n:Int):Int×Int:=if op=20 then DK 0 n else if op=21 then(max n 0,0)else if op=22 then NU n else if op=23 then zV n else(0,1)
def ic(op a b:Int):Int×Int:=if op=10 then cY a b else if op=11 then DK a b else if op=12 then dX a b else if op=13 then nE a b else(0,1)
def dS(op:Int)(s xs:BU):Tn:=
 if op<20∨23<op then([],[],1)else if aB s xs=false then([],[],30)else if(cL (tC op) xs).2=0 then(s,(cL (tC op) xs).1,0)else([],[],(cL (tC op) xs).2)
def D8(op:Int)(xs ys:BU):BU×Int:=cL (fun p:Int×Int=>ic op p.1 p.2) (xs.zip ys)
def bg(op:Int)(s xs g ys:BU):Tn:=
 if op<10∨13<op then([],[],1)else if aB s xs=false∨aB g ys=false then([],[],30)else if(bG s g).2≠0 then([],[],(bG s g).2)else
  if(D8 op (cm s xs (bG s g).1).2.1 (cm g ys (bG s g).1).2.1).2=0 then((bG s g).1,(D8 op (cm s xs (bG s g).1).2.1 (cm g ys (bG s g).1).2.1).1,0)
  else([],[],(D8 op (cm s xs (bG s g).1).2.1 (cm g ys (bG s g).1).2.1).2)
end Go.Proofs.ShM
namespace Go.Proofs.YtokeebkaamjliaaGreat
open RowKit ShM
def Im{α:Type}(f:α->Int×Int)(l:List α)(c:Nat)(caps:List Value)(w:World):Prop:=
 ∀(k:Nat) (x:α),l[k]?=some x->∀W,Kp w W->CJ c (Value.int .i64 (k:Int)::caps).toArray W fun e W'=>e= .returned (.tuple #[.int .i64 (f x).1, .int .i64 (f x).2])/\Kp W W'
structure Rs(w W:World):Prop where
 kp:Kp w W
 r0:W.cell? ⟨w.heap.size,0,none⟩=some (zS)
 r1:W.cell? ⟨w.heap.size,1,none⟩=some (zS)
 f0:W.frozen? ⟨w.heap.size,0,none⟩=false
 f1:W.frozen? ⟨w.heap.size,1,none⟩=false
 sz:w.heap.size+1<=W.heap.size
theorem Rs.tb{w a b:World}(h:Rs w a)(k:Below (w.heap.size+1) a b):Rs w b where
 kp:=h.kp.trans (k.mono oM)
 r0:=(k.cell (p:=⟨w.heap.size,0,none⟩) (by show w.heap.size<_;omega)).trans h.r0
 r1:=(k.cell (p:=⟨w.heap.size,1,none⟩) (by show w.heap.size<_;omega)).trans h.r1
 f0:=(k.frozen (p:=⟨w.heap.size,0,none⟩) (by show w.heap.size<_;omega)).trans h.f0
 f1:=(k.frozen (p:=⟨w.heap.size,1,none⟩) (by show w.heap.size<_;omega)).trans h.f1
 sz:=ab3 h.sz k.size
theorem Rs.tr{w a b:World}(h:Rs w a)(k:Kp a b):Rs w b:=h.tb (k.mono h.sz)
theorem Rs.mk_(w:World)(t:TypeId):Rs w (w.alloc (.cells #[zS, zS] t)) where
 kp:=Kp.af _ _
 r0:=by simp
 r1:=by simp
 f0:=by simp
 f1:=by simp
 sz:=by simp
theorem Rs.end_{w a:World}(h:Rs w a)(x y:Value):Kp w ((a.setCell ⟨w.heap.size,0,none⟩ x).setCell ⟨w.heap.size,1,none⟩ y):=
 (h.kp.setCell (p:=⟨w.heap.size,0,none⟩) sC x).setCell (p:=⟨w.heap.size,1,none⟩) sC y
theorem Ho{α:Type}(f:α->Int×Int)(l:List α)(A:DV)(cc:Nat)(s:BU)(c:Nat)(p q:Addr)(w:World)(b0:Nat)(hb0:b0<=w.heap.size)(hn0:Nw b0 A s)(hA:Rd w A s)(hs:(au s).toNat=l.length)
  (HT:Im f l c [.pointer (some p), .pointer (some q)] w)(HF:∀args W,(callFunc c args).run Tryz.prog W= .ok (.enter c args) W)(hca:s.length<=cc/\cc<=9223372036854775807):
  CJ 111 #[.slice A s.length cc, .func (.func c) #[] #[.pointer (some p), .pointer (some q)]] w (Za b0 (if(cL f l).2=0 then(s,(cL f l).1,0)else([],[],(cL f l).2)) w):=by
 have HCA:=lH hca;have HN0:=lH hn0;clear hca hn0;have hl:=hA.len;have hsz:=size_le s;have HC:=lH (fun W (k:Kp w W)=>bC A cc s W (hA.kp k));have hn:au s=(l.length:Int):=by omega
 rw[hn]at HC;obtain⟨cs,hmk,hown⟩:=mk_ l.length oM;have HS:=lH (mo (f:=f) (l:=l));have HO:=lH hown;have HL:Hid (l.length<=64):=by show l.length<=64;omega
 generalize hr:(if(cL f l).2=0 then(s,(cL f l).1,(0:Int))else([],[],(cL f l).2))=r;have HR:=lH hr;have HTT:=lH HT;have HA:=lH hA;clear hn hsz hs hown hr HT hA;go_enter Tryz.func111,Tryz.ntmps111;go_wp2_with fail;refine(HC.out _ (Kp.af _ _)).mono ?_;rintro e w' ⟨rfl,rfl⟩;go_wp2
 go_loopw [15] (fun i wr=>∃(k:Nat) (zs:BU),i= .int .i64 k/\Hid (Ee f l k zs)/\Own (w.heap.size+1) wr (.slice (some ⟨w.heap.size+1,0,none⟩) l.length l.length) zs/\Rs w wr) (fun i _=>l.length-(intOf i).toNat)
 case atStart=>
  refine⟨0,_,rfl,HS.out,?_,(Rs.mk_ w _).tr (Kp.af _ _)⟩;have h:=HO.out (w.alloc (.cells #[zS, zS] 25)) (w.heap.size+1) (Nat.le_of_eq (aaY _ _).symm);rw[aaY]at h;exact h
 case round=>
  obtain⟨k,zs,rfl,hr,hown,hb⟩:=hrel;have hk0:=hr.out.1;have hL:l.length<=64:=HL.out;by_cases hk:k<l.length
  ·obtain⟨x,hx⟩:∃x,l[k]?=some x:=⟨l[k],aaV hk⟩
   have HTK:=lH (HTT.out k x hx);have hz:k<zs.length:=by have:=hr.out.2.1;omega
   have HW:=lH hown;have HB:=lH hb;clear hown hb;by_cases he:(f x).2=0
   ·have HE:=lH (qF hr.out hx he);rw[he]at HTK;generalize (f x).1=y at HTK HE;clear hx he;go_wp2_with fail;refine(HTK.out _ HB.out.kp).mono ?_;rintro e w1 ⟨rfl,k1⟩;have HW:=lH (HW.out.kp k1);have HB:=lH (HB.out.tr k1);have hcz:=HW.out.cell_ (j:=k) (aaV hz);have hfz:=HW.out.fE k;clear k1;go_wp2;go_roundw
    case rel=>
     exact⟨k+1,_,by go_num,HE.out,HW.out.kY _ _,HB.out.tb ((abu _ _).setCell (p:=⟨w.heap.size+1,k,none⟩) (aaZ _) _)⟩
    case measure=>
     simp[intOf];omega
   ·have HE:=lH (wO hr.out hx he);have HF:Hid (r=([],[],(f x).2)):=by
     show r=_;rw[<-HR.out,HE.out,aaT he]
    have he':((f x).2 !=0)=true:=by simpa using he
    generalize (f x).2=er at HTK HF he';generalize (f x).1=y at HTK;clear hx he HE;go_wp2_with fail;refine(HTK.out _ HB.out.kp).mono ?_;rintro e w1 ⟨rfl,k1⟩;have HB:=lH (HB.out.tr k1);obtain⟨_,r0,r1,f0,f1,_⟩:=HB.out;clear k1;go_wp2;refine aaX (v:= .tuple #[.agg #[zS, zS], .int .i64 er]) (by simp[results,Tryz.results111,go_sem,r0,r1];try rfl) rfl ?_;exact aG.err HF.out (HB.out.end_ _ _)
  ·have HE:=lH (wN hr.out hk);have hz:zs.length=l.length:=hr.out.2.1;have HF:Hid (r=(s,zs,0)):=by
    show r=_;rw[<-HR.out,HE.out,aaW rfl]
   have HW:=lH hown;have HB:=lH hb;obtain⟨_,r0,r1,f0,f1,_⟩:=hb;clear hown;go_wp2;refine aaX (v:= .tuple #[.agg #[.slice A s.length cc, .slice (some ⟨w.heap.size+1,0,none⟩) l.length l.length], .int .i64 0]) (by simp[results,Tryz.results111,go_sem,r0,r1];try rfl) rfl ?_;have hA:=HA.out.kp (HB.out.end_ (.slice A s.length cc) (.slice (some ⟨w.heap.size+1,0,none⟩) l.length l.length));exact aG.on HF.out rfl hz.symm (Sl.of hA HCA.out) ((HW.out.gW (p:=⟨w.heap.size,0,none⟩) (aby _) _).gW (p:=⟨w.heap.size,1,none⟩) (aby _) _).sl (HB.out.end_ _ _) HN0.out (HW.out.nw oM)
theorem yR{α:Type}(f:α->Int×Int)(l:List α)(A:DV)(cc:Nat)(s:BU)(c:Nat)(p q u:Addr)(w:World)(b0:Nat)(hb0:b0<=w.heap.size)(hn0:Nw b0 A s)(hA:Rd w A s)(hs:(au s).toNat=l.length)
  (HT:Im f l c [.pointer (some p), .pointer (some q), .pointer (some u)] w)(HF:∀args W,(callFunc c args).run Tryz.prog W= .ok (.enter c args) W)(hca:s.length<=cc/\cc<=9223372036854775807):
  CJ 111 #[.slice A s.length cc, .func (.func c) #[] #[.pointer (some p), .pointer (some q), .pointer (some u)]] w (Za b0 (if(cL f l).2=0 then(s,(cL f l).1,0)else([],[],(cL f l).2)) w):=by
 have HCA:=lH hca;have HN0:=lH hn0;clear hca hn0;have hl:=hA.len;have hsz:=size_le s;have HC:=lH (fun W (k:Kp w W)=>bC A cc s W (hA.kp k));have hn:au s=(l.length:Int):=by omega
 rw[hn]at HC;obtain⟨cs,hmk,hown⟩:=mk_ l.length oM;have HS:=lH (mo (f:=f) (l:=l));have HO:=lH hown;have HL:Hid (l.length<=64):=by show l.length<=64;omega
 generalize hr:(if(cL f l).2=0 then(s,(cL f l).1,(0:Int))else([],[],(cL f l).2))=r;have HR:=lH hr;have HTT:=lH HT;have HA:=lH hA;clear hn hsz hs hown hr HT hA;go_enter Tryz.func111,Tryz.ntmps111;go_wp2_with fail;refine(HC.out _ (Kp.af _ _)).mono ?_;rintro e w' ⟨rfl,rfl⟩;go_wp2
 go_loopw [15] (fun i wr=>∃(k:Nat) (zs:BU),i= .int .i64 k/\Hid (Ee f l k zs)/\Own (w.heap.size+1) wr (.slice (some ⟨w.heap.size+1,0,none⟩) l.length l.length) zs/\Rs w wr) (fun i _=>l.length-(intOf i).toNat)
 case atStart=>
  refine⟨0,_,rfl,HS.out,?_,(Rs.mk_ w _).tr (Kp.af _ _)⟩;have h:=HO.out (w.alloc (.cells #[zS, zS] 25)) (w.heap.size+1) (Nat.le_of_eq (aaY _ _).symm);rw[aaY]at h;exact h
 case round=>
  obtain⟨k,zs,rfl,hr,hown,hb⟩:=hrel;have hk0:=hr.out.1;have hL:l.length<=64:=HL.out;by_cases hk:k<l.length
  ·obtain⟨x,hx⟩:∃x,l[k]?=some x:=⟨l[k],aaV hk⟩
   have HTK:=lH (HTT.out k x hx);have hz:k<zs.length:=by have:=hr.out.2.1;omega
   have HW:=lH hown;have HB:=lH hb;clear hown hb;by_cases he:(f x).2=0
   ·have HE:=lH (qF hr.out hx he);rw[he]at HTK;generalize (f x).1=y at HTK HE;clear hx he;go_wp2_with fail;refine(HTK.out _ HB.out.kp).mono ?_;rintro e w1 ⟨rfl,k1⟩;have HW:=lH (HW.out.kp k1);have HB:=lH (HB.out.tr k1);have hcz:=HW.out.cell_ (j:=k) (aaV hz);have hfz:=HW.out.fE k;clear k1;go_wp2;go_roundw
    case rel=>
     exact⟨k+1,_,by go_num,HE.out,HW.out.kY _ _,HB.out.tb ((abu _ _).setCell (p:=⟨w.heap.size+1,k,none⟩) (aaZ _) _)⟩
    case measure=>
     simp[intOf];omega
   ·have HE:=lH (wO hr.out hx he);have HF:Hid (r=([],[],(f x).2)):=by
     show r=_;rw[<-HR.out,HE.out,aaT he]
    have he':((f x).2 !=0)=true:=by simpa using he
    generalize (f x).2=er at HTK HF he';generalize (f x).1=y at HTK;clear hx he HE;go_wp2_with fail;refine(HTK.out _ HB.out.kp).mono ?_;rintro e w1 ⟨rfl,k1⟩;have HB:=lH (HB.out.tr k1);obtain⟨_,r0,r1,f0,f1,_⟩:=HB.out;clear k1;go_wp2;refine aaX (v:= .tuple #[.agg #[zS, zS], .int .i64 er]) (by simp[results,Tryz.results111,go_sem,r0,r1];try rfl) rfl ?_;exact aG.err HF.out (HB.out.end_ _ _)
  ·have HE:=lH (wN hr.out hk);have hz:zs.length=l.length:=hr.out.2.1;have HF:Hid (r=(s,zs,0)):=by
    show r=_;rw[<-HR.out,HE.out,aaW rfl]
   have HW:=lH hown;have HB:=lH hb;obtain⟨_,r0,r1,f0,f1,_⟩:=hb;clear hown;go_wp2;refine aaX (v:= .tuple #[.agg #[.slice A s.length cc, .slice (some ⟨w.heap.size+1,0,none⟩) l.length l.length], .int .i64 0]) (by simp[results,Tryz.results111,go_sem,r0,r1];try rfl) rfl ?_;have hA:=HA.out.kp (HB.out.end_ (.slice A s.length cc) (.slice (some ⟨w.heap.size+1,0,none⟩) l.length l.length));exact aG.on HF.out rfl hz.symm (Sl.of hA HCA.out) ((HW.out.gW (p:=⟨w.heap.size,0,none⟩) (aby _) _).gW (p:=⟨w.heap.size,1,none⟩) (aby _) _).sl (HB.out.end_ _ _) HN0.out (HW.out.nw oM)
theorem qV{a b:World}(h:Kp a.drew b):Kp a b:=⟨h.os,h.tape,h.output,h.size,h.block⟩
theorem xY(f:Int->Int×Int)(xs:BU)(n:Nat)(bf bt d:Nat)(B:DV)(w:World)(hB:Rd w B xs)
  (hf:w.cell? ⟨bf,0,none⟩=some (.func (.func n) #[] #[]))(ht:w.cell? ⟨bt,1,none⟩=some (.slice B xs.length d))(lf:bf<w.heap.size)(lt:bt<w.heap.size)
  (HF:∀args W,(callFunc n args).run Tryz.prog W= .ok (.enter n args) W)
  (HN:∀x∈xs,∀W,CJ n #[.int .i64 x] W fun e W'=>e= .returned (.tuple #[.int .i64 (f x).1, .int .i64 (f x).2])/\Kp W W'):
  Im f xs 112 [pX bf 0, pX bt 0] w:=by
 intro k x hx W hk;have hlen:=hB.len;have hkl:=(aaU.1 hx).1;obtain⟨ad,x',rfl,hlt,hx',hc⟩:=hB.at_ hkl;obtain rfl:x=x':=by rw[hx]at hx';exact abR hx'
 have hc':W.cell? (ad.add k)=some (.int .i64 x):=(hk.cell (by rw[ah];exact hlt)).trans hc;have hf':W.cell? ⟨bf,0,none⟩=some (.func (.func n) #[] #[]):=(hk.cell (p:=⟨bf,0,none⟩) lf).trans hf;have ht':W.cell? ⟨bt,1,none⟩=some (.slice (some ad) xs.length d):=(hk.cell (p:=⟨bt,1,none⟩) lt).trans ht;have HX:=lH (HN x (aa1 hx));generalize (f x).1=y at HX;generalize (f x).2=z at HX;clear hx hx' hc hf ht HN hB;show Calls _ _ #[.int .i64 (k:Int), pX bf 0, pX bt 0] _ _;go_enter Tryz.func112,Tryz.ntmps112;go_wp2
 go_region_with (refine(HX.out _).mono ?_;rintro e w1 ⟨rfl,k1⟩;have K1:=lH k1;clear k1)
 all_goals
  go_wp2;go_ret2;exact⟨rfl,qV K1.out⟩
theorem xk(f:Int×Int->Int×Int)(xs ys:BU)(n:Nat)(bf bt bu d e0:Nat)(B C:DV)(w:World)(hB:Rd w B xs)(hC:Rd w C ys)(hxy:xs.length=ys.length)
  (hf:w.cell? ⟨bf,0,none⟩=some (.func (.func n) #[] #[]))(ht:w.cell? ⟨bt,1,none⟩=some (.slice B xs.length d))(hu:w.cell? ⟨bu,1,none⟩=some (.slice C ys.length e0))(lf:bf<w.heap.size)(lt:bt<w.heap.size)(lu:bu<w.heap.size)
  (HF:∀args W,(callFunc n args).run Tryz.prog W= .ok (.enter n args) W)
  (HN:∀x y,x∈xs->y∈ys->∀W,CJ n #[.int .i64 x, .int .i64 y] W fun e W'=>e= .returned (.tuple #[.int .i64 (f (x,y)).1, .int .i64 (f (x,y)).2])/\Kp W W'):
  Im f (xs.zip ys) 114 [pX bf 0, pX bt 0, pX bu 0] w:=by
 intro k xy hxy' W hk;have hlen:=hB.len;obtain⟨x,y⟩:=xy;obtain⟨hx,hy⟩:=List.getElem?_zip_eq_some.1 hxy';have hkl:=(aaU.1 hx).1;have hkm:=(aaU.1 hy).1;obtain⟨ad,x',rfl,hlt,hx',hc⟩:=hB.at_ hkl;obtain⟨ae,y',rfl,Jg,hy',hc2⟩:=hC.at_ hkm;obtain rfl:x=x':=by rw[hx]at hx';exact abR hx'
 obtain rfl:y=y':=by rw[hy]at hy';exact abR hy'
 have hc':W.cell? (ad.add k)=some (.int .i64 x):=(hk.cell (by rw[ah];exact hlt)).trans hc;have hd':W.cell? (ae.add k)=some (.int .i64 y):=(hk.cell (by rw[ah];exact Jg)).trans hc2;have hf':W.cell? ⟨bf,0,none⟩=some (.func (.func n) #[] #[]):=(hk.cell (p:=⟨bf,0,none⟩) lf).trans hf;have ht':W.cell? ⟨bt,1,none⟩=some (.slice (some ad) xs.length d):=(hk.cell (p:=⟨bt,1,none⟩) lt).trans ht;have hu':W.cell? ⟨bu,1,none⟩=some (.slice (some ae) ys.length e0):=(hk.cell (p:=⟨bu,1,none⟩) lu).trans hu;have HX:=lH (HN x y (aa1 hx) (aa1 hy));generalize (f (x,y)).1=r at HX;generalize (f (x,y)).2=z at HX;have i1:(0:Int)<=(k:Int):=by omega
 have i2:(k:Int)<(xs.length:Int):=by omega
 have i3:(k:Int)<(ys.length:Int):=by omega
 clear hx hx' hc hf ht hu HN hB hC hxy' hy hy' hc2;have HQ:Hid (∀w1,Kp W.drew w1->Hid (Kp W.drew w1)/\w1.cell? ⟨bf,0,none⟩=some (.func (.func n) #[] #[])/\w1.cell? ⟨bt,1,none⟩=some (.slice (some ad) xs.length d)/\w1.cell? ⟨bu,1,none⟩=some (.slice (some ae) ys.length e0)/\w1.cell? (ad.add k)=some (.int .i64 x)/\w1.cell? (ae.add k)=some (.int .i64 y)):=by
  intro w1 k1;have l:=hk.size;have k2:Kp W w1:=qV k1;exact⟨k1,(k2.cell (p:=⟨bf,0,none⟩) (by show bf<_;omega)).trans hf',(k2.cell (p:=⟨bt,1,none⟩) (by show bt<_;omega)).trans ht',(k2.cell (p:=⟨bu,1,none⟩) (by show bu<_;omega)).trans hu',
   (k2.cell (by rw[ah];omega)).trans hc',(k2.cell (by rw[ah];omega)).trans hd'⟩
 show Calls _ _ #[.int .i64 (k:Int), pX bf 0, pX bt 0, pX bu 0] _ _;go_enter Tryz.func114,Tryz.ntmps114;go_wp2
 go_region_held3 (fun V=>V.cell? ⟨bf,0,none⟩=some (.func (.func n) #[] #[])/\V.cell? ⟨bt,1,none⟩=some (.slice (some ad) xs.length d)/\V.cell? ⟨bu,1,none⟩=some (.slice (some ae) ys.length e0)/\V.cell? (ad.add k)=some (.int .i64 x)/\V.cell? (ae.add k)=some (.int .i64 y)) (first|exact⟨hf',ht',hu',hc',hd'⟩|exact⟨q1,q2,q3,q4,q5⟩)
  (first|(refine(HX.out _).mono ?_;rintro e w1 ⟨rfl,k1⟩;obtain⟨K1,q1,q2,q3,q4,q5⟩:=HQ.out _ k1;clear k1))
 all_goals
  go_wp2;go_ret2;exact⟨rfl,qV K1.out⟩
open cF
theorem Fb(x:Int)(W:World):CJ 158 #[.int .i64 x] W fun e W'=>e= .returned (.tuple #[.int .i64 (max x 0), .int .i64 0])/\Kp W W':=by
 have hmax:∀(W:World) (ts:Array TypeId) (t:TypeId),(Builtin.max_ ts t #[.int .i64 x, .int .i64 0]).run Tryz.prog W= .ok (.int .i64 (max x 0)) W:=by
  intro W ts t;by_cases h:0<x
  ·have e:max x 0=x:=by omega
   rw[e];go_simp;omega
  ·have e:max x 0=0:=by omega
   rw[e];go_simp;omega
 generalize max x 0=y at hmax;go_enter Tryz.func158,Tryz.ntmps158;go_wp2;go_ret2;exact⟨rfl,Kp.refl _⟩
theorem IU{op:Int}(h:20<=op/\op<=23):∃n,(atM fB op).getD (.agg #[.nilFunc, .nilFunc])= .agg #[.func (.func n) #[] #[], .nilFunc]/\(∀args W,(callFunc n args).run Tryz.prog W= .ok (.enter n args) W)/\
  ∀x,I64 x->∀W,CJ n #[.int .i64 x] W fun e W'=>e= .returned (.tuple #[.int .i64 (tC op x).1, .int .i64 (tC op x).2])/\Kp W W':=by
 have hc:op=20∨op=21∨op=22∨op=23:=by omega
 rcases hc with rfl|rfl|rfl|rfl
 ·exact⟨157,rfl,fun args W=>MuLone.run_callFunc_enter Tryz.func157 kM rfl args W,fun x hx W=>(Fx.KH x hx W).mono fun e w' ⟨h1,h2⟩=>⟨h1,h2▸Kp.refl _⟩⟩
 ·exact⟨158,rfl,fun args W=>MuLone.run_callFunc_enter Tryz.func158 kM rfl args W,fun x hx W=>Fb x W⟩
 ·exact⟨159,rfl,fun args W=>MuLone.run_callFunc_enter Tryz.func159 kM rfl args W,fun x hx W=>(Fx.Kj x hx W).mono fun e w' ⟨h1,h2⟩=>⟨h1,h2.below⟩⟩
 ·exact⟨160,rfl,fun args W=>MuLone.run_callFunc_enter Tryz.func160 kM rfl args W,fun x hx W=>(Fx.Eu x hx W).mono fun e w' ⟨h1,h2⟩=>⟨h1,h2.below⟩⟩
theorem jK{L:List (Int×Value)}{k:Int}(h:∀x∈L,k≠x.1):atM L k=none:=by
 induction L with
 |nil=>rfl
 |cons x L ih=>obtain⟨j,v⟩:=x;simp only[atM];rw[aaT (h (j,v) sC)];exact ih fun y hy=>h y (by simp[hy])
theorem FD{op:Int}(h:op<20∨23<op):∃v,(atM fB op).getD (.agg #[.nilFunc, .nilFunc])= .agg #[.nilFunc,v]:=by
 by_cases hc:op=10∨op=11∨op=12∨op=13
 ·rcases hc with rfl|rfl|rfl|rfl<;>exact⟨_,rfl⟩
 ·exact⟨.nilFunc,by rw[jK (by unfold fB;simp;omega)];rfl⟩
theorem vh{op:Int}(h:10<=op/\op<=13):∃n,(atM fB op).getD (.agg #[.nilFunc, .nilFunc])= .agg #[.nilFunc, .func (.func n) #[] #[]]/\(∀args W,(callFunc n args).run Tryz.prog W= .ok (.enter n args) W)/\
  ∀x y,I64 x->I64 y->∀W,CJ n #[.int .i64 x, .int .i64 y] W fun e W'=>e= .returned (.tuple #[.int .i64 (ic op x y).1, .int .i64 (ic op x y).2])/\Kp W W':=by
 have hc:op=10∨op=11∨op=12∨op=13:=by omega
 rcases hc with rfl|rfl|rfl|rfl
 ·exact⟨127,rfl,fun args W=>MuLone.run_callFunc_enter Tryz.func127 kM rfl args W,fun x y hx hy W=>(Fx.nA x y hx hy W).mono fun e w' ⟨h1,h2⟩=>⟨h1,h2▸Kp.refl _⟩⟩
 ·exact⟨155,rfl,fun args W=>MuLone.run_callFunc_enter Tryz.func155 kM rfl args W,fun x y hx hy W=>(Fx.zN x y hx hy W).mono fun e w' ⟨h1,h2⟩=>⟨h1,h2▸Kp.refl _⟩⟩
 ·exact⟨156,rfl,fun args W=>MuLone.run_callFunc_enter Tryz.func156 kM rfl args W,fun x y hx hy W=>(Fx.qd x y hx hy W).mono fun e w' ⟨h1,h2⟩=>⟨h1,h2.below⟩⟩
 ·exact⟨128,rfl,fun args W=>MuLone.run_callFunc_enter Tryz.func128 kM rfl args W,fun x y hx hy W=>(Fx.Dd x y hx hy W).mono fun e w' ⟨h1,h2⟩=>⟨h1,h2.below⟩⟩
theorem D4{op:Int}(h:op<10∨13<op):∃v,(atM fB op).getD (.agg #[.nilFunc, .nilFunc])= .agg #[v, .nilFunc]:=by
 by_cases hc:op=20∨op=21∨op=22∨op=23
 ·rcases hc with rfl|rfl|rfl|rfl<;>exact⟨_,rfl⟩
 ·exact⟨.nilFunc,by rw[jK (by unfold fB;simp;omega)];rfl⟩
theorem uX(u v:Value)(W:World):(Instr.field 135 (.agg #[u,v]) 0).run Tryz.prog W= .ok u W:=by
 have h:=Tryz.underlying135;have h2:=Tryz.underlying132;simp[Instr.field,abk h,part,isAgg,abk h2,asAgg,Result.andThen]
theorem ni(u v:Value)(W:World):(Instr.field 135 (.agg #[u,v]) 1).run Tryz.prog W= .ok v W:=by
 have h:=Tryz.underlying135;have h2:=Tryz.underlying133;simp[Instr.field,abk h,part,isAgg,abk h2,asAgg,Result.andThen]
theorem sV{P:Program}(W:World)(d:Nat){t:TypeId}{a b c}(h:P.underlying t=some (.func a b c))(f:Fn)(x y:Array Value):(Op.equalIn (d+1) t (.func f x y) .nilFunc).run P W= .ok false W:=by
 simp[Op.equalIn,abk h]
theorem nJ{P:Program}(W:World)(d:Nat){t:TypeId}{a b c}(h:P.underlying t=some (.func a b c)):(Op.equalIn (d+1) t .nilFunc .nilFunc).run P W= .ok true W:=by
 simp[Op.equalIn,abk h]
theorem iK{P:Program}{t:TypeId}{a b c}(h:P.underlying t=some (.func a b c))(f:Fn)(x y:Array Value)(W:World):(binOp .eql t (.func f x y) .nilFunc).run P W= .ok (.bool false) W:=by
 simp only[binOp];simp[Op.equal,Op.maxDepth,sV W 9999 h]
theorem oK{P:Program}{t:TypeId}{a b c}(h:P.underlying t=some (.func a b c))(W:World):(binOp .eql t .nilFunc .nilFunc).run P W= .ok (.bool true) W:=by
 simp only[binOp];simp[Op.equal,Op.maxDepth,nJ W 9999 h]
theorem aG.gW{r:Tn}{w w3:World}{b:Nat}{A:DV}{n c:Nat}{B:DV}{m d:Nat}{C D:DV}{c' d':Nat}{l k:BU}{err:Int}(hr:r=(l,k,err))(hb:w.heap.size<=b)
  (hC:Sw w.heap.size w3 C c' l)(hD:Sw w.heap.size w3 D d' k)(h:Bk w3 b A n c B m d)(kp:Kp w w3):
  aG r w (.returned (.tuple #[.agg #[.slice C l.length c', .slice D k.length d'], .int .i64 err])) ((w3.setCell ⟨b,0,none⟩ (.slice C l.length c')).setCell ⟨b,1,none⟩ (.slice D k.length d')):=
 aG.of hr (hC.toSl.past h _ _) (hD.toSl.past h _ _) ((kp.setCell (p:=⟨b,0,none⟩) hb _).setCell (p:=⟨b,1,none⟩) hb _) hC.nw hD.nw
theorem Og{op:Int}(A B:DV)(c d:Nat)(s xs:BU)(w:World)(hA:Rd w A s)(hB:Rd w B xs)(hi:bN xs)(hop:20<=op/\op<=23)(ht:aB s xs=true):
  CJ 81 #[.int .i64 op, .agg #[.slice A s.length c, .slice B xs.length d]] w (aG (dS op s xs) w):=by
 have hl:=hA.len;have hl2:=hB.len;obtain⟨n,hv,HF,HN⟩:=IU hop;have HX:=lH (And.intro HF fun x (hx:x∈xs) W=>HN x (hi x hx) W);have HO:Hid (dS op s xs=if(cL (tC op) xs).2=0 then(s,(cL (tC op) xs).1,0)else([],[],(cL (tC op) xs).2)):=by
  show dS op s xs=_;unfold dS;rw[aaT oM,ht,aaT sC]
 have HC:=lH (fun W (k:Kp w W)=>av A B c d s xs W (hA.kp k) (hB.kp k));rw[ht]at HC;have HL:=lH (fun W (k:Kp w W)=>cv A c s W (hA.kp k) (by have:=(aD.1 (aW ht).1).1;omega));have HS:Hid ((au s).toNat=xs.length):=(aW ht).2.1;have HR:=lH (And.intro hA hB);generalize hf:tC op=f at HO HX;clear hf HF HN hA hB ht hop hi;have hfd:=uX;have heq:=iK Tryz.underlying132 (.func n) #[] #[];go_enter Tryz.func81,Tryz.ntmps81;go_wp2_with fail;refine(eD _).mono ?_;rintro e w1 ⟨g,rfl,hmd,k1⟩;have TB:Hid (Bk w1 w.heap.size A s.length c B xs.length d):=((Bk.new rfl).af _).kp k1;have TO:Hid (Bk w1 (w.heap.size+1) none 0 0 none 0 0):=(Bk.new (aaY _ _).symm).kp k1;have K:=lH (((Kp.af _ _).al _).tr k1);have t0:=TB.out.c0;have t1:=TB.out.c1;have t2:=TB.out.lt;clear k1;go_wp2_with (at_lookup;refine cM rfl _ _ rfl op rfl rfl hmd _ hv ?_);have hsz:w1.heap.size<w1.heap.size+1:=aby _;refine(HC.out _ (K.out.al _)).mono ?_;rintro e w2 ⟨rfl,k2⟩;have TF:Hid (w2.cell? ⟨w1.heap.size,0,none⟩=some (.func (.func n) #[] #[])/\w1.heap.size<w2.heap.size):=⟨(k2.cell (p:=⟨w1.heap.size,0,none⟩) sC).trans sC,abj sC k2.size⟩
 have TB:=lH ((TB.out.af _).kp k2);have TO:=lH ((TO.out.af _).kp k2);have K:=lH ((K.out.al _).tr k2);clear t0 t1 t2 k2 hmd;have t0:=TB.out.c0;have t1:=TB.out.c1;have t2:=TB.out.lt;go_wp2_with fail;refine(HL.out _ K.out).mono ?_;rintro e w3 ⟨A3,c3,rfl,o3,k3⟩;have SZ:=lH K.out.size;have TF:Hid (w3.cell? ⟨w1.heap.size,0,none⟩=some (.func (.func n) #[] #[])/\w1.heap.size<w3.heap.size):=⟨(k3.cell (p:=⟨w1.heap.size,0,none⟩) TF.out.2).trans TF.out.1,abj TF.out.2 k3.size⟩
 have TB:=lH (TB.out.kp k3);have TO:=lH (TO.out.kp k3);have K:=lH (K.out.tr k3);have O3:=lH o3;clear t0 t1 t2 k3 o3;go_wp2_with fail;refine(Ho f xs _ _ s 112 ⟨w1.heap.size,0,none⟩ ⟨w.heap.size,0,none⟩ _ w.heap.size K.out.size (O3.out.nw SZ.out) O3.out.sl.rd HS.out (xY f xs n _ _ _ _ _ (HR.out.2.kp K.out) TF.out.1 TB.out.c1 TF.out.2 TB.out.lt HX.out.1 HX.out.2) (fun args W=>MuLone.run_callFunc_enter Tryz.func112 kM rfl args W) O3.out.sl.room).mono ?_;rintro e w4 ⟨A4,c4,B4,d4,rfl,r4,q4,k4⟩;have TO:=lH (TO.out.kp k4);have K:=lH (K.out.tr k4);have R4:=lH (And.intro r4 q4);clear k4 r4 q4;rw[<-HO.out]at R4⊢;obtain⟨⟨l,k,er⟩,hlk⟩:∃r,dS op s xs=r:=⟨_,rfl⟩
 rw[hlk]at R4⊢;have o0:=TO.out.c0;have o1:=TO.out.c1;have p0:=TO.out.f0 0;have p1:=TO.out.f0 1;dsimp only at R4⊢;go_wp2;refine aaX (v:= .tuple #[.agg #[.slice A4 l.length c4, .slice B4 k.length d4], .int .i64 er]) (by simp[results,Tryz.results81,go_sem,o0,o1]) rfl ?_;exact aG.gW hlk (abe _) R4.out.1 R4.out.2 TO.out K.out
theorem aG.Qm{r:Tn}{w w3:World}{b:Nat}{err:Int}(hr:r=([],[],err))(hb:w.heap.size<=b)(kp:Kp w w3):
  aG r w (.returned (.tuple #[.agg #[zS, zS], .int .i64 err])) ((w3.setCell ⟨b,0,none⟩ (zS)).setCell ⟨b,1,none⟩ (zS)):=
 aG.err hr ((kp.setCell (p:=⟨b,0,none⟩) hb _).setCell (p:=⟨b,1,none⟩) hb _)
theorem Oe{op:Int}(A B:DV)(c d:Nat)(s xs:BU)(w:World)(hop:op<20∨23<op):
  CJ 81 #[.int .i64 op, .agg #[.slice A s.length c, .slice B xs.length d]] w (aG (dS op s xs) w):=by
 obtain⟨v,hv⟩:=FD hop;have HO:Hid (dS op s xs=([],[],1)):=by show dS op s xs=_;unfold dS;rw[aaW hop]
 clear hop;have hfd:=uX;have heq:=oK Tryz.underlying132;go_enter Tryz.func81,Tryz.ntmps81;go_wp2_with fail;refine(eD _).mono ?_;rintro e w1 ⟨g,rfl,hmd,k1⟩;have TO:Hid (Bk w1 (w.heap.size+1) none 0 0 none 0 0):=(Bk.new (aaY _ _).symm).kp k1;have K:=lH (((Kp.af _ _).al _).tr k1);clear k1;have o0:=TO.out.c0;have o1:=TO.out.c1;have o2:=TO.out.lt;have p0:=TO.out.f0 0;have p1:=TO.out.f0 1;go_wp2_with (at_lookup;refine cM rfl _ _ rfl op rfl rfl hmd _ hv ?_);refine aaX (v:= .tuple #[.agg #[zS, zS], .int .i64 1]) (by simp[results,Tryz.results81,go_sem,o0,o1,o2]) rfl ?_;exact aG.err HO.out (Kp.al ((K.out.setCell (p:=⟨w.heap.size+1,0,none⟩) (abe _) _).setCell (p:=⟨w.heap.size+1,1,none⟩) (abe _) _) _)
theorem AX{op:Int}(A B:DV)(c d:Nat)(s xs:BU)(w:World)(hA:Rd w A s)(hB:Rd w B xs)(hop:20<=op/\op<=23)(ht:aB s xs=false):
  CJ 81 #[.int .i64 op, .agg #[.slice A s.length c, .slice B xs.length d]] w (aG (dS op s xs) w):=by
 obtain⟨n,hv,_,_⟩:=IU hop;have HO:Hid (dS op s xs=([],[],30)):=by show dS op s xs=_;unfold dS;rw[aaT oM,aaW ht]
 have HC:=lH (fun W (k:Kp w W)=>av A B c d s xs W (hA.kp k) (hB.kp k));rw[ht]at HC;clear hA hB ht hop;have hfd:=uX;have heq:=iK Tryz.underlying132 (.func n) #[] #[];go_enter Tryz.func81,Tryz.ntmps81;go_wp2_with fail;refine(eD _).mono ?_;rintro e w1 ⟨g,rfl,hmd,k1⟩;have TB:Hid (Bk w1 w.heap.size A s.length c B xs.length d):=((Bk.new rfl).af _).kp k1;have TO:Hid (Bk w1 (w.heap.size+1) none 0 0 none 0 0):=(Bk.new (aaY _ _).symm).kp k1;have K:=lH (((Kp.af _ _).al _).tr k1);have t0:=TB.out.c0;have t1:=TB.out.c1;have t2:=TB.out.lt;clear k1;go_wp2_with (at_lookup;refine cM rfl _ _ rfl op rfl rfl hmd _ hv ?_);refine(HC.out _ (K.out.al _)).mono ?_;rintro e w2 ⟨rfl,k2⟩;have TO:=lH ((TO.out.af _).kp k2);have K:=lH ((K.out.al _).tr k2);clear t0 t1 t2 k2 hmd;have o0:=TO.out.c0;have o1:=TO.out.c1;have p0:=TO.out.f0 0;have p1:=TO.out.f0 1;go_wp2;refine aaX (v:= .tuple #[.agg #[zS, zS], .int .i64 30]) (by simp[results,Tryz.results81,go_sem,o0,o1]) rfl ?_;exact aG.Qm HO.out (abe _) K.out
theorem uh(op:Int)(A B:DV)(c d:Nat)(s xs:BU)(w:World)(hA:Rd w A s)(hB:Rd w B xs)(hi:bN xs):
  CJ 81 #[.int .i64 op, .agg #[.slice A s.length c, .slice B xs.length d]] w (aG (dS op s xs) w):=by
 by_cases hop:op<20∨23<op
 ·exact Oe A B c d s xs w hop
 ·cases ht:aB s xs with
  |true=>exact Og A B c d s xs w hA hB hi oM ht
  |false=>exact AX A B c d s xs w hA hB oM ht
theorem nS{s xs g:BU}(h:bN xs)(k:Nat):bN (bK s xs g k):=by
 intro x hx;unfold bK at hx;obtain⟨i,_,rfl⟩:=abN.1 hx
 cases hi:xs[(ew s g i).toNat]? with
 |none=>rw[List.getD,hi];simp
 |some x=>rw[List.getD,hi];exact h.get hi
theorem sA{s xs g ys j:BU}(ht:aB s xs=true)(hu:aB g ys=true)(hj:bG s g=(j,0)):
  cm s xs j=(j,bK s xs j (au j).toNat,0)/\cm g ys j=(j,bK g ys j (au j).toNat,0):=
 have h:=fR.1 hj
 ⟨TnG.jR ht (fU.2 h.left),TnG.jR hu (fU.2 h.right)⟩
structure Tw(w:World)(A:DV)(n c:Nat)(B:DV)(m d:Nat)(C:DV)(n' c':Nat)(D:DV)(m' d':Nat)(W:World):Prop where
 a:Bk W w.heap.size A n c B m d
 b:Bk W (w.heap.size+1) C n' c' D m' d'
 o:Bk W (w.heap.size+1+1) none 0 0 none 0 0
 k:Kp w W
section
variable{w W W':World}{A B C D:DV}{n c m d n' c' m' d':Nat}
theorem Tw.tr(h:Tw w A n c B m d C n' c' D m' d' W)(k:Kp W W'):Tw w A n c B m d C n' c' D m' d' W':=⟨h.a.kp k,h.b.kp k,h.o.kp k,h.k.tr k⟩
theorem Tw.al(h:Tw w A n c B m d C n' c' D m' d' W)(o:Obj):Tw w A n c B m d C n' c' D m' d' (W.alloc o):=h.tr (Kp.af _ _)
theorem Tw.mk_(w:World)(A:DV)(n c:Nat)(B:DV)(m d:Nat)(C:DV)(n' c':Nat)(D:DV)(m' d':Nat):Tw w A n c B m d C n' c' D m' d'
  (((w.alloc (.cells #[.slice A n c, .slice B m d] 25)).alloc (.cells #[.slice C n' c', .slice D m' d'] 25)).alloc (.cells #[zS, zS] 25)):=
 ⟨((Bk.new rfl).af _).af _,(Bk.new sC).af _,Bk.new sC,((Kp.af _ _).al _).al _⟩
end
def Fc(W:World)(b:Nat)(n:Nat):Prop:=W.cell? ⟨b,0,none⟩=some (.func (.func n) #[] #[])/\b<W.heap.size
theorem Fc.kp{W W':World}{b n:Nat}(h:Fc W b n)(k:Kp W W'):Fc W' b n:=⟨(k.cell (p:=⟨b,0,none⟩) h.2).trans h.1,abj h.2 k.size⟩
theorem Fc.new(W:World)(n:Nat)(t:TypeId):Fc (W.alloc (.cells #[.func (.func n) #[] #[]] t)) W.heap.size n:=⟨by simp,by simp⟩
theorem Nc{op:Int}(A B C D:DV)(c d c' d':Nat)(s xs g ys:BU)(w:World)(hop:op<10∨13<op):
  CJ 83 #[.int .i64 op, .agg #[.slice A s.length c, .slice B xs.length d], .agg #[.slice C g.length c', .slice D ys.length d']] w (aG (bg op s xs g ys) w):=by
 obtain⟨v,hv⟩:=D4 hop;have HO:Hid (bg op s xs g ys=([],[],1)):=by show bg op s xs g ys=_;unfold bg;rw[aaW hop]
 clear hop;have hfd:=ni;have heq:=oK Tryz.underlying133;go_enter Tryz.func83,Tryz.ntmps83;go_wp2_with fail;refine(eD _).mono ?_;rintro e w1 ⟨b,rfl,hmd,k1⟩;have TW:Hid (Tw w A s.length c B xs.length d C g.length c' D ys.length d' w1):=(Tw.mk_ w A s.length c B xs.length d C g.length c' D ys.length d').tr k1;clear k1;have o0:=TW.out.o.c0;have o1:=TW.out.o.c1;have o2:=TW.out.o.lt;have p0:=TW.out.o.f0 0;have p1:=TW.out.o.f0 1;go_wp2_with (at_lookup;refine cM rfl _ _ rfl op rfl rfl hmd _ hv ?_);refine aaX (v:= .tuple #[.agg #[zS, zS], .int .i64 1]) (by simp[results,Tryz.results83,go_sem,o0,o1,o2]) rfl ?_;exact aG.err HO.out (Kp.al ((TW.out.k.setCell (p:=⟨w.heap.size+1+1,0,none⟩) (acU (abe _)) _).setCell (p:=⟨w.heap.size+1+1,1,none⟩) (acU (abe _)) _) _)
theorem D2{op:Int}(A B C D:DV)(c d c' d':Nat)(s xs g ys:BU)(w:World)(hA:Rd w A s)(hB:Rd w B xs)(hC:Rd w C g)(hD:Rd w D ys)(hop:10<=op/\op<=13)(ht:aB s xs=false):
  CJ 83 #[.int .i64 op, .agg #[.slice A s.length c, .slice B xs.length d], .agg #[.slice C g.length c', .slice D ys.length d']] w (aG (bg op s xs g ys) w):=by
 obtain⟨n,hv,_,_⟩:=vh hop;have HO:Hid (bg op s xs g ys=([],[],30)):=by show bg op s xs g ys=_;unfold bg;rw[aaT oM,aaW (.inl ht)]
 have HC:=lH (fun W (k:Kp w W)=>av A B c d s xs W (hA.kp k) (hB.kp k));rw[ht]at HC;clear hA hB hC hD ht hop;have hfd:=ni;have heq:=iK Tryz.underlying133 (.func n) #[] #[];go_enter Tryz.func83,Tryz.ntmps83;go_wp2_with fail;refine(eD _).mono ?_;rintro e w1 ⟨b,rfl,hmd,k1⟩;have TW:Hid (Tw w A s.length c B xs.length d C g.length c' D ys.length d' w1):=(Tw.mk_ w A s.length c B xs.length d C g.length c' D ys.length d').tr k1;clear k1;have a0:=TW.out.a.c0;have a1:=TW.out.a.c1;have a2:=TW.out.a.lt;go_wp2_with (at_lookup;refine cM rfl _ _ rfl op rfl rfl hmd _ hv ?_);refine(HC.out _ (TW.out.k.al _)).mono ?_;rintro e w2 ⟨rfl,k2⟩;have TW:=lH ((TW.out.al _).tr k2);clear a0 a1 a2 k2 hmd;have o0:=TW.out.o.c0;have o1:=TW.out.o.c1;have o2:=TW.out.o.lt;have p0:=TW.out.o.f0 0;have p1:=TW.out.o.f0 1;go_wp2;refine aaX (v:= .tuple #[.agg #[zS, zS], .int .i64 30]) (by simp[results,Tryz.results83,go_sem,o0,o1]) rfl ?_;exact aG.Qm HO.out (acU (abe _)) TW.out.k
theorem DZ{op:Int}(A B C D:DV)(c d c' d':Nat)(s xs g ys:BU)(w:World)(hA:Rd w A s)(hB:Rd w B xs)(hC:Rd w C g)(hD:Rd w D ys)(hop:10<=op/\op<=13)(ht:aB s xs=true)(hu:aB g ys=false):
  CJ 83 #[.int .i64 op, .agg #[.slice A s.length c, .slice B xs.length d], .agg #[.slice C g.length c', .slice D ys.length d']] w (aG (bg op s xs g ys) w):=by
 obtain⟨n,hv,_,_⟩:=vh hop;have HO:Hid (bg op s xs g ys=([],[],30)):=by show bg op s xs g ys=_;unfold bg;rw[aaT oM,aaW (.inr hu)]
 have HC:=lH (fun W (k:Kp w W)=>av A B c d s xs W (hA.kp k) (hB.kp k));rw[ht]at HC;have HD:=lH (fun W (k:Kp w W)=>av C D c' d' g ys W (hC.kp k) (hD.kp k));rw[hu]at HD;clear hA hB hC hD ht hu hop;have hfd:=ni;have heq:=iK Tryz.underlying133 (.func n) #[] #[];go_enter Tryz.func83,Tryz.ntmps83;go_wp2_with fail;refine(eD _).mono ?_;rintro e w1 ⟨b,rfl,hmd,k1⟩;have TW:Hid (Tw w A s.length c B xs.length d C g.length c' D ys.length d' w1):=(Tw.mk_ w A s.length c B xs.length d C g.length c' D ys.length d').tr k1;clear k1;have a0:=TW.out.a.c0;have a1:=TW.out.a.c1;have a2:=TW.out.a.lt;go_wp2_with (at_lookup;refine cM rfl _ _ rfl op rfl rfl hmd _ hv ?_);refine(HC.out _ (TW.out.k.al _)).mono ?_;rintro e w2 ⟨rfl,k2⟩;have TW:=lH ((TW.out.al _).tr k2);clear a0 a1 a2 k2 hmd;have b0:=TW.out.b.c0;have b1:=TW.out.b.c1;have b2:=TW.out.b.lt;go_wp2_with fail;refine(HD.out _ TW.out.k).mono ?_;rintro e w3 ⟨rfl,k3⟩;have TW:=lH (TW.out.tr k3);clear b0 b1 b2 k3;have o0:=TW.out.o.c0;have o1:=TW.out.o.c1;have o2:=TW.out.o.lt;have p0:=TW.out.o.f0 0;have p1:=TW.out.o.f0 1;go_wp2;refine aaX (v:= .tuple #[.agg #[zS, zS], .int .i64 30]) (by simp[results,Tryz.results83,go_sem,o0,o1]) rfl ?_;exact aG.Qm HO.out (acU (abe _)) TW.out.k
theorem D6{op:Int}(A B C D:DV)(c d c' d':Nat)(s xs g ys:BU)(w:World)(hA:Rd w A s)(hB:Rd w B xs)(hC:Rd w C g)(hD:Rd w D ys)(hop:10<=op/\op<=13)(ht:aB s xs=true)(hu:aB g ys=true)(hj:bG s g=([],20)):
  CJ 83 #[.int .i64 op, .agg #[.slice A s.length c, .slice B xs.length d], .agg #[.slice C g.length c', .slice D ys.length d']] w (aG (bg op s xs g ys) w):=by
 obtain⟨n,hv,_,_⟩:=vh hop;have HO:Hid (bg op s xs g ys=([],[],20)):=by show bg op s xs g ys=_;unfold bg;rw[aaT oM,aaT (by simp[ht,hu]),hj];rfl
 have hl:=hA.len;have hl2:=hC.len;have HC:=lH (fun W (k:Kp w W)=>av A B c d s xs W (hA.kp k) (hB.kp k));rw[ht]at HC;have HD:=lH (fun W (k:Kp w W)=>av C D c' d' g ys W (hC.kp k) (hD.kp k));rw[hu]at HD;have HJ:=lH (fun W (k:Kp w W)=>qo A C c c' s g W (hA.kp k) (hC.kp k));rw[hj]at HJ;clear hA hB hC hD ht hu hop hj;have hfd:=ni;have heq:=iK Tryz.underlying133 (.func n) #[] #[];go_enter Tryz.func83,Tryz.ntmps83;go_wp2_with fail;refine(eD _).mono ?_;rintro e w1 ⟨b,rfl,hmd,k1⟩;have TW:Hid (Tw w A s.length c B xs.length d C g.length c' D ys.length d' w1):=(Tw.mk_ w A s.length c B xs.length d C g.length c' D ys.length d').tr k1;clear k1;have a0:=TW.out.a.c0;have a1:=TW.out.a.c1;have a2:=TW.out.a.lt;go_wp2_with (at_lookup;refine cM rfl _ _ rfl op rfl rfl hmd _ hv ?_);refine(HC.out _ (TW.out.k.al _)).mono ?_;rintro e w2 ⟨rfl,k2⟩;have TW:=lH ((TW.out.al _).tr k2);clear a0 a1 a2 k2 hmd;have b0:=TW.out.b.c0;have b1:=TW.out.b.c1;have b2:=TW.out.b.lt;go_wp2_with fail;refine(HD.out _ TW.out.k).mono ?_;rintro e w3 ⟨rfl,k3⟩;have TW:=lH (TW.out.tr k3);clear b0 b1 b2 k3;have a0:=TW.out.a.c0;have a1:=TW.out.a.c1;have a2:=TW.out.a.lt;have b0:=TW.out.b.c0;have b1:=TW.out.b.c1;have b2:=TW.out.b.lt;go_wp2_with fail;refine(HJ.out _ TW.out.k).mono ?_;rintro e w4 ⟨AJ,cJ,rfl,oJ,k4⟩;have TW:=lH (TW.out.tr k4);clear a0 a1 a2 b0 b1 b2 k4 oJ;have o0:=TW.out.o.c0;have o1:=TW.out.o.c1;have o2:=TW.out.o.lt;have p0:=TW.out.o.f0 0;have p1:=TW.out.o.f0 1;go_wp2;refine aaX (v:= .tuple #[.agg #[zS, zS], .int .i64 20]) (by simp[results,Tryz.results83,go_sem,o0,o1]) rfl ?_;exact aG.Qm HO.out (acU (abe _)) TW.out.k
theorem Nf{op:Int}(A B C D:DV)(c d c' d':Nat)(s xs g ys:BU)(w:World)(hA:Rd w A s)(hB:Rd w B xs)(hC:Rd w C g)(hD:Rd w D ys)(hi:bN xs)(hi2:bN ys)(hop:10<=op/\op<=13)(ht:aB s xs=true)(hu:aB g ys=true){j:BU}(hj:bG s g=(j,0)):
  CJ 83 #[.int .i64 op, .agg #[.slice A s.length c, .slice B xs.length d], .agg #[.slice C g.length c', .slice D ys.length d']] w (aG (bg op s xs g ys) w):=by
 obtain⟨n,hv,HF,HN⟩:=vh hop;have hl:=hA.len;have hl2:=hC.len;obtain⟨e1,e2⟩:=sA ht hu hj;have HO:Hid (bg op s xs g ys=if(D8 op (bK s xs j (au j).toNat) (bK g ys j (au j).toNat)).2=0 then(j,(D8 op (bK s xs j (au j).toNat) (bK g ys j (au j).toNat)).1,0)else([],[],(D8 op (bK s xs j (au j).toNat) (bK g ys j (au j).toNat)).2)):=by
  show bg op s xs g ys=_;unfold bg;rw[aaT oM,aaT (by simp[ht,hu]),hj];dsimp only;rw[aaT sC,e1,e2]
 have HC:=lH (fun W (k:Kp w W)=>av A B c d s xs W (hA.kp k) (hB.kp k));rw[ht]at HC;have HD:=lH (fun W (k:Kp w W)=>av C D c' d' g ys W (hC.kp k) (hD.kp k));rw[hu]at HD;have HJ:=lH (fun W (k:Kp w W)=>Iz.I8 A C c c' s g W (hA.kp k) (hC.kp k));rw[hj]at HJ;have i1:=nS (s:=s) (g:=j) hi (au j).toNat;have i2:=nS (s:=g) (g:=j) hi2 (au j).toNat;have l1:=nQ s xs j (au j).toNat;have l2:=nQ g ys j (au j).toNat;have HR:=lH (And.intro (TR.mk hA hB) (TR.mk hC hD));unfold D8 at HO;generalize hX:bK s xs j (au j).toNat=X at HO e1 i1 l1;generalize hY:bK g ys j (au j).toNat=Y at HO e2 i2 l2;have HX:Hid ((∀args W,(callFunc n args).run Tryz.prog W= .ok (.enter n args) W)/\∀x y,x∈X->y∈Y->∀W,CJ n #[.int .i64 x, .int .i64 y] W fun e W'=>e= .returned (.tuple #[.int .i64 (ic op x y).1, .int .i64 (ic op x y).2])/\Kp W W'):=
  ⟨HF,fun x y hx hy W=>HN x y (i1 x hx) (i2 y hy) W⟩
 obtain⟨f,hf⟩:∃f:Int×Int->Int×Int,f=fun p=>ic op p.1 p.2:=⟨_,rfl⟩
 have HX:Hid ((∀args W,(callFunc n args).run Tryz.prog W= .ok (.enter n args) W)/\∀x y,x∈X->y∈Y->∀W,CJ n #[.int .i64 x, .int .i64 y] W fun e W'=>e= .returned (.tuple #[.int .i64 (f (x,y)).1, .int .i64 (f (x,y)).2])/\Kp W W'):=by
  rw[hf];exact HX
 rw[<-hf]at HO;have HE:=lH (And.intro e1 e2);have HLN:Hid (X.length=Y.length/\(au j).toNat=(X.zip Y).length):=by
  refine lH ⟨by rw[l1,l2],?_⟩;rw[List.length_zip,l1,l2,Nat.min_self]
 clear hX hY i1 i2 l1 l2 hf HF HN hA hB hC hD ht hu hop hj e1 e2 hi hi2;have hfd:=ni;have heq:=iK Tryz.underlying133 (.func n) #[] #[];go_enter Tryz.func83,Tryz.ntmps83;go_wp2_with fail;refine(eD _).mono ?_;rintro e w1 ⟨b,rfl,hmd,k1⟩;have TW:Hid (Tw w A s.length c B xs.length d C g.length c' D ys.length d' w1):=(Tw.mk_ w A s.length c B xs.length d C g.length c' D ys.length d').tr k1;clear k1;have a0:=TW.out.a.c0;have a1:=TW.out.a.c1;have a2:=TW.out.a.lt;go_wp2_with (at_lookup;refine cM rfl _ _ rfl op rfl rfl hmd _ hv ?_);have TF:=lH (Fc.new w1 n 133);refine(HC.out _ (TW.out.k.al _)).mono ?_;rintro e w2 ⟨rfl,k2⟩;have TW:=lH ((TW.out.al _).tr k2);have TF:=lH (TF.out.kp k2);clear a0 a1 a2 k2 hmd;have b0:=TW.out.b.c0;have b1:=TW.out.b.c1;have b2:=TW.out.b.lt;go_wp2_with fail;refine(HD.out _ TW.out.k).mono ?_;rintro e w3 ⟨rfl,k3⟩;have TW:=lH (TW.out.tr k3);have TF:=lH (TF.out.kp k3);clear b0 b1 b2 k3;have a0:=TW.out.a.c0;have a1:=TW.out.a.c1;have a2:=TW.out.a.lt;have b0:=TW.out.b.c0;have b1:=TW.out.b.c1;have b2:=TW.out.b.lt;go_wp2_with fail;refine(HJ.out _ TW.out.k).mono ?_;rintro e w4 ⟨AJ,cJ,rfl,oJ,nJ,k4⟩;have NJ:Hid (Nw w.heap.size AJ j):=fun h0 ad e0=>ab3 TW.out.k.size (nJ ad e0 h0);have TW:=lH (TW.out.tr k4);have TF:=lH (TF.out.kp k4);have OJ:Hid (Sl w4 AJ cJ j):=oJ;clear nJ a0 a1 a2 b0 b1 b2 k4 oJ;have a0:=TW.out.a.c0;have a1:=TW.out.a.c1;have a2:=TW.out.a.lt
 go_wp2_with fail;refine(vq s xs j (HR.out.1.kp TW.out.k) OJ.out.rd rfl rfl rfl HE.out.1 rfl rfl).mono ?_;rintro e w5 ⟨A5,c5,B5,d5,rfl,r5,k5⟩;have TW:=lH (TW.out.tr k5);have TF:=lH (TF.out.kp k5);have OJ:=lH (OJ.out.kp k5);have R5:=lH r5;clear a0 a1 a2 k5 r5;have b0:=TW.out.b.c0;have b1:=TW.out.b.c1;have b2:=TW.out.b.lt;go_wp2_with fail;refine(vq g ys j ((HR.out.2.kp TW.out.k).af _) (OJ.out.rd.af _) rfl rfl rfl HE.out.2 rfl rfl).mono ?_;rintro e w6 ⟨A6,c6,B6,d6,rfl,r6,k6⟩;have BX:Hid (Bk w6 w5.heap.size A5 j.length c5 B5 X.length d5):=(Bk.new rfl).kp k6;have TW:=lH ((TW.out.al _).tr k6);have TF:=lH ((TF.out.kp (Kp.af _ _)).kp k6);have OJ:=lH ((OJ.out.af _).kp k6);have R5:=lH ((R5.out.af _).kp k6);have R6:=lH r6;clear b0 b1 b2 k6 r6;go_wp2_with fail;have hkx:Kp w6 (w6.alloc (.cells #[.slice A6 j.length c6, .slice B6 Y.length d6] 25)):=Kp.af _ _;have BY:Hid (Bk (w6.alloc (.cells #[.slice A6 j.length c6, .slice B6 Y.length d6] 25)) w6.heap.size A6 j.length c6 B6 Y.length d6):=Bk.new rfl;have BX:=lH (BX.out.kp hkx);have TW:=lH (TW.out.tr hkx);have TF:=lH (TF.out.kp hkx);have OJ:=lH (OJ.out.kp hkx);have R5:=lH (R5.out.kp hkx);have R6:=lH (R6.out.kp hkx);clear hkx;refine(yR f (X.zip Y) _ _ j 114 ⟨w1.heap.size,0,none⟩ ⟨w5.heap.size,0,none⟩ ⟨w6.heap.size,0,none⟩ _ w.heap.size TW.out.k.size NJ.out OJ.out.rd HLN.out.2
  (xk f X Y n _ _ _ _ _ _ _ _ R5.out.d R6.out.d HLN.out.1 TF.out.1 BX.out.c1 BY.out.c1 TF.out.2 BX.out.lt BY.out.lt HX.out.1 HX.out.2) (fun args W=>MuLone.run_callFunc_enter Tryz.func114 kM rfl args W) OJ.out.room).mono ?_
 rintro e w7 ⟨A7,c7,B7,d7,rfl,r7,q7,k7⟩;have TW:=lH (TW.out.tr k7);have R7:=lH (And.intro r7 q7);clear k7 r7 q7;rw[<-HO.out]at R7⊢;obtain⟨⟨l,k,er⟩,hlk⟩:∃r,bg op s xs g ys=r:=⟨_,rfl⟩
 rw[hlk]at R7⊢;have o0:=TW.out.o.c0;have o1:=TW.out.o.c1;have p0:=TW.out.o.f0 0;have p1:=TW.out.o.f0 1;dsimp only at R7⊢;go_wp2;refine aaX (v:= .tuple #[.agg #[.slice A7 l.length c7, .slice B7 k.length d7], .int .i64 er]) (by simp[results,Tryz.results83,go_sem,o0,o1]) rfl ?_;exact aG.gW hlk (acU (abe _)) R7.out.1 R7.out.2 TW.out.o TW.out.k
theorem eZ(op:Int)(A B C D:DV)(c d c' d':Nat)(s xs g ys:BU)(w:World)(hA:Rd w A s)(hB:Rd w B xs)(hC:Rd w C g)(hD:Rd w D ys)(hi:bN xs)(hi2:bN ys):
  CJ 83 #[.int .i64 op, .agg #[.slice A s.length c, .slice B xs.length d], .agg #[.slice C g.length c', .slice D ys.length d']] w (aG (bg op s xs g ys) w):=by
 by_cases hop:op<10∨13<op
 ·exact Nc A B C D c d c' d' s xs g ys w hop
 ·cases ht:aB s xs with
  |false=>exact D2 A B C D c d c' d' s xs g ys w hA hB hC hD oM ht
  |true=>
   cases hu:aB g ys with
   |false=>exact DZ A B C D c d c' d' s xs g ys w hA hB hC hD oM ht hu
   |true=>
    rcases gA s g with⟨j,hj,_⟩|hj
    ·exact Nf A B C D c d c' d' s xs g ys w hA hB hC hD hi hi2 oM ht hu hj
    ·exact D6 A B C D c d c' d' s xs g ys w hA hB hC hD oM ht hu hj
end Go.Proofs.YtokeebkaamjliaaGreat
namespace Go.Proofs.ShM
open cF
theorem qg{α:Type}{f:α->Int×Int}{l:List α}{g:α->Int}(h:∀x∈l,f x=(g x,0)):cL f l=(l.map g,0):=by
 have e:cE f l=0:=fH.2 fun x hx=>by rw[h x hx]
 unfold cL;rw[aaW e];congr 1;exact List.map_congr_left fun x hx=>by rw[h x hx]
theorem Gi{f:Nat->Int×Int}{N:Nat}(h:(cL f (List.range N)).2=0){i:Nat}(hi:i<N):f i=((cL f (List.range N)).1.getD i 0,0):=by
 obtain⟨h1,h2⟩:=mR h;rw[h2];have h3:=fH.1 h1 i (abZ.2 hi);refine Prod.ext ?_ h3;simp[List.getD,aa7,abm hi]
def atN(op:Int)(s xs t ys j:BU)(i:Nat):Int×Int:=ic op (xs.getD (ew s j i).toNat 0) (ys.getD (ew t j i).toNat 0)
def DR(j:BU)(r:BU×Int):Tn:=if r.2=0 then(j,r.1,0)else([],[],r.2)
theorem LS{j l:BU}:DR j (l,0)=(j,l,0):=by unfold DR;rw[aaW rfl]
theorem sY{j:BU}{r:BU×Int}(h:(DR j r).2.2=0):r.2=0/\DR j r=(j,r.1,0):=by
 unfold DR at *;by_cases c:r.2=0
 ·rw[aaW c];exact⟨c,rfl⟩
 ·rw[aaT c]at h;exact absurd h c
theorem joined{s t j:BU}(h:bG s t=(j,0)):okS s=true/\okS t=true/\okS j=true/\cw s j=true/\cw t j=true:=by
 have h':=fR.1 h;exact⟨h'.1,h'.2.1,h'.2.2.1,fU.2 h'.left,fU.2 h'.right⟩
theorem rm{s xs g:BU}(h:aB s xs=true)(k:cw s g=true):cm s xs g=(g,bK s xs g (au g).toNat,0):=by unfold cm;rw[aaW h,aaW k]
section
variable{op:Int}{s xs t ys j:BU}
theorem lN(hop:10<=op/\op<=13)(h1:aB s xs=true)(h2:aB t ys=true)(hj:bG s t=(j,0)):bg op s xs t ys=DR j (cL (atN op s xs t ys j) (List.range (au j).toNat)):=by
 obtain⟨_,_,_,f1,f2⟩:=joined hj;have e1:cm s xs j=(j,bK s xs j (au j).toNat,0):=rm h1 f1;have e2:cm t ys j=(j,bK t ys j (au j).toNat,0):=rm h2 f2;have e3:D8 op (bK s xs j (au j).toNat) (bK t ys j (au j).toNat)=cL (atN op s xs t ys j) (List.range (au j).toNat):=by
  unfold D8 bK;rw[List.zip_map'];exact yj fun i _=>rfl
 unfold bg;rw[aaT oM,aaT (by simp[h1,h2]),hj];dsimp only;rw[aaT sC,e1,e2];dsimp only;rw[e3];rfl
theorem nN(hop:10<=op/\op<=13)(h1:aB s xs=true)(h2:aB t ys=true)(hj:bG s t=([],20)):bg op s xs t ys=([],[],20):=by
 unfold bg;rw[aaT oM,aaT (by simp[h1,h2]),hj];rfl
theorem jb(hop:10<=op/\op<=13)(h:aB s xs=false∨aB t ys=false):bg op s xs t ys=([],[],30):=by
 unfold bg;rw[aaT oM,aaW h]
theorem oR(hop:op<10∨13<op):bg op s xs t ys=([],[],1):=by unfold bg;rw[aaW hop]
theorem iB(hop:10<=op/\op<=13)(h:(bg op s xs t ys).2.2=0):∃j Z,aB s xs=true/\aB t ys=true/\bG s t=(j,0)/\bg op s xs t ys=(j,Z,0)/\Z.length=(au j).toNat/\aB j Z=true/\∀i,i<(au j).toNat->atN op s xs t ys j i=(Z.getD i 0,0):=by
 cases h1:aB s xs with
 |false=>rw[jb hop (.inl h1)]at h;cases h
 |true=>
  cases h2:aB t ys with
  |false=>rw[jb hop (.inr h2)]at h;cases h
  |true=>
   rcases gA s t with⟨j,hj,ho⟩|hj
   ·rw[lN hop h1 h2 hj]at h;obtain⟨z,e⟩:=sY h;have hl:(cL (atN op s xs t ys j) (List.range (au j).toNat)).1.length=(au j).toNat:=by rw[jx z];simp
    refine⟨j,_,rfl,rfl,hj,by rw[lN hop h1 h2 hj,e],hl,?_,fun i hi=>Gi z hi⟩;exact aA.2 ⟨ho,by rw[hl,bW ho]⟩
   ·rw[nN hop h1 h2 hj]at h;cases h
theorem zB{Z:BU}(hop:10<=op/\op<=13)(h1:aB s xs=true)(h2:aB t ys=true)(hj:bG s t=(j,0))(hl:Z.length=(au j).toNat)(h:∀i,i<(au j).toNat->atN op s xs t ys j i=(Z.getD i 0,0)):bg op s xs t ys=(j,Z,0):=by
 rw[lN hop h1 h2 hj,qg (g:=fun i=>Z.getD i 0) (fun i hi=>h i (abZ.1 hi)),LS];have:(List.range (au j).toNat).map (fun i=>Z.getD i 0)=Z:=by
  refine LL (by simp[hl]) fun i hi=>?_
  have hi':i<(au j).toNat:=by simpa using hi
  simp[List.getD,aa7,abm hi']
 rw[this]
end
theorem iR(n:Int): -9223372036854775808<=(put n).1/\(put n).1<=9223372036854775807:=by
 rcases dN n with⟨h1,h2,e⟩|⟨_,e⟩
 ·rw[e];exact⟨h1,h2⟩
 ·rw[e];simp
theorem FG(op a b:Int): -9223372036854775808<=(ic op a b).1/\(ic op a b).1<=9223372036854775807:=by
 unfold ic cY DK dX nE
 repeat' split
 all_goals first
  |exact iR _
  |simp
theorem tN(op:Int)(s xs t ys:BU)(h:(bg op s xs t ys).2.2≠0):bg op s xs t ys=([],[],(bg op s xs t ys).2.2):=by
 by_cases hop:op<10∨13<op
 ·rw[oR hop]
 ·have CA:10<=op/\op<=13:=by omega
  cases h1:aB s xs with
  |false=>rw[jb CA (.inl h1)]
  |true=>
   cases h2:aB t ys with
   |false=>rw[jb CA (.inr h2)]
   |true=>
    rcases gA s t with⟨j,hj,_⟩|hj
    ·rw[lN CA h1 h2 hj]at h⊢;unfold DR at *;by_cases c:(cL (atN op s xs t ys j) (List.range (au j).toNat)).2=0
     ·rw[aaW c]at h;exact absurd rfl h
     ·rw[aaT c]
    ·rw[nN CA h1 h2 hj]
theorem JG(op:Int)(s xs t ys:BU):bN (bg op s xs t ys).2.1:=by
 by_cases hop:op<10∨13<op
 ·rw[oR hop];exact bN.bU
 ·have CA:10<=op/\op<=13:=by omega
  by_cases h:(bg op s xs t ys).2.2=0
  ·obtain⟨j,Z,_,_,_,e,hl,_,hz⟩:=iB CA h;rw[e];intro x hx;obtain⟨i,hi,rfl⟩:=acv.1 hx;have h1:=hz i (by rw[<-hl];exact hi);have h2:Z.getD i 0=Z[i]:=by simp[List.getD,aaV hi]
   rw[h2]at h1;have h3:=FG op (xs.getD (ew s j i).toNat 0) (ys.getD (ew t j i).toNat 0);unfold atN at h1;rw[h1]at h3;exact h3
  ·rw[tN op s xs t ys h];exact bN.bU
theorem mO(a b:Int):dX a b=dX b a:=by unfold dX;rw[acn]
theorem join_self{s:BU}(h:okS s=true):bG s s=(s,0):=fR.2 (Jn.self h)
theorem zR{s xs:BU}(h:aB s xs=true){i:Nat}(hi:i<(au s).toNat):(ew s s i).toNat=i:=by
 have ho:=(aW h).1;have:=bW ho;rw[vp ho oM oM];omega
theorem fS{xs:BU}(h:bN xs)(i:Nat): -9223372036854775808<=xs.getD i 0/\xs.getD i 0<=9223372036854775807:=by
 cases hi:xs[i]? with
 |none=>rw[List.getD,hi];simp
 |some x=>rw[List.getD,hi];exact h.get hi
