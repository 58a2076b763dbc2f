import Derived.Test.YtokeebkaamjliaaGreatTnAll
set_option maxHeartbeats 16000000
set_option maxRecDepth 100000
set_option linter.unusedVariables false
set_option linter.unusedSimpArgs false
namespace Go.Proofs.ShM
def aJ(s xs g:BU):Tn:=if aB s xs=false then([],[],30)else if au g=(xs.length:Int)then(g,xs,0)else([],[],20)
def bJ(s xs:BU):BU:=(List.range xs.length).map fun i:Nat=>(atV s xs (dR s.reverse i).reverse).1
def bF(s xs:BU):Tn:=if aB s xs=false then([],[],30)else(s.reverse,bJ s xs,0)
def upL(x:BU)(k:Nat)(m:Int):BU:=x.set k (x.getD k 0+m)
def dU(s xs g:BU)(k:Nat)(m:Int):BU:=(List.range (au g).toNat).map fun i:Nat=>(atV s xs (upL (dR g i) k m)).1
def aS(s xs:BU)(aj a b:Int):Tn:=
 if aB s xs=false then([],[],30)else if aj<0∨(s.length:Int)<=aj∨a<0∨b<=a∨s.getD aj.toNat 0<b then([],[],20)else
  (s.set aj.toNat (b-a),dU s xs (s.set aj.toNat (b-a)) aj.toNat a,0)
def lS(s xs:BU)(aj a side:Int):Tn:=
 if aB s xs=false then([],[],30)else if aj<0∨(s.length:Int)<=aj∨a<0∨16<side∨side-s.getD aj.toNat 0<a∨okS (s.set aj.toNat side)=false then([],[],20)else
  (s.set aj.toNat side,dU s xs (s.set aj.toNat side) aj.toNat (-a),0)
def qI(s xs t ys h:BU)(k:Nat):BU:=
 (List.range (au h).toNat).map fun i:Nat=>if(dR h i).getD k 0<s.getD k 0 then(dU s xs h k 0).getD i 0 else(dU t ys h k (-(s.getD k 0))).getD i 0
def eE(s xs t ys:BU)(aj:Int):Tn:=
 if aB s xs=false∨aB t ys=false then([],[],30)else if aj<0∨(s.length:Int)<=aj∨s.length≠t.length∨s.set aj.toNat 1≠t.set aj.toNat 1∨okS (s.set aj.toNat (s.getD aj.toNat 0+t.getD aj.toNat 0))=false then([],[],20)else
  (s.set aj.toNat (s.getD aj.toNat 0+t.getD aj.toNat 0),qI s xs t ys (s.set aj.toNat (s.getD aj.toNat 0+t.getD aj.toNat 0)) aj.toNat,0)
theorem Bv(s xs g:BU)(k:Nat)(m:Int):(dU s xs g k m).length=(au g).toNat:=by unfold dU;simp
theorem zC(s xs:BU):(bJ s xs).length=xs.length:=by unfold bJ;simp
def Ta(f:Nat->Int)(N k:Nat)(zs:BU):Prop:=k<=N/\zs=(List.range k).map f
theorem En(f:Nat->Int)(N:Nat):Ta f N 0 []:=⟨aa6 _,rfl⟩
theorem Ns{f:Nat->Int}{N k:Nat}{zs:BU}(h:Ta f N k zs):zs.length=k:=by rw[h.2];simp
theorem JQ{f:Nat->Int}{N k:Nat}{zs ys:BU}{y:Int}(h:Ta f N k zs)(hk:k<N)(hy:f k=y)(e:ys=zs++[y]):Ta f N (k+1) ys:=by
 refine⟨hk,?_⟩;rw[e,h.2,acN,abK,<-hy];rfl
theorem Nt{f:Nat->Int}{N k:Nat}{zs:BU}(h:Ta f N k zs)(hk:¬k<N):zs=(List.range N).map f:=by
 have:k=N:=by have:=h.1;omega
 rw[<-this];exact h.2
end Go.Proofs.ShM
namespace Go.Proofs.YtokeebkaamjliaaGreat
open RowKit ShM
theorem bZ{a b:World}(h:Kp a.drew b):Kp a b:=⟨h.os,h.tape,h.output,h.size,h.block⟩
theorem Bk.tb{W W':World}{B0 b n c m d:Nat}{A B:DV}(h:Bk W b A n c B m d)(k:Below B0 W W')(hb:b<B0):Bk W' b A n c B m d:=(k.block b hb).trans h
def yZ(b0:Nat)(l k:BU)(w:World)(e:Ending)(w':World):Prop:=∃A c B d,e= .returned (.agg #[.slice A l.length c, .slice B k.length d])/\Sw b0 w' A c l/\Sw b0 w' B d k/\Kp w w'
theorem Hv{g:BU}(h:okS g=true){k:Nat}(hk:(k:Int)<au g){i:Nat}{x:Int}(hx:(dR g k)[i]?=some x):0<=x/\x<=16:=by
 have h1:=(uY (bI h) (p:=(k:Int)) oM (by rw[<-aL h];exact hk)).1;clear hk;generalize dR g k=t at h1 hx;have hs:=bI h;clear h
 induction g generalizing t i with
 |nil=>
  cases t with
  |nil=>simp at hx
  |cons a t=>simp[aZ]at h1
 |cons a g ih=>
  cases t with
  |nil=>simp at hx
  |cons b t=>
   simp[aZ]at h1;simp only[ach,abb]at hs;have ha:=ct.1 hs.1
   cases i with
   |zero=>simp at hx;subst hx;omega
   |succ i=>
    have hx':t[i]?=some x:=by simpa using hx
    first
    |exact ih t h1.2 hx' hs.2
    |exact ih t hx' h1.2 hs.2
    |exact ih _ hx' h1.2 hs.2
    |exact ih hs.2 _ h1.2 hx'
    |exact ih hx' _ h1.2 hs.2
theorem Oi{s:BU}(h:okS s=true){k:Nat}{x y:Int}(hx:s[k]?=some x)(h1:1<=y)(h2:y<=x):okS (s.set k y)=true:=by
 obtain⟨g1,g2,g3⟩:=aD.1 h;have hxb:=cN g2 hx;have hall:(s.set k y).all aX=true:=by
  rw[abn];intro z hz;rcases acE hz with hz|hz
  ·exact abn.1 g2 z hz
  ·rw[hz];exact ct.2 ⟨h1,oM⟩
 refine aD.2 ⟨by simpa using g1,hall,?_⟩;have hk:=(aaU.1 hx).1;have e1:s=s.take k++x::s.drop (k+1):=by rw[<-bP hx];simp
 have e2:s.set k y=s.take k++y::s.drop (k+1):=by
  rw[List.set_eq_take_append_cons_drop,aaW hk]
 have p1:ai s=ai (s.take k)*(x*ai (s.drop (k+1))):=by
  conv=>lhs;rw[e1,prod_append]
  rfl
 have p2:ai (s.set k y)=ai (s.take k)*(y*ai (s.drop (k+1))):=by
  rw[e2,prod_append];rfl
 rw[p2];rw[p1]at g3;have q1:=aY (iL g2 k);have q2:=aY (dA g2 (k+1));have m1:y*ai (s.drop (k+1))<=x*ai (s.drop (k+1)):=abY h2 oM;have m2:=abL m1 (show 0<=ai (s.take k) by omega);omega
end Go.Proofs.YtokeebkaamjliaaGreat
namespace Go.Proofs.ShM
def Rv(xs:BU)(k:Nat)(zs:BU):Prop:=zs.length=xs.length/\2*k<=xs.length+1/\∀i,i<xs.length->zs[i]?=if i<k∨xs.length<=i+k then xs[xs.length-1-i]? else xs[i]?
theorem EM(xs:BU):Rv xs 0 xs:=⟨rfl,oM,fun i hi=>by rw[aaT oM]⟩
theorem NG{xs zs:BU}{k m:Nat}(h:Rv xs k zs)(hm:k+m+1=xs.length)(hk:k<m):∃a b,xs[k]?=some a/\xs[m]?=some b/\zs[k]?=some a/\zs[m]?=some b:=by
 obtain⟨h1,h2,h3⟩:=h;refine⟨xs[k]'oM,xs[m]'oM,aaV _,aaV _,?_,?_⟩
 ·rw[h3 k oM,aaT oM];exact aaV _
 ·rw[h3 m oM,aaT oM];exact aaV _
theorem J0{xs zs:BU}{k m:Nat}{a b:Int}(h:Rv xs k zs)(hm:k+m+1=xs.length)(hk:k<m)(ha:xs[k]?=some a)(hb:xs[m]?=some b):Rv xs (k+1) ((zs.set k b).set m a):=by
 obtain⟨h1,h2,h3⟩:=h;refine⟨by simpa using h1,oM,fun i hi=>?_⟩;by_cases e1:i=m
 ·subst e1;rw[abt (by simp;omega),aaW oM,<-ha];congr 1;omega
 ·rw[ab2 oM];by_cases e2:i=k
  ·subst e2;rw[abt oM,aaW oM,<-hb];congr 1;omega
  ·rw[ab2 oM,h3 i hi];by_cases e3:i<k∨xs.length<=i+k
   ·rw[aaW e3,aaW oM]
   ·rw[aaT e3,aaT oM]
theorem NH{xs zs:BU}{k:Nat}(h:Rv xs k zs)(hk:¬(k:Int)<(xs.length:Int)-1-k):zs=xs.reverse:=by
 obtain⟨h1,h2,h3⟩:=h;apply List.ext_getElem?;intro i;by_cases hi:i<xs.length
 ·rw[h3 i hi,List.getElem?_reverse hi];split
  ·rfl
  ·rename_i e;congr 1;omega
 ·rw[abO oM,abO (by simp;omega)]
end Go.Proofs.ShM
namespace Go.Proofs.YtokeebkaamjliaaGreat
open RowKit ShM
def SM(B:Nat)(A:DV)(n c:Nat)(xs:BU)(w:World)(e:Ending)(w':World):Prop:=(∃v,e= .returned v)/\Own B w' (.slice A n c) xs.reverse/\Below B w w'
theorem Am(A:DV)(c B:Nat)(xs:BU)(w:World)(h:Own B w (.slice A xs.length c) xs)(hl:xs.length<=1000):
  CJ 75 #[.slice A xs.length c] w (SM B A xs.length c xs w):=by
 by_cases h0:xs.length=0
 ·obtain rfl:xs=[]:=abd h0;have HO:=lH h;clear h h0 hl;go_enter Tryz.func75,Tryz.ntmps75;go_wp2
  go_loopw [2,3] (fun i j wr=>i= .int .i64 0/\j= .int .i64 (-1)/\wr=w) (fun _ _ _=>0)
  case atStart=>exact⟨rfl,rfl,rfl⟩
  case round=>
   obtain⟨rfl,rfl,rfl⟩:=hrel;go_wp2
   go_end0
   exact⟨⟨_,rfl⟩,HO.out,abu _ _⟩
 ·obtain⟨g,rfl,hg1,hg2⟩:=h.addr oM;have HO:=lH h;have HS:=lH (EM xs);have hn:1<=xs.length:=by omega
  clear h h0;go_enter Tryz.func75,Tryz.ntmps75;go_wp2
  go_loopw [2,3] (fun i j wr=>∃(k:Nat) (zs:BU),i= .int .i64 k/\j= .int .i64 ((xs.length:Int)-1-k)/\Hid (Rv xs k zs)/\Hid (Own B wr (.slice (some ⟨g,0,none⟩) xs.length c) zs)/\Hid (Below B w wr)) (fun i _ _=>xs.length-(intOf i).toNat)
  case atStart=>exact⟨0,xs,rfl,by go_num,HS.out,HO.out,abu _ _⟩
  case round=>
   obtain⟨k,zs,rfl,rfl,hr,hown,hb⟩:=hrel;have hk2:2*k<=xs.length+1:=hr.out.2.1;by_cases hlt:(k:Int)<(xs.length:Int)-1-k
   ·obtain⟨m,hm⟩:∃m:Nat,(xs.length:Int)-1-k=m:=⟨((xs.length:Int)-1-k).toNat,oM⟩
    rw[hm]at hlt⊢;have hkm:k<m:=by omega
    have RR:k+m+1=xs.length:=by omega
    obtain⟨a,b,ha,hbb,hza,hzb⟩:=NG hr.out RR hkm;have HR2:=lH (J0 hr.out RR hkm ha hbb);have e1:=hown.out.cell_ hza;have e2:=hown.out.cell_ hzb;have e3:=hown.out.fE k;have e4:=hown.out.fE m;have j1:(0:Int)<=(k:Int):=by omega
    have j2:(k:Int)<(xs.length:Int):=by omega
    have j3:(0:Int)<=(m:Int):=by omega
    have j4:(m:Int)<(xs.length:Int):=by omega
    have HM:=lH hm;clear ha hbb hza hzb RR hm;have hne:¬k=m:=by omega
    go_wp2
    go_region
    all_goals
     go_wp2;go_roundw
     case rel=>
      have hmm:=HM.out;refine⟨k+1,(zs.set k b).set m a,by go_num,by go_num,HR2.out,?_,?_⟩
      ·exact((hown.out.drew).kY k b).kY m a
      ·exact((hb.out.drew).setCell (p:=⟨g,k,none⟩) hg1 _).setCell (p:=⟨g,m,none⟩) hg1 _
     case measure=>simp[intOf];omega
   ·have HE:=lH (NH hr.out hlt);go_wp2
    go_end0
    exact⟨⟨_,rfl⟩,by rw[<-HE.out];exact hown.out,hb.out⟩
theorem mF(A:DV)(c:Nat)(l:BU)(w:World)(h:Rd w A l)(hl:l.length<=1000):
  CJ 119 #[.slice A l.length c] w (oQ l.reverse w):=by
 have HC:=lH (cv A c l w h oM);have HL:Hid (l.length<=1000):=hl;clear h;go_enter Tryz.func119,Tryz.ntmps119;go_wp2_with fail;refine HC.out.mono ?_;rintro e w1 ⟨A1,c1,rfl,o1,k1⟩;have HK:=lH k1;have HR:=lH (Am A1 c1 w.heap.size l w1 o1 HL.out);clear k1 o1;go_wp2_with fail;refine HR.out.mono ?_;rintro e w2 ⟨⟨v,rfl⟩,o2,b2⟩;have HO:=lH o2;have HB:=lH b2;clear o2 b2;go_wp2;go_ret;exact oQ.on sC HO.out (HK.out.trans HB.out)
theorem mI(A B C:DV)(c d g:Nat)(s xs t:BU)(w:World)(hA:Rd w A s)(hB:Rd w B xs)(hC:Rd w C t):
  CJ 121 #[.agg #[.slice A s.length c, .slice B xs.length d], .slice C t.length g] w fun e w'=>e= .returned (.int .i64 (atV s xs t).1)/\Kp w w':=by
 have K0:Hid (Kp w (w.alloc (.cells #[.slice A s.length c, .slice B xs.length d] 25))):=Kp.af _ _;have HT:=lH (PF A B C c d g s xs t _ (hA.kp K0.out) (hB.kp K0.out) (hC.kp K0.out));clear hA hB hC;generalize (atV s xs t).1=x at HT⊢;generalize (atV s xs t).2=y at HT;go_enter Tryz.func121,Tryz.ntmps121;go_wp2_with fail;refine(aa9 (Hid.out HT)) ?_;rintro e w1 ⟨rfl,k1⟩;have K1:=lH (K0.out.tr k1);clear k1;go_wp2;go_ret;exact⟨rfl,K1.out⟩
theorem d9(A B:DV)(c d n m:Nat)(aj:Int)(w:World)(h0:0<=aj)(h1:aj<(n:Int))(hn:n<=9223372036854775807):
  CJ 122 #[.agg #[.slice A n c, .slice B m d], .int .i64 aj] w fun e w'=>e= .returned (.bool true)/\Kp w w':=by
 have K0:Hid (Kp w (w.alloc (.cells #[.slice A n c, .slice B m d] 25))):=Kp.af _ _;go_enter Tryz.func122,Tryz.ntmps122;go_wp2;go_ret;exact⟨rfl,K0.out⟩
theorem iH(A B:DV)(c d n m:Nat)(aj:Int)(w:World)(h0:aj<0∨(n:Int)<=aj)(hn:n<=9223372036854775807):
  CJ 122 #[.agg #[.slice A n c, .slice B m d], .int .i64 aj] w fun e w'=>e= .returned (.bool false)/\Kp w w':=by
 have K0:Hid (Kp w (w.alloc (.cells #[.slice A n c, .slice B m d] 25))):=Kp.af _ _;by_cases hx:aj<0
 ·have hx':¬0<=aj:=by omega
  clear h0;go_enter Tryz.func122,Tryz.ntmps122;go_wp2;go_ret;exact⟨rfl,K0.out⟩
 ·have hx':0<=aj:=by omega
  have hy:¬aj<(n:Int):=by omega
  clear h0;go_enter Tryz.func122,Tryz.ntmps122;go_wp2;go_ret;exact⟨rfl,K0.out⟩
theorem jf(A:DV)(c:Nat)(l:BU)(k:Nat)(n:Int)(w:World)(h:Rd w A l)(hl:l.length<=1000)(hk:k<l.length):
  CJ 123 #[.slice A l.length c, .int .i64 (k:Int), .int .i64 n] w (oQ (l.set k n) w):=by
 have HC:=lH (cv A c l w h oM);have j1:(0:Int)<=(k:Int):=by omega
 have j2:(k:Int)<(l.length:Int):=by omega
 clear h;go_enter Tryz.func123,Tryz.ntmps123;go_wp2_with fail;refine HC.out.mono ?_;rintro e w1 ⟨A1,c1,rfl,o1,k1⟩;obtain⟨g,rfl,hg1,hg2⟩:=o1.addr oM;have HK:=lH k1;have HO:=lH o1;have e1:=HO.out.cell_ (aaV hk);have e2:=HO.out.fE k;clear k1 o1;go_wp2;go_ret;exact oQ.on sC (HO.out.kY k n) (HK.out.setCell (p:=⟨g,k,none⟩) hg1 _)
open Shelf
attribute [local go_sem] Oper.semAt_some
section
variable{P:Program}{α:Type}
def Told(P:Program)(n:Nat)(g:Nat)(lb:Array Value)(encs:α->Array Value)(E:Nat->α->Nat->World->Prop)(Z:World->Prop)(N:Nat)(w:World):Prop:=
 ∀(l:Nat) (J:Nat->World->Prop) (W:World),Kp w W->(∀k A B,J k A->Kp A B->J k B)->
  (∀k x A B,k<N->J k A->Kp A B->E k x A.heap.size B->YieldAt Fence.wide (n-1) P l (encs x) B fun e W'=>e= .returned (.bool true)/\J (k+1) W'/\(Z A->Z W'))->
  J 0 W->CallsIn Fence.wide n P g (#[.func (.yield l) #[] #[]]++lb) W fun e W'=>(∃v,e= .returned v)/\J N W'
def Eb(I:Nat->World->Prop)(Z:World->Prop)(k:Nat)(A:World):Exit->Act->World->Prop
 | .normal,_,W'=>(∀j o,j<A.heap.size->A.heap[j]?=some o->o.isCells=false->W'.heap[j]?=some o)/\(Z A->Z W')/\I (k+1) W'
 |_,_,_=>False
theorem OH{A B:World}(k:Kp A B){l:Nat}(o:Obj)(hl:l<A.heap.size):Kp (A.putObj l o) (B.putObj l o):=
 ⟨k.os,k.tape,k.output,by simpa using k.size,fun j hj=>by
  have hj':j<A.heap.size:=by simpa using hj
  by_cases e:j=l
  ·subst e;rw[World.putObj_heap_same hl,World.putObj_heap_same (abj hl k.size)]
  ·rw[World.putObj_heap_other e,World.putObj_heap_other e];exact k.block j hj'⟩
theorem bB{A B:World}(k:Kp A B){j:Nat}{o:Obj}(h:A.heap[j]?=some o):B.heap[j]?=some o:=
 (k.block j (aa0.1 h).1).trans h
theorem zo{n:Nat}{g:Operand}{ps:Array Tmp}{assign body:Code}{Q:Exit->Act->World->Prop}{a:Act}{w:World}(h1:1<=n){gf:Nat}{lb:Array Value}
  (hg:a.eval g= .func (.func gf) #[] lb)(eg:∀args w,(callFunc gf args).run P w= .ok (.enter gf args) w){encs:α->Array Value}{E:Nat->α->Nat->World->Prop}{Z:World->Prop}{N:Nat}
  (hseq:Told P (n-1) gf lb encs E Z N w)(hps:∀x,(encs x).size=ps.size)
  (hZ:∀W l o o',w.heap.size<=l->W.heap[l]?=some o->o.isCells=false->Z W->Z (W.putObj l o'))
  (hE:∀k x b W l o o',W.heap[l]?=some o->o.isCells=false->E k x b W->E k x b (W.putObj l o'))
  (I:Nat->World->Prop)(hI:∀k A B,I k A->Kp A B->I k B)(hI2:∀k W l o o',w.heap.size<=l->W.heap[l]?=some o->o.isCells=false->I k W->I k (W.putObj l o'))(h0:I 0 w)(a₁:α->Act)
  (hassign:∀(l:Nat) (x:α) (W:World) (K:Act->World->Prop),K (a₁ x) W->
   assign.wpIn (Fence.wide.inRound l) (n-1-1) P (Exit.then K (fun _ _ _=>False)) {tmps:=(ps.zip (encs x)).foldl (fun t (p,v)=>t.setIfInBounds p v) a.tmps,defers:=[]} W)
  (hbody:∀(l k:Nat) (x:α) (A B:World),k<N->I k A->Kp A B->E k x A.heap.size B->body.wpIn (Fence.wide.inRound l) (n-1-1) P (Eb I Z k A) (a₁ x) B)
  (hdone:∀(D:Nat) (W:World),w.heap.size<=D->I N W->W.heap[D]?=some (.deferred (some []))->Q .normal {a with defers:={target:= .collected D,args:= #[]}::a.defers} W):
  (Code.rangeFunc g ps assign body).wpIn Fence.wide n P Q a w:=by
 apply wpIn_rangeFunc;intro fn _;generalize hL:w.heap.size+1=L;generalize hrec:(fun(s:LoopState) (p:Option Code)=>({state:=s,pending:=p,fn:=fn,tmps:=a.tmps,params:=ps,assign:=assign,body:=body,defers:=w.heap.size}:Loop))=mk;have hst:∀s p,(mk s p).state=s:=fun s p=>by rw[<-hrec]
 generalize hV:(w.alloc (.deferred (some []))).alloc (.loop (mk .ready none))=V;have hsz:V.heap.size=w.heap.size+2:=by rw[<-hV];simp
 have kV:Kp w V:=by rw[<-hV];exact(Kp.af _ _).al _
 have vL:V.heap[L]?=some (.loop (mk .ready none)):=by
  rw[<-hV,<-hL];have h:=World.alloc_heap_new (w.alloc (.deferred (some []))) (.loop (mk .ready none));rw[aaY]at h;exact h
 have vD:V.heap[w.heap.size]?=some (.deferred (some [])):=by
  rw[<-hV];exact(Below.heap_alloc _ _ _ sC).trans (World.alloc_heap_new w _)
 have H:=hseq L (fun k W=>I k W/\W.heap[L]?=some (.loop (mk .ready none))/\W.heap[w.heap.size]?=some (.deferred (some []))) V kV
  (fun k A B h kp=>⟨hI k A B h.1 kp,bB kp h.2.1,bB kp h.2.2⟩) (fun k x A B hk hJ kp he=>by
   obtain⟨hi,hl,hd⟩:=hJ;have hLA:L<A.heap.size:=(aa0.1 hl).1;have hlB:=bB kp hl;have hy:=run_yield (P:=P) (args:=encs x) hlB (by rw[<-hrec];exact hps x);rw[<-hrec]at hy;refine⟨fn,_,assign,body,hy,roundIn_of_wpIn trivial (hassign L x B _ ⟨_,run_beginRound hlB (hst _ _),?_⟩)⟩;have hb:=hbody L k x (A.putObj L (.loop {mk .ready none with state:= .busy})) (B.putObj L (.loop {mk .ready none with state:= .busy})) hk
    (hI2 k A L _ _ oM hl rfl hi) (OH kp _ hLA) (by rw[World.putObj_size];exact hE k x _ B L _ _ hlB rfl he)
   refine wpIn_mono hb ?_;intro e a3 W3 hp
   cases e with
   |normal=>
    obtain⟨hkeep,hz,hi3⟩:=hp;have hl3:=hkeep L _ (by rw[World.putObj_size];exact hLA) (World.putObj_heap_same hLA) rfl;have hd3:=hkeep w.heap.size _ (by rw[World.putObj_size];exact(aa0.1 hd).1) ((World.putObj_heap_other oM).trans hd) rfl;have Qx:=(aa0.1 hl3).1;refine⟨_,_,run_endRound none hl3,rfl,⟨hI2 _ W3 L _ _ oM hl3 rfl hi3,?_,(World.putObj_heap_other oM).trans hd3⟩,fun z=>hZ W3 L _ _ oM hl3 rfl (hz (hZ A L _ _ oM hl rfl z))⟩;rw[World.putObj_heap_same Qx,<-hrec];rfl
   |_=>exact hp.elim) ⟨hI 0 w V h0 kV,vL,vD⟩
 refine⟨L,[{target:= .collected w.heap.size,args:= #[]}],V,{target:= .fn (.func gf) lb,args:= #[.func (.yield L) #[] #[]]},V,gf,#[.func (.yield L) #[] #[]]++lb,V,?_,?_,fun _ _=>trivial,?_,fun _=>h1,?_⟩
 ·rw[<-hV,<-hrec,<-hL];exact run_enterLoop_outer _ _ _ _ _
 ·simp only[resolve,hg];simp[go_sem]
 ·simp[invoke,go_sem,eg]
 ·refine H.mono ?_;rintro e W2 ⟨⟨v,rfl⟩,hi,hl,hd⟩;have hend:=run_endLoop (P:=P) hl (by rw[hst];simp);refine⟨none,W2.putObj L (.loop {mk .ready none with state:= .exhausted}),?_,hdone w.heap.size _ (aaZ _) (hI2 _ W2 L _ _ oM hl rfl hi) ((World.putObj_heap_other oM).trans hd)⟩;rw[hend,<-hrec]
end
structure Zi(Bs:Nat)(C:DV)(g:BU)(e:Nat)(W:World):Prop where
 b:Boxed W Bs 23 (.slice C g.length e)
 r:Rd W C g
section
variable{Bs e:Nat}{C:DV}{g:BU}{W W':World}
theorem Zi.kp(h:Zi Bs C g e W)(k:Kp W W'):Zi Bs C g e W':=⟨bB k h.b,h.r.kp k⟩
end
theorem uJ(C:DV)(n e:Nat)(w:World):
  CJ 164 #[.slice C n e] w fun en w'=>en= .returned (.func (.func 185) #[] #[pX w.heap.size 0])/\w'=w.alloc (.cells #[.slice C n e] 23):=by
 go_enter Tryz.func164,Tryz.ntmps164;go_wp2;go_ret;exact⟨rfl,rfl⟩
theorem sF(C:DV)(e:Nat)(g:BU)(N Bs n:Nat)(w:World)(hz:Zi Bs C g e w)(hN:au g=N)(hn:1<=n):
  Told Tryz.prog n 185 #[pX Bs 0] (fun x:DV×Nat=> #[.slice x.1 g.length x.2]) (fun k x b W=>Own b W (.slice x.1 g.length x.2) (dR g k)) (Zi Bs C g e) N w:=fun l J W kW hJ hY h0=>by
 have HZ:=lH (hz.kp kW);have n2:N<=64:=by have:=size_le g;omega
 have HS:Hid (∀W',Rd W' C g->CJ 70 #[.slice C g.length e] W' fun en w'=>en= .returned (.int .i64 (N:Int))/\W'=w'):=fun W' r=>by
  have hh:=bC C e g W' r;rw[hN]at hh;exact hh
 have HX:Hid (∀(k:Nat) W',k<N->Rd W' C g->CJ 186 #[.slice C g.length e, .int .i64 (k:Int)] W' fun en w'=>∃A c,en= .returned (.tuple #[.slice A g.length c, .int .i64 0])/\Own W'.heap.size w' (.slice A g.length c) (dR g k)/\Kp W' w'):=by
  intro k W' hk r;refine(sG C e g (k:Int) W' r).mono ?_;rw[jB oM oM];rintro en w' ⟨A,c,e1,o,kk⟩;rw[eU]at e1 o;exact⟨A,c,e1,o,kk⟩
 have HJ:=lH hJ;have HY:=lH hY;have H0:=lH h0;obtain⟨gl,hgl⟩:=eX (g.length);have HGL:=lH hgl;rw[<-hgl]at HS HX HY;have hb0:W.cell? ⟨Bs,0,none⟩=some (.slice C gl e):=by rw[hgl];exact HZ.out.b.cell
 clear hgl hJ hY hN hz kW h0;refine callsIn_of_wp Tryz.func185 rfl trivial ?_ rfl;simp only[Tryz.ntmps185,acd,abg,acC,Nat.reduceAdd,Nat.reduceSub,Array.replicate_succ,Array.replicate_zero,List.push_toArray,List.append_toArray,acu,abX]
 gi_wp2_with (refine⟨trivial,?_⟩;gi_at_call 70;refine(callsIn_wide.2 (HS.out _ HZ.out.r)).mono ?_;rintro en w2 ⟨rfl,rfl⟩)
 gi_loopw [8] (fun i wr=>∃k:Nat,i= .int .i64 k/\k<=N/\Hid (J k wr)/\Hid (Zi Bs C g e wr)) (fun i _=>N-(intOf i).toNat)
 case atStart=>exact⟨0,rfl,aa6 _,H0.out,HZ.out⟩
 case round=>
  clear hb0;obtain⟨k,rfl,hkN,hJp,hZr⟩:=hrel;have hb1:wr.cell? ⟨Bs,0,none⟩=some (.slice C gl e):=by rw[HGL.out];exact hZr.out.b.cell
  by_cases hlt:k<N
  ·gi_wp2_with (refine⟨trivial,?_⟩;gi_at_call 186;refine(callsIn_wide.2 (HX.out k _ hlt hZr.out.r)).mono ?_;rintro en w2 ⟨A2,c2,rfl,o2,k2⟩;obtain⟨fn,tmps,assign,body,hy,hR⟩:=HY.out k (A2,c2) _ _ hlt hJp.out k2 o2;dsimp only at hy;clear o2 k2)
   refine hR.mono ?_;rintro en W3 ⟨rfl,hJ3,hk3⟩;have H3:=lH (And.intro hJ3 (hk3 hZr.out));clear hJ3 hk3
   gi_wp2
   go_roundw
   case rel=>exact⟨k+1,by go_num,hlt,lH H3.out.1,lH H3.out.2⟩
   case measure=>simp[intOf];omega
  ·obtain rfl:k=N:=by omega
   gi_wp2
   go_end0
   exact⟨⟨_,rfl⟩,hJp.out⟩
attribute [local go_sem] Oper.semAt_some
theorem vC{w:World}{B:Nat}{v:Value}{xs:BU}(ho:Own B w v xs)(ad:Addr)(y:Int)(hr:Rd w (some ad) [y])(hs:xs.length+1<=1000000)(hB:B<=w.heap.size):
  ∃zs A' c' w',zs=xs++[y]/\(∀ty,(Builtin.append_ #[23,23] ty #[v, .slice (some ad) 1 1]).run Tryz.prog w= .ok (.slice A' zs.length c') w')/\Own B w' (.slice A' zs.length c') zs/\w.grownBy w' v.ownBlock:=by
 obtain⟨ad',e0,hlt,hc⟩:=hr.2 sC;obtain rfl:ad=ad':=abR e0;obtain⟨i,hi,hz,h1,h2⟩:=info_parts dz;have key:=fun ty=>run_append_own_at (P:=Tryz.prog) w B 23 ty 3 i _ 1 8 Tryz.underlying23 hi hz h1 h2 rfl oM _ _ _ ho ad 1 1 ([y].map (Value.int .i64)) sC
  (fun j u hu=>by
   rw[aa7,ab0]at hu;obtain⟨x,hx,rfl⟩:=hu;exact hc j x hx) (ints_oneCell _ _) (by unfold maxLen;omega) oM hB
 obtain⟨v',w',hrun,hown,hg,_,_⟩:=key 23;have hown':Own B w' v' (xs++[y]):=by simpa [Own]using hown
 obtain⟨A2,c2,rfl,_⟩:=hown'.form;refine⟨xs++[y],A2,c2,w',rfl,fun ty=>?_,hown',hg⟩;rw[<-hrun];rfl
theorem nX{B:Nat}{w w':World}{v:Value}{xs:BU}(ho:Own B w v xs)(hg:w.grownBy w' v.ownBlock):KeepsOthers w w':=
 KeepsOthers.of_grownBy hg fun j o e h=>by
  rcases ho.2 with⟨rfl,_⟩|⟨g,cap,cur,rfl,_,hh,_⟩
  ·cases e
  ·injection e with e
   subst e;rw[hh]at h;injection h with h
   subst h;rfl
theorem mJ{B:Nat}{w w':World}{v:Value}{xs:BU}(ho:Own B w v xs)(hg:w.grownBy w' v.ownBlock)(hB:B<=w.heap.size):Below B w w':=
 (abu _ _).grown hg hB fun k hk=>ho.from_ hk
theorem oX{w w':World}{ops:Array Oper}{o:Oper}{a:Act}{K:Act->World->Prop}{Q:Exit->Act->World->Prop}{E:Prop}(hgd:o.guard=none)(s x:Operand)
  (hop:o.op= .call {callee:= .builtin .append,args:= #[s,x],argTypes:= #[23,23]})(v u r:Value)(hs:a.eval s=v)(hx:a.eval x=u)
  (hrun:(Builtin.append_ #[23,23] o.type #[v,u]).run Tryz.prog w= .ok r w')(h:K (a.put o.dst r) w'):if Region.wanted o (yielded ops a.tmps)=true then Oper.wp Tryz.prog o a w K Q else E:=by
 have hw:Region.wanted o (yielded ops a.tmps)=true:=by simp[Region.wanted,hgd]
 rw[aaW hw];unfold Oper.wp execOp;simp only[hop,resolve,invoke,builtin,acX,acW,acr,ab7,abT,ack,hs,hx,hrun];exact h
structure Ef(w:World)(fv:Value)(C:DV)(g:BU)(e:Nat)(f:Nat->Int)(N k:Nat)(zs:BU)(Az:DV)(cz:Nat)(W:World):Prop where
 kp:Kp w W
 fb:Boxed W w.heap.size 103 fv
 rt:Bk W (w.heap.size+1) none 0 0 none 0 0
 db:Boxed W (w.heap.size+1+1+1) 23 (.slice Az zs.length cz)
 ib:Zi (w.heap.size+1+1+1+1) C g e W
 o:Own (w.heap.size+1+1) W (.slice Az zs.length cz) zs
 t:Ta f N k zs
section
variable{w W W':World}{fv:Value}{C Az:DV}{g zs:BU}{e N k cz:Nat}{f:Nat->Int}
theorem Ef.tr(h:Ef w fv C g e f N k zs Az cz W)(q:Kp W W'):Ef w fv C g e f N k zs Az cz W':=
 ⟨h.kp.tr q,bB q h.fb,h.rt.kp q,bB q h.db,h.ib.kp q,h.o.kp q,h.t⟩
theorem jm{l j:Nat}{o:Obj}{cs:Array Value}{t:TypeId}{p:Nat×Nat}(h:W.heap[l]?=some o)(ho:o.isCells=false)(hj:W.heap[j]?=some (.cells cs t p)):j≠l:=by
 intro e;subst e;rw[h]at hj;injection hj with hj;subst hj;cases ho
theorem Zi.put{Bs l:Nat}{o:Obj}(h:Zi Bs C g e W)(o':Obj)(hl:W.heap[l]?=some o)(ho:o.isCells=false):Zi Bs C g e (W.putObj l o') where
 b:=(World.putObj_heap_other (jm hl ho h.b)).trans h.b
 r:=by
  refine⟨h.r.1,fun hn=>?_⟩;obtain⟨ad,e1,hb,hc⟩:=h.r.2 hn;refine⟨ad,e1,by simpa using hb,fun j u hu=>?_⟩;exact cell_kept (hc j u hu) (grownBy_putObj' W l o') (fun r er=>by cases er;exact⟨o,hl,ho⟩)
theorem Ef.put{l:Nat}{o:Obj}(h:Ef w fv C g e f N k zs Az cz W)(o':Obj)(hw:w.heap.size<=l)(hl:W.heap[l]?=some o)(ho:o.isCells=false):Ef w fv C g e f N k zs Az cz (W.putObj l o') where
 kp:=h.kp.trans ((abu _ _).grown (grownBy_putObj' W l o') h.kp.size (fun r er=>by cases er;exact hw))
 fb:=(World.putObj_heap_other (jm hl ho h.fb)).trans h.fb
 rt:=(World.putObj_heap_other (jm hl ho h.rt)).trans h.rt
 db:=(World.putObj_heap_other (jm hl ho h.db)).trans h.db
 ib:=h.ib.put o' hl ho
 o:=ownsRow_putObj h.o o' hl ho
 t:=h.t
theorem Ef.app{y:Int}{A2:DV}{c2:Nat}{zs2:BU}{W1:World}(h:Ef w fv C g e f N k zs Az cz W)(hk:k<N)(hy:f k=y)(hz:zs2=zs++[y])(hC:Rd w C g)(o2:Own (w.heap.size+1+1) W1 (.slice A2 zs2.length c2) zs2)
  (hg:W.grownBy W1 (Value.slice Az zs.length cz).ownBlock):Ef w fv C g e f N (k+1) zs2 A2 c2 (W1.setCell ⟨w.heap.size+1+1+1,0,none⟩ (.slice A2 zs2.length c2)):=by
 have hB:w.heap.size+1+1<=W.heap.size:=by have:=h.db.lt;omega
 have b1:Below (w.heap.size+1+1) W W1:=mJ h.o hg hB;have n1:=Boxed.not_row h.db (by decide:(23:TypeId)≠3) h.o;have n2:=Boxed.not_row h.ib.b (by decide:(23:TypeId)≠3) h.o;have kw:Kp w (W1.setCell ⟨w.heap.size+1+1+1,0,none⟩ (.slice A2 zs2.length c2)):=(h.kp.trans (b1.mono oM)).setCell (p:=⟨w.heap.size+1+1+1,0,none⟩) (by show w.heap.size<=w.heap.size+1+1+1;omega) _;have d1:=h.db.kept hg n1;have i1:=h.ib.b.kept hg n2;refine⟨kw,?_,?_,d1.set _,⟨i1.other oM _,hC.kp kw⟩,?_,JQ h.t hk hy hz⟩
 ·refine Boxed.other (t:=103) ?_ oM _;exact(b1.block w.heap.size oM).trans h.fb
 ·refine(abq _ _ _ (w.heap.size+1) (by show w.heap.size+1≠w.heap.size+1+1+1;omega)).trans ?_;exact(b1.block (w.heap.size+1) oM).trans h.rt
 ·refine o2.of_block fun j hj=>abq _ _ _ j ?_
  have:=Boxed.not_row d1 (by decide:(23:TypeId)≠3) o2;intro e;subst e;exact this hj.symm
end
def MA(C:DV)(c:Nat)(l k:BU)(w:World)(en:Ending)(w':World):Prop:=∃B d,en= .returned (.agg #[.slice C l.length c, .slice B k.length d])/\Rd w' C l/\Sw w.heap.size w' B d k/\Kp w w'
theorem wR(C:DV)(e:Nat)(g:BU)(F:Nat)(L:List Value)(f:Nat->Int)(w:World)(hC:Rd w C g)(ho:okS g=true)
  (HT:∀(k:Nat) (A:DV) (c:Nat) (W0 W1:World),Kp w W0->Kp W0 W1->(k:Int)<au g->Own W0.heap.size W1 (.slice A g.length c) (dR g k)->
   CJ F (Value.slice A g.length c::L).toArray W1 fun e W2=>e= .returned (.int .i64 (f k))/\Below W0.heap.size W1 W2)
  (HF:∀args W,(callFunc F args).run Tryz.prog W= .ok (.enter F args) W):
  CJ 118 #[.slice C g.length e, .func (.func F) #[] L.toArray] w (MA C e g ((List.range (au g).toNat).map f) w):=by
 have hl:=hC.len;have hsz:=size_le g;have hp:=bT ho;have hpz:=aL ho;obtain⟨N,hN⟩:∃N:Nat,au g=(N:Int):=⟨(au g).toNat,oM⟩
 have HS:Hid (∀W,Kp w W->CJ 70 #[.slice C g.length e] W fun e w'=>e= .returned (.int .i64 (N:Int))/\W=w'):=fun W k=>by
  have hh:=bC C e g W (hC.kp k);rw[hN]at hh;exact hh
 have HTT:=lH HT;have HNN:=lH hN;have n1:0<N:=by omega
 have n2:N<=64:=by omega
 obtain⟨cs,hmk,sH⟩:=Ty N oM;have HOW:=lH sH;have HCC:=lH hC;have hres:Hid ((List.range (au g).toNat).map f=(List.range N).map f):=by show _=_;rw[hN,aa2]
 rw[hres.out];clear hC ho HT hN hsz sH hp hpz hres;have K0:Hid (Kp w ((w.alloc (.cells #[.func (.func F) #[] L.toArray] 103)).alloc (.cells #[zS, zS] 25))):=(Kp.af _ _).al _;refine(callsIn_wide (n:=4)).1 ?_;refine callsIn_of_wp_marks Tryz.func118 rfl trivial ?_ rfl;simp only[Tryz.ntmps118,acd,abg,acC,Nat.reduceAdd,Nat.reduceSub,Array.replicate_succ,Array.replicate_zero,List.push_toArray,List.append_toArray,acu,abX]
 gi_wp2_with fail
 refine⟨trivial,(callsIn_wide.2 (HS.out _ K0.out)).mono ?_⟩;rintro en w1 ⟨rfl,rfl⟩
 gi_wp2_with fail
 refine⟨trivial,(callsIn_wide.2 (uJ _ _ _ _)).mono ?_⟩;rintro en w2 ⟨rfl,rfl⟩
 gi_wp2_with fail
 have hmx:Tryz.prog.follows .mixedOrders=true:=by kernel_rfl
 obtain⟨W1,hW1⟩:∃W1,(((((w.alloc (.cells #[.func (.func F) #[] L.toArray] 103)).alloc (.cells #[zS, zS] 25)).alloc (.cells cs 3)).alloc
  (.cells #[.slice (some ⟨w.heap.size+1+1,0,none⟩) 0 N] 23)).alloc (.cells #[.slice C g.length e] 23))=W1:=⟨_,rfl⟩
 have SW:Hid (W1.heap.size=w.heap.size+1+1+1+1+1):=by show _=_;rw[<-hW1];simp
 have EW:Hid (Ef w (.func (.func F) #[] L.toArray) C g e f N 0 [] (some ⟨w.heap.size+1+1,0,none⟩) N W1):=by
  show Ef w _ C g e f N 0 [] _ N W1;rw[<-hW1];refine⟨(((K0.out.al _).al _).al _),?_,?_,?_,⟨?_,HCC.out.kp (((K0.out.al _).al _).al _)⟩,?_,En _ _⟩
  ·exact((((Boxed.new w _ _).alloc _).alloc _).alloc _).alloc _
  ·exact((((Bk.new sC)).af _).af _).af _
  ·have h:=((Boxed.new (((w.alloc (.cells #[.func (.func F) #[] L.toArray] 103)).alloc (.cells #[zS, zS] 25)).alloc (.cells cs 3)) 23 (.slice (some ⟨w.heap.size+1+1,0,none⟩) 0 N)).alloc (.cells #[.slice C g.length e] 23))
   simp only[aaY]at h;exact h
  ·have h:=Boxed.new ((((w.alloc (.cells #[.func (.func F) #[] L.toArray] 103)).alloc (.cells #[zS, zS] 25)).alloc (.cells cs 3)).alloc (.cells #[.slice (some ⟨w.heap.size+1+1,0,none⟩) 0 N] 23)) 23 (.slice C g.length e);simpa only[aaY]using h
  ·have h:=HOW.out ((w.alloc (.cells #[.func (.func F) #[] L.toArray] 103)).alloc (.cells #[zS, zS] 25)) (w.heap.size+1+1) sC;simp only[aaY]at h;exact(h.kp (Kp.af _ _)).kp (Kp.af _ _)
 rw[hW1];clear hW1 hmk HOW K0 HS;have hE5:=sF C e g N (w.heap.size+1+1+1+1) 3 W1 EW.out.ib HNN.out oM;refine zo (n:=4) oM (gf:=185) (lb:= #[pX (w.heap.size+1+1+1+1) 0]) rfl (enters_of Tryz.func185 kM rfl)
  hE5 (fun _=>rfl) (fun W l o o' _ hl ho h=>h.put o' hl ho) (fun k x b W l o o' hl ho h=>ownsRow_putObj h o' hl ho)
  (fun k W=>w.heap.size+1+1+1+1+1<=W.heap.size/\∃zs Az cz,Ef w (.func (.func F) #[] L.toArray) C g e f N k zs Az cz W)
  (fun k A B h q=>⟨ab3 h.1 q.size,by obtain⟨_,zs,Az,cz,hh⟩:=h;exact⟨zs,Az,cz,hh.tr q⟩⟩)
  (fun k W l o o' hw hl ho h=>⟨by simpa using h.1,by obtain⟨_,zs,Az,cz,hh⟩:=h;exact⟨zs,Az,cz,hh.put o' (by have:=SW.out;omega) hl ho⟩⟩)
  ⟨Nat.le_of_eq SW.out.symm,_,_,_,EW.out⟩
  (fun x=>{tmps:= #[.slice C g.length e, .func (.func F) #[] L.toArray,undef, pX w.heap.size 0, pX (w.heap.size+1) 0, pX (w.heap.size+1+1+1) 0,
   .slice x.1 g.length x.2, .slice C g.length e, .int .i64 N, .slice (some ⟨w.heap.size+1+1,0,none⟩) 0 N, .slice C g.length e,
   .func (.func 185) #[] #[pX (w.heap.size+1+1+1+1) 0], .slice x.1 g.length x.2,undef,undef,undef,undef,undef,undef,undef,undef,undef],defers:=[]}) ?assign ?body ?done
 case assign=>
  intro l x W K hK
  gi_wp2
  exact hK
 case body=>
  rintro l k ⟨A0,c0⟩ W0 W2 hk ⟨hsz,zs,Az,cz,hef⟩ kW hown;dsimp only at hown⊢;have HE2:=lH (hef.tr kW);have HE0:=lH hef;have HCK:Hid (∀W3,Kp W2 W3->Own W0.heap.size W3 (.slice A0 g.length c0) (dR g k)->CJ F (Value.slice A0 g.length c0::L).toArray W3 fun e W'=>e= .returned (.int .i64 (f k))/\Below W0.heap.size W3 W'):=
   fun W3 q o=>HTT.out k A0 c0 W0 W3 hef.kp (kW.tr q) (by rw[HNN.out];omega) o
  have HON:=lH hown;have HKW:=lH kW;have HSZ:=lH hsz;have d1:=HE2.out.db.cell;have d2:=HE2.out.fb.cell;have d3:=HE2.out.db.lt;have HLN:=lH (Ns hef.t);have HY:Hid (f k=f k):=rfl;obtain⟨y,hy⟩:∃y,f k=y:=⟨_,rfl⟩
  have HFY:=lH hy;rw[hy]at HCK;clear hef kW hown hsz hy HY
  gi_wp2
  refine wpIn_region_any hmx (eI kM (fun⟨_,_,h⟩=>h) _ _ _ _ (wpAny_of_held (S:=fun V=>V.cell? ⟨w.heap.size,0,none⟩=some (.func (.func F) #[] L.toArray)) _ _ _ _ ?_))
  change wpAnyH _ _ _ _ _ _ _ _ W2.drew
  have hS0:W2.drew.cell? ⟨w.heap.size,0,none⟩=some (.func (.func F) #[] L.toArray):=d2;refine acw (i:=1) (v:= .func (.func F) #[] L.toArray) rfl kM kM kM (fun _ _ _ h=>h) (Or.inl ⟨by rfl,fun V hSV=>?_⟩) hS0 ?_
  ·dsimp only at hSV;go_simp
  refine acw (i:=2) (v:= .slice A0 g.length c0) rfl kM kM kM (fun _ _ _ h=>h) (Or.inl ⟨by rfl,fun V hSV=>?_⟩) hS0 ?_
  ·dsimp only at hSV;go_simp
  refine abo (rs:=[0,3]) kM sC ?_;refine aa4 rfl (fun K hK=>?_) ?_
  ·skip
   go_simp;refine hK.out _ _ (hS0) fun qJ=>?_
   clear hK K qJ;refine abo (rs:=[3]) kM sC ?_;refine aa4 rfl (fun K hK=>?_) abl;go_simp;refine(HCK.out _ (aa3 (Kp.refl _)) HON.out.drew).mono ?_;rintro en w4 ⟨rfl,b4⟩;dsimp only;have HQ4:Hid (Kp W0 w4):=(aa3 HKW.out).trans b4;have HE4:=lH (HE0.out.tr HQ4.out);have g1:=HE4.out.db.cell;have g2:=HE4.out.db.lt;have hS4:=HE4.out.fb.cell;have hS5:=(HE4.out.tr (Kp.af _ (.cells #[.int .i64 y] 3))).fb.cell;obtain⟨ys,A2,c2,w6,hz6,hrun,o6,hg6⟩:=vC (HE4.out.tr (Kp.af _ (.cells #[.int .i64 y] 3))).o ⟨w4.heap.size,0,none⟩ y (Rd.one _ _ _) (by have:=HLN.out;omega) (by have:=HE4.out.db.lt;simp;omega);have HD6:=lH ((HE4.out.tr (Kp.af _ (.cells #[.int .i64 y] 3))).db.kept hg6 (Boxed.not_row (HE4.out.tr (Kp.af _ (.cells #[.int .i64 y] 3))).db (by decide:(23:TypeId)≠3) (HE4.out.tr (Kp.af _ (.cells #[.int .i64 y] 3))).o));have g3:=HD6.out.cell;have g4:=HD6.out.frozen;have HAP:=lH ((HE4.out.tr (Kp.af _ (.cells #[.int .i64 y] 3))).app hk HFY.out hz6 HCC.out o6 hg6);have hS7:=HAP.out.fb.cell;have hS6:w6.cell? ⟨w.heap.size,0,none⟩=some (.func (.func F) #[] L.toArray):=((mJ (HE4.out.tr (Kp.af _ (.cells #[.int .i64 y] 3))).o hg6 (by have:=HE4.out.db.lt;simp;omega)).cell (p:=⟨w.heap.size,0,none⟩) (by show w.heap.size<w.heap.size+1+1;omega)).trans hS5;have HKO:=lH (nX (HE4.out.tr (Kp.af _ (.cells #[.int .i64 y] 3))).o hg6);have QM:=lH hrun;clear hrun b4 hz6 o6 hg6;refine hK.out _ _ (hS4) fun qJ=>?_
   clear hK K qJ;refine abo (rs:=[4]) kM sC ?_;refine aa4 rfl (fun K hK=>?_) abl;go_simp;refine hK.out _ _ (hS5) fun qJ=>?_
   clear hK K qJ;refine abo (rs:=[5]) kM sC ?_;refine aa4 rfl (fun K hK=>?_) abl;refine oX rfl (.tmp 13) (.tmp 17) rfl _ _ _ rfl rfl (QM.out _) ?_;refine hK.out _ _ (hS6) fun qJ=>?_
   clear hK K qJ;refine abo (rs:=[6]) kM sC ?_;refine aa4 rfl (fun K hK=>?_) abl;go_simp;refine hK.out _ _ (hS7) fun qJ=>?_
   clear hK K qJ;refine abp kM ?_ _;refine⟨fun j ob hj hob hoc=>?_,fun _=>HAP.out.ib,?_⟩
   ·exact(KeepsOthers.setCell _ _ _).same j ob (HKO.out.same j ob (bB (Kp.af _ _) (bB HQ4.out hob)) hoc) hoc
   ·refine⟨?_,ys,A2,c2,HAP.out⟩;have z1:=HSZ.out;have z2:=HQ4.out.size;have z3:=HKO.out.size;rw[abG];rw[aaY]at z3;omega
  refine aa4 rfl (fun K hK=>?_) abl;go_simp;refine(HCK.out _ (aa3 (Kp.refl _)) HON.out.drew).mono ?_;rintro en w4 ⟨rfl,b4⟩;dsimp only;have HQ4:Hid (Kp W0 w4):=(aa3 HKW.out).trans b4;have HE4:=lH (HE0.out.tr HQ4.out);have g1:=HE4.out.db.cell;have g2:=HE4.out.db.lt;have hS4:=HE4.out.fb.cell;have hS5:=(HE4.out.tr (Kp.af _ (.cells #[.int .i64 y] 3))).fb.cell;obtain⟨ys,A2,c2,w6,hz6,hrun,o6,hg6⟩:=vC (HE4.out.tr (Kp.af _ (.cells #[.int .i64 y] 3))).o ⟨w4.heap.size,0,none⟩ y (Rd.one _ _ _) (by have:=HLN.out;omega) (by have:=HE4.out.db.lt;simp;omega);have HD6:=lH ((HE4.out.tr (Kp.af _ (.cells #[.int .i64 y] 3))).db.kept hg6 (Boxed.not_row (HE4.out.tr (Kp.af _ (.cells #[.int .i64 y] 3))).db (by decide:(23:TypeId)≠3) (HE4.out.tr (Kp.af _ (.cells #[.int .i64 y] 3))).o));have g3:=HD6.out.cell;have g4:=HD6.out.frozen;have HAP:=lH ((HE4.out.tr (Kp.af _ (.cells #[.int .i64 y] 3))).app hk HFY.out hz6 HCC.out o6 hg6);have hS7:=HAP.out.fb.cell;have hS6:w6.cell? ⟨w.heap.size,0,none⟩=some (.func (.func F) #[] L.toArray):=((mJ (HE4.out.tr (Kp.af _ (.cells #[.int .i64 y] 3))).o hg6 (by have:=HE4.out.db.lt;simp;omega)).cell (p:=⟨w.heap.size,0,none⟩) (by show w.heap.size<w.heap.size+1+1;omega)).trans hS5;have HKO:=lH (nX (HE4.out.tr (Kp.af _ (.cells #[.int .i64 y] 3))).o hg6);have QM:=lH hrun;clear hrun b4 hz6 o6 hg6;refine hK.out _ _ (hS4) fun qJ=>?_
  clear hK K qJ;refine abo (rs:=[0,4]) kM sC ?_;refine aa4 rfl (fun K hK=>?_) ?_
  ·skip
   go_simp;refine hK.out _ _ (hS4) fun qJ=>?_
   clear hK K qJ;refine abo (rs:=[4]) kM sC ?_;refine aa4 rfl (fun K hK=>?_) abl;go_simp;refine hK.out _ _ (hS5) fun qJ=>?_
   clear hK K qJ;refine abo (rs:=[5]) kM sC ?_;refine aa4 rfl (fun K hK=>?_) abl;refine oX rfl (.tmp 13) (.tmp 17) rfl _ _ _ rfl rfl (QM.out _) ?_;refine hK.out _ _ (hS6) fun qJ=>?_
   clear hK K qJ;refine abo (rs:=[6]) kM sC ?_;refine aa4 rfl (fun K hK=>?_) abl;go_simp;refine hK.out _ _ (hS7) fun qJ=>?_
   clear hK K qJ;refine abp kM ?_ _;refine⟨fun j ob hj hob hoc=>?_,fun _=>HAP.out.ib,?_⟩
   ·exact(KeepsOthers.setCell _ _ _).same j ob (HKO.out.same j ob (bB (Kp.af _ _) (bB HQ4.out hob)) hoc) hoc
   ·refine⟨?_,ys,A2,c2,HAP.out⟩;have z1:=HSZ.out;have z2:=HQ4.out.size;have z3:=HKO.out.size;rw[abG];rw[aaY]at z3;omega
  refine aa4 rfl (fun K hK=>?_) abl;go_simp;refine hK.out _ _ (hS5) fun qJ=>?_
  clear hK K qJ;refine abo (rs:=[0]) kM sC ?_;refine aa4 rfl (fun K hK=>?_) abl;go_simp;refine hK.out _ _ (hS5) fun qJ=>?_
  clear hK K qJ;refine abo (rs:=[5]) kM sC ?_;refine aa4 rfl (fun K hK=>?_) abl;refine oX rfl (.tmp 13) (.tmp 17) rfl _ _ _ rfl rfl (QM.out _) ?_;refine hK.out _ _ (hS6) fun qJ=>?_
  clear hK K qJ;refine abo (rs:=[6]) kM sC ?_;refine aa4 rfl (fun K hK=>?_) abl;go_simp;refine hK.out _ _ (hS7) fun qJ=>?_
  clear hK K qJ;refine abp kM ?_ _;refine⟨fun j ob hj hob hoc=>?_,fun _=>HAP.out.ib,?_⟩
  ·exact(KeepsOthers.setCell _ _ _).same j ob (HKO.out.same j ob (bB (Kp.af _ _) (bB HQ4.out hob)) hoc) hoc
  ·refine⟨?_,ys,A2,c2,HAP.out⟩;have z1:=HSZ.out;have z2:=HQ4.out.size;have z3:=HKO.out.size;rw[abG];rw[aaY]at z3;omega
 case done=>
  rintro D W hD ⟨hsz,zs,Az,cz,hef⟩ hK;have HEF:=lH hef;have HKD:=lH hK;have d1:=HEF.out.db.cell;have r0:=HEF.out.rt.c0;have r1:=HEF.out.rt.c1;have u0:=HEF.out.rt.f0 0;have u1:=HEF.out.rt.f0 1;have hne:w.heap.size+1<D:=by have:=SW.out;omega
  have hz:=Nt hef.t (Nat.lt_irrefl N);have HZ:=lH hz;clear hef hK hz
  gi_wp2
  have hb:Bk ((nh w W (.slice C g.length e) (.slice Az zs.length cz)).putObj D (.deferred none)) (w.heap.size+1) C g.length e Az zs.length cz:=(World.putObj_heap_other oM).trans HEF.out.rt.put;refine jd (v:= .agg #[.slice C g.length e, .slice Az zs.length cz]) (C2 HKD.out hne _ _) (by
   have q0:=hb.c0;have q1:=hb.c1;unfold nh at q0 q1;simp[results,Tryz.results118,go_sem,q0,q1]) ?_
  have kf:Kp w ((nh w W (.slice C g.length e) (.slice Az zs.length cz)).putObj D (.deferred none)):=
   ((HEF.out.kp.setCell (p:=⟨w.heap.size+1,0,none⟩) (abe _) _).setCell (p:=⟨w.heap.size+1,1,none⟩) (abe _) _).trans ((Hh HKD.out hne _ _).mono oM)
  rw[<-HZ.out];exact⟨Az,cz,rfl,HCC.out.kp kf,⟨(HEF.out.o.fin (aby _) HKD.out hne _ _).sl,HEF.out.o.nw oM⟩,kf⟩
theorem qG(C:DV)(e:Nat)(g:BU)(F:Nat)(L:List Value)(f:Nat->Int)(w:World)(b0:Nat)(hb0:b0<=w.heap.size)(hn0:Nw b0 C g)(hC:Rd w C g)(ho:okS g=true)
  (HT:∀(k:Nat) (A:DV) (c:Nat) (W0 W1:World),Kp w W0->Kp W0 W1->(k:Int)<au g->Own W0.heap.size W1 (.slice A g.length c) (dR g k)->
   CJ F (Value.slice A g.length c::L).toArray W1 fun e W2=>e= .returned (.int .i64 (f k))/\Below W0.heap.size W1 W2)
  (HF:∀args W,(callFunc F args).run Tryz.prog W= .ok (.enter F args) W)(hca:g.length<=e/\e<=9223372036854775807):
  CJ 118 #[.slice C g.length e, .func (.func F) #[] L.toArray] w (yZ b0 g ((List.range (au g).toNat).map f) w):=
 (wR C e g F L f w hC ho HT HF).mono fun _ _ ⟨B,d,h,r⟩=>⟨C,e,B,d,h,⟨Sl.of r.1 hca,hn0⟩,r.2.1.mo hb0,r.2.2⟩
theorem zE(A B D:DV)(c d n bt:Nat)(s xs X:BU)(W:World)(T:Bk W bt A s.length c B xs.length d)(hA:Rd W A s)(hB:Rd W B xs)(hX:Rd W D X)(hl:X.length<=3):
  CJ 120 #[.slice D X.length n, pX bt 0] W fun e W'=>e= .returned (.int .i64 (atV s xs X.reverse).1)/\Kp W W':=by
 have t0:=T.c0;have t1:=T.c1;have TL:=lH T;have HT3:=lH (fun V (k:Kp W V)=>mF D n X V (hX.kp k) oM);have HA3:=lH (fun V Az cz (k:Kp W V) (r:Rd V Az X.reverse)=>mI A B Az c d cz s xs X.reverse V (hA.kp k) (hB.kp k) r);generalize (atV s xs X.reverse).1=y at HA3⊢;generalize X.reverse=Y at HT3 HA3;have hdr:Hid (Kp W W.drew):=aa3 (Kp.refl W);have hK3:Hid (∀V,Kp W.drew V->Hid (Kp W V)/\V.cell? ⟨bt,0,none⟩=some (.slice A s.length c)/\V.cell? ⟨bt,1,none⟩=some (.slice B xs.length d)):=fun V kV=>⟨bZ kV,(TL.out.kp (bZ kV)).c0,(TL.out.kp (bZ kV)).c1⟩
 clear T hA hB hX;go_enter Tryz.func120,Tryz.ntmps120;go_wp2
 go_region_held3 (fun V=>V.cell? ⟨bt,0,none⟩=some (.slice A s.length c)/\V.cell? ⟨bt,1,none⟩=some (.slice B xs.length d)) (first|exact⟨t0,t1⟩|exact⟨q3,q4⟩|exact⟨q5,q6⟩)
  (first
  |(go_at_call 119;refine(HT3.out _ hdr.out).mono ?_;rintro e0 w4 ⟨A4,c4,rfl,o4,k4⟩;obtain⟨K4,q3,q4⟩:=hK3.out _ k4;have R4:Hid (Rd w4 A4 Y):=o4.sl.rd;clear k4 o4)
  |(go_at_call 121;refine(HA3.out _ _ _ K4.out R4.out).mono ?_;rintro e0 w5 ⟨rfl,k5⟩;have K5:=lH (K4.out.tr k5);have q5:=(k5.cell (p:=⟨bt,0,none⟩) (by have:=TL.out.lt;have:=K4.out.size;show bt<_;omega)).trans q3;have q6:=(k5.cell (p:=⟨bt,1,none⟩) (by have:=TL.out.lt;have:=K4.out.size;show bt<_;omega)).trans q4;clear k5))
 all_goals go_wp2
 all_goals go_ret
 all_goals exact⟨rfl,K5.out⟩
theorem xC(A B AI:DV)(c d n b b4 b5 b6:Nat)(s xs X:BU)(aj:Nat)(a x z:Int)(w0 W:World)(hk:Kp w0 W)(hb:w0.heap.size<=b)(T:Bk w0 b4 A s.length c B xs.length d)
  (X5:Boxed w0 b5 3 (.int .i64 (aj:Int)))(X6:Boxed w0 b6 3 (.int .i64 a))(hA:Rd w0 A s)(hB:Rd w0 B xs)(hI:Own b W (.slice AI X.length n) X)(hx:X[aj]?=some x)(hz:IntKind.i64.wrap (x+a)=z):
  CJ 124 #[.slice AI X.length n, pX b5 0, pX b6 0, pX b4 0] W fun e W'=>e= .returned (.int .i64 (atV s xs (X.set aj z)).1)/\Below b W W':=by
 have hax:aj<X.length:=(aaU.1 hx).1;obtain⟨gi,rfl,hg1,hg2⟩:=hI.addr oM;have t0:=(T.kp hk).c0;have t1:=(T.kp hk).c1;have x5:W.cell? ⟨b5,0,none⟩=some (.int .i64 (aj:Int)):=Boxed.cell (bB hk X5);have x6:W.cell? ⟨b6,0,none⟩=some (.int .i64 a):=Boxed.cell (bB hk X6);have i1:=hI.cell_ hx;have i2:=hI.fE aj;have ne:gi≠b4:=by have:=T.lt;omega
 have p0:(W.setCell ⟨gi,aj,none⟩ (.int .i64 z)).cell? ⟨b4,0,none⟩=some (.slice A s.length c):=bp (fun e=>ne (abP Addr.block e)) t0;have p1:(W.setCell ⟨gi,aj,none⟩ (.int .i64 z)).cell? ⟨b4,1,none⟩=some (.slice B xs.length d):=bp (fun e=>ne (abP Addr.block e)) t1;have KV:Kp w0 ((W.setCell ⟨gi,aj,none⟩ (.int .i64 z)).drew):=aa3 (hk.setCell (p:=⟨gi,aj,none⟩) (by show w0.heap.size<=gi;omega) _);have BV:Hid (Below b W ((W.setCell ⟨gi,aj,none⟩ (.int .i64 z)).drew)):=aa3 ((abu b W).setCell (p:=⟨gi,aj,none⟩) hg1 _);have HC:Hid (CJ 121 #[.agg #[.slice A s.length c, .slice B xs.length d], .slice (some ⟨gi,0,none⟩) X.length n] ((W.setCell ⟨gi,aj,none⟩ (.int .i64 z)).drew) fun e w'=>e= .returned (.int .i64 (atV s xs (X.set aj z)).1)/\Kp ((W.setCell ⟨gi,aj,none⟩ (.int .i64 z)).drew) w'):=by
  have hh:=mI A B (some ⟨gi,0,none⟩) c d n s xs (X.set aj z) _ (hA.kp KV) (hB.kp KV) ((hI.kY aj z).drew.sl.rd);rw[abr]at hh;exact hh
 have HB:Hid (b<=((W.setCell ⟨gi,aj,none⟩ (.int .i64 z)).drew).heap.size):=by show _<=(W.setCell _ _).heap.size;rw[abG];exact Nat.le_of_lt (Nat.lt_of_le_of_lt hg1 hg2)
 generalize (atV s xs (X.set aj z)).1=y at HC⊢;have j1:(0:Int)<=(aj:Int):=by omega
 have j2:(aj:Int)<(X.length:Int):=by omega
 clear T X5 X6 hA hB hI hx KV hk hb t0 t1;go_enter Tryz.func124,Tryz.ntmps124;go_wp2
 go_region
 all_goals
  go_wp2_with fail;refine HC.out.mono ?_;rintro e0 w5 ⟨rfl,k5⟩;have KB:=lH (BV.out.trans (k5.mono HB.out));clear k5;go_wp2;go_ret;exact⟨rfl,KB.out⟩
theorem FC(A B AI:DV)(c d n b b4 b5 b6:Nat)(s xs X:BU)(aj:Nat)(a x z:Int)(w0 W:World)(hk:Kp w0 W)(hb:w0.heap.size<=b)(T:Bk w0 b4 A s.length c B xs.length d)
  (X5:Boxed w0 b5 3 (.int .i64 (aj:Int)))(X6:Boxed w0 b6 3 (.int .i64 a))(hA:Rd w0 A s)(hB:Rd w0 B xs)(hI:Own b W (.slice AI X.length n) X)(hx:X[aj]?=some x)(hz:IntKind.i64.wrap (x-a)=z):
  CJ 192 #[.slice AI X.length n, pX b5 0, pX b6 0, pX b4 0] W fun e W'=>e= .returned (.int .i64 (atV s xs (X.set aj z)).1)/\Below b W W':=by
 have hax:aj<X.length:=(aaU.1 hx).1;obtain⟨gi,rfl,hg1,hg2⟩:=hI.addr oM;have t0:=(T.kp hk).c0;have t1:=(T.kp hk).c1;have x5:W.cell? ⟨b5,0,none⟩=some (.int .i64 (aj:Int)):=Boxed.cell (bB hk X5);have x6:W.cell? ⟨b6,0,none⟩=some (.int .i64 a):=Boxed.cell (bB hk X6);have i1:=hI.cell_ hx;have i2:=hI.fE aj;have ne:gi≠b4:=by have:=T.lt;omega
 have p0:(W.setCell ⟨gi,aj,none⟩ (.int .i64 z)).cell? ⟨b4,0,none⟩=some (.slice A s.length c):=bp (fun e=>ne (abP Addr.block e)) t0;have p1:(W.setCell ⟨gi,aj,none⟩ (.int .i64 z)).cell? ⟨b4,1,none⟩=some (.slice B xs.length d):=bp (fun e=>ne (abP Addr.block e)) t1;have KV:Kp w0 ((W.setCell ⟨gi,aj,none⟩ (.int .i64 z)).drew):=aa3 (hk.setCell (p:=⟨gi,aj,none⟩) (by show w0.heap.size<=gi;omega) _);have BV:Hid (Below b W ((W.setCell ⟨gi,aj,none⟩ (.int .i64 z)).drew)):=aa3 ((abu b W).setCell (p:=⟨gi,aj,none⟩) hg1 _);have HC:Hid (CJ 121 #[.agg #[.slice A s.length c, .slice B xs.length d], .slice (some ⟨gi,0,none⟩) X.length n] ((W.setCell ⟨gi,aj,none⟩ (.int .i64 z)).drew) fun e w'=>e= .returned (.int .i64 (atV s xs (X.set aj z)).1)/\Kp ((W.setCell ⟨gi,aj,none⟩ (.int .i64 z)).drew) w'):=by
  have hh:=mI A B (some ⟨gi,0,none⟩) c d n s xs (X.set aj z) _ (hA.kp KV) (hB.kp KV) ((hI.kY aj z).drew.sl.rd);rw[abr]at hh;exact hh
 have HB:Hid (b<=((W.setCell ⟨gi,aj,none⟩ (.int .i64 z)).drew).heap.size):=by show _<=(W.setCell _ _).heap.size;rw[abG];exact Nat.le_of_lt (Nat.lt_of_le_of_lt hg1 hg2)
 generalize (atV s xs (X.set aj z)).1=y at HC⊢;have j1:(0:Int)<=(aj:Int):=by omega
 have j2:(aj:Int)<(X.length:Int):=by omega
 clear T X5 X6 hA hB hI hx KV hk hb t0 t1;go_enter Tryz.func192,Tryz.ntmps192;go_wp2
 go_region
 all_goals
  go_wp2_with fail;refine HC.out.mono ?_;rintro e0 w5 ⟨rfl,k5⟩;have KB:=lH (BV.out.trans (k5.mono HB.out));clear k5;go_wp2;go_ret;exact⟨rfl,KB.out⟩
theorem Cr(A B C D AI:DV)(c d e f n b b3 b4 b5 b6:Nat)(s xs t ys X:BU)(aj:Nat)(side x z:Int)(w0 W:World)(hk:Kp w0 W)(hb:w0.heap.size<=b)(T:Bk w0 b3 A s.length c B xs.length d)(T2:Bk w0 b4 C t.length e D ys.length f)
  (X5:Boxed w0 b5 3 (.int .i64 (aj:Int)))(X6:Boxed w0 b6 3 (.int .i64 side))(hA:Rd w0 A s)(hB:Rd w0 B xs)(hC:Rd w0 C t)(hD:Rd w0 D ys)(hI:Own b W (.slice AI X.length n) X)(hx:X[aj]?=some x)(hz:IntKind.i64.wrap (x-side)=z):
  CJ 125 #[.slice AI X.length n, pX b5 0, pX b6 0, pX b3 0, pX b4 0] W
   fun e W'=>e= .returned (.int .i64 (if x<side then(atV s xs X).1 else(atV t ys (X.set aj z)).1))/\Below b W W':=by
 have hax:aj<X.length:=(aaU.1 hx).1;obtain⟨gi,rfl,hg1,hg2⟩:=hI.addr oM;have x5:W.cell? ⟨b5,0,none⟩=some (.int .i64 (aj:Int)):=Boxed.cell (bB hk X5);have x6:W.cell? ⟨b6,0,none⟩=some (.int .i64 side):=Boxed.cell (bB hk X6);have i1:=hI.cell_ hx;have i2:=hI.fE aj;have j1:(0:Int)<=(aj:Int):=by omega
 have j2:(aj:Int)<(X.length:Int):=by omega
 by_cases hlt:x<side
 ·rw[aaW hlt];have TT:=lH (T.kp hk);have HC:=lH (fun k=>mI A B (some ⟨gi,0,none⟩) c d n s xs X (W.drewN k) (hA.kp (hk.tr (Kp.aI _ _))) (hB.kp (hk.tr (Kp.aI _ _))) (hI.sl.rd.kp (Kp.aI _ _)));have HB:Hid (b<=W.heap.size):=Nat.le_of_lt (Nat.lt_of_le_of_lt hg1 hg2);generalize (atV s xs X).1=y at HC⊢;have hd:decide (x<side)=true:=by simpa using hlt
  have t0:=TT.out.c0;have t1:=TT.out.c1;clear T T2 X5 X6 hA hB hC hD hI hx hk hb hz hlt;go_enter Tryz.func125,Tryz.ntmps125;go_wp2;go_quiet (fail);go_wp2_with fail;refine(HC.out _).mono ?_;rintro e0 w5 ⟨rfl,k5⟩;have KB:Hid (Below b W w5):=((Kp.aI _ _).mono HB.out).trans (k5.mono HB.out);clear k5;go_wp2;go_ret;exact⟨rfl,KB.out⟩
 ·rw[aaT hlt];have hd:decide (x<side)=false:=by simpa using hlt
  have t0:=(T2.kp hk).c0;have t1:=(T2.kp hk).c1;have ne:gi≠b4:=by have:=T2.lt;omega
  have p0:∀k,((W.drewN k).setCell ⟨gi,aj,none⟩ (.int .i64 z)).cell? ⟨b4,0,none⟩=some (.slice C t.length e):=fun k=>bp (fun e=>ne (abP Addr.block e)) t0
  have p1:∀k,((W.drewN k).setCell ⟨gi,aj,none⟩ (.int .i64 z)).cell? ⟨b4,1,none⟩=some (.slice D ys.length f):=fun k=>bp (fun e=>ne (abP Addr.block e)) t1
  have KV:∀k,Kp w0 ((W.drewN k).setCell ⟨gi,aj,none⟩ (.int .i64 z)):=fun k=>(hk.tr (Kp.aI W k)).setCell (p:=⟨gi,aj,none⟩) (by show w0.heap.size<=gi;omega) _
  have HB0:Hid (b<=W.heap.size):=Nat.le_of_lt (Nat.lt_of_le_of_lt hg1 hg2);have BV:Hid (∀k,Below b W ((W.drewN k).setCell ⟨gi,aj,none⟩ (.int .i64 z))):=fun k=>((Kp.aI W k).mono HB0.out).setCell (p:=⟨gi,aj,none⟩) hg1 _
  have HC:Hid (∀k,CJ 121 #[.agg #[.slice C t.length e, .slice D ys.length f], .slice (some ⟨gi,0,none⟩) X.length n] ((W.drewN k).setCell ⟨gi,aj,none⟩ (.int .i64 z)) fun e w'=>e= .returned (.int .i64 (atV t ys (X.set aj z)).1)/\Kp ((W.drewN k).setCell ⟨gi,aj,none⟩ (.int .i64 z)) w'):=fun k=>by
   have hh:=mI C D (some ⟨gi,0,none⟩) e f n t ys (X.set aj z) _ (hC.kp (KV k)) (hD.kp (KV k)) ((hI.drewN k).kY aj z).sl.rd;rw[abr]at hh;exact hh
  have HB:Hid (∀k,b<=((W.drewN k).setCell ⟨gi,aj,none⟩ (.int .i64 z)).heap.size):=fun k=>by show _<=((W.drewN k).setCell _ _).heap.size;rw[abG];exact HB0.out
  generalize (atV t ys (X.set aj z)).1=y at HC⊢;clear T T2 X5 X6 hA hB hC hD hI hx KV hk hb t0 t1 hlt;go_enter Tryz.func125,Tryz.ntmps125;go_wp2;go_quiet (fail);go_wp2
  go_region
  all_goals
   go_wp2_with fail;refine(HC.out _).mono ?_;rintro e0 w5 ⟨rfl,k5⟩;have KB:=lH ((BV.out _).trans (k5.mono (HB.out _)));clear k5;go_wp2;go_ret;exact⟨rfl,KB.out⟩
theorem C8{s xs:BU}(ht:aB s xs=true):okS s.reverse=true/\(List.range (au s.reverse).toNat).map (fun k:Nat=>(atV s xs (dR s.reverse k).reverse).1)=bJ s xs:=by
 obtain⟨ho,hn,hm1,WG⟩:=aW ht;obtain⟨g1,g2,g3⟩:=aD.1 ho;have h1:okS s.reverse=true:=aD.2 ⟨by simpa using g1,by rw[rN];exact g2,by rw[eA];exact g3⟩;have hsr:au s.reverse=(xs.length:Int):=by rw[aL h1,eA,<-bW ho,hn]
 exact⟨h1,by rw[hsr,aa2];rfl⟩
theorem jg(A B:DV)(c d:Nat)(s xs:BU)(w:World)(hA:Rd w A s)(hB:Rd w B xs):
  CJ 94 #[.agg #[.slice A s.length c, .slice B xs.length d]] w (aG (bF s xs) w):=by
 have hlA:=hA.len;have hlB:=hB.len;have F0:=lH (Fr.mk_ w A s.length c B xs.length d 25);have HT:=lH (av A B c d s xs _ (hA.kp F0.out.kp) (hB.kp F0.out.kp))
 cases ht:aB s xs with
 |false=>
  rw[ht]at HT;have HF:Hid (bF s xs=([],[],30)):=by show bF s xs=_;unfold bF;rw[aaW ht]
  clear ht hA hB;go_enter Tryz.func94,Tryz.ntmps94;go_wp2_with fail;refine(aa9 (Hid.out HT)) ?_;rintro e0 w1 ⟨rfl,k1⟩;have F1:=lH (F0.out.tr k1);obtain⟨_,b0,b1,r0,r1,f0,f1,_⟩:=F1.out;clear k1;go_wp2;refine aaX (v:= .tuple #[.agg #[zS, zS], .int .i64 30]) (by simp[results,Tryz.results94,go_sem,r0,r1];try rfl) rfl ?_;exact aG.err HF.out (F1.out.end_ _ _)
 |true=>
  rw[ht]at HT;have hs3:s.length<=3:=(aD.1 (aW ht).1).1;have HF:Hid (bF s xs=(s.reverse,bJ s xs,0)):=by show bF s xs=_;unfold bF;rw[aaT (by simp[ht])]
  obtain⟨hro,hmap⟩:=C8 ht;have HV:Hid (∀W,Kp w W->CJ 119 #[.slice A s.length c] W fun e W'=>∃D n,e= .returned (.slice D s.length n)/\Sw w.heap.size W' D n s.reverse/\Kp W W'):=fun W k=>(mF A c s W (hA.kp k) oM).mono fun e W' h=>by
   obtain⟨D,n,e1,o,kk⟩:=h;exact⟨D,n,by rw[e1,List.length_reverse],o.sw k.size,kk⟩
  have HE:Hid (∀V D n,Kp w V->Bk V w.heap.size A s.length c B xs.length d->Sw w.heap.size V D n s.reverse->CJ 118 #[.slice D s.length n, .func (.func 120) #[] #[pX w.heap.size 0]] V (yZ w.heap.size s.reverse (bJ s xs) V)):=fun V D n kV T r=>by
   have hh:=qG D n s.reverse 120 [pX w.heap.size 0] (fun k=>(atV s xs (dR s.reverse k).reverse).1) V w.heap.size kV.size r.nw r.rd hro
    (fun k AI m W0 W1 k0 k1 hk hO=>by
     have q:=zE A B AI c d m w.heap.size s xs (dR s.reverse k) W1 (T.kp (k0.tr k1)) (hA.kp (kV.tr (k0.tr k1))) (hB.kp (kV.tr (k0.tr k1))) hO.sl.rd (by rw[eU,List.length_reverse];exact hs3);rw[eU]at q;exact q.mono fun e W' h=>⟨h.1,h.2.mono k1.size⟩) (enters_of Tryz.func120 kM rfl) r.toSl.room
   rw[hmap,List.length_reverse]at hh;exact hh
  clear ht hro hmap hA hB hs3;go_enter Tryz.func94,Tryz.ntmps94;go_wp2_with fail;refine(aa9 (Hid.out HT)) ?_;rintro e0 w1 ⟨rfl,k1⟩;have K:=lH (F0.out.kp.tr k1);have TB:Hid (Bk w1 w.heap.size A s.length c B xs.length d):=((Bk.new rfl).af _).kp k1;have TO:Hid (Bk w1 (w.heap.size+1) none 0 0 none 0 0):=(Bk.new (aaY _ _).symm).kp k1;have t0:=TB.out.c0;clear k1;go_wp2_with fail;refine(HV.out _ K.out).mono ?_;rintro e0 w2 ⟨D,n,rfl,r2,k2⟩;have K:=lH (K.out.tr k2);have TB:=lH (TB.out.kp k2);have TO:=lH (TO.out.kp k2);have R2:=lH r2;clear t0 k2 r2;go_wp2_with fail;refine(HE.out _ _ _ K.out TB.out R2.out).mono ?_;rintro e0 w3 ⟨A3,c3,B3,d3,rfl,r3,p3,k3⟩;have K:=lH (K.out.tr k3);have TO:=lH (TO.out.kp k3);have R3:=lH (And.intro r3 p3);have o0:=TO.out.c0;have o1:=TO.out.c1;have u0:=TO.out.f0 0;have u1:=TO.out.f0 1;clear k3 r3 p3;go_wp2;refine aaX (v:= .tuple #[.agg #[.slice A3 s.reverse.length c3, .slice B3 (bJ s xs).length d3], .int .i64 0]) (by simp[results,Tryz.results94,go_sem,o0,o1];try rfl) rfl ?_;exact aG.of HF.out (R3.out.1.toSl.past TO.out _ _) (R3.out.2.toSl.past TO.out _ _) ((K.out.setCell (p:=⟨w.heap.size+1,0,none⟩) (abe _) _).setCell (p:=⟨w.heap.size+1,1,none⟩) (abe _) _) R3.out.1.nw R3.out.2.nw
theorem kZ(A B C:DV)(c d e:Nat)(s xs g:BU)(w:World)(hA:Rd w A s)(hB:Rd w B xs)(hC:Rd w C g):
  CJ 92 #[.agg #[.slice A s.length c, .slice B xs.length d], .slice C g.length e] w (aG (aJ s xs g) w):=by
 have hlA:=hA.len;have hlB:=hB.len;have F0:=lH (Fr.mk_ w A s.length c B xs.length d 25);have HT:=lH (av A B c d s xs _ (hA.kp F0.out.kp) (hB.kp F0.out.kp));have HS:=lH (fun W (k:Kp w W)=>bC C e g W (hC.kp k))
 cases ht:aB s xs with
 |false=>
  rw[ht]at HT;have HF:Hid (aJ s xs g=([],[],30)):=by show aJ s xs g=_;unfold aJ;rw[aaW ht]
  clear ht hA hB hC;go_enter Tryz.func92,Tryz.ntmps92;go_wp2_with fail;refine(aa9 (Hid.out HT)) ?_;rintro e0 w1 ⟨rfl,k1⟩;have F1:=lH (F0.out.tr k1);obtain⟨_,b0,b1,r0,r1,f0,f1,_⟩:=F1.out;clear k1;go_wp2;refine aaX (v:= .tuple #[.agg #[zS, zS], .int .i64 30]) (by simp[results,Tryz.results92,go_sem,r0,r1];try rfl) rfl ?_;exact aG.err HF.out (F1.out.end_ _ _)
 |true=>
  rw[ht]at HT;have MN:=(aW ht).2.2;obtain⟨N,hN⟩:∃N:Int,au g=N:=⟨_,rfl⟩
  rw[hN]at HS;by_cases hq:N=(xs.length:Int)
  ·have HF:Hid (aJ s xs g=(g,xs,0)):=by show aJ s xs g=_;unfold aJ;rw[aaT (by simp[ht]),aaW (by rw[hN];exact hq)]
   have hg3:g.length<=1000000:=by
    cases ho:okS g with
    |true=>have:=(aD.1 ho).1;omega
    |false=>have:=oZ ho;omega
   have q2:(N !=(xs.length:Int))=false:=by simpa using hq
   have HCG:Hid (∀W,Kp w W->CJ 23 #[.slice C g.length e] W (oQ g W)):=fun W k=>cv C e g W (hC.kp k) hg3
   have HCX:Hid (∀W,Kp w W->CJ 23 #[.slice B xs.length d] W (oQ xs W)):=fun W k=>cv B d xs W (hB.kp k) oM
   clear ht hN hq hA hB hC hg3 MN;go_enter Tryz.func92,Tryz.ntmps92;go_wp2_with fail;refine(aa9 (Hid.out HT)) ?_;rintro e0 w1 ⟨rfl,k1⟩;have K1:=lH (F0.out.kp.tr k1);have TB:Hid (Bk w1 w.heap.size A s.length c B xs.length d):=((Bk.new rfl).af _).kp k1;have TO:Hid (Bk w1 (w.heap.size+1) none 0 0 none 0 0):=(Bk.new (aaY _ _).symm).kp k1;have t0:=TB.out.c0;have t1:=TB.out.c1;clear k1;go_wp2;go_quiet ((go_at_call 70;exact bM (HS.out _ (K1.out.tr (Kp.aI _ _)))));obtain⟨w2,hw2⟩:=eX (w1.drewN nq);have k2:Kp w1 w2:=by rw[hw2];exact Kp.aI _ _
   rw[<-hw2];have K2:=lH (K1.out.tr k2);have TB2:=lH (TB.out.kp k2);have TO2:=lH (TO.out.kp k2);clear hw2 t0 t1;have t1:=TB2.out.c1;clear k2;have hne:w.heap.size+1≠w.heap.size:=by omega
   have hK3:Hid (∀V,Kp w2.drew V->Hid (Kp w2 V)/\V.cell? ⟨w.heap.size,1,none⟩=some (.slice B xs.length d)/\Hid (Bk V (w.heap.size+1) none 0 0 none 0 0)):=fun V kV=>⟨bZ kV,(TB2.out.kp (bZ kV)).c1,TO2.out.kp (bZ kV)⟩
   have hdr:Hid (Kp w2.drew w2.drew):=Kp.refl _;have Ux:Hid (∀W,Kp w2.drew W->CJ 23 #[.slice C g.length e] W (oQ g W)):=fun W k=>HCG.out W (K2.out.tr (bZ k))
   have Uv:Hid (∀W,Kp w2.drew W->CJ 23 #[.slice B xs.length d] W (oQ xs W)):=fun W k=>HCX.out W (K2.out.tr (bZ k))
   go_wp2
   go_region_held3 (fun V=>V.cell? ⟨w.heap.size,1,none⟩=some (.slice B xs.length d)) (first|exact qD|exact qC|exact t1|exact bp (fun e=>hne (abP Addr.block e)) (bp (fun e=>hne (abP Addr.block e)) (by first|exact qX)))
    (first
    |(go_at_call_of 23 C;refine(Ux.out _ (by first|exact KD.out|exact hdr.out)).mono ?_;rintro e0 wC ⟨AC,cC,rfl,oC,kC⟩;have KC:Hid (Kp w2.drew wC):=(by first|exact KD.out.tr kC|exact hdr.out.tr kC);obtain⟨KC2,qC,TOC⟩:=hK3.out _ KC.out;have NC:Hid (Nw w.heap.size AC g):=oC.nw (by first|exact(K2.out.tr KD2.out).size|exact K2.out.size);have RC:Hid (Sl wC AC cC g):=oC.sl;have RX:Hid (Sl wC AD cD xs):=(by first|exact RD.out.kp kC);have qX:=qC;have o0:=TOC.out.c0;have o1:=TOC.out.c1;have u0:=TOC.out.f0 0;have u1:=TOC.out.f0 1;clear kC oC)
    |(go_at_call_of 23 B;refine(Uv.out _ (by first|exact KC.out|exact hdr.out)).mono ?_;rintro e0 wD ⟨AD,cD,rfl,oD,kD⟩;have KD:Hid (Kp w2.drew wD):=(by first|exact KC.out.tr kD|exact hdr.out.tr kD);obtain⟨KD2,qD,TOD⟩:=hK3.out _ KD.out;have ND:Hid (Nw w.heap.size AD xs):=oD.nw (by first|exact(K2.out.tr KC2.out).size|exact K2.out.size);have RD:Hid (Sl wD AD cD xs):=oD.sl;have RX:Hid (Sl wD AC cC g):=(by first|exact RC.out.kp kD);have qX:=qD;have o0:=TOD.out.c0;have o1:=TOD.out.c1;have u0:=TOD.out.f0 0;have u1:=TOD.out.f0 1;clear kD oD)
    |(go_at_call_of 23 C;refine(Ux.out _ hdr.out).mono ?_;rintro e0 wC ⟨AC,cC,rfl,oC,kC⟩;have KC:Hid (Kp w2.drew wC):=hdr.out.tr kC;obtain⟨KC2,qC,TOC⟩:=hK3.out _ KC.out;have NC:Hid (Nw w.heap.size AC g):=oC.nw (by first|exact(K2.out.tr KD2.out).size|exact K2.out.size);have RC:Hid (Sl wC AC cC g):=oC.sl;clear kC oC)
    |(go_at_call_of 23 B;refine(Uv.out _ hdr.out).mono ?_;rintro e0 wD ⟨AD,cD,rfl,oD,kD⟩;have KD:Hid (Kp w2.drew wD):=hdr.out.tr kD;obtain⟨KD2,qD,TOD⟩:=hK3.out _ KD.out;have ND:Hid (Nw w.heap.size AD xs):=oD.nw (by first|exact(K2.out.tr KC2.out).size|exact K2.out.size);have RD:Hid (Sl wD AD cD xs):=oD.sl;clear kD oD))
   all_goals
    go_wp2;refine aaX (v:= .tuple #[.agg #[.slice AC g.length cC, .slice AD xs.length cD], .int .i64 0]) (by simp[results,Tryz.results92,go_sem,o0,o1];try rfl) rfl ?_
    first
    |exact aG.of HF.out (RX.out.past TOD.out _ _) (RD.out.past TOD.out _ _) (((K2.out.tr KD2.out).setCell (p:=⟨w.heap.size+1,0,none⟩) (abe _) _).setCell (p:=⟨w.heap.size+1,1,none⟩) (abe _) _) NC.out ND.out
    |exact aG.of HF.out (RC.out.past TOC.out _ _) (RX.out.past TOC.out _ _) (((K2.out.tr KC2.out).setCell (p:=⟨w.heap.size+1,0,none⟩) (abe _) _).setCell (p:=⟨w.heap.size+1,1,none⟩) (abe _) _) NC.out ND.out
  ·have HF:Hid (aJ s xs g=([],[],20)):=by show aJ s xs g=_;unfold aJ;rw[aaT (by simp[ht]),aaT (by rw[hN];exact hq)]
   have q2:(N !=(xs.length:Int))=true:=by simpa using hq
   clear ht hN hq hA hB hC MN;go_enter Tryz.func92,Tryz.ntmps92;go_wp2_with fail;refine(aa9 (Hid.out HT)) ?_;rintro e0 w1 ⟨rfl,k1⟩;have F1:=lH (F0.out.tr k1);obtain⟨_,b0,b1,r0,r1,f0,f1,_⟩:=F1.out;clear k1;go_wp2;go_quiet ((go_at_call 70;exact bM (HS.out _ (F1.out.kp.tr (Kp.aI _ _)))));go_wp2;refine aaX (v:= .tuple #[.agg #[zS, zS], .int .i64 20]) (by simp[results,Tryz.results92,go_sem,r0,r1];try rfl) rfl ?_;exact aG.err HF.out ((F1.out.tr (Kp.aI _ _)).end_ _ _)
structure Sf(w:World)(A:DV)(n c:Nat)(B:DV)(m d:Nat)(ax fr:Int)(W:World):Prop where
 kp:Kp w W
 t:Bk W w.heap.size A n c B m d
 x5:Boxed W (w.heap.size+1) 3 (.int .i64 ax)
 x6:Boxed W (w.heap.size+1+1) 3 (.int .i64 fr)
 r:Bk W (w.heap.size+1+1+1) none 0 0 none 0 0
section
variable{w W W':World}{A B:DV}{n c m d:Nat}{ax fr:Int}
theorem Sf.tr(h:Sf w A n c B m d ax fr W)(k:Kp W W'):Sf w A n c B m d ax fr W':=⟨h.kp.tr k,h.t.kp k,bB k h.x5,bB k h.x6,h.r.kp k⟩
theorem Sf.mk_(w:World)(A:DV)(n c:Nat)(B:DV)(m d:Nat)(ax fr:Int):
  Sf w A n c B m d ax fr ((((w.alloc (.cells #[.slice A n c, .slice B m d] 25)).alloc (.cells #[.int .i64 ax] 3)).alloc (.cells #[.int .i64 fr] 3)).alloc (.cells #[zS, zS] 25)) where
 kp:=(((Kp.af _ _).al _).al _).al _
 t:=(((Bk.new rfl).af _).af _).af _
 x5:=by
  have h:=((Boxed.new (w.alloc (.cells #[.slice A n c, .slice B m d] 25)) 3 (.int .i64 ax)).alloc (.cells #[.int .i64 fr] 3)).alloc (.cells #[zS, zS] 25);simpa only[aaY]using h
 x6:=by
  have h:=(Boxed.new ((w.alloc (.cells #[.slice A n c, .slice B m d] 25)).alloc (.cells #[.int .i64 ax] 3)) 3 (.int .i64 fr)).alloc (.cells #[zS, zS] 25);simpa only[aaY]using h
 r:=Bk.new sC
theorem Sf.end_(h:Sf w A n c B m d ax fr W)(x y:Value):Kp w ((W.setCell ⟨w.heap.size+1+1+1,0,none⟩ x).setCell ⟨w.heap.size+1+1+1,1,none⟩ y):=
 (h.kp.setCell (p:=⟨w.heap.size+1+1+1,0,none⟩) (by show w.heap.size<=w.heap.size+1+1+1;omega) x).setCell (p:=⟨w.heap.size+1+1+1,1,none⟩) (by show w.heap.size<=w.heap.size+1+1+1;omega) y
end
theorem uZ{g:BU}(h:okS g=true){k aj:Nat}(hk:(k:Int)<au g)(hax:aj<g.length):∃x,(dR g k)[aj]?=some x/\0<=x/\x<=16:=by
 have hl:aj<(dR g k).length:=by rw[eU];exact hax
 exact⟨_,aaV hl,Hv h hk (aaV hl)⟩
theorem zy{X:BU}{k:Nat}{x:Int}(h:X[k]?=some x)(m:Int):upL X k m=X.set k (x+m):=by
 unfold upL;rw[List.getD,h,ab5]
theorem yS(A B D:DV)(c d n aj:Nat)(s xs g:BU)(a:Int)(fr0:Int)(w V:World)(hA:Rd w A s)(hB:Rd w B xs)(T:Sf w A s.length c B xs.length d (aj:Int) a V)(r:Rd V D g)(hg:okS g=true)(hax:aj<g.length)(ha0: -100<=a)(ha1:a<=100):
  CJ 118 #[.slice D g.length n, .func (.func 124) #[] #[pX (w.heap.size+1) 0, pX (w.heap.size+1+1) 0, pX w.heap.size 0]] V (MA D n g (dU s xs g aj (a)) V):=
 wR D n g 124 [pX (w.heap.size+1) 0, pX (w.heap.size+1+1) 0, pX w.heap.size 0] (fun k=>(atV s xs (upL (dR g k) aj (a))).1) V r hg
  (fun k AI q W0 W1 k0 k1 hk hO=>by
   obtain⟨x,hx,x0,x1⟩:=uZ hg hk hax;have hl:=eU g (k:Int);rw[<-hl]at hO⊢;have hz:IntKind.i64.wrap (x+a)=x+(a):=by rw[IntWalk.i64_in _ oM]<;>omega
   have p:=xC A B AI c d q W0.heap.size w.heap.size (w.heap.size+1) (w.heap.size+1+1) s xs (dR g k) aj a x _ V W1 (k0.tr k1) k0.size T.t T.x5 T.x6 (hA.kp T.kp) (hB.kp T.kp) hO hx hz;rw[<-zy hx]at p;exact p) (enters_of Tryz.func124 kM rfl)
theorem Hp(A B D:DV)(c d n aj:Nat)(s xs g:BU)(a:Int)(fr0:Int)(w V:World)(hA:Rd w A s)(hB:Rd w B xs)(T:Sf w A s.length c B xs.length d (aj:Int) a V)(r:Sw w.heap.size V D n g)(hg:okS g=true)(hax:aj<g.length)(ha0: -100<=a)(ha1:a<=100):
  CJ 118 #[.slice D g.length n, .func (.func 192) #[] #[pX (w.heap.size+1) 0, pX (w.heap.size+1+1) 0, pX w.heap.size 0]] V (yZ w.heap.size g (dU s xs g aj (-a)) V):=
 qG D n g 192 [pX (w.heap.size+1) 0, pX (w.heap.size+1+1) 0, pX w.heap.size 0] (fun k=>(atV s xs (upL (dR g k) aj (-a))).1) V w.heap.size T.kp.size r.nw r.rd hg
  (fun k AI q W0 W1 k0 k1 hk hO=>by
   obtain⟨x,hx,x0,x1⟩:=uZ hg hk hax;have hl:=eU g (k:Int);rw[<-hl]at hO⊢;have hz:IntKind.i64.wrap (x-a)=x+(-a):=by rw[IntWalk.i64_in _ oM]<;>omega
   have p:=FC A B AI c d q W0.heap.size w.heap.size (w.heap.size+1) (w.heap.size+1+1) s xs (dR g k) aj a x _ V W1 (k0.tr k1) k0.size T.t T.x5 T.x6 (hA.kp T.kp) (hB.kp T.kp) hO hx hz;rw[<-zy hx]at p;exact p) (enters_of Tryz.func192 kM rfl) r.toSl.room
theorem xP(A B:DV)(c d:Nat)(s xs:BU)(aj a b:Int)(w:World)(hA:Rd w A s)(hB:Rd w B xs)(ht:aB s xs=false):
  CJ 96 #[.agg #[.slice A s.length c, .slice B xs.length d], .int .i64 aj, .int .i64 a, .int .i64 b] w (aG (aS s xs aj a b) w):=by
 have hlA:=hA.len;have hlB:=hB.len;have F0:=lH (Sf.mk_ w A s.length c B xs.length d aj a);have HT:=lH (av A B c d s xs _ (hA.kp F0.out.kp) (hB.kp F0.out.kp));rw[ht]at HT;have HF:Hid (aS s xs aj a b=([],[],30)):=by show aS s xs aj a b=_;unfold aS;rw[aaW ht]
 clear hA hB ht;go_enter Tryz.func96,Tryz.ntmps96;go_wp2_with fail;refine(aa9 (Hid.out HT)) ?_;rintro e0 w1 ⟨rfl,k1⟩;have F1:=lH (F0.out.tr k1);clear k1;have t0:=F1.out.t.c0;have t1:=F1.out.t.c1;have t5:=F1.out.x5.cell;have t6:=F1.out.x6.cell;have r0:=F1.out.r.c0;have r1:=F1.out.r.c1;have u0:=F1.out.r.f0 0;have u1:=F1.out.r.f0 1;go_wp2;refine aaX (v:= .tuple #[.agg #[zS, zS], .int .i64 30]) (by simp[results,Tryz.results96,go_sem,r0,r1];try rfl) rfl ?_;exact aG.err HF.out (F1.out.end_ _ _)
theorem t8(A B:DV)(c d:Nat)(s xs:BU)(aj a b:Int)(w:World)(hA:Rd w A s)(hB:Rd w B xs)(ht:aB s xs=true)(hF:aS s xs aj a b=([],[],20))(hx:aj<0∨(s.length:Int)<=aj):
  CJ 96 #[.agg #[.slice A s.length c, .slice B xs.length d], .int .i64 aj, .int .i64 a, .int .i64 b] w (aG (aS s xs aj a b) w):=by
 have hlA:=hA.len;have hlB:=hB.len;have F0:=lH (Sf.mk_ w A s.length c B xs.length d aj a);have HT:=lH (av A B c d s xs _ (hA.kp F0.out.kp) (hB.kp F0.out.kp));rw[ht]at HT;have HF:=lH hF;have HSD:Hid (∀W,CJ 122 #[.agg #[.slice A s.length c, .slice B xs.length d], .int .i64 aj] W fun e w'=>e= .returned (.bool false)/\Kp W w'):=fun W=>iH A B c d s.length xs.length _ W hx hlA
 clear hA hB ht hF hx;go_enter Tryz.func96,Tryz.ntmps96;go_wp2_with fail;refine(aa9 (Hid.out HT)) ?_;rintro e0 w1 ⟨rfl,k1⟩;have F1:=lH (F0.out.tr k1);clear k1;have t0:=F1.out.t.c0;have t1:=F1.out.t.c1;have t5:=F1.out.x5.cell;have t6:=F1.out.x6.cell;have r0:=F1.out.r.c0;have r1:=F1.out.r.c1;have u0:=F1.out.r.f0 0;have u1:=F1.out.r.f0 1;go_wp2_with fail;refine(HSD.out _).mono ?_;rintro e0 w2 ⟨rfl,k2⟩;have F1:=lH (F1.out.tr k2);clear k2 t0 t1 t5 t6 r0 r1 u0 u1;have t0:=F1.out.t.c0;have t1:=F1.out.t.c1;have t5:=F1.out.x5.cell;have t6:=F1.out.x6.cell;have r0:=F1.out.r.c0;have r1:=F1.out.r.c1;have u0:=F1.out.r.f0 0;have u1:=F1.out.r.f0 1;go_wp2;refine aaX (v:= .tuple #[.agg #[zS, zS], .int .i64 20]) (by simp[results,Tryz.results96,go_sem,r0,r1];try rfl) rfl ?_;exact aG.err HF.out (F1.out.end_ _ _)
theorem xR(A B:DV)(c d:Nat)(s xs:BU)(k:Nat)(a b x:Int)(w:World)(hA:Rd w A s)(hB:Rd w B xs)(ht:aB s xs=true)(hF:aS s xs k a b=([],[],20))(hx:s[k]?=some x)(MR:a<0∨b<=a∨x<b):
  CJ 96 #[.agg #[.slice A s.length c, .slice B xs.length d], .int .i64 (k:Int), .int .i64 a, .int .i64 b] w (aG (aS s xs k a b) w):=by
 have hlA:=hA.len;have hlB:=hB.len;have F0:=lH (Sf.mk_ w A s.length c B xs.length d k a);have HT:=lH (av A B c d s xs _ (hA.kp F0.out.kp) (hB.kp F0.out.kp));rw[ht]at HT;have HF:=lH hF;have hk:=(aaU.1 hx).1;have HSD:Hid (∀W,CJ 122 #[.agg #[.slice A s.length c, .slice B xs.length d], .int .i64 (k:Int)] W fun e w'=>e= .returned (.bool true)/\Kp W w'):=fun W=>d9 A B c d s.length xs.length _ W oM oM hlA
 obtain⟨ad,x',rfl,hbx,hx',hc⟩:=hA.at_ hk;obtain rfl:x=x':=by rw[hx]at hx';exact abR hx'
 have j1:(0:Int)<=(k:Int):=by omega
 have j2:(k:Int)<(s.length:Int):=by omega
 have HCC:Hid (∀W,Kp w W->W.cell? (ad.add k)=some (.int .i64 x)):=fun W q=>(q.cell (p:=ad.add k) (by rw[ah];exact hbx)).trans hc
 clear hA hB ht hF hx hx' hc;by_cases c0:a<0
 ·clear MR;go_enter Tryz.func96,Tryz.ntmps96;go_wp2_with fail;refine(aa9 (Hid.out HT)) ?_;rintro e0 w1 ⟨rfl,k1⟩;have F1:=lH (F0.out.tr k1);clear k1;have t0:=F1.out.t.c0;have t1:=F1.out.t.c1;have t5:=F1.out.x5.cell;have t6:=F1.out.x6.cell;have r0:=F1.out.r.c0;have r1:=F1.out.r.c1;have u0:=F1.out.r.f0 0;have u1:=F1.out.r.f0 1;go_wp2_with fail;refine(HSD.out _).mono ?_;rintro e0 w2 ⟨rfl,k2⟩;have F1:=lH (F1.out.tr k2);clear k2 t0 t1 t5 t6 r0 r1 u0 u1;have t0:=F1.out.t.c0;have t1:=F1.out.t.c1;have t5:=F1.out.x5.cell;have t6:=F1.out.x6.cell;have r0:=F1.out.r.c0;have r1:=F1.out.r.c1;have u0:=F1.out.r.f0 0;have u1:=F1.out.r.f0 1;have hc1:=HCC.out _ F1.out.kp;go_wp2;refine aaX (v:= .tuple #[.agg #[zS, zS], .int .i64 20]) (by simp[results,Tryz.results96,go_sem,r0,r1];try rfl) rfl ?_;exact aG.err HF.out (F1.out.end_ _ _)
 by_cases c1:b<=a
 ·clear MR;go_enter Tryz.func96,Tryz.ntmps96;go_wp2_with fail;refine(aa9 (Hid.out HT)) ?_;rintro e0 w1 ⟨rfl,k1⟩;have F1:=lH (F0.out.tr k1);clear k1;have t0:=F1.out.t.c0;have t1:=F1.out.t.c1;have t5:=F1.out.x5.cell;have t6:=F1.out.x6.cell;have r0:=F1.out.r.c0;have r1:=F1.out.r.c1;have u0:=F1.out.r.f0 0;have u1:=F1.out.r.f0 1;go_wp2_with fail;refine(HSD.out _).mono ?_;rintro e0 w2 ⟨rfl,k2⟩;have F1:=lH (F1.out.tr k2);clear k2 t0 t1 t5 t6 r0 r1 u0 u1;have t0:=F1.out.t.c0;have t1:=F1.out.t.c1;have t5:=F1.out.x5.cell;have t6:=F1.out.x6.cell;have r0:=F1.out.r.c0;have r1:=F1.out.r.c1;have u0:=F1.out.r.f0 0;have u1:=F1.out.r.f0 1;have hc1:=HCC.out _ F1.out.kp;go_wp2;refine aaX (v:= .tuple #[.agg #[zS, zS], .int .i64 20]) (by simp[results,Tryz.results96,go_sem,r0,r1];try rfl) rfl ?_;exact aG.err HF.out (F1.out.end_ _ _)
 by_cases c2:x<b
 ·clear MR;go_enter Tryz.func96,Tryz.ntmps96;go_wp2_with fail;refine(aa9 (Hid.out HT)) ?_;rintro e0 w1 ⟨rfl,k1⟩;have F1:=lH (F0.out.tr k1);clear k1;have t0:=F1.out.t.c0;have t1:=F1.out.t.c1;have t5:=F1.out.x5.cell;have t6:=F1.out.x6.cell;have r0:=F1.out.r.c0;have r1:=F1.out.r.c1;have u0:=F1.out.r.f0 0;have u1:=F1.out.r.f0 1;go_wp2_with fail;refine(HSD.out _).mono ?_;rintro e0 w2 ⟨rfl,k2⟩;have F1:=lH (F1.out.tr k2);clear k2 t0 t1 t5 t6 r0 r1 u0 u1;have t0:=F1.out.t.c0;have t1:=F1.out.t.c1;have t5:=F1.out.x5.cell;have t6:=F1.out.x6.cell;have r0:=F1.out.r.c0;have r1:=F1.out.r.c1;have u0:=F1.out.r.f0 0;have u1:=F1.out.r.f0 1;have hc1:=HCC.out _ F1.out.kp;go_wp2;refine aaX (v:= .tuple #[.agg #[zS, zS], .int .i64 20]) (by simp[results,Tryz.results96,go_sem,r0,r1];try rfl) rfl ?_;exact aG.err HF.out (F1.out.end_ _ _)
 exact absurd MR oM
abbrev lD:=aG
theorem lD.of{r:Tn}{l m:BU}{err:Int}{w w':World}{A B:DV}{c d:Nat}(h:r=(l,m,err))(hs:l.length<=c/\c<=9223372036854775807)(hA:Rd w' A l)(hB:Sl w' B d m)(k:Kp w w')(nA:Nw w.heap.size A l)(nB:Nw w.heap.size B m):
  lD r w (.returned (.tuple #[.agg #[.slice A l.length c, .slice B m.length d], .int .i64 err])) w':=aG.of h (Sl.of hA hs) hB k nA nB
theorem lD.weak{r:Tn}{w w':World}{e:Ending}(h:lD r w e w'):aG r w e w':=h
theorem aG.bad{r:Tn}{w w':World}{e:Ending}(hr:r.2.2≠0)(h:aG r w e w'):lD r w e w':=h
theorem xO(A B:DV)(c d:Nat)(s xs:BU)(k:Nat)(a b x:Int)(w:World)(hA:Rd w A s)(hB:Rd w B xs)(ht:aB s xs=true)(hx:s[k]?=some x)(h1:0<=a)(h2:a<b)(h3:b<=x):
  CJ 96 #[.agg #[.slice A s.length c, .slice B xs.length d], .int .i64 (k:Int), .int .i64 a, .int .i64 b] w (lD (aS s xs k a b) w):=by
 have hlA:=hA.len;have hlB:=hB.len;have F0:=lH (Sf.mk_ w A s.length c B xs.length d k a);have HT:=lH (av A B c d s xs _ (hA.kp F0.out.kp) (hB.kp F0.out.kp));rw[ht]at HT;have ho:=(aW ht).1;have hs3:s.length<=3:=(aD.1 ho).1;have hk:=(aaU.1 hx).1;have hgd:s.getD k 0=x:=by rw[List.getD,hx];rfl
 have Qv:=(cN (bI ho) hx)
 have HF:Hid (aS s xs k a b=(s.set k (b-a),dU s xs (s.set k (b-a)) k a,0)):=by
  show aS s xs k a b=_;unfold aS;rw[aaT (by simp[ht]),aa2,hgd,aaT oM]
 have HSD:Hid (∀W,CJ 122 #[.agg #[.slice A s.length c, .slice B xs.length d], .int .i64 (k:Int)] W fun e w'=>e= .returned (.bool true)/\Kp W w'):=fun W=>d9 A B c d s.length xs.length _ W oM oM hlA
 obtain⟨z,hz⟩:∃z,b-a=z:=⟨_,rfl⟩
 have hwz:IntKind.i64.wrap (b-a)=z:=by rw[IntWalk.i64_in _ oM];exact hz
 rw[hz]at HF;have hog:okS (s.set k z)=true:=Oi ho hx oM oM;have HW:=lH (fun W (kw:Kp w W)=>jf A c s k z W (hA.kp kw) oM hk);have HE:Hid (∀V D n,Sf w A s.length c B xs.length d k a V->Rd V D (s.set k z)->CJ 118 #[.slice D (s.set k z).length n, .func (.func 124) #[] #[pX (w.heap.size+1) 0, pX (w.heap.size+1+1) 0, pX w.heap.size 0]] V (MA D n (s.set k z) (dU s xs (s.set k z) k a) V)):=
  fun V D n T r=>yS A B D c d n k s xs (s.set k z) a 0 w V hA hB T r hog (by rw[abr];exact hk) oM oM
 obtain⟨ad,x',rfl,hbx,hx',hc⟩:=hA.at_ hk;obtain rfl:x=x':=by rw[hx]at hx';exact abR hx'
 have j1:(0:Int)<=(k:Int):=by omega
 have j2:(k:Int)<(s.length:Int):=by omega
 have HCC:Hid (∀W,Kp w W->W.cell? (ad.add k)=some (.int .i64 x)):=fun W q=>(q.cell (p:=ad.add k) (by rw[ah];exact hbx)).trans hc
 generalize hg:s.set k z=g at HE HF HW;generalize dU s xs g k a=ms at HE HF;have j5:¬a<0:=by omega
 have j6:¬b<=a:=by omega
 have j7:¬x<b:=by omega
 clear hA hB ht ho hx hx' hgd Qv hz hog hg hc;go_enter Tryz.func96,Tryz.ntmps96;go_wp2_with fail;refine(aa9 (Hid.out HT)) ?_;rintro e0 w1 ⟨rfl,k1⟩;have F1:=lH (F0.out.tr k1);clear k1;have t0:=F1.out.t.c0;have t1:=F1.out.t.c1;have t5:=F1.out.x5.cell;have t6:=F1.out.x6.cell;have r0:=F1.out.r.c0;have r1:=F1.out.r.c1;have u0:=F1.out.r.f0 0;have u1:=F1.out.r.f0 1;go_wp2_with fail;refine(HSD.out _).mono ?_;rintro e0 w2 ⟨rfl,k2⟩;have F1:=lH (F1.out.tr k2);clear k2 t0 t1 t5 t6 r0 r1 u0 u1;have t0:=F1.out.t.c0;have t1:=F1.out.t.c1;have t5:=F1.out.x5.cell;have t6:=F1.out.x6.cell;have r0:=F1.out.r.c0;have r1:=F1.out.r.c1;have u0:=F1.out.r.f0 0;have u1:=F1.out.r.f0 1;have hc1:=HCC.out _ F1.out.kp;go_wp2_with fail;refine(HW.out _ F1.out.kp).mono ?_;rintro e0 w4 ⟨A4,c4,rfl,o4,k4⟩;have N4:Hid (Nw w.heap.size A4 g):=o4.nw F1.out.kp.size;have F1:=lH (F1.out.tr k4);have R4:Hid (Rd w4 A4 g):=o4.sl.rd;have S4:Hid (g.length<=c4/\c4<=9223372036854775807):=⟨o4.sl.le,o4.sl.cap⟩
 clear k4 o4 hc1 t0 t1 t5 t6 r0 r1 u0 u1;have t0:=F1.out.t.c0;have t1:=F1.out.t.c1;have t5:=F1.out.x5.cell;have t6:=F1.out.x6.cell;have r0:=F1.out.r.c0;have r1:=F1.out.r.c1;have u0:=F1.out.r.f0 0;have u1:=F1.out.r.f0 1;go_wp2_with fail;refine(HE.out _ _ _ F1.out R4.out).mono ?_;rintro e0 w5 ⟨B5,d5,rfl,r5,p5,k5⟩;have N5:Hid (Nw w.heap.size B5 ms):=p5.nw.mo F1.out.kp.size;have F1:=lH (F1.out.tr k5);have R5:=lH (And.intro r5 p5.toSl);clear k5 r5 p5 t0 t1 t5 t6 r0 r1 u0 u1;have o0:=F1.out.r.c0;have o1:=F1.out.r.c1;have u0:=F1.out.r.f0 0;have u1:=F1.out.r.f0 1;go_wp2;refine aaX (v:= .tuple #[.agg #[.slice A4 g.length c4, .slice B5 ms.length d5], .int .i64 0]) (by simp[results,Tryz.results96,go_sem,o0,o1];try rfl) rfl ?_;exact lD.of HF.out S4.out (R5.out.1.past F1.out.r _ _) (R5.out.2.past F1.out.r _ _) (F1.out.end_ _ _) N4.out N5.out
theorem xQ(A B:DV)(c d:Nat)(s xs:BU)(aj a b:Int)(w:World)(hA:Rd w A s)(hB:Rd w B xs):
  CJ 96 #[.agg #[.slice A s.length c, .slice B xs.length d], .int .i64 aj, .int .i64 a, .int .i64 b] w (lD (aS s xs aj a b) w):=by
 cases ht:aB s xs with
 |false=>exact(xP A B c d s xs aj a b w hA hB ht).mono fun _ _ r=>r.bad (by unfold aS;rw[aaW ht];simp)
 |true=>
  by_cases h1:aj<0∨(s.length:Int)<=aj
  ·have hF:aS s xs aj a b=([],[],20):=by unfold aS;rw[aaT (by simp[ht]),aaW oM]
   exact(t8 A B c d s xs aj a b w hA hB ht hF h1).mono fun _ _ r=>r.bad (by rw[hF];simp)
  ·obtain⟨k,rfl⟩:∃k:Nat,aj=(k:Int):=⟨aj.toNat,oM⟩
   have hk:k<s.length:=by omega
   have hx:s[k]?=some s[k]:=aaV hk;have hgd:s.getD k 0=s[k]:=by rw[List.getD,hx];rfl
   by_cases MR:a<0∨b<=a∨s[k]<b
   ·have hF:aS s xs k a b=([],[],20):=by unfold aS;rw[aaT (by simp[ht]),aa2,hgd,aaW oM]
    exact(xR A B c d s xs k a b s[k] w hA hB ht hF hx MR).mono fun _ _ r=>r.bad (by rw[hF];simp)
   ·exact xO A B c d s xs k a b s[k] w hA hB ht hx oM oM oM
theorem jX(A B:DV)(c d:Nat)(s xs:BU)(aj a b:Int)(w:World)(hA:Rd w A s)(hB:Rd w B xs):
  CJ 96 #[.agg #[.slice A s.length c, .slice B xs.length d], .int .i64 aj, .int .i64 a, .int .i64 b] w (aG (aS s xs aj a b) w):=
 (xQ A B c d s xs aj a b w hA hB).mono fun _ _ r=>r.weak
theorem Fp(A B:DV)(c d:Nat)(s xs:BU)(aj a side:Int)(w:World)(hA:Rd w A s)(hB:Rd w B xs)(ht:aB s xs=false):
  CJ 175 #[.agg #[.slice A s.length c, .slice B xs.length d], .int .i64 aj, .int .i64 a, .int .i64 side] w (aG (lS s xs aj a side) w):=by
 have hlA:=hA.len;have hlB:=hB.len;have F0:=lH (Sf.mk_ w A s.length c B xs.length d aj a);have HT:=lH (av A B c d s xs _ (hA.kp F0.out.kp) (hB.kp F0.out.kp));rw[ht]at HT;have HF:Hid (lS s xs aj a side=([],[],30)):=by show lS s xs aj a side=_;unfold lS;rw[aaW ht]
 clear hA hB ht;go_enter Tryz.func175,Tryz.ntmps175;go_wp2_with fail;refine(aa9 (Hid.out HT)) ?_;rintro e0 w1 ⟨rfl,k1⟩;have F1:=lH (F0.out.tr k1);clear k1;have t0:=F1.out.t.c0;have t1:=F1.out.t.c1;have t5:=F1.out.x5.cell;have t6:=F1.out.x6.cell;have r0:=F1.out.r.c0;have r1:=F1.out.r.c1;have u0:=F1.out.r.f0 0;have u1:=F1.out.r.f0 1;go_wp2;refine aaX (v:= .tuple #[.agg #[zS, zS], .int .i64 30]) (by simp[results,Tryz.results175,go_sem,r0,r1];try rfl) rfl ?_;exact aG.err HF.out (F1.out.end_ _ _)
theorem AF(A B:DV)(c d:Nat)(s xs:BU)(aj a side:Int)(w:World)(hA:Rd w A s)(hB:Rd w B xs)(ht:aB s xs=true)(hF:lS s xs aj a side=([],[],20))(hx:aj<0∨(s.length:Int)<=aj):
  CJ 175 #[.agg #[.slice A s.length c, .slice B xs.length d], .int .i64 aj, .int .i64 a, .int .i64 side] w (aG (lS s xs aj a side) w):=by
 have hlA:=hA.len;have hlB:=hB.len;have F0:=lH (Sf.mk_ w A s.length c B xs.length d aj a);have HT:=lH (av A B c d s xs _ (hA.kp F0.out.kp) (hB.kp F0.out.kp));rw[ht]at HT;have HF:=lH hF;have HSD:Hid (∀W,CJ 122 #[.agg #[.slice A s.length c, .slice B xs.length d], .int .i64 aj] W fun e w'=>e= .returned (.bool false)/\Kp W w'):=fun W=>iH A B c d s.length xs.length _ W hx hlA
 clear hA hB ht hF hx;go_enter Tryz.func175,Tryz.ntmps175;go_wp2_with fail;refine(aa9 (Hid.out HT)) ?_;rintro e0 w1 ⟨rfl,k1⟩;have F1:=lH (F0.out.tr k1);clear k1;have t0:=F1.out.t.c0;have t1:=F1.out.t.c1;have t5:=F1.out.x5.cell;have t6:=F1.out.x6.cell;have r0:=F1.out.r.c0;have r1:=F1.out.r.c1;have u0:=F1.out.r.f0 0;have u1:=F1.out.r.f0 1;go_wp2_with fail;refine(HSD.out _).mono ?_;rintro e0 w2 ⟨rfl,k2⟩;have F1:=lH (F1.out.tr k2);clear k2 t0 t1 t5 t6 r0 r1 u0 u1;have t0:=F1.out.t.c0;have t1:=F1.out.t.c1;have t5:=F1.out.x5.cell;have t6:=F1.out.x6.cell;have r0:=F1.out.r.c0;have r1:=F1.out.r.c1;have u0:=F1.out.r.f0 0;have u1:=F1.out.r.f0 1;go_wp2;refine aaX (v:= .tuple #[.agg #[zS, zS], .int .i64 20]) (by simp[results,Tryz.results175,go_sem,r0,r1];try rfl) rfl ?_;exact aG.err HF.out (F1.out.end_ _ _)
theorem Ft(A B:DV)(c d:Nat)(s xs:BU)(k:Nat)(a side x:Int)(w:World)(hA:Rd w A s)(hB:Rd w B xs)(ht:aB s xs=true)(hx:s[k]?=some x):
  CJ 175 #[.agg #[.slice A s.length c, .slice B xs.length d], .int .i64 (k:Int), .int .i64 a, .int .i64 side] w (aG (lS s xs k a side) w):=by
 have hlA:=hA.len;have hlB:=hB.len;have F0:=lH (Sf.mk_ w A s.length c B xs.length d k a);have HT:=lH (av A B c d s xs _ (hA.kp F0.out.kp) (hB.kp F0.out.kp));rw[ht]at HT;have ho:=(aW ht).1;have hs3:s.length<=3:=(aD.1 ho).1;have hk:=(aaU.1 hx).1;have hgd:s.getD k 0=x:=by rw[List.getD,hx];rfl
 have Qv:=(cN (bI ho) hx)
 have hlg:(s.set k side).length=s.length:=abr ..;have HSD:Hid (∀W,CJ 122 #[.agg #[.slice A s.length c, .slice B xs.length d], .int .i64 (k:Int)] W fun e w'=>e= .returned (.bool true)/\Kp W w'):=fun W=>d9 A B c d s.length xs.length _ W oM oM hlA
 have HW:=lH (fun W (kw:Kp w W)=>jf A c s k side W (hA.kp kw) oM hk);have HCK:Hid (∀W Cz e,Rd W Cz (s.set k side)->CJ 44 #[.slice Cz (s.set k side).length e] W fun e w'=>e= .returned (.bool (okS (s.set k side)))/\W=w'):=fun W Cz e r=>bQ Cz e (s.set k side) W r
 have yH:okS (s.set k side)=true->1<=side/\side<=16:=fun h=>cN (bI h) (k:=k) (x:=side) (by rw[abt hk])
 have HE:Hid (okS (s.set k side)=true->0<=a->a<=100->∀V D n,Sf w A s.length c B xs.length d k a V->Sw w.heap.size V D n (s.set k side)->CJ 118 #[.slice D (s.set k side).length n, .func (.func 192) #[] #[pX (w.heap.size+1) 0, pX (w.heap.size+1+1) 0, pX w.heap.size 0]] V (yZ w.heap.size (s.set k side) (dU s xs (s.set k side) k (-a)) V)):=
  fun hog q1 q2 V D n T r=>Hp A B D c d n k s xs (s.set k side) a 0 w V hA hB T r hog (by rw[abr];exact hk) oM oM
 have HP:Hid (lS s xs k a side=if a<0∨16<side∨side-x<a∨okS (s.set k side)=false then([],[],20)else(s.set k side,dU s xs (s.set k side) k (-a),0)):=by
  show lS s xs k a side=_;unfold lS;rw[aaT (by simp[ht]),aa2,hgd];by_cases hb:a<0∨16<side∨side-x<a∨okS (s.set k side)=false
  ·rw[aaW hb,aaW (Or.inr (Or.inr hb))]
  ·rw[aaT hb,aaT (by rintro(h|h|h);(· omega);(· omega);exact hb h)]
 obtain⟨ad,x',rfl,hbx,hx',hc⟩:=hA.at_ hk;obtain rfl:x=x':=by rw[hx]at hx';exact abR hx'
 have j1:(0:Int)<=(k:Int):=by omega
 have j2:(k:Int)<(s.length:Int):=by omega
 have HCC:Hid (∀W,Kp w W->W.cell? (ad.add k)=some (.int .i64 x)):=fun W q=>(q.cell (p:=ad.add k) (by rw[ah];exact hbx)).trans hc
 rw[HP.out];generalize hg:s.set k side=g at HE HW HCK yH HP⊢;generalize dU s xs g k (-a)=ms at HE HP⊢;clear hA hB ht ho hx hx' hgd hg hc hlg HP
 cases hok:okS g with
 |false=>
  rw[hok]at HCK;rw[aaW sC];clear HE hok yH;go_enter Tryz.func175,Tryz.ntmps175;go_wp2_with fail;refine(aa9 (Hid.out HT)) ?_;rintro e0 w1 ⟨rfl,k1⟩;have F1:=lH (F0.out.tr k1);clear k1;have t0:=F1.out.t.c0;have t1:=F1.out.t.c1;have t5:=F1.out.x5.cell;have t6:=F1.out.x6.cell;have r0:=F1.out.r.c0;have r1:=F1.out.r.c1;have u0:=F1.out.r.f0 0;have u1:=F1.out.r.f0 1;go_wp2_with fail;refine(HSD.out _).mono ?_;rintro e0 w2 ⟨rfl,k2⟩;have F1:=lH (F1.out.tr k2);clear k2 t0 t1 t5 t6 r0 r1 u0 u1;have t0:=F1.out.t.c0;have t1:=F1.out.t.c1;have t5:=F1.out.x5.cell;have t6:=F1.out.x6.cell;have r0:=F1.out.r.c0;have r1:=F1.out.r.c1;have u0:=F1.out.r.f0 0;have u1:=F1.out.r.f0 1;have hc1:=HCC.out _ F1.out.kp;go_wp2_with fail;refine(HW.out _ F1.out.kp).mono ?_;rintro e0 w4 ⟨A4,c4,rfl,o4,k4⟩;have F1:=lH (F1.out.tr k4);have R4:Hid (Sl w4 A4 c4 g):=o4.sl;clear k4 o4 hc1 t0 t1 t5 t6 r0 r1 u0 u1;have t0:=F1.out.t.c0;have t1:=F1.out.t.c1;have t5:=F1.out.x5.cell;have t6:=F1.out.x6.cell;have r0:=F1.out.r.c0;have r1:=F1.out.r.c1;have u0:=F1.out.r.f0 0;have u1:=F1.out.r.f0 1;have hc1:=HCC.out _ F1.out.kp;go_wp2;go_quiet ((go_at_call 44;exact bM (HCK.out _ _ _ (R4.out.rd.kp (Kp.aI _ _)))));obtain⟨w6,hw6⟩:=eX (w4.drewN nq);have k6:Kp w4 w6:=by rw[hw6];exact Kp.aI _ _
  rw[<-hw6];have F1:=lH (F1.out.tr k6);have R4:=lH (R4.out.kp k6);clear hw6 k6 t0 t1 t5 t6 r0 r1 u0 u1;have t0:=F1.out.t.c0;have t1:=F1.out.t.c1;have t5:=F1.out.x5.cell;have t6:=F1.out.x6.cell;have r0:=F1.out.r.c0;have r1:=F1.out.r.c1;have u0:=F1.out.r.f0 0;have u1:=F1.out.r.f0 1;go_wp2;refine aaX (v:= .tuple #[.agg #[zS, zS], .int .i64 20]) (by simp[results,Tryz.results175,go_sem,r0,r1];try rfl) rfl ?_;exact aG.err rfl (F1.out.end_ _ _)
 |true=>
  rw[hok]at HCK;have hsd:=yH hok;by_cases c1:a<0
  ·rw[aaW oM];clear HE hok yH;go_enter Tryz.func175,Tryz.ntmps175;go_wp2_with fail;refine(aa9 (Hid.out HT)) ?_;rintro e0 w1 ⟨rfl,k1⟩;have F1:=lH (F0.out.tr k1);clear k1;have t0:=F1.out.t.c0;have t1:=F1.out.t.c1;have t5:=F1.out.x5.cell;have t6:=F1.out.x6.cell;have r0:=F1.out.r.c0;have r1:=F1.out.r.c1;have u0:=F1.out.r.f0 0;have u1:=F1.out.r.f0 1;go_wp2_with fail;refine(HSD.out _).mono ?_;rintro e0 w2 ⟨rfl,k2⟩;have F1:=lH (F1.out.tr k2);clear k2 t0 t1 t5 t6 r0 r1 u0 u1;have t0:=F1.out.t.c0;have t1:=F1.out.t.c1;have t5:=F1.out.x5.cell;have t6:=F1.out.x6.cell;have r0:=F1.out.r.c0;have r1:=F1.out.r.c1;have u0:=F1.out.r.f0 0;have u1:=F1.out.r.f0 1;have hc1:=HCC.out _ F1.out.kp;go_wp2_with fail;refine(HW.out _ F1.out.kp).mono ?_;rintro e0 w4 ⟨A4,c4,rfl,o4,k4⟩;have F1:=lH (F1.out.tr k4);have R4:Hid (Sl w4 A4 c4 g):=o4.sl;clear k4 o4 hc1 t0 t1 t5 t6 r0 r1 u0 u1;have t0:=F1.out.t.c0;have t1:=F1.out.t.c1;have t5:=F1.out.x5.cell;have t6:=F1.out.x6.cell;have r0:=F1.out.r.c0;have r1:=F1.out.r.c1;have u0:=F1.out.r.f0 0;have u1:=F1.out.r.f0 1;have hc1:=HCC.out _ F1.out.kp;go_wp2;go_quiet ((go_at_call 44;exact bM (HCK.out _ _ _ (R4.out.rd.kp (Kp.aI _ _)))));obtain⟨w6,hw6⟩:=eX (w4.drewN nq);have k6:Kp w4 w6:=by rw[hw6];exact Kp.aI _ _
   rw[<-hw6];have F1:=lH (F1.out.tr k6);have R4:=lH (R4.out.kp k6);clear hw6 k6 t0 t1 t5 t6 r0 r1 u0 u1;have t0:=F1.out.t.c0;have t1:=F1.out.t.c1;have t5:=F1.out.x5.cell;have t6:=F1.out.x6.cell;have r0:=F1.out.r.c0;have r1:=F1.out.r.c1;have u0:=F1.out.r.f0 0;have u1:=F1.out.r.f0 1;go_wp2;refine aaX (v:= .tuple #[.agg #[zS, zS], .int .i64 20]) (by simp[results,Tryz.results175,go_sem,r0,r1];try rfl) rfl ?_;exact aG.err rfl (F1.out.end_ _ _)
  ·obtain⟨z,hz⟩:∃z,side-x=z:=⟨_,rfl⟩
   have hwz:IntKind.i64.wrap (side-x)=z:=by rw[IntWalk.i64_in _ oM];exact hz
   rw[hz];by_cases c2:z<a
   ·rw[aaW oM];clear HE hok yH hz;go_enter Tryz.func175,Tryz.ntmps175;go_wp2_with fail;refine(aa9 (Hid.out HT)) ?_;rintro e0 w1 ⟨rfl,k1⟩;have F1:=lH (F0.out.tr k1);clear k1;have t0:=F1.out.t.c0;have t1:=F1.out.t.c1;have t5:=F1.out.x5.cell;have t6:=F1.out.x6.cell;have r0:=F1.out.r.c0;have r1:=F1.out.r.c1;have u0:=F1.out.r.f0 0;have u1:=F1.out.r.f0 1;go_wp2_with fail;refine(HSD.out _).mono ?_;rintro e0 w2 ⟨rfl,k2⟩;have F1:=lH (F1.out.tr k2);clear k2 t0 t1 t5 t6 r0 r1 u0 u1;have t0:=F1.out.t.c0;have t1:=F1.out.t.c1;have t5:=F1.out.x5.cell;have t6:=F1.out.x6.cell;have r0:=F1.out.r.c0;have r1:=F1.out.r.c1;have u0:=F1.out.r.f0 0;have u1:=F1.out.r.f0 1;have hc1:=HCC.out _ F1.out.kp;go_wp2_with fail;refine(HW.out _ F1.out.kp).mono ?_;rintro e0 w4 ⟨A4,c4,rfl,o4,k4⟩;have F1:=lH (F1.out.tr k4);have R4:Hid (Sl w4 A4 c4 g):=o4.sl;clear k4 o4 hc1 t0 t1 t5 t6 r0 r1 u0 u1;have t0:=F1.out.t.c0;have t1:=F1.out.t.c1;have t5:=F1.out.x5.cell;have t6:=F1.out.x6.cell;have r0:=F1.out.r.c0;have r1:=F1.out.r.c1;have u0:=F1.out.r.f0 0;have u1:=F1.out.r.f0 1;have hc1:=HCC.out _ F1.out.kp;go_wp2;go_quiet ((go_at_call 44;exact bM (HCK.out _ _ _ (R4.out.rd.kp (Kp.aI _ _)))));obtain⟨w6,hw6⟩:=eX (w4.drewN nq);have k6:Kp w4 w6:=by rw[hw6];exact Kp.aI _ _
    rw[<-hw6];have F1:=lH (F1.out.tr k6);have R4:=lH (R4.out.kp k6);clear hw6 k6 t0 t1 t5 t6 r0 r1 u0 u1;have t0:=F1.out.t.c0;have t1:=F1.out.t.c1;have t5:=F1.out.x5.cell;have t6:=F1.out.x6.cell;have r0:=F1.out.r.c0;have r1:=F1.out.r.c1;have u0:=F1.out.r.f0 0;have u1:=F1.out.r.f0 1;go_wp2;refine aaX (v:= .tuple #[.agg #[zS, zS], .int .i64 20]) (by simp[results,Tryz.results175,go_sem,r0,r1];try rfl) rfl ?_;exact aG.err rfl (F1.out.end_ _ _)
   ·rw[aaT (by simp;omega)];have HE:=lH (HE.out hok oM oM);clear hok yH hz;go_enter Tryz.func175,Tryz.ntmps175;go_wp2_with fail;refine(aa9 (Hid.out HT)) ?_;rintro e0 w1 ⟨rfl,k1⟩;have F1:=lH (F0.out.tr k1);clear k1;have t0:=F1.out.t.c0;have t1:=F1.out.t.c1;have t5:=F1.out.x5.cell;have t6:=F1.out.x6.cell;have r0:=F1.out.r.c0;have r1:=F1.out.r.c1;have u0:=F1.out.r.f0 0;have u1:=F1.out.r.f0 1;go_wp2_with fail;refine(HSD.out _).mono ?_;rintro e0 w2 ⟨rfl,k2⟩;have F1:=lH (F1.out.tr k2);clear k2 t0 t1 t5 t6 r0 r1 u0 u1;have t0:=F1.out.t.c0;have t1:=F1.out.t.c1;have t5:=F1.out.x5.cell;have t6:=F1.out.x6.cell;have r0:=F1.out.r.c0;have r1:=F1.out.r.c1;have u0:=F1.out.r.f0 0;have u1:=F1.out.r.f0 1;have hc1:=HCC.out _ F1.out.kp;go_wp2_with fail;refine(HW.out _ F1.out.kp).mono ?_;rintro e0 w4 ⟨A4,c4,rfl,o4,k4⟩;have R4:Hid (Sw w.heap.size w4 A4 c4 g):=o4.sw F1.out.kp.size;have F1:=lH (F1.out.tr k4);clear k4 o4 hc1 t0 t1 t5 t6 r0 r1 u0 u1;have t0:=F1.out.t.c0;have t1:=F1.out.t.c1;have t5:=F1.out.x5.cell;have t6:=F1.out.x6.cell;have r0:=F1.out.r.c0;have r1:=F1.out.r.c1;have u0:=F1.out.r.f0 0;have u1:=F1.out.r.f0 1;have hc1:=HCC.out _ F1.out.kp;go_wp2;go_quiet ((go_at_call 44;exact bM (HCK.out _ _ _ (R4.out.rd.kp (Kp.aI _ _)))));obtain⟨w6,hw6⟩:=eX (w4.drewN nq);have k6:Kp w4 w6:=by rw[hw6];exact Kp.aI _ _
    rw[<-hw6];have F1:=lH (F1.out.tr k6);have R4:=lH (R4.out.kp k6);clear hw6 k6 t0 t1 t5 t6 r0 r1 u0 u1;have t0:=F1.out.t.c0;have t1:=F1.out.t.c1;have t5:=F1.out.x5.cell;have t6:=F1.out.x6.cell;have r0:=F1.out.r.c0;have r1:=F1.out.r.c1;have u0:=F1.out.r.f0 0;have u1:=F1.out.r.f0 1;go_wp2_with fail;refine(HE.out _ _ _ F1.out R4.out).mono ?_;rintro e0 w5 ⟨A5,c5,B5,d5,rfl,r5,p5,k5⟩;have F1:=lH (F1.out.tr k5);have R5:=lH (And.intro r5 p5);clear k5 r5 p5 t0 t1 t5 t6 r0 r1 u0 u1;have o0:=F1.out.r.c0;have o1:=F1.out.r.c1;have u0:=F1.out.r.f0 0;have u1:=F1.out.r.f0 1;go_wp2;refine aaX (v:= .tuple #[.agg #[.slice A5 g.length c5, .slice B5 ms.length d5], .int .i64 0]) (by simp[results,Tryz.results175,go_sem,o0,o1];try rfl) rfl ?_;exact aG.of rfl (R5.out.1.toSl.past F1.out.r _ _) (R5.out.2.toSl.past F1.out.r _ _) (F1.out.end_ _ _) R5.out.1.nw R5.out.2.nw
theorem Fu(A B:DV)(c d:Nat)(s xs:BU)(aj a side:Int)(w:World)(hA:Rd w A s)(hB:Rd w B xs):
  CJ 175 #[.agg #[.slice A s.length c, .slice B xs.length d], .int .i64 aj, .int .i64 a, .int .i64 side] w (aG (lS s xs aj a side) w):=by
 cases ht:aB s xs with
 |false=>exact Fp A B c d s xs aj a side w hA hB ht
 |true=>
  by_cases h1:aj<0∨(s.length:Int)<=aj
  ·exact AF A B c d s xs aj a side w hA hB ht (by unfold lS;rw[aaT (by simp[ht]),aaW oM]) h1
  ·obtain⟨k,rfl⟩:∃k:Nat,aj=(k:Int):=⟨aj.toNat,oM⟩
   have hk:k<s.length:=by omega
   exact Ft A B c d s xs k a side s[k] w hA hB ht (aaV hk)
end Go.Proofs.YtokeebkaamjliaaGreat
namespace Go.Proofs.ShM
theorem DY(x:BU)(k:Nat):upL x k 0=x:=by
 unfold upL;rw[Int.add_zero];by_cases h:k<x.length
 ·rw[aaS,aaV h,ab5,List.set_getElem_self]
 ·rw[List.set_eq_of_length_le oM]
theorem Mg(s xs t ys h:BU)(k:Nat):qI s xs t ys h k=(List.range (au h).toNat).map fun i:Nat=>if(dR h i).getD k 0<s.getD k 0 then(atV s xs (dR h i)).1 else(atV t ys (upL (dR h i) k (-(s.getD k 0)))).1:=by
 unfold qI;refine List.map_congr_left fun i hi=>?_
 have hi':i<(au h).toNat:=by simpa using hi
 unfold dU;simp only[aaS,aa7,abm hi',Option.map_some,ab5,DY]
theorem sJ{s t:BU}{k:Nat}{x:Int}(hk:k<s.length)(hx:s[k]?=some x)(hk2:k<t.length):t.set k x=s↔s.length=t.length/\s.set k 1=t.set k 1:=by
 have e:s.set k x=s:=by rw[<-abR ((aaV hk).symm.trans hx)];exact List.set_getElem_self hk
 constructor
 ·intro h;refine⟨by rw[<-h,abr],?_⟩;rw[<-h,List.set_set]
 ·rintro⟨_,h⟩;have:=abP (fun l=>l.set k x) h;simp only[List.set_set]at this;rw[<-this];exact e
end Go.Proofs.ShM
namespace Go.Proofs.YtokeebkaamjliaaGreat
open RowKit Shelf ShM
structure Jf(w:World)(A:DV)(n c:Nat)(B:DV)(m d:Nat)(C:DV)(n2 e:Nat)(D:DV)(m2 f:Nat)(ax:Int)(W:World):Prop where
 kp:Kp w W
 t:Bk W w.heap.size A n c B m d
 t2:Bk W (w.heap.size+1) C n2 e D m2 f
 x5:Boxed W (w.heap.size+1+1) 3 (.int .i64 ax)
 r:Bk W (w.heap.size+1+1+1) none 0 0 none 0 0
section
variable{w W W':World}{A B C D:DV}{n c m d n2 e m2 f:Nat}{ax:Int}
theorem Jf.tr(h:Jf w A n c B m d C n2 e D m2 f ax W)(k:Kp W W'):Jf w A n c B m d C n2 e D m2 f ax W':=⟨h.kp.tr k,h.t.kp k,h.t2.kp k,bB k h.x5,h.r.kp k⟩
theorem Jf.mk_(w:World)(A:DV)(n c:Nat)(B:DV)(m d:Nat)(C:DV)(n2 e:Nat)(D:DV)(m2 f:Nat)(ax:Int):
  Jf w A n c B m d C n2 e D m2 f ax ((((w.alloc (.cells #[.slice A n c, .slice B m d] 25)).alloc (.cells #[.slice C n2 e, .slice D m2 f] 25)).alloc (.cells #[.int .i64 ax] 3)).alloc (.cells #[zS, zS] 25)) where
 kp:=(((Kp.af _ _).al _).al _).al _
 t:=(((Bk.new rfl).af _).af _).af _
 t2:=((Bk.new sC).af _).af _
 x5:=by
  have h:=(Boxed.new ((w.alloc (.cells #[.slice A n c, .slice B m d] 25)).alloc (.cells #[.slice C n2 e, .slice D m2 f] 25)) 3 (.int .i64 ax)).alloc (.cells #[zS, zS] 25);simpa only[aaY]using h
 r:=Bk.new sC
theorem Jf.end_(h:Jf w A n c B m d C n2 e D m2 f ax W)(x y:Value):Kp w ((W.setCell ⟨w.heap.size+1+1+1,0,none⟩ x).setCell ⟨w.heap.size+1+1+1,1,none⟩ y):=
 (h.kp.setCell (p:=⟨w.heap.size+1+1+1,0,none⟩) (by show w.heap.size<=w.heap.size+1+1+1;omega) x).setCell (p:=⟨w.heap.size+1+1+1,1,none⟩) (by show w.heap.size<=w.heap.size+1+1+1;omega) y
end
theorem C9(A B C D E:DV)(c d e f n aj b8:Nat)(s xs t ys g:BU)(x:Int)(w V:World)(hA:Rd w A s)(hB:Rd w B xs)(hC:Rd w C t)(hD:Rd w D ys)(T:Jf w A s.length c B xs.length d C t.length e D ys.length f (aj:Int) V)
  (X6:Boxed V b8 3 (.int .i64 x))(r:Sw w.heap.size V E n g)(hg:okS g=true)(hax:aj<g.length)(hx:s.getD aj 0=x)(hx0:0<=x)(hx1:x<=16):
  CJ 118 #[.slice E g.length n, .func (.func 125) #[] #[pX (w.heap.size+1+1) 0, pX b8 0, pX w.heap.size 0, pX (w.heap.size+1) 0]] V (yZ w.heap.size g (qI s xs t ys g aj) V):=by
 rw[Mg,hx];exact qG E n g 125 [pX (w.heap.size+1+1) 0, pX b8 0, pX w.heap.size 0, pX (w.heap.size+1) 0]
  (fun k=>if(dR g k).getD aj 0<x then(atV s xs (dR g k)).1 else(atV t ys (upL (dR g k) aj (-x))).1) V w.heap.size T.kp.size r.nw r.rd hg
  (fun k AI q W0 W1 k0 k1 hk hO=>by
   obtain⟨y,hy,y0,y1⟩:=uZ hg hk hax;have hl:=eU g (k:Int);rw[<-hl]at hO⊢;have hz:IntKind.i64.wrap (y-x)=y+(-x):=by rw[IntWalk.i64_in _ oM]<;>omega
   have p:=Cr A B C D AI c d e f q W0.heap.size w.heap.size (w.heap.size+1) (w.heap.size+1+1) b8 s xs t ys (dR g k) aj x y _ V W1 (k0.tr k1) k0.size T.t T.t2 T.x5 X6 (hA.kp T.kp) (hB.kp T.kp) (hC.kp T.kp) (hD.kp T.kp) hO hy hz;rw[<-zy hy]at p;have hgd:(dR g k).getD aj 0=y:=by rw[List.getD,hy,ab5]
   try dsimp only
   rw[hgd];exact p) (enters_of Tryz.func125 kM rfl) r.toSl.room
theorem AO(A B C D:DV)(c d e f:Nat)(s xs t ys:BU)(aj:Int)(w:World)(hA:Rd w A s)(hB:Rd w B xs)(hC:Rd w C t)(hD:Rd w D ys)(ht:aB s xs=false∨aB t ys=false):
  CJ 98 #[.agg #[.slice A s.length c, .slice B xs.length d], .agg #[.slice C t.length e, .slice D ys.length f], .int .i64 aj] w (aG (eE s xs t ys aj) w):=by
 have hlA:=hA.len;have hlB:=hB.len;have hlC:=hC.len;have hlD:=hD.len;have F0:=lH (Jf.mk_ w A s.length c B xs.length d C t.length e D ys.length f aj);have HT:=lH (fun W (k:Kp w W)=>av A B c d s xs W (hA.kp k) (hB.kp k));have HT2:=lH (fun W (k:Kp w W)=>av C D e f t ys W (hC.kp k) (hD.kp k));have HF:Hid (eE s xs t ys aj=([],[],30)):=by show eE s xs t ys aj=_;unfold eE;rw[aaW ht]
 cases h1:aB s xs with
 |false=>
  rw[h1]at HT;clear hA hB hC hD ht h1;go_enter Tryz.func98,Tryz.ntmps98;go_wp2_with fail;refine(HT.out _ F0.out.kp).mono ?_;rintro e0 w1 ⟨rfl,k1⟩;have F1:=lH (F0.out.tr k1);clear k1;have t0:=F1.out.t.c0;have t1:=F1.out.t.c1;have t2:=F1.out.t2.c0;have t3:=F1.out.t2.c1;have t5:=F1.out.x5.cell;have r0:=F1.out.r.c0;have r1:=F1.out.r.c1;have u0:=F1.out.r.f0 0;have u1:=F1.out.r.f0 1;go_wp2;refine aaX (v:= .tuple #[.agg #[zS, zS], .int .i64 30]) (by simp[results,Tryz.results98,go_sem,r0,r1];try rfl) rfl ?_;exact aG.err HF.out (F1.out.end_ _ _)
 |true=>
  have h2:aB t ys=false:=by rcases ht with h|h;(rw[h1]at h;cases h);exact h
  rw[h1]at HT;rw[h2]at HT2;clear hA hB hC hD ht h1 h2;go_enter Tryz.func98,Tryz.ntmps98;go_wp2_with fail;refine(HT.out _ F0.out.kp).mono ?_;rintro e0 w1 ⟨rfl,k1⟩;have F1:=lH (F0.out.tr k1);clear k1;have t0:=F1.out.t.c0;have t1:=F1.out.t.c1;have t2:=F1.out.t2.c0;have t3:=F1.out.t2.c1;have t5:=F1.out.x5.cell;have r0:=F1.out.r.c0;have r1:=F1.out.r.c1;have u0:=F1.out.r.f0 0;have u1:=F1.out.r.f0 1;go_wp2_with fail;refine(HT2.out _ F1.out.kp).mono ?_;rintro e0 w2 ⟨rfl,k2⟩;have F1:=lH (F1.out.tr k2);clear k2 t0 t1 t2 t3 t5 r0 r1 u0 u1;have t0:=F1.out.t.c0;have t1:=F1.out.t.c1;have t2:=F1.out.t2.c0;have t3:=F1.out.t2.c1;have t5:=F1.out.x5.cell;have r0:=F1.out.r.c0;have r1:=F1.out.r.c1;have u0:=F1.out.r.f0 0;have u1:=F1.out.r.f0 1;go_wp2;refine aaX (v:= .tuple #[.agg #[zS, zS], .int .i64 30]) (by simp[results,Tryz.results98,go_sem,r0,r1];try rfl) rfl ?_;exact aG.err HF.out (F1.out.end_ _ _)
theorem xT(A B C D:DV)(c d e f:Nat)(s xs t ys:BU)(aj:Int)(w:World)(hA:Rd w A s)(hB:Rd w B xs)(hC:Rd w C t)(hD:Rd w D ys)(ht:aB s xs=true)(ht2:aB t ys=true)(hF:eE s xs t ys aj=([],[],20))(hx:aj<0∨(s.length:Int)<=aj∨(t.length:Int)<=aj):
  CJ 98 #[.agg #[.slice A s.length c, .slice B xs.length d], .agg #[.slice C t.length e, .slice D ys.length f], .int .i64 aj] w (aG (eE s xs t ys aj) w):=by
 have hlA:=hA.len;have hlB:=hB.len;have hlC:=hC.len;have hlD:=hD.len;have F0:=lH (Jf.mk_ w A s.length c B xs.length d C t.length e D ys.length f aj);have HT:=lH (fun W (k:Kp w W)=>av A B c d s xs W (hA.kp k) (hB.kp k));have HT2:=lH (fun W (k:Kp w W)=>av C D e f t ys W (hC.kp k) (hD.kp k));have HF:=lH hF;rw[ht]at HT;rw[ht2]at HT2;by_cases h1:aj<0∨(s.length:Int)<=aj
 ·have HSA:Hid (∀W,CJ 122 #[.agg #[.slice A s.length c, .slice B xs.length d], .int .i64 aj] W fun e w'=>e= .returned (.bool false)/\Kp W w'):=fun W=>iH A B c d s.length xs.length _ W h1 hlA
  clear hA hB hC hD ht ht2 hF hx h1;go_enter Tryz.func98,Tryz.ntmps98;go_wp2_with fail;refine(HT.out _ F0.out.kp).mono ?_;rintro e0 w1 ⟨rfl,k1⟩;have F1:=lH (F0.out.tr k1);clear k1;have t0:=F1.out.t.c0;have t1:=F1.out.t.c1;have t2:=F1.out.t2.c0;have t3:=F1.out.t2.c1;have t5:=F1.out.x5.cell;have r0:=F1.out.r.c0;have r1:=F1.out.r.c1;have u0:=F1.out.r.f0 0;have u1:=F1.out.r.f0 1;go_wp2_with fail;refine(HT2.out _ F1.out.kp).mono ?_;rintro e0 w2 ⟨rfl,k2⟩;have F1:=lH (F1.out.tr k2);clear k2 t0 t1 t2 t3 t5 r0 r1 u0 u1;have t0:=F1.out.t.c0;have t1:=F1.out.t.c1;have t2:=F1.out.t2.c0;have t3:=F1.out.t2.c1;have t5:=F1.out.x5.cell;have r0:=F1.out.r.c0;have r1:=F1.out.r.c1;have u0:=F1.out.r.f0 0;have u1:=F1.out.r.f0 1;go_wp2_with fail;refine(HSA.out _).mono ?_;rintro e0 w3 ⟨rfl,k3⟩;have F1:=lH (F1.out.tr k3);clear k3 t0 t1 t2 t3 t5 r0 r1 u0 u1;have t0:=F1.out.t.c0;have t1:=F1.out.t.c1;have t2:=F1.out.t2.c0;have t3:=F1.out.t2.c1;have t5:=F1.out.x5.cell;have r0:=F1.out.r.c0;have r1:=F1.out.r.c1;have u0:=F1.out.r.f0 0;have u1:=F1.out.r.f0 1;go_wp2;refine aaX (v:= .tuple #[.agg #[zS, zS], .int .i64 20]) (by simp[results,Tryz.results98,go_sem,r0,r1];try rfl) rfl ?_;exact aG.err HF.out (F1.out.end_ _ _)
 ·have HSA:Hid (∀W,CJ 122 #[.agg #[.slice A s.length c, .slice B xs.length d], .int .i64 aj] W fun e w'=>e= .returned (.bool true)/\Kp W w'):=fun W=>d9 A B c d s.length xs.length _ W oM oM hlA
  have HSB:Hid (∀W,CJ 122 #[.agg #[.slice C t.length e, .slice D ys.length f], .int .i64 aj] W fun e w'=>e= .returned (.bool false)/\Kp W w'):=fun W=>iH C D e f t.length ys.length _ W oM hlC
  clear hA hB hC hD ht ht2 hF hx h1;go_enter Tryz.func98,Tryz.ntmps98;go_wp2_with fail;refine(HT.out _ F0.out.kp).mono ?_;rintro e0 w1 ⟨rfl,k1⟩;have F1:=lH (F0.out.tr k1);clear k1;have t0:=F1.out.t.c0;have t1:=F1.out.t.c1;have t2:=F1.out.t2.c0;have t3:=F1.out.t2.c1;have t5:=F1.out.x5.cell;have r0:=F1.out.r.c0;have r1:=F1.out.r.c1;have u0:=F1.out.r.f0 0;have u1:=F1.out.r.f0 1;go_wp2_with fail;refine(HT2.out _ F1.out.kp).mono ?_;rintro e0 w2 ⟨rfl,k2⟩;have F1:=lH (F1.out.tr k2);clear k2 t0 t1 t2 t3 t5 r0 r1 u0 u1;have t0:=F1.out.t.c0;have t1:=F1.out.t.c1;have t2:=F1.out.t2.c0;have t3:=F1.out.t2.c1;have t5:=F1.out.x5.cell;have r0:=F1.out.r.c0;have r1:=F1.out.r.c1;have u0:=F1.out.r.f0 0;have u1:=F1.out.r.f0 1;go_wp2_with fail;refine(HSA.out _).mono ?_;rintro e0 w3 ⟨rfl,k3⟩;have F1:=lH (F1.out.tr k3);clear k3 t0 t1 t2 t3 t5 r0 r1 u0 u1;have t0:=F1.out.t.c0;have t1:=F1.out.t.c1;have t2:=F1.out.t2.c0;have t3:=F1.out.t2.c1;have t5:=F1.out.x5.cell;have r0:=F1.out.r.c0;have r1:=F1.out.r.c1;have u0:=F1.out.r.f0 0;have u1:=F1.out.r.f0 1;go_wp2_with fail;refine(HSB.out _).mono ?_;rintro e0 w4 ⟨rfl,k4⟩;have F1:=lH (F1.out.tr k4);clear k4 t0 t1 t2 t3 t5 r0 r1 u0 u1;have t0:=F1.out.t.c0;have t1:=F1.out.t.c1;have t2:=F1.out.t2.c0;have t3:=F1.out.t2.c1;have t5:=F1.out.x5.cell;have r0:=F1.out.r.c0;have r1:=F1.out.r.c1;have u0:=F1.out.r.f0 0;have u1:=F1.out.r.f0 1;go_wp2;refine aaX (v:= .tuple #[.agg #[zS, zS], .int .i64 20]) (by simp[results,Tryz.results98,go_sem,r0,r1];try rfl) rfl ?_;exact aG.err HF.out (F1.out.end_ _ _)
theorem Fz(A B C D:DV)(c d e f:Nat)(s xs t ys:BU)(k:Nat)(x y:Int)(w:World)(hA:Rd w A s)(hB:Rd w B xs)(hC:Rd w C t)(hD:Rd w D ys)(ht:aB s xs=true)(ht2:aB t ys=true)(hx:s[k]?=some x)(hy:t[k]?=some y):
  CJ 98 #[.agg #[.slice A s.length c, .slice B xs.length d], .agg #[.slice C t.length e, .slice D ys.length f], .int .i64 (k:Int)] w (aG (eE s xs t ys (k:Int)) w):=by
 have hlA:=hA.len;have hlB:=hB.len;have hlC:=hC.len;have hlD:=hD.len;have F0:=lH (Jf.mk_ w A s.length c B xs.length d C t.length e D ys.length f (k:Int));have HT:=lH (fun W (k:Kp w W)=>av A B c d s xs W (hA.kp k) (hB.kp k));have HT2:=lH (fun W (k:Kp w W)=>av C D e f t ys W (hC.kp k) (hD.kp k));have hk:=(aaU.1 hx).1;have hk2:=(aaU.1 hy).1;have hs3:t.length<=3:=(aD.1 (aW ht2).1).1;have Qv:=(cN (bI (aW ht).1) hx)
 have Vb:=(cN (bI (aW ht2).1) hy)
 have hgx:s.getD k 0=x:=by rw[List.getD,hx,ab5]
 have hgy:t.getD k 0=y:=by rw[List.getD,hy,ab5]
 obtain⟨z,hz⟩:∃z,x+y=z:=⟨_,rfl⟩
 have hwz:IntKind.i64.wrap (x+y)=z:=by rw[IntWalk.i64_in _ oM];exact hz
 have HP:Hid (eE s xs t ys k=if t.set k x=s then(if okS (t.set k z)=true then(t.set k z,qI s xs t ys (t.set k z) k,0)else([],[],20))else([],[],20)):=by
  show eE s xs t ys k=_;unfold eE;rw[aaT (by simp[ht,ht2]),aa2,hgx,hgy,hz];by_cases hq:t.set k x=s
  ·have h2:=(sJ hk hx hk2).1 hq;have h3:s.set k z=t.set k z:=by rw[<-hq,List.set_set]
   rw[aaW hq,h3];by_cases ho:okS (t.set k z)=true
   ·rw[aaW ho,aaT (by rintro(h|h|h|h|h);(· omega);(· omega);(· exact h h2.1);(· exact h h2.2);rw[ho]at h;cases h)]
   ·rw[aaT ho,aaW (by right;right;right;right;simpa using ho)]
  ·rw[aaT hq,aaW];by_cases h2:s.length=t.length
   ·exact .inr (.inr (.inr (.inl fun h3=>hq ((sJ hk hx hk2).2 ⟨h2,h3⟩))))
   ·exact .inr (.inr (.inl h2))
 rw[HP.out];rw[ht]at HT;rw[ht2]at HT2;have HSA:Hid (∀W,CJ 122 #[.agg #[.slice A s.length c, .slice B xs.length d], .int .i64 (k:Int)] W fun e w'=>e= .returned (.bool true)/\Kp W w'):=fun W=>d9 A B c d s.length xs.length _ W oM oM hlA
 have HSB:Hid (∀W,CJ 122 #[.agg #[.slice C t.length e, .slice D ys.length f], .int .i64 (k:Int)] W fun e w'=>e= .returned (.bool true)/\Kp W w'):=fun W=>d9 C D e f t.length ys.length _ W oM oM hlC
 have HWZ:=lH (fun W (kw:Kp w W)=>jf C e t k z W (hC.kp kw) oM hk2);have HWX:=lH (fun W (kw:Kp w W)=>jf C e t k x W (hC.kp kw) oM hk2);have HEQ:Hid (∀W E q,Kp w W->Rd W E (t.set k x)->CJ 69 #[.slice E (t.set k x).length q, .slice A s.length c] W fun e w'=>e= .returned (.bool (t.set k x==s))/\Kp W w'):=fun W E q kw r=>(eF E A q c _ s W r (hA.kp kw)).mono fun e w' h=>⟨h.1,by obtain⟨_,n,h⟩:=h;rw[h];exact Kp.aI _ _⟩
 have HCK:Hid (∀W E q,Rd W E (t.set k z)->CJ 44 #[.slice E (t.set k z).length q] W fun e w'=>e= .returned (.bool (okS (t.set k z)))/\W=w'):=fun W E q r=>bQ E q (t.set k z) W r
 have HE:Hid (okS (t.set k z)=true->∀V E n b8,Jf w A s.length c B xs.length d C t.length e D ys.length f (k:Int) V->Boxed V b8 3 (.int .i64 x)->Sw w.heap.size V E n (t.set k z)->CJ 118 #[.slice E (t.set k z).length n, .func (.func 125) #[] #[pX (w.heap.size+1+1) 0, pX b8 0, pX w.heap.size 0, pX (w.heap.size+1) 0]] V (yZ w.heap.size (t.set k z) (qI s xs t ys (t.set k z) k) V)):=
  fun hog V E n b8 T X r=>C9 A B C D E c d e f n k b8 s xs t ys (t.set k z) x w V hA hB hC hD T X r hog (by rw[abr];exact hk2) hgx oM oM
 obtain⟨ad,x',rfl,hbx,hx',hc⟩:=hA.at_ hk;obtain rfl:x=x':=by rw[hx]at hx';exact abR hx'
 obtain⟨ae,y',rfl,hby,hy',hc'⟩:=hC.at_ hk2;obtain rfl:y=y':=by rw[hy]at hy';exact abR hy'
 have HCA:Hid (∀W,Kp w W->W.cell? (ad.add k)=some (.int .i64 x)):=fun W q=>(q.cell (p:=ad.add k) (by rw[ah];exact hbx)).trans hc
 have HCB:Hid (∀W,Kp w W->W.cell? (ae.add k)=some (.int .i64 y)):=fun W q=>(q.cell (p:=ae.add k) (by rw[ah];exact hby)).trans hc'
 have j1:(0:Int)<=(k:Int):=by omega
 have j2:(k:Int)<(s.length:Int):=by omega
 have j3:(k:Int)<(t.length:Int):=by omega
 have HEB:Hid ((t.set k x==s)=decide (t.set k x=s)):=by show _=_;rw[acD];simp
 generalize hg:t.set k z=g at HE HWZ HCK HP⊢;generalize hq:t.set k x=q at HEQ HWX HEB HP⊢;generalize qI s xs t ys g k=ms at HE HP⊢;clear hA hB hC hD ht ht2 hx hx' hy hy' hgx hgy hg hq hc hc' HP hz Qv Vb;by_cases hqs:q=s
 ·rw[aaW hqs];rw[HEB.out,abJ hqs]at HEQ;clear HEB hqs
  cases hok:okS g with
  |false=>
   rw[hok]at HCK;rw[aaT sC];clear HE hok;go_enter Tryz.func98,Tryz.ntmps98;go_wp2_with fail;refine(HT.out _ F0.out.kp).mono ?_;rintro e0 w1 ⟨rfl,k1⟩;have F1:=lH (F0.out.tr k1);clear k1;have t0:=F1.out.t.c0;have t1:=F1.out.t.c1;have t2:=F1.out.t2.c0;have t3:=F1.out.t2.c1;have t5:=F1.out.x5.cell;have r0:=F1.out.r.c0;have r1:=F1.out.r.c1;have u0:=F1.out.r.f0 0;have u1:=F1.out.r.f0 1;go_wp2_with fail;refine(HT2.out _ F1.out.kp).mono ?_;rintro e0 w2 ⟨rfl,k2⟩;have F1:=lH (F1.out.tr k2);clear k2 t0 t1 t2 t3 t5 r0 r1 u0 u1;have t0:=F1.out.t.c0;have t1:=F1.out.t.c1;have t2:=F1.out.t2.c0;have t3:=F1.out.t2.c1;have t5:=F1.out.x5.cell;have r0:=F1.out.r.c0;have r1:=F1.out.r.c1;have u0:=F1.out.r.f0 0;have u1:=F1.out.r.f0 1;go_wp2_with fail;refine(HSA.out _).mono ?_;rintro e0 w3 ⟨rfl,k3⟩;have F1:=lH (F1.out.tr k3);clear k3 t0 t1 t2 t3 t5 r0 r1 u0 u1;have t0:=F1.out.t.c0;have t1:=F1.out.t.c1;have t2:=F1.out.t2.c0;have t3:=F1.out.t2.c1;have t5:=F1.out.x5.cell;have r0:=F1.out.r.c0;have r1:=F1.out.r.c1;have u0:=F1.out.r.f0 0;have u1:=F1.out.r.f0 1;go_wp2_with fail;refine(HSB.out _).mono ?_;rintro e0 w4 ⟨rfl,k4⟩;have F1:=lH (F1.out.tr k4);clear k4 t0 t1 t2 t3 t5 r0 r1 u0 u1;have t0:=F1.out.t.c0;have t1:=F1.out.t.c1;have t2:=F1.out.t2.c0;have t3:=F1.out.t2.c1;have t5:=F1.out.x5.cell;have r0:=F1.out.r.c0;have r1:=F1.out.r.c1;have u0:=F1.out.r.f0 0;have u1:=F1.out.r.f0 1;have ca:=HCA.out _ F1.out.kp;have cb:=HCB.out _ F1.out.kp
   go_upto_region 6 with fail
   obtain⟨W5,HW5⟩:∃W5,Hid (W5=w4.alloc (.cells #[.int .i64 x] 3)):=⟨_,rfl⟩
   have k5:Kp w4 W5:=by rw[HW5.out];exact Kp.af _ _
   obtain⟨b8,hb8⟩:=eX (w4.heap.size);have X8:Hid (Boxed W5 b8 3 (.int .i64 x)):=by show Boxed _ _ _ _;rw[HW5.out,hb8];exact Boxed.new _ _ _
   rw[<-HW5.out,<-hb8];have F1:=lH (F1.out.tr k5);clear k5 HW5 hb8 ca cb t0 t1 t2 t3 t5 r0 r1 u0 u1;have HKV:Hid (∀V,Kp W5 V->Hid (Kp W5 V)/\Hid (Jf w (some ad) s.length c B xs.length d (some ae) t.length e D ys.length f (k:Int) V)/\Hid (Boxed V b8 3 (.int .i64 x))/\V.cell? ⟨w.heap.size,0,none⟩=some (.slice (some ad) s.length c)/\V.cell? ⟨w.heap.size+1,0,none⟩=some (.slice (some ae) t.length e)/\V.cell? ⟨w.heap.size+1+1,0,none⟩=some (.int .i64 (k:Int))/\V.cell? ⟨b8,0,none⟩=some (.int .i64 x)/\V.cell? (ae.add k)=some (.int .i64 y)):=fun V kV=>
    ⟨kV,F1.out.tr kV,bB kV X8.out,(F1.out.tr kV).t.c0,(F1.out.tr kV).t2.c0,(F1.out.tr kV).x5.cell,Boxed.cell (bB kV X8.out),HCB.out _ (F1.out.kp.tr kV)⟩
   obtain⟨_,_,_,s0,s1,s2,s3,s4⟩:=HKV.out W5 (Kp.refl _);have hdr:Hid (Kp W5 W5.drew):=aa3 (Kp.refl _)
   go_region_held3 (fun V=>V.cell? ⟨w.heap.size,0,none⟩=some (.slice (some ad) s.length c)/\V.cell? ⟨w.heap.size+1,0,none⟩=some (.slice (some ae) t.length e)/\V.cell? ⟨w.heap.size+1+1,0,none⟩=some (.int .i64 (k:Int))/\V.cell? ⟨b8,0,none⟩=some (.int .i64 x)/\V.cell? (ae.add k)=some (.int .i64 y)) (first|exact⟨v0,v1,v2,v3,v4⟩|exact⟨s0,s1,s2,s3,s4⟩)
    ((go_at_call 123;refine(HWZ.out _ (F1.out.kp.tr hdr.out)).mono ?_;rintro e0 w6 ⟨A6,c6,rfl,o6,k6⟩;obtain⟨K6,F6,X6,v0,v1,v2,v3,v4⟩:=HKV.out _ (bZ k6);have RG:Hid (Sl w6 A6 c6 g):=o6.sl;clear o6 k6))
   clear s0 s1 s2 s3 s4;go_wp2;have Pb:Hid (Kp w6 w6.drew):=aa3 (Kp.refl _)
   go_region_held3 (fun V=>V.cell? ⟨w.heap.size,0,none⟩=some (.slice (some ad) s.length c)/\V.cell? ⟨w.heap.size+1,0,none⟩=some (.slice (some ae) t.length e)/\V.cell? ⟨w.heap.size+1+1,0,none⟩=some (.int .i64 (k:Int))/\V.cell? ⟨b8,0,none⟩=some (.int .i64 x)/\V.cell? (ae.add k)=some (.int .i64 y)) (first|exact⟨z0,z1,z2,z3,z4⟩|exact⟨y0,y1,y2,y3,y4⟩|exact⟨v0,v1,v2,v3,v4⟩)
    (first
     |(go_at_call 123;refine(HWX.out _ (F6.out.kp.tr Pb.out)).mono ?_;rintro e0 w7 ⟨A7,c7,rfl,o7,k7⟩;obtain⟨K7,F7,X7,y0,y1,y2,y3,y4⟩:=HKV.out _ (K6.out.tr (bZ k7));have RQ:Hid (Rd w7 A7 q):=o7.sl.rd;have RG7:=lH (RG.out.kp (bZ k7));clear o7 k7)
     |(go_at_call 69;refine(HEQ.out _ _ _ F7.out.kp RQ.out).mono ?_;rintro e0 w8 ⟨rfl,k8⟩;have RG9:=lH (RG7.out.kp k8);obtain⟨K8,F1,X8,z0,z1,z2,z3,z4⟩:=HKV.out _ (K7.out.tr k8);clear k8)
     |(go_at_call 44;refine(HCK.out _ _ _ RG9.out.rd).mono ?_;rintro e0 w9 ⟨rfl,rfl⟩))
   all_goals skip
   have r0:=F1.out.r.c0;have r1:=F1.out.r.c1;have u0:=F1.out.r.f0 0;have u1:=F1.out.r.f0 1;go_wp2;refine aaX (v:= .tuple #[.agg #[zS, zS], .int .i64 20]) (by simp[results,Tryz.results98,go_sem,r0,r1];try rfl) rfl ?_;exact aG.err rfl (F1.out.end_ _ _)
  |true=>
   rw[hok]at HCK;rw[aaW rfl];have HE:=lH (HE.out hok);clear hok;go_enter Tryz.func98,Tryz.ntmps98;go_wp2_with fail;refine(HT.out _ F0.out.kp).mono ?_;rintro e0 w1 ⟨rfl,k1⟩;have F1:=lH (F0.out.tr k1);clear k1;have t0:=F1.out.t.c0;have t1:=F1.out.t.c1;have t2:=F1.out.t2.c0;have t3:=F1.out.t2.c1;have t5:=F1.out.x5.cell;have r0:=F1.out.r.c0;have r1:=F1.out.r.c1;have u0:=F1.out.r.f0 0;have u1:=F1.out.r.f0 1;go_wp2_with fail;refine(HT2.out _ F1.out.kp).mono ?_;rintro e0 w2 ⟨rfl,k2⟩;have F1:=lH (F1.out.tr k2);clear k2 t0 t1 t2 t3 t5 r0 r1 u0 u1;have t0:=F1.out.t.c0;have t1:=F1.out.t.c1;have t2:=F1.out.t2.c0;have t3:=F1.out.t2.c1;have t5:=F1.out.x5.cell;have r0:=F1.out.r.c0;have r1:=F1.out.r.c1;have u0:=F1.out.r.f0 0;have u1:=F1.out.r.f0 1;go_wp2_with fail;refine(HSA.out _).mono ?_;rintro e0 w3 ⟨rfl,k3⟩;have F1:=lH (F1.out.tr k3);clear k3 t0 t1 t2 t3 t5 r0 r1 u0 u1;have t0:=F1.out.t.c0;have t1:=F1.out.t.c1;have t2:=F1.out.t2.c0;have t3:=F1.out.t2.c1;have t5:=F1.out.x5.cell;have r0:=F1.out.r.c0;have r1:=F1.out.r.c1;have u0:=F1.out.r.f0 0;have u1:=F1.out.r.f0 1;go_wp2_with fail;refine(HSB.out _).mono ?_;rintro e0 w4 ⟨rfl,k4⟩;have F1:=lH (F1.out.tr k4);clear k4 t0 t1 t2 t3 t5 r0 r1 u0 u1;have t0:=F1.out.t.c0;have t1:=F1.out.t.c1;have t2:=F1.out.t2.c0;have t3:=F1.out.t2.c1;have t5:=F1.out.x5.cell;have r0:=F1.out.r.c0;have r1:=F1.out.r.c1;have u0:=F1.out.r.f0 0;have u1:=F1.out.r.f0 1;have ca:=HCA.out _ F1.out.kp;have cb:=HCB.out _ F1.out.kp
   go_upto_region 6 with fail
   obtain⟨W5,HW5⟩:∃W5,Hid (W5=w4.alloc (.cells #[.int .i64 x] 3)):=⟨_,rfl⟩
   have k5:Kp w4 W5:=by rw[HW5.out];exact Kp.af _ _
   obtain⟨b8,hb8⟩:=eX (w4.heap.size);have X8:Hid (Boxed W5 b8 3 (.int .i64 x)):=by show Boxed _ _ _ _;rw[HW5.out,hb8];exact Boxed.new _ _ _
   rw[<-HW5.out,<-hb8];have F1:=lH (F1.out.tr k5);clear k5 HW5 hb8 ca cb t0 t1 t2 t3 t5 r0 r1 u0 u1;have HKV:Hid (∀V,Kp W5 V->Hid (Kp W5 V)/\Hid (Jf w (some ad) s.length c B xs.length d (some ae) t.length e D ys.length f (k:Int) V)/\Hid (Boxed V b8 3 (.int .i64 x))/\V.cell? ⟨w.heap.size,0,none⟩=some (.slice (some ad) s.length c)/\V.cell? ⟨w.heap.size+1,0,none⟩=some (.slice (some ae) t.length e)/\V.cell? ⟨w.heap.size+1+1,0,none⟩=some (.int .i64 (k:Int))/\V.cell? ⟨b8,0,none⟩=some (.int .i64 x)/\V.cell? (ae.add k)=some (.int .i64 y)):=fun V kV=>
    ⟨kV,F1.out.tr kV,bB kV X8.out,(F1.out.tr kV).t.c0,(F1.out.tr kV).t2.c0,(F1.out.tr kV).x5.cell,Boxed.cell (bB kV X8.out),HCB.out _ (F1.out.kp.tr kV)⟩
   obtain⟨_,_,_,s0,s1,s2,s3,s4⟩:=HKV.out W5 (Kp.refl _);have hdr:Hid (Kp W5 W5.drew):=aa3 (Kp.refl _)
   go_region_held3 (fun V=>V.cell? ⟨w.heap.size,0,none⟩=some (.slice (some ad) s.length c)/\V.cell? ⟨w.heap.size+1,0,none⟩=some (.slice (some ae) t.length e)/\V.cell? ⟨w.heap.size+1+1,0,none⟩=some (.int .i64 (k:Int))/\V.cell? ⟨b8,0,none⟩=some (.int .i64 x)/\V.cell? (ae.add k)=some (.int .i64 y)) (first|exact⟨v0,v1,v2,v3,v4⟩|exact⟨s0,s1,s2,s3,s4⟩)
    ((go_at_call 123;refine(HWZ.out _ (F1.out.kp.tr hdr.out)).mono ?_;rintro e0 w6 ⟨A6,c6,rfl,o6,k6⟩;obtain⟨K6,F6,X6,v0,v1,v2,v3,v4⟩:=HKV.out _ (bZ k6);have RG:Hid (Sw w.heap.size w6 A6 c6 g):=o6.sw (F1.out.kp.tr hdr.out).size;clear o6 k6))
   clear s0 s1 s2 s3 s4;go_wp2;have Pb:Hid (Kp w6 w6.drew):=aa3 (Kp.refl _)
   go_region_held3 (fun V=>V.cell? ⟨w.heap.size,0,none⟩=some (.slice (some ad) s.length c)/\V.cell? ⟨w.heap.size+1,0,none⟩=some (.slice (some ae) t.length e)/\V.cell? ⟨w.heap.size+1+1,0,none⟩=some (.int .i64 (k:Int))/\V.cell? ⟨b8,0,none⟩=some (.int .i64 x)/\V.cell? (ae.add k)=some (.int .i64 y)) (first|exact⟨z0,z1,z2,z3,z4⟩|exact⟨y0,y1,y2,y3,y4⟩|exact⟨v0,v1,v2,v3,v4⟩)
    (first
     |(go_at_call 123;refine(HWX.out _ (F6.out.kp.tr Pb.out)).mono ?_;rintro e0 w7 ⟨A7,c7,rfl,o7,k7⟩;obtain⟨K7,F7,X7,y0,y1,y2,y3,y4⟩:=HKV.out _ (K6.out.tr (bZ k7));have RQ:Hid (Rd w7 A7 q):=o7.sl.rd;have RG7:=lH (RG.out.kp (bZ k7));clear o7 k7)
     |(go_at_call 69;refine(HEQ.out _ _ _ F7.out.kp RQ.out).mono ?_;rintro e0 w8 ⟨rfl,k8⟩;have RG9:=lH (RG7.out.kp k8);obtain⟨K8,F1,X8,z0,z1,z2,z3,z4⟩:=HKV.out _ (K7.out.tr k8);clear k8)
     |(go_at_call 44;refine(HCK.out _ _ _ RG9.out.rd).mono ?_;rintro e0 w9 ⟨rfl,rfl⟩))
   go_wp2_with fail;refine(HE.out _ _ _ _ F1.out X8.out RG9.out).mono ?_;rintro e0 wz ⟨A5,c5,B5,d5,rfl,r5,p5,k5⟩;have F1:=lH (F1.out.tr k5);have R5:=lH (And.intro r5 p5);clear k5 r5 p5;have o0:=F1.out.r.c0;have o1:=F1.out.r.c1;have u0:=F1.out.r.f0 0;have u1:=F1.out.r.f0 1;go_wp2;refine aaX (v:= .tuple #[.agg #[.slice A5 g.length c5, .slice B5 ms.length d5], .int .i64 0]) (by simp[results,Tryz.results98,go_sem,o0,o1];try rfl) rfl ?_;exact aG.of rfl (R5.out.1.toSl.past F1.out.r _ _) (R5.out.2.toSl.past F1.out.r _ _) (F1.out.end_ _ _) R5.out.1.nw R5.out.2.nw
 ·rw[aaT hqs];rw[HEB.out,abQ hqs]at HEQ;clear HE HEB hqs HCK;go_enter Tryz.func98,Tryz.ntmps98;go_wp2_with fail;refine(HT.out _ F0.out.kp).mono ?_;rintro e0 w1 ⟨rfl,k1⟩;have F1:=lH (F0.out.tr k1);clear k1;have t0:=F1.out.t.c0;have t1:=F1.out.t.c1;have t2:=F1.out.t2.c0;have t3:=F1.out.t2.c1;have t5:=F1.out.x5.cell;have r0:=F1.out.r.c0;have r1:=F1.out.r.c1;have u0:=F1.out.r.f0 0;have u1:=F1.out.r.f0 1;go_wp2_with fail;refine(HT2.out _ F1.out.kp).mono ?_;rintro e0 w2 ⟨rfl,k2⟩;have F1:=lH (F1.out.tr k2);clear k2 t0 t1 t2 t3 t5 r0 r1 u0 u1;have t0:=F1.out.t.c0;have t1:=F1.out.t.c1;have t2:=F1.out.t2.c0;have t3:=F1.out.t2.c1;have t5:=F1.out.x5.cell;have r0:=F1.out.r.c0;have r1:=F1.out.r.c1;have u0:=F1.out.r.f0 0;have u1:=F1.out.r.f0 1;go_wp2_with fail;refine(HSA.out _).mono ?_;rintro e0 w3 ⟨rfl,k3⟩;have F1:=lH (F1.out.tr k3);clear k3 t0 t1 t2 t3 t5 r0 r1 u0 u1;have t0:=F1.out.t.c0;have t1:=F1.out.t.c1;have t2:=F1.out.t2.c0;have t3:=F1.out.t2.c1;have t5:=F1.out.x5.cell;have r0:=F1.out.r.c0;have r1:=F1.out.r.c1;have u0:=F1.out.r.f0 0;have u1:=F1.out.r.f0 1;go_wp2_with fail;refine(HSB.out _).mono ?_;rintro e0 w4 ⟨rfl,k4⟩;have F1:=lH (F1.out.tr k4);clear k4 t0 t1 t2 t3 t5 r0 r1 u0 u1;have t0:=F1.out.t.c0;have t1:=F1.out.t.c1;have t2:=F1.out.t2.c0;have t3:=F1.out.t2.c1;have t5:=F1.out.x5.cell;have r0:=F1.out.r.c0;have r1:=F1.out.r.c1;have u0:=F1.out.r.f0 0;have u1:=F1.out.r.f0 1;have ca:=HCA.out _ F1.out.kp;have cb:=HCB.out _ F1.out.kp
  go_upto_region 6 with fail
  obtain⟨W5,HW5⟩:∃W5,Hid (W5=w4.alloc (.cells #[.int .i64 x] 3)):=⟨_,rfl⟩
  have k5:Kp w4 W5:=by rw[HW5.out];exact Kp.af _ _
  obtain⟨b8,hb8⟩:=eX (w4.heap.size);have X8:Hid (Boxed W5 b8 3 (.int .i64 x)):=by show Boxed _ _ _ _;rw[HW5.out,hb8];exact Boxed.new _ _ _
  rw[<-HW5.out,<-hb8];have F1:=lH (F1.out.tr k5);clear k5 HW5 hb8 ca cb t0 t1 t2 t3 t5 r0 r1 u0 u1;have HKV:Hid (∀V,Kp W5 V->Hid (Kp W5 V)/\Hid (Jf w (some ad) s.length c B xs.length d (some ae) t.length e D ys.length f (k:Int) V)/\Hid (Boxed V b8 3 (.int .i64 x))/\V.cell? ⟨w.heap.size,0,none⟩=some (.slice (some ad) s.length c)/\V.cell? ⟨w.heap.size+1,0,none⟩=some (.slice (some ae) t.length e)/\V.cell? ⟨w.heap.size+1+1,0,none⟩=some (.int .i64 (k:Int))/\V.cell? ⟨b8,0,none⟩=some (.int .i64 x)/\V.cell? (ae.add k)=some (.int .i64 y)):=fun V kV=>
   ⟨kV,F1.out.tr kV,bB kV X8.out,(F1.out.tr kV).t.c0,(F1.out.tr kV).t2.c0,(F1.out.tr kV).x5.cell,Boxed.cell (bB kV X8.out),HCB.out _ (F1.out.kp.tr kV)⟩
  obtain⟨_,_,_,s0,s1,s2,s3,s4⟩:=HKV.out W5 (Kp.refl _);have hdr:Hid (Kp W5 W5.drew):=aa3 (Kp.refl _)
  go_region_held3 (fun V=>V.cell? ⟨w.heap.size,0,none⟩=some (.slice (some ad) s.length c)/\V.cell? ⟨w.heap.size+1,0,none⟩=some (.slice (some ae) t.length e)/\V.cell? ⟨w.heap.size+1+1,0,none⟩=some (.int .i64 (k:Int))/\V.cell? ⟨b8,0,none⟩=some (.int .i64 x)/\V.cell? (ae.add k)=some (.int .i64 y)) (first|exact⟨v0,v1,v2,v3,v4⟩|exact⟨s0,s1,s2,s3,s4⟩)
   ((go_at_call 123;refine(HWZ.out _ (F1.out.kp.tr hdr.out)).mono ?_;rintro e0 w6 ⟨A6,c6,rfl,o6,k6⟩;obtain⟨K6,F6,X6,v0,v1,v2,v3,v4⟩:=HKV.out _ (bZ k6);have RG:Hid (Sl w6 A6 c6 g):=o6.sl;clear o6 k6))
  clear s0 s1 s2 s3 s4;go_wp2;have Pb:Hid (Kp w6 w6.drew):=aa3 (Kp.refl _);refine aa8 (S:=(fun V=>V.cell? ⟨w.heap.size,0,none⟩=some (.slice (some ad) s.length c)/\V.cell? ⟨w.heap.size+1,0,none⟩=some (.slice (some ae) t.length e)/\V.cell? ⟨w.heap.size+1+1,0,none⟩=some (.int .i64 (k:Int))/\V.cell? ⟨b8,0,none⟩=some (.int .i64 x)/\V.cell? (ae.add k)=some (.int .i64 y))) kM ⟨v0,v1,v2,v3,v4⟩ (fun qJ=>?_);refine acw (i:=0) (v:= pX (w.heap.size+1) 0) rfl kM kM kM (fun _ _ _ h=>h) (Or.inl ⟨by rfl,fun V hSV=>?_⟩) qJ ?_
  ·dsimp only at hSV;go_simp
  refine acw (i:=1) (v:= .slice (some ae) t.length e) rfl kM kM kM (fun _ _ _ h=>h) (Or.inl ⟨by rfl,fun V hSV=>?_⟩) qJ ?_
  ·dsimp only at hSV;go_simp
  refine acw (i:=2) (v:= .int .i64 (k:Int)) rfl kM kM kM (fun _ _ _ h=>h) (Or.inl ⟨by rfl,fun V hSV=>?_⟩) qJ ?_
  ·dsimp only at hSV;go_simp
  refine acw (i:=3) (v:= .int .i64 x) rfl kM kM kM (fun _ _ _ h=>h) (Or.inl ⟨by rfl,fun V hSV=>?_⟩) qJ ?_
  ·dsimp only at hSV;go_simp
  refine acw (i:=5) (v:= pX w.heap.size 0) rfl kM kM kM (fun _ _ _ h=>h) (Or.inl ⟨by rfl,fun V hSV=>?_⟩) qJ ?_
  ·dsimp only at hSV;go_simp
  refine acw (i:=6) (v:= .slice (some ad) s.length c) rfl kM kM kM (fun _ _ _ h=>h) (Or.inl ⟨by rfl,fun V hSV=>?_⟩) qJ ?_
  ·dsimp only at hSV;go_simp
  refine abo (rs:=[4]) kM sC ?_;refine aa4 rfl (fun K hK=>?_) abl;go_simp;refine(HWX.out _ (F6.out.kp.tr Pb.out)).mono ?_;rintro e0 w7 ⟨A7,c7,rfl,o7,k7⟩;obtain⟨K7,F7,X7,y0,y1,y2,y3,y4⟩:=HKV.out _ (K6.out.tr (bZ k7));have RQ:Hid (Rd w7 A7 q):=o7.sl.rd;have RG7:=lH (RG.out.kp (bZ k7));clear o7 k7 qJ;dsimp only;refine hK.out _ _ (⟨y0,y1,y2,y3,y4⟩) fun qJ=>?_
  clear hK K;refine abo (rs:=[7]) kM sC ?_;refine aa4 rfl (fun K hK=>?_) abl;go_simp;refine(HEQ.out _ _ _ F7.out.kp RQ.out).mono ?_;rintro e0 w8 ⟨rfl,k8⟩;have RG9:=lH (RG7.out.kp k8);obtain⟨K8,F1,X8,z0,z1,z2,z3,z4⟩:=HKV.out _ (K7.out.tr k8);clear k8 qJ;dsimp only;refine hK.out _ _ (⟨z0,z1,z2,z3,z4⟩) fun qJ=>?_
  clear hK K;refine acw (i:=8) (v:= .bool true) rfl kM kM kM (fun _ _ _ h=>h) (Or.inl ⟨by rfl,fun V hSV=>?_⟩) qJ ?_
  ·dsimp only at hSV;go_simp
  refine acw (i:=9) (v:= .bool true) rfl kM kM kM (fun _ _ _ h=>h) (Or.inl ⟨by rfl,fun V hSV=>?_⟩) qJ ?_
  ·dsimp only at hSV;go_simp
  refine acw (i:=10) (v:=undef) rfl kM kM kM (fun _ _ _ h=>h) (Or.inr ⟨by rfl,rfl⟩) qJ ?_;refine acw (i:=11) (v:=undef) rfl kM kM kM (fun _ _ _ h=>h) (Or.inr ⟨by rfl,rfl⟩) qJ ?_;refine acw (i:=12) (v:=undef) rfl kM kM kM (fun _ _ _ h=>h) (Or.inr ⟨by rfl,rfl⟩) qJ ?_;refine acw (i:=13) (v:= .bool true) rfl kM kM kM (fun _ _ _ h=>h) (Or.inl ⟨by rfl,fun V hSV=>?_⟩) qJ ?_
  ·dsimp only at hSV;go_simp
  refine abp kM ?_ _;have r0:=F1.out.r.c0;have r1:=F1.out.r.c1;have u0:=F1.out.r.f0 0;have u1:=F1.out.r.f0 1;go_wp2;refine aaX (v:= .tuple #[.agg #[zS, zS], .int .i64 20]) (by simp[results,Tryz.results98,go_sem,r0,r1];try rfl) rfl ?_;exact aG.err rfl (F1.out.end_ _ _)
theorem AP(A B C D:DV)(c d e f:Nat)(s xs t ys:BU)(aj:Int)(w:World)(hA:Rd w A s)(hB:Rd w B xs)(hC:Rd w C t)(hD:Rd w D ys):
  CJ 98 #[.agg #[.slice A s.length c, .slice B xs.length d], .agg #[.slice C t.length e, .slice D ys.length f], .int .i64 aj] w (aG (eE s xs t ys aj) w):=by
 by_cases ht:aB s xs=false∨aB t ys=false
 ·exact AO A B C D c d e f s xs t ys aj w hA hB hC hD ht
 ·have h1:aB s xs=true:=by
   cases h:aB s xs with
   |true=>rfl
   |false=>exact absurd (.inl h) ht
  have h2:aB t ys=true:=by
   cases h:aB t ys with
   |true=>rfl
   |false=>exact absurd (.inr h) ht
  by_cases hx:aj<0∨(s.length:Int)<=aj∨(t.length:Int)<=aj
  ·refine xT A B C D c d e f s xs t ys aj w hA hB hC hD h1 h2 ?_ hx;unfold eE;rw[aaT ht,aaW];rcases hx with h|h|h
   ·exact .inl h
   ·exact .inr (.inl h)
   ·by_cases hn:(s.length:Int)<=aj
    ·exact .inr (.inl hn)
    ·exact .inr (.inr (.inl oM))
  ·obtain⟨k,rfl⟩:∃k:Nat,aj=(k:Int):=⟨aj.toNat,oM⟩
   exact Fz A B C D c d e f s xs t ys k _ _ w hA hB hC hD h1 h2 (aaV (show k<s.length by omega)) (aaV (show k<t.length by omega))
end Go.Proofs.YtokeebkaamjliaaGreat
namespace Go.Proofs.ShM
theorem jZ{s:BU}(h:okS s=true):okS s.reverse=true:=by
 obtain⟨g1,g2,g3⟩:=aD.1 h;exact aD.2 ⟨by simpa using g1,by rw[rN];exact g2,by rw[eA];exact g3⟩
theorem gG{s xs:BU}(h:aB s xs=true):aB s.reverse (bJ s xs)=true:=by
 obtain⟨ho,h2⟩:=aA.1 h;exact aA.2 ⟨jZ ho,by rw[zC,eA];exact h2⟩
theorem oT{s xs:BU}(h:aB s xs=true):bF s xs=(s.reverse,bJ s xs,0):=by unfold bF;rw[aaT (by simp[h])]
section
variable{s xs t ys h:BU}{k:Nat}
theorem H9(ho:okS h=true):aB h (qI s xs t ys h k)=true:=aA.2 ⟨ho,by unfold qI;rw[abA,abM,bW ho]⟩
