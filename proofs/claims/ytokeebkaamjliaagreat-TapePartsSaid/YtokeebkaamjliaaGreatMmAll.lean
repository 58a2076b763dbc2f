import Derived.Test.YtokeebkaamjliaaGreatRdAll
set_option maxHeartbeats 16000000
set_option maxRecDepth 100000
set_option linter.unusedVariables false
set_option linter.unusedSimpArgs false
namespace Go.Proofs.ShM
open cF
def gQ(f g:Nat->Int):Nat->Int×Int
 |0=>(0,0)
 |k+1=>if(gQ f g k).2≠0 then gQ f g k else if(dX (f k) (g k)).2≠0 then(0,(dX (f k) (g k)).2)else cY (gQ f g k).1 (dX (f k) (g k)).1
theorem Ay{n:Int}(h:(put n).2≠0):put n=(0,10):=by
 rcases dN n with⟨_,_,e⟩|⟨_,e⟩
 ·rw[e]at h;exact absurd rfl h
 ·exact e
section
variable{f g F G:Nat->Int}{n k:Nat}{y p:Int}
theorem wT(h:(gQ f g k).2≠0):∀{n:Nat},k<=n->gQ f g n=gQ f g k:=by
 intro n
 induction n with
 |zero=>intro hk;rw[show k=0 by omega]
 |succ n ih=>
  intro hk;by_cases e:k=n+1
  ·rw[e]
  ·have e1:=ih oM;show(if(gQ f g n).2≠0 then gQ f g n else _)=_;rw[e1,aaW h]
def Dt(f g:Nat->Int)(n k:Nat)(y:Int):Prop:=k<=n/\gQ f g k=(y,0)
theorem Hq:Dt f g n 0 0:=⟨aa6 _,rfl⟩
theorem LV(h:Dt f g n k y)(hk:k<n)(hp:(dX (f k) (g k)).2≠0):gQ f g n=(0,(dX (f k) (g k)).2):=by
 have e:gQ f g (k+1)=(0,(dX (f k) (g k)).2):=by
  unfold gQ;rw[h.2,aaT sC,aaW hp]
 rw[<-e];exact wT (by rw[e];exact hp) hk
theorem Dc(h:Dt f g n k y)(hp:dX (f k) (g k)=(p,0)):gQ f g (k+1)=cY y p:=by
 unfold gQ;rw[h.2,aaT sC,hp,aaT sC]
theorem LW(h:Dt f g n k y)(hk:k<n)(hp:dX (f k) (g k)=(p,0))(ha:(cY y p).2≠0):gQ f g n=(0,(cY y p).2):=by
 have e:=Dc h hp;rw[wT (by rw[e];exact ha) hk,e];have e2:cY y p=(0,10):=Ay ha;rw[e2]
theorem LU(h:Dt f g n k y)(hk:k<n)(hp:dX (f k) (g k)=(p,0))(ha:(cY y p).2=0):Dt f g n (k+1) (cY y p).1:=by
 refine⟨hk,?_⟩;rw[Dc h hp,<-ha]
theorem Py(h:Dt f g n k y)(hk:¬k<n):gQ f g n=(y,0):=by
 have:k=n:=by have:=h.1;omega
 subst this;exact h.2
end
def qN(xs:BU)(K i:Nat):Nat->Int:=fun k=>xs.getD (i*K+k) 0
def qO(ys:BU)(N j:Nat):Nat->Int:=fun k=>ys.getD (k*N+j) 0
def atQ(xs ys:BU)(K N:Nat):Nat->Int×Int:=fun q=>gQ (qN xs K (q/N)) (qO ys N (q%N)) K
def kz(xs ys:BU)(M K N:Nat):BU×Int:=cL (atQ xs ys K N) (List.range (M*N))
def gu(s xs t ys:BU):Tn:=
 if aB s xs=false∨aB t ys=false then([],[],30)
 else if s.length≠2∨t.length≠2∨s.getD 1 0≠t.getD 0 0∨okS [s.getD 0 0,t.getD 1 0]=false then([],[],20)
 else if(kz xs ys (s.getD 0 0).toNat (s.getD 1 0).toNat (t.getD 1 0).toNat).2=0 then([s.getD 0 0,t.getD 1 0],(kz xs ys (s.getD 0 0).toNat (s.getD 1 0).toNat (t.getD 1 0).toNat).1,0)
 else([],[],(kz xs ys (s.getD 0 0).toNat (s.getD 1 0).toNat (t.getD 1 0).toNat).2)
def fL(g xs t ys:BU):Tn:=
 if aB g xs=false∨aB t ys=false then([],[],30)else if t.length≠2 then([],[],20)else gu g xs (bF t ys).1 (bF t ys).2.1
def di(s xs g ys:BU):Tn:=
 if aB s xs=false∨aB g ys=false then([],[],30)else if s.length≠2 then([],[],20)else gu (bF s xs).1 (bF s xs).2.1 g ys
def sdV(s:BU):Int×Int:=if s.length=2 then(s.getD 0 0,s.getD 1 0)else(0,0)
theorem Iu{s:BU}(h:s.length=2):s=[s.getD 0 0,s.getD 1 0]:=by
 match s,h with
 | [a,b],_=>rfl
theorem lO{s:BU}{k:Nat}(h:s.all aX=true)(hk:k<s.length):1<=s.getD k 0/\s.getD k 0<=16:=by
 have hx:s[k]?=some s[k]:=aaV hk;rw[List.getD,hx];exact cN h hx
theorem vm{s xs:BU}(ht:aB s xs=true)(h:s.length=2):∃M K:Nat,s=[(M:Int),(K:Int)]/\1<=M/\M<=16/\1<=K/\K<=16/\xs.length=M*K:=by
 obtain⟨ho,hl⟩:=aA.1 ht;have a:=bI ho;have h0:=lO a (k:=0) oM;have h1:=lO a (k:=1) oM;obtain⟨M,hM⟩:∃M:Nat,s.getD 0 0=(M:Int):=⟨(s.getD 0 0).toNat,oM⟩
 obtain⟨K,hK⟩:∃K:Nat,s.getD 1 0=(K:Int):=⟨(s.getD 1 0).toNat,oM⟩
 have e:=Iu h;rw[hM,hK]at e;refine⟨M,K,e,oM,oM,oM,oM,?_⟩;rw[e]at hl;have e2:ai [(M:Int),(K:Int)]=((M*K:Nat):Int):=by simp[ai]
 rw[e2]at hl
 exact_mod_cast hl
theorem mT{i k M K:Nat}(hi:i<M)(hk:k<K):i*K+k<M*K:=by
 have h:=acK K (show i+1<=M from hi);rw[Nat.succ_mul]at h;omega
theorem Cd{i k:Nat}(hi:i<16)(hk:k<16){K:Nat}(hK:K<=16):i*K<=240/\i*K+k<=256:=by
 have h:=acf (show i<=15 by omega) hK;omega
theorem lV{xs ys:BU}{M K N:Nat}(h1:aB [(M:Int),(K:Int)] xs=true)(h2:aB [(K:Int),(N:Int)] ys=true)(ho:okS [(M:Int),(N:Int)]=true):
  gu [(M:Int),(K:Int)] xs [(K:Int),(N:Int)] ys=if(kz xs ys M K N).2=0 then([(M:Int),(N:Int)],(kz xs ys M K N).1,0)else([],[],(kz xs ys M K N).2):=by
 unfold gu;rw[aaT (by simp[h1,h2])];have e:¬(([(M:Int),(K:Int)]:BU).length≠2∨([(K:Int),(N:Int)]:BU).length≠2∨([(M:Int),(K:Int)]:BU).getD 1 0≠([(K:Int),(N:Int)]:BU).getD 0 0∨okS [([(M:Int),(K:Int)]:BU).getD 0 0,([(K:Int),(N:Int)]:BU).getD 1 0]=false):=by
  rintro(h|h|h|h)
  ·exact h rfl
  ·exact h rfl
  ·exact h rfl
  ·have h':okS [(M:Int),(N:Int)]=false:=h;rw[ho]at h';cases h'
 rw[aaT e];rfl
theorem Bz{s xs t ys:BU}(h1:aB s xs=true)(h2:aB t ys=true)(h:(sdV s).2≠(sdV t).1∨okS [(sdV s).1,(sdV t).2]=false):gu s xs t ys=([],[],20):=by
 unfold gu;rw[aaT (by simp[h1,h2]),aaW ?_];unfold sdV at h;by_cases a:s.length=2
 ·by_cases b:t.length=2
  ·rw[aaW a,aaW b]at h;exact Or.inr (Or.inr h)
  ·exact Or.inr (Or.inl b)
 ·exact Or.inl a
theorem AY{x:Int}:okS [0,x]=false/\okS [x,0]=false:=by
 constructor
 ·cases h:okS [0,x]with
  |false=>rfl
  |true=>have:=lO (bI h) (k:=0) sC;simp at this
 ·cases h:okS [x,0]with
  |false=>rfl
  |true=>have:=lO (bI h) (k:=1) sC;simp at this
theorem yg{s t:BU}(_:(sdV s).2=(sdV t).1)(ho:okS [(sdV s).1,(sdV t).2]=true):s.length=2/\t.length=2:=by
 unfold sdV at ho;by_cases a:s.length=2
 ·by_cases b:t.length=2
  ·exact⟨a,b⟩
  ·rw[aaT b]at ho;rw[AY.2]at ho;cases ho
 ·rw[aaT a]at ho;rw[AY.1]at ho;cases ho
end Go.Proofs.ShM
namespace Go.Proofs.YtokeebkaamjliaaGreat
open RowKit ShM cF
structure Ln(W:World)(b:Nat)(A:DV)(n c:Nat)(B:DV)(m d:Nat)(F S:Int):Prop where
 t:Bk W b A n c B m d
 f:Boxed W (b+1) 3 (.int .i64 F)
 s:Boxed W (b+1+1) 3 (.int .i64 S)
theorem kpB{A B:World}(k:Kp A B){j:Nat}{t:TypeId}{v:Value}(h:Boxed A j t v):Boxed B j t v:=(k.block j h.lt).trans h
theorem Ln.kp{W W':World}{b n c m d:Nat}{A B:DV}{F S:Int}(h:Ln W b A n c B m d F S)(k:Kp W W'):Ln W' b A n c B m d F S:=⟨h.t.kp k,kpB k h.f,kpB k h.s⟩
theorem U6{A B:World}(k:Kp A B){j:Nat}{o:Obj}(h:A.heap[j]?=some o):B.heap[j]?=some o:=(k.block j (aa0.1 h).1).trans h
def Ar(W:World)(b:Nat)(x y:Int):Prop:=W.heap[b]?=some (.cells #[.int .i64 x, .int .i64 y] 141 (0,0))
section
variable{W W':World}{b:Nat}{x y:Int}
theorem Ar.kp(h:Ar W b x y)(k:Kp W W'):Ar W' b x y:=U6 k h
theorem Ar.lt(h:Ar W b x y):b<W.heap.size:=(aa0.1 h).1
theorem Ar.af(h:Ar W b x y)(o:Obj):Ar (W.alloc o) b x y:=h.kp (Kp.af W o)
theorem Ar.c0(h:Ar W b x y):W.cell? ⟨b,0,none⟩=some (.int .i64 x):=by simp[World.cell?,show W.heap[b]?=_ from h]
theorem Ar.c1(h:Ar W b x y):W.cell? ⟨b,1,none⟩=some (.int .i64 y):=by simp[World.cell?,show W.heap[b]?=_ from h]
theorem Ar.f0(h:Ar W b x y)(i:Nat):W.frozen? ⟨b,i,none⟩=false:=by simp[World.frozen?,show W.heap[b]?=_ from h]
theorem Ar.rd(h:Ar W b x y):Rd W (some ⟨b,0,none⟩) [x,y]:=⟨by simp,fun _=>⟨_,rfl,h.lt,fun j u hu=>by
 rw[abh,abw]
 match j,hu with
 |0,hu=>injection hu with hu;rw[<-hu];exact h.c0
 |1,hu=>injection hu with hu;rw[<-hu];exact h.c1⟩⟩
theorem Ar.new(h:b=W.heap.size):Ar (W.alloc (.cells #[.int .i64 x, .int .i64 y] 141)) b x y:=by subst h;exact World.alloc_heap_new W _
theorem Ar.put{u v:Int}(h:Ar W b x y):Ar ((W.setCell ⟨b,0,none⟩ (.int .i64 u)).setCell ⟨b,1,none⟩ (.int .i64 v)) b u v:=heap_set (heap_set h 0 _) 1 _
end
theorem lZ(A B:DV)(n c m d:Nat)(F S:Int)(w:World):
  CJ 116 #[.agg #[.slice A n c, .slice B m d], .int .i64 F, .int .i64 S] w fun e w'=>e= .returned (.func (.func 163) #[] #[pX w.heap.size 0, pX (w.heap.size+1) 0, pX (w.heap.size+1+1) 0])/\Ln w' w.heap.size A n c B m d F S/\Kp w w':=by
 go_enter Tryz.func116,Tryz.ntmps116;go_wp2;go_ret;refine⟨rfl,⟨((Bk.new rfl).af _).af _,?_,?_⟩,((Kp.af _ _).al _).al _⟩
 ·have h:=(Boxed.new (w.alloc (.cells #[.slice A n c, .slice B m d] 25)) 3 (.int .i64 F)).alloc (.cells #[.int .i64 S] 3);rw[aaY]at h;exact h
 ·have h:=Boxed.new ((w.alloc (.cells #[.slice A n c, .slice B m d] 25)).alloc (.cells #[.int .i64 F] 3)) 3 (.int .i64 S);rw[aaY,aaY]at h;exact h
theorem sq(A B:DV)(n c d b:Nat)(xs:BU)(F S k p:Nat)(W:World)(h:Ln W b A n c B xs.length d F S)(hB:Rd W B xs)(hk:k<=1000)(hS:S<=1000)(hF:F<=1000)(hp:F+k*S=p)(hl:p<xs.length):
  CJ 163 #[.int .i64 (k:Int), pX b 0, pX (b+1) 0, pX (b+1+1) 0] W fun e W'=>e= .returned (.int .i64 (xs.getD p 0))/\W=W':=by
 have c1:=h.t.c1;have c2:=h.f.cell;have c3:=h.s.cell;obtain⟨ad,x,rfl,hlt,hx,hc⟩:=hB.at_ hl;have hgd:xs.getD p 0=x:=by rw[List.getD,hx];rfl
 have hks:k*S<=1000000:=ab3 (acf hk hS) oM;obtain⟨z,hz⟩:∃z:Int,z=((k*S:Nat):Int):=⟨_,rfl⟩
 have hc1:(k:Int)*(S:Int)=((k*S:Nat):Int):=(ab4 k S).symm;have w1:IntKind.i64.wrap ((k:Int)*(S:Int))=z:=by rw[hz,hc1];exact IntWalk.i64_in _ oM
 have w2:IntKind.i64.wrap ((F:Int)+z)=(p:Int):=by rw[hz,IntWalk.i64_in _ oM];omega
 have j1:(0:Int)<=(p:Int):=by omega
 have j2:(p:Int)<(xs.length:Int):=by omega
 have HG:=lH hgd;clear hgd hx hp hz hks hc1;go_enter Tryz.func163,Tryz.ntmps163;go_wp2;go_ret;exact⟨by rw[HG.out];rfl,rfl⟩
theorem EF(A B:DV)(n c d m:Nat)(w:World)(hl:n<=9223372036854775807)(h2:¬n=2):
  CJ 115 #[.agg #[.slice A n c, .slice B m d]] w fun e w'=>e= .returned (.agg #[.int .i64 0, .int .i64 0])/\Kp w w':=by
 have hn:¬(n:Int)=2:=by omega
 go_enter Tryz.func115,Tryz.ntmps115;go_wp2;refine aaX (v:= .agg #[.int .i64 0, .int .i64 0]) (by simp[results,Tryz.results115,go_sem];try rfl) rfl ?_;exact⟨rfl,((Kp.af _ _).al _).al _⟩
theorem z8(A B:DV)(c d m:Nat)(x y:Int)(w:World)(hA:Rd w A [x,y]):
  CJ 115 #[.agg #[.slice A 2 c, .slice B m d]] w fun e w'=>e= .returned (.agg #[.int .i64 x, .int .i64 y])/\Kp w w':=by
 go_enter Tryz.func115,Tryz.ntmps115;obtain⟨ad,rfl,hlt,hc⟩:=hA.2 sC;have hs1:(Tryz.prog.info? 3).map (·.size)=some 1:=by kernel_rfl
 go_upto_region 3 with fail
 obtain⟨W0,HW0⟩:∃W0,Hid (W0=((w.alloc (.cells #[.slice (some ad) 2 c, .slice B m d] 25)).alloc (.cells #[.int .i64 0, .int .i64 0] 141)).alloc (.cells #[.int .i64 0, .int .i64 0] 141)):=⟨_,rfl⟩
 have K:Hid (Kp w W0):=by show Kp w W0;rw[HW0.out];exact((Kp.af _ _).al _).al _
 have T:Hid (Bk W0 w.heap.size (some ad) 2 c B m d):=by show Bk W0 _ _ _ _ _ _ _;rw[HW0.out];exact((Bk.new rfl).af _).af _
 have HR:Ar W0 (w.heap.size+1+1) 0 0:=by rw[HW0.out];exact Ar.new sC
 have HQ:Ar W0 (w.heap.size+1) 0 0:=by rw[HW0.out];exact(Ar.new sC).af _
 have HC:Hid (∀j u,[x,y][j]?=some u->W0.cell? (ad.add j)=some (.int .i64 u)):=fun j u hu=>(K.out.cell (p:=ad.add j) (by rw[ah];exact hlt)).trans (hc j u hu)
 rw[<-HW0.out];have hsrc:∀j v,([.int .i64 x, .int .i64 y]:List Value)[j]?=some v->W0.drew.cell? (ad.add j)=some v:=fun j v hv=>by
  match j,hv with
  |0,hv=>injection hv with hv;rw[<-hv];exact HC.out 0 x rfl
  |1,hv=>injection hv with hv;rw[<-hv];exact HC.out 1 y rfl
 have hone:∀v∈([.int .i64 x, .int .i64 y]:List Value),v.oneCell'=true:=fun v hv=>by
  simp at hv;rcases hv with rfl|rfl<;>rfl
 have HO:=lH (And.intro hone hsrc);have HRR:Hid (W0.drew.heap[w.heap.size+1+1]?=some (.cells ([.int .i64 0, .int .i64 0]:List Value).toArray 141 (0,0))):=HR;have HQQ:=lH HQ;have t0:=T.out.c0;clear hone hsrc HC HR HQ HW0 hc
 go_region_law (refine step_copy_splice rfl (.tmp 8) (.tmp 10) 23 23 rfl 3 Tryz.underlying23 hs1 (some ⟨w.heap.size+1+1,0,none⟩) (some ad) 2 2 2 c (by simp[Act.eval]) (by simp[Act.eval]) (w.heap.size+1+1) 0 [.int .i64 0, .int .i64 0] 141 HRR.out [.int .i64 x, .int .i64 y] rfl (fun _=>⟨rfl,_,rfl,HO.out.2⟩) sC HO.out.1 (w.heap.size+1+1) W0 (aa3 (abu _ _)) (aaZ _) ?_;intro w4 HG4 hb4)
 have HG:Hid (w4.heap[w.heap.size+1+1]?=some (.cells ([.int .i64 x, .int .i64 y]:List Value).toArray 141 (0,0))):=HG4.out;have g0:w4.cell? ⟨w.heap.size+1+1,0,none⟩=some (.int .i64 x):=cell_of_row HG.out 0 rfl;have g1:w4.cell? ⟨w.heap.size+1+1,1,none⟩=some (.int .i64 y):=cell_of_row HG.out 1 rfl;have HA:Hid (Ar w4 (w.heap.size+1) 0 0):=(hb4.block (w.heap.size+1) (aby _)).trans HQQ.out;have K4:Hid (Kp w w4):=K.out.trans (hb4.mono oM);have q0:=HA.out.c0;have q1:=HA.out.c1;have u0:=HA.out.f0 0;have u1:=HA.out.f0 1;clear HG4 hb4;go_wp2;have HZ:=HA.out.put (u:=x) (v:=y);have z0:=HZ.c0;have z1:=HZ.c1;refine aaX (v:= .agg #[.int .i64 x, .int .i64 y]) (by simp[results,Tryz.results115,go_sem,z0,z1];try rfl) rfl ?_;exact⟨rfl,(K4.out.setCell (p:=⟨w.heap.size+1,0,none⟩) (abe _) _).setCell (p:=⟨w.heap.size+1,1,none⟩) (abe _) _⟩
theorem rA(A B:DV)(c d m:Nat)(s:BU)(w:World)(hA:Rd w A s):
  CJ 115 #[.agg #[.slice A s.length c, .slice B m d]] w fun e w'=>e= .returned (.agg #[.int .i64 (sdV s).1, .int .i64 (sdV s).2])/\Kp w w':=by
 unfold sdV;by_cases h:s.length=2
 ·rw[aaW h];have h2:=Iu h;have hr:=z8 A B c d m (s.getD 0 0) (s.getD 1 0) w (by rw[<-h2];exact hA);rw[h];exact hr
 ·rw[aaT h];exact EF A B s.length c d m w hA.len h
theorem NV(x y:Int)(hx:I64 x)(hy:I64 y)(W:World):CJ 156 #[.int .i64 x, .int .i64 y] W fun e W'=>e= .returned (.tuple #[.int .i64 (dX x y).1, .int .i64 (dX x y).2])/\Kp W W':=(Fx.qd x y hx hy W).mono fun e w' ⟨h1,h2⟩=>⟨h1,h2.below⟩
theorem Dr(b1 b2 K:Nat)(f g:Nat->Int)(w:World)(hK:K<=16)(hf:∀k,k<K->I64 (f k))(hg:∀k,k<K->I64 (g k))
  (h1:∀(k:Nat) W,k<K->Kp w W->CJ 163 #[.int .i64 (k:Int), pX b1 0, pX (b1+1) 0, pX (b1+1+1) 0] W fun e W'=>e= .returned (.int .i64 (f k))/\W=W')
  (h2:∀(k:Nat) W,k<K->Kp w W->CJ 163 #[.int .i64 (k:Int), pX b2 0, pX (b2+1) 0, pX (b2+1+1) 0] W fun e W'=>e= .returned (.int .i64 (g k))/\W=W'):
  CJ 117 #[.func (.func 163) #[] #[pX b1 0, pX (b1+1) 0, pX (b1+1+1) 0], .func (.func 163) #[] #[pX b2 0, pX (b2+1) 0, pX (b2+1+1) 0], .int .i64 (K:Int)] w
   fun e w'=>e= .returned (.tuple #[.int .i64 (gQ f g K).1, .int .i64 (gQ f g K).2])/\Kp w w':=by
 have H1:=lH h1;have H2:=lH h2;have HI:=lH (And.intro hf hg);have HD0:Hid (Dt f g K 0 0):=Hq;have HP:=lH NV;have HA:Hid (∀(x y:Int) (W:World),I64 x->I64 y->CJ 127 #[.int .i64 x, .int .i64 y] W fun e W'=>e= .returned (.tuple #[.int .i64 (cY x y).1, .int .i64 (cY x y).2])/\W=W'):=fun x y W hx hy=>nA x y hx hy W
 obtain⟨R,hR⟩:=eX (gQ f g K);have HRR:=lH hR;rw[<-hR];clear h1 h2 hf hg hR;go_enter Tryz.func117,Tryz.ntmps117;go_wp2
 go_loopw [8,13] (fun v i wx=>∃(j:Nat) (y:Int),v= .int .i64 y/\i= .int .i64 j/\Hid (Dt f g K j y)/\Hid (I64 y)/\Hid (Kp w wx)) (fun _ i _=>K-(intOf i).toNat)
 case atStart=>exact⟨0,0,rfl,rfl,HD0.out,(by show I64 0;unfold I64;omega),Kp.refl _⟩
 case round=>
  obtain⟨j,y,rfl,rfl,hT,hy,hk⟩:=hrel;by_cases hj:j<K
  ·have hj':(j:Int)<(K:Int):=by omega
   have HG1:=lH (H1.out j wr hj hk.out);have HG2:=lH (H2.out j wr hj hk.out);have i1:=HI.out.1 j hj;have i2:=HI.out.2 j hj;have HM:=lH (HP.out _ _ i1 i2 wr);by_cases hm:(dX (f j) (g j)).2=0
   ·obtain⟨p,hp⟩:∃p,dX (f j) (g j)=(p,0):=⟨_,Prod.ext rfl hm⟩
    have RK:I64 p:=by have:=iR (f j*g j/4294967296);rw[show put (f j*g j/4294967296)=(p,0)from hp]at this;exact this
    have HAD:=lH (fun W=>HA.out y p W hy.out RK);rw[hp]at HM;by_cases ha:(cY y p).2=0
    ·have HST:=lH (LU hT.out hj hp ha);have HY:Hid (I64 (cY y p).1):=iR _;rw[ha]at HAD;generalize (cY y p).1=z at HST HY HAD;generalize f j=fj at HG1 HM;generalize g j=gj at HG2 HM;clear i1 i2 hm hp ha RK;go_wp2_with fail;refine(Hid.out HG1).mono ?_;rintro e0 w5 ⟨rfl,rfl⟩;go_wp2_with fail;refine(Hid.out HG2).mono ?_;rintro e0 w5 ⟨rfl,rfl⟩;go_wp2_with fail;refine(Hid.out HM).mono ?_;rintro e0 w6 ⟨rfl,k6⟩;have K6:=lH (hk.out.tr k6);clear k6;go_wp2_with fail;refine(HAD.out _).mono ?_;rintro e0 w7 ⟨rfl,rfl⟩;go_wp2;go_roundw
     case rel=>exact⟨j+1,z,rfl,by go_num,HST.out,HY.out,K6.out⟩
     case measure=>simp[intOf];omega
    ·have HBD:=lH (LW hT.out hj hp ha);have he':((cY y p).2 !=0)=true:=by simpa using ha
     generalize (cY y p).2=er at HAD HBD he';generalize (cY y p).1=z at HAD;generalize f j=fj at HG1 HM;generalize g j=gj at HG2 HM;clear i1 i2 hm hp ha RK;go_wp2_with fail;refine(Hid.out HG1).mono ?_;rintro e0 w5 ⟨rfl,rfl⟩;go_wp2_with fail;refine(Hid.out HG2).mono ?_;rintro e0 w5 ⟨rfl,rfl⟩;go_wp2_with fail;refine(Hid.out HM).mono ?_;rintro e0 w6 ⟨rfl,k6⟩;have K6:=lH (hk.out.tr k6);clear k6;go_wp2_with fail;refine(HAD.out _).mono ?_;rintro e0 w7 ⟨rfl,rfl⟩;go_wp2;go_ret2;exact⟨dM (by rw[HRR.out];exact HBD.out),K6.out⟩
   ·have HBD:=lH (LV hT.out hj hm);have he':((dX (f j) (g j)).2 !=0)=true:=by simpa using hm
    generalize (dX (f j) (g j)).2=er at HM HBD he';generalize (dX (f j) (g j)).1=z at HM;generalize f j=fj at HG1 HM;generalize g j=gj at HG2 HM;clear i1 i2 hm;go_wp2_with fail;refine(Hid.out HG1).mono ?_;rintro e0 w5 ⟨rfl,rfl⟩;go_wp2_with fail;refine(Hid.out HG2).mono ?_;rintro e0 w5 ⟨rfl,rfl⟩;go_wp2_with fail;refine(Hid.out HM).mono ?_;rintro e0 w6 ⟨rfl,k6⟩;have K6:=lH (hk.out.tr k6);clear k6;go_wp2;go_ret2;exact⟨dM (by rw[HRR.out];exact HBD.out),K6.out⟩
  ·have hj':¬(j:Int)<(K:Int):=by omega
   have HEN:=lH (Py hT.out hj);go_wp2;go_ret2;exact⟨dM (by rw[HRR.out];exact HEN.out),hk.out⟩
open Shelf
theorem qP{P:Program}{a:Act}{w:World}{Q:Exit->Act->World->Prop}{c rest:Code}(l:Nat)(hf:findLabel c l=some rest)
  (first:c.wp P (Exit.jump l (fun a w=>rest.wp P (Exit.noGoto Q) a w) Q) a w):(Code.scope c).wp P Q a w:=
 wp_scope_jumps l (fun a w=>rest.wp P (Exit.noGoto Q) a w) (fun _ _=>0) hf first fun a w h=>Code.wp_mono (fun e a w h=>by
  cases e<;>first|exact h|exact(h:False).elim) h
theorem GH{l:Nat}{J:Act->World->Prop}{Q:Exit->Act->World->Prop}{a:Act}{w:World}:Exit.jump l J Q .ret a w=Q .ret a w:=rfl
theorem Ar.other{W:World}{b b':Nat}{x y:Int}(h:Ar W b x y)(hne:b≠b')(u v:Value):Ar ((W.setCell ⟨b',0,none⟩ u).setCell ⟨b',1,none⟩ v) b x y:=by
 unfold Ar;rw[abq _ _ _ b hne,abq _ _ _ b hne];exact h
theorem Ln.past{W:World}{b n c m d G q:Nat}{A B:DV}{F S:Int}(h:Ln W b A n c B m d F S)(hG:G<b)(v:Value):Ln (W.setCell ⟨G,q,none⟩ v) b A n c B m d F S:=
 ⟨(abq _ ⟨G,q,none⟩ _ b (by show b≠G;omega)).trans h.t,(abq _ ⟨G,q,none⟩ _ (b+1) (by show b+1≠G;omega)).trans h.f,(abq _ ⟨G,q,none⟩ _ (b+1+1) (by show b+1+1≠G;omega)).trans h.s⟩
theorem Ar.tb{W W':World}{B0 b:Nat}{x y:Int}(h:Ar W b x y)(k:Below B0 W W')(hb:b<B0):Ar W' b x y:=(k.block b hb).trans h
structure Mb(w:World)(A:DV)(n c:Nat)(B:DV)(m d:Nat)(C:DV)(p e:Nat)(D:DV)(q f:Nat)(W:World):Prop where
 kp:Kp w W
 t0:Bk W w.heap.size A n c B m d
 t1:Bk W (w.heap.size+1) C p e D q f
 o:Bk W (w.heap.size+1+1) none 0 0 none 0 0
section
variable{w W W':World}{A B C D:DV}{n c m d p e q f:Nat}
theorem Mb.tr(h:Mb w A n c B m d C p e D q f W)(k:Kp W W'):Mb w A n c B m d C p e D q f W':=⟨h.kp.tr k,h.t0.kp k,h.t1.kp k,h.o.kp k⟩
theorem Mb.tb{G:Nat}(h:Mb w A n c B m d C p e D q f W)(k:Below G W W')(hG:w.heap.size+1+1<G):Mb w A n c B m d C p e D q f W':=⟨h.kp.trans (k.mono oM),h.t0.tb k oM,h.t1.tb k oM,h.o.tb k hG⟩
theorem Mb.mk_(w:World)(A:DV)(n c:Nat)(B:DV)(m d:Nat)(C:DV)(p e:Nat)(D:DV)(q f:Nat):
  Mb w A n c B m d C p e D q f (((w.alloc (.cells #[.slice A n c, .slice B m d] 25)).alloc (.cells #[.slice C p e, .slice D q f] 25)).alloc (.cells #[zS, zS] 25)) where
 kp:=((Kp.af _ _).al _).al _
 t0:=((Bk.new rfl).af _).af _
 t1:=(Bk.new sC).af _
 o:=Bk.new sC
theorem Mb.end_(h:Mb w A n c B m d C p e D q f W)(x y:Value):Kp w ((W.setCell ⟨w.heap.size+1+1,0,none⟩ x).setCell ⟨w.heap.size+1+1,1,none⟩ y):=
 (h.kp.setCell (p:=⟨w.heap.size+1+1,0,none⟩) (by show w.heap.size<=w.heap.size+1+1;omega) x).setCell (p:=⟨w.heap.size+1+1,1,none⟩) (by show w.heap.size<=w.heap.size+1+1;omega) y
end
theorem pL(A B C D:DV)(c d e f:Nat)(s xs t ys:BU)(w:World)(hA:Rd w A s)(hB:Rd w B xs)(hC:Rd w C t)(hD:Rd w D ys)(hi:bN xs)(hj:bN ys):
  CJ 90 #[.agg #[.slice A s.length c, .slice B xs.length d], .agg #[.slice C t.length e, .slice D ys.length f]] w (aG (gu s xs t ys) w):=by
 have M0:=lH (Mb.mk_ w A s.length c B xs.length d C t.length e D ys.length f);obtain⟨x0,x1,hsx⟩:∃x0 x1,sdV s=(x0,x1):=⟨_,_,rfl⟩
 obtain⟨y0,y1,hsy⟩:∃y0 y1,sdV t=(y0,y1):=⟨_,_,rfl⟩
 have HS1:Hid (∀W,Kp w W->CJ 115 #[.agg #[.slice A s.length c, .slice B xs.length d]] W fun e w'=>e= .returned (.agg #[.int .i64 x0, .int .i64 x1])/\Kp W w'):=fun W k=>by
  have h:=rA A B c d xs.length s W (hA.kp k);rw[hsx]at h;exact h
 have HS2:Hid (∀W,Kp w W->CJ 115 #[.agg #[.slice C t.length e, .slice D ys.length f]] W fun e w'=>e= .returned (.agg #[.int .i64 y0, .int .i64 y1])/\Kp W w'):=fun W k=>by
  have h:=rA C D e f ys.length t W (hC.kp k);rw[hsy]at h;exact h
 have HT1:=lH (fun W (k:Kp w W)=>av A B c d s xs W (hA.kp k) (hB.kp k));have HT2:=lH (fun W (k:Kp w W)=>av C D e f t ys W (hC.kp k) (hD.kp k));have hl1:=hA.len;have hl2:=hC.len;obtain⟨N9,hN9⟩:∃N9:Nat,au [x0,y1]=(N9:Int):=⟨(au [x0,y1]).toNat,by have:=size_le [x0,y1];omega⟩
 have Sg:N9<=64:=by have:=size_le [x0,y1];omega
 have HSZ:Hid (∀W b,Ar W b x0 y1->CJ 70 #[.slice (some ⟨b,0,none⟩) 2 2] W fun e w'=>e= .returned (.int .i64 (N9:Int))/\W=w'):=fun W b h=>IE [x0,y1] h.rd rfl hN9
 have HCK:Hid (∀W b,Ar W b x0 y1->CJ 44 #[.slice (some ⟨b,0,none⟩) 2 2] W fun e w'=>e= .returned (.bool (okS [x0,y1]))/\W=w'):=fun W b h=>Me [x0,y1] h.rd rfl rfl
 obtain⟨cs,hmk,hown⟩:=mk_ N9 oM;have HO:=lH hown;have HRD:=lH (And.intro hA (And.intro hB (And.intro hC hD)));have HIJ:=lH (And.intro hi hj);have HN9:=lH (And.intro hN9 Sg);have HSD:=lH (And.intro hsx hsy);have HR0:Hid (aB s xs=false∨aB t ys=false->gu s xs t ys=([],[],30)):=fun h=>by unfold gu;rw[aaW h]
 have HR1:Hid (aB s xs=true->aB t ys=true->(x1≠y0∨okS [x0,y1]=false)->gu s xs t ys=([],[],20)):=fun h1 h2 h3=>Bz h1 h2 (by rw[hsx,hsy];exact h3)
 have HTB:Hid (aB s xs=true->aB t ys=true->x1=y0->okS [x0,y1]=true->∃M K N:Nat,s=[(M:Int),(K:Int)]/\t=[(K:Int),(N:Int)]/\M<=16/\K<=16/\N<=16/\xs.length=M*K/\ys.length=K*N/\x0=(M:Int)/\x1=(K:Int)/\y0=(K:Int)/\y1=(N:Int)/\N9=M*N/\1<=N9/\gu s xs t ys=if(kz xs ys M K N).2=0 then([(M:Int),(N:Int)],(kz xs ys M K N).1,0)else([],[],(kz xs ys M K N).2)):=fun h1 h2 h3 h4=>by
  obtain⟨g1,g2⟩:=yg (s:=s) (t:=t) (by rw[hsx,hsy];exact h3) (by rw[hsx,hsy];exact h4);obtain⟨M,K,e1,m1,m2,k1,k2,l1⟩:=vm h1 g1;obtain⟨K2,N,e2,_,_,n1,n2,l2⟩:=vm h2 g2;subst e1 e2;injection hsx with hx0 hx1
  injection hsy with hy0 hy1
  have hx0':(M:Int)=x0:=hx0;have Ve:(K:Int)=x1:=hx1;have hy0':(K2:Int)=y0:=hy0;have Vd:(N:Int)=y1:=hy1;subst hx0' Ve hy0' Vd;obtain rfl:K=K2:=by omega
  rw[aL h4]at hN9;have e3:ai [(M:Int),(N:Int)]=((M*N:Nat):Int):=by simp[ai]
  refine⟨M,K,N,rfl,rfl,m2,k2,n2,l1,l2,rfl,rfl,rfl,rfl,?_,?_,lV h1 h2 h4⟩
  ·rw[e3]at hN9;omega
  ·have:=(bT h4).1;omega
 generalize gu s xs t ys=R at HR0 HR1 HTB⊢;clear hA hB hC hD hi hj hsx hsy hN9 hown Sg;go_enter Tryz.func90,Tryz.ntmps90;go_wp2;refine qP 0 rfl ?_
 go_upto_region 1 with fail
 obtain⟨W0,HW0⟩:∃W0,Hid (W0=((w.alloc (.cells #[.slice A s.length c, .slice B xs.length d] 25)).alloc (.cells #[.slice C t.length e, .slice D ys.length f] 25)).alloc (.cells #[zS, zS] 25)):=⟨_,rfl⟩
 rw[<-HW0.out];rw[<-HW0.out]at M0;have HS1:Hid (∀W,Kp W0 W->CJ 115 #[.agg #[.slice A s.length c, .slice B xs.length d]] W fun e w'=>e= .returned (.agg #[.int .i64 x0, .int .i64 x1])/\Kp W w'):=fun W k=>HS1.out W (M0.out.kp.tr k)
 have HS2:Hid (∀W,Kp W0 W->CJ 115 #[.agg #[.slice C t.length e, .slice D ys.length f]] W fun e w'=>e= .returned (.agg #[.int .i64 y0, .int .i64 y1])/\Kp W w'):=fun W k=>HS2.out W (M0.out.kp.tr k)
 clear HW0
 go_cut [6,7] (fun v6 v7 wx=>∃b6 b7,v6= pX b6 0/\v7= pX b7 0/\Hid (Ar wx b6 x0 x1)/\Hid (Ar wx b7 y0 y1)/\Hid (Kp W0 wx))
 case first=>
  have HKX:Hid (∀V,Kp W0 V->V.cell? ⟨w.heap.size,0,none⟩=some (.slice A s.length c)/\V.cell? ⟨w.heap.size,1,none⟩=some (.slice B xs.length d)/\V.cell? ⟨w.heap.size+1,0,none⟩=some (.slice C t.length e)/\V.cell? ⟨w.heap.size+1,1,none⟩=some (.slice D ys.length f)):=fun V kV=>⟨(M0.out.t0.kp kV).c0,(M0.out.t0.kp kV).c1,(M0.out.t1.kp kV).c0,(M0.out.t1.kp kV).c1⟩
  have KV:Hid (Kp W0 W0.drew):=aa3 (Kp.refl W0);refine aa8 (S:=fun V=>V.cell? ⟨w.heap.size,0,none⟩=some (.slice A s.length c)/\V.cell? ⟨w.heap.size,1,none⟩=some (.slice B xs.length d)/\V.cell? ⟨w.heap.size+1,0,none⟩=some (.slice C t.length e)/\V.cell? ⟨w.heap.size+1,1,none⟩=some (.slice D ys.length f)) kM (HKX.out _ KV.out) (fun qJ=>?_);generalize W0.drew=V at KV qJ⊢;refine tK 0 (.agg #[.slice A s.length c, .slice B xs.length d]) rfl qJ<|tK 2 (.agg #[.slice C t.length e, .slice D ys.length f]) rfl qJ ?_;refine abo (rs:=[1,4,5]) kM sC ?_;refine aa4 rfl (fun _ hK=>?o1) (aa4 rfl (fun _ hK=>?o4) (aa4 rfl (fun _ hK=>?o5) abl))
  case' o1=>
   go_simp;refine(HS1.out _ KV.out).mono ?_;rintro e0 V ⟨rfl,k1⟩;dsimp only;replace KV:=lH (KV.out.tr k1);clear k1;refine hK.out _ _ (HKX.out _ KV.out) fun qJ=>?_
   clear hK;refine abo (rs:=[3,4,5]) kM sC ?_;refine aa4 rfl (fun _ hK=>?o13) (aa4 rfl (fun _ hK=>?o14) (aa4 rfl (fun _ hK=>?o15) abl))
   case' o13=>
    go_simp;refine(HS2.out _ KV.out).mono ?_;rintro e0 V ⟨rfl,k1⟩;dsimp only;replace KV:=lH (KV.out.tr k1);clear k1;refine hK.out _ _ (HKX.out _ KV.out) fun qJ=>?_
    clear hK;refine abo (rs:=[4,5]) kM sC ?_;refine aa4 rfl (fun _ hK=>?U1) (aa4 rfl (fun _ hK=>?U0) abl)
    case' U1=>
     go_simp;refine hK.out _ _ (HKX.out _ (KV.out.al _)) fun qJ=>?_
     clear hK;have P6:Hid (Ar (V.alloc (.cells #[.int .i64 0, .int .i64 0] 141)) V.heap.size 0 0):=Ar.new rfl;have hb6:Hid (W0.heap.size<=V.heap.size):=KV.out.size;replace KV:=lH (KV.out.al (.cells #[.int .i64 0, .int .i64 0] 141));generalize V.heap.size=b6 at P6 hb6⊢;generalize V.alloc (.cells #[.int .i64 0, .int .i64 0] 141)=V at KV P6 qJ⊢;refine rD 5 rfl fun _ hK=>?_
     go_simp;refine hK.out _ _ (HKX.out _ (KV.out.al _)) fun qJ=>?_
     clear hK;have P7:Hid (Ar (V.alloc (.cells #[.int .i64 0, .int .i64 0] 141)) V.heap.size 0 0):=Ar.new rfl;have hb7:Hid (W0.heap.size<=V.heap.size):=KV.out.size;have hne:Hid (b6≠V.heap.size):=acJ P6.out.lt;replace P6:=lH (P6.out.af (.cells #[.int .i64 0, .int .i64 0] 141));replace KV:=lH (KV.out.al (.cells #[.int .i64 0, .int .i64 0] 141));generalize V.heap.size=b7 at P7 hb7 hne⊢;generalize V.alloc (.cells #[.int .i64 0, .int .i64 0] 141)=V at KV P7 P6 qJ⊢
    case' U0=>
     go_simp;refine hK.out _ _ (HKX.out _ (KV.out.al _)) fun qJ=>?_
     clear hK;have P7:Hid (Ar (V.alloc (.cells #[.int .i64 0, .int .i64 0] 141)) V.heap.size 0 0):=Ar.new rfl;have hb7:Hid (W0.heap.size<=V.heap.size):=KV.out.size;replace KV:=lH (KV.out.al (.cells #[.int .i64 0, .int .i64 0] 141));generalize V.heap.size=b7 at P7 hb7⊢;generalize V.alloc (.cells #[.int .i64 0, .int .i64 0] 141)=V at KV P7 qJ⊢;refine rD 4 rfl fun _ hK=>?_
     go_simp;refine hK.out _ _ (HKX.out _ (KV.out.al _)) fun qJ=>?_
     clear hK;have P6:Hid (Ar (V.alloc (.cells #[.int .i64 0, .int .i64 0] 141)) V.heap.size 0 0):=Ar.new rfl;have hb6:Hid (W0.heap.size<=V.heap.size):=KV.out.size;have hne:Hid (V.heap.size≠b7):=(acJ P7.out.lt).symm;replace P7:=lH (P7.out.af (.cells #[.int .i64 0, .int .i64 0] 141));replace KV:=lH (KV.out.al (.cells #[.int .i64 0, .int .i64 0] 141));generalize V.heap.size=b6 at P6 hb6 hne⊢;generalize V.alloc (.cells #[.int .i64 0, .int .i64 0] 141)=V at KV P6 P7 qJ⊢
   case' o14=>
    go_simp;refine hK.out _ _ (HKX.out _ (KV.out.al _)) fun qJ=>?_
    clear hK;have P6:Hid (Ar (V.alloc (.cells #[.int .i64 0, .int .i64 0] 141)) V.heap.size 0 0):=Ar.new rfl;have hb6:Hid (W0.heap.size<=V.heap.size):=KV.out.size;replace KV:=lH (KV.out.al (.cells #[.int .i64 0, .int .i64 0] 141));generalize V.heap.size=b6 at P6 hb6⊢;generalize V.alloc (.cells #[.int .i64 0, .int .i64 0] 141)=V at KV P6 qJ⊢;refine abo (rs:=[3,5]) kM sC ?_;refine aa4 rfl (fun _ hK=>?UZ) (aa4 rfl (fun _ hK=>?UY) abl)
    case' UZ=>
     go_simp;refine(HS2.out _ KV.out).mono ?_;rintro e0 V ⟨rfl,k1⟩;dsimp only;replace KV:=lH (KV.out.tr k1);replace P6:=lH (P6.out.kp k1);clear k1;refine hK.out _ _ (HKX.out _ KV.out) fun qJ=>?_
     clear hK;refine rD 5 rfl fun _ hK=>?_
     go_simp;refine hK.out _ _ (HKX.out _ (KV.out.al _)) fun qJ=>?_
     clear hK;have P7:Hid (Ar (V.alloc (.cells #[.int .i64 0, .int .i64 0] 141)) V.heap.size 0 0):=Ar.new rfl;have hb7:Hid (W0.heap.size<=V.heap.size):=KV.out.size;have hne:Hid (b6≠V.heap.size):=acJ P6.out.lt;replace P6:=lH (P6.out.af (.cells #[.int .i64 0, .int .i64 0] 141));replace KV:=lH (KV.out.al (.cells #[.int .i64 0, .int .i64 0] 141));generalize V.heap.size=b7 at P7 hb7 hne⊢;generalize V.alloc (.cells #[.int .i64 0, .int .i64 0] 141)=V at KV P7 P6 qJ⊢
    case' UY=>
     go_simp;refine hK.out _ _ (HKX.out _ (KV.out.al _)) fun qJ=>?_
     clear hK;have P7:Hid (Ar (V.alloc (.cells #[.int .i64 0, .int .i64 0] 141)) V.heap.size 0 0):=Ar.new rfl;have hb7:Hid (W0.heap.size<=V.heap.size):=KV.out.size;have hne:Hid (b6≠V.heap.size):=acJ P6.out.lt;replace P6:=lH (P6.out.af (.cells #[.int .i64 0, .int .i64 0] 141));replace KV:=lH (KV.out.al (.cells #[.int .i64 0, .int .i64 0] 141));generalize V.heap.size=b7 at P7 hb7 hne⊢;generalize V.alloc (.cells #[.int .i64 0, .int .i64 0] 141)=V at KV P7 P6 qJ⊢;refine rD 3 rfl fun _ hK=>?_
     go_simp;refine(HS2.out _ KV.out).mono ?_;rintro e0 V ⟨rfl,k1⟩;dsimp only;replace KV:=lH (KV.out.tr k1);replace P6:=lH (P6.out.kp k1);replace P7:=lH (P7.out.kp k1);clear k1;refine hK.out _ _ (HKX.out _ KV.out) fun qJ=>?_
     clear hK
   case' o15=>
    go_simp;refine hK.out _ _ (HKX.out _ (KV.out.al _)) fun qJ=>?_
    clear hK;have P7:Hid (Ar (V.alloc (.cells #[.int .i64 0, .int .i64 0] 141)) V.heap.size 0 0):=Ar.new rfl;have hb7:Hid (W0.heap.size<=V.heap.size):=KV.out.size;replace KV:=lH (KV.out.al (.cells #[.int .i64 0, .int .i64 0] 141));generalize V.heap.size=b7 at P7 hb7⊢;generalize V.alloc (.cells #[.int .i64 0, .int .i64 0] 141)=V at KV P7 qJ⊢;refine abo (rs:=[3,4]) kM sC ?_;refine aa4 rfl (fun _ hK=>?UX) (aa4 rfl (fun _ hK=>?UW) abl)
    case' UX=>
     go_simp;refine(HS2.out _ KV.out).mono ?_;rintro e0 V ⟨rfl,k1⟩;dsimp only;replace KV:=lH (KV.out.tr k1);replace P7:=lH (P7.out.kp k1);clear k1;refine hK.out _ _ (HKX.out _ KV.out) fun qJ=>?_
     clear hK;refine rD 4 rfl fun _ hK=>?_
     go_simp;refine hK.out _ _ (HKX.out _ (KV.out.al _)) fun qJ=>?_
     clear hK;have P6:Hid (Ar (V.alloc (.cells #[.int .i64 0, .int .i64 0] 141)) V.heap.size 0 0):=Ar.new rfl;have hb6:Hid (W0.heap.size<=V.heap.size):=KV.out.size;have hne:Hid (V.heap.size≠b7):=(acJ P7.out.lt).symm;replace P7:=lH (P7.out.af (.cells #[.int .i64 0, .int .i64 0] 141));replace KV:=lH (KV.out.al (.cells #[.int .i64 0, .int .i64 0] 141));generalize V.heap.size=b6 at P6 hb6 hne⊢;generalize V.alloc (.cells #[.int .i64 0, .int .i64 0] 141)=V at KV P6 P7 qJ⊢
    case' UW=>
     go_simp;refine hK.out _ _ (HKX.out _ (KV.out.al _)) fun qJ=>?_
     clear hK;have P6:Hid (Ar (V.alloc (.cells #[.int .i64 0, .int .i64 0] 141)) V.heap.size 0 0):=Ar.new rfl;have hb6:Hid (W0.heap.size<=V.heap.size):=KV.out.size;have hne:Hid (V.heap.size≠b7):=(acJ P7.out.lt).symm;replace P7:=lH (P7.out.af (.cells #[.int .i64 0, .int .i64 0] 141));replace KV:=lH (KV.out.al (.cells #[.int .i64 0, .int .i64 0] 141));generalize V.heap.size=b6 at P6 hb6 hne⊢;generalize V.alloc (.cells #[.int .i64 0, .int .i64 0] 141)=V at KV P6 P7 qJ⊢;refine rD 3 rfl fun _ hK=>?_
     go_simp;refine(HS2.out _ KV.out).mono ?_;rintro e0 V ⟨rfl,k1⟩;dsimp only;replace KV:=lH (KV.out.tr k1);replace P6:=lH (P6.out.kp k1);replace P7:=lH (P7.out.kp k1);clear k1;refine hK.out _ _ (HKX.out _ KV.out) fun qJ=>?_
     clear hK
  case' o4=>
   go_simp;refine hK.out _ _ (HKX.out _ (KV.out.al _)) fun qJ=>?_
   clear hK;have P6:Hid (Ar (V.alloc (.cells #[.int .i64 0, .int .i64 0] 141)) V.heap.size 0 0):=Ar.new rfl;have hb6:Hid (W0.heap.size<=V.heap.size):=KV.out.size;replace KV:=lH (KV.out.al (.cells #[.int .i64 0, .int .i64 0] 141));generalize V.heap.size=b6 at P6 hb6⊢;generalize V.alloc (.cells #[.int .i64 0, .int .i64 0] 141)=V at KV P6 qJ⊢;refine abo (rs:=[1,5]) kM sC ?_;refine aa4 rfl (fun _ hK=>?o41) (aa4 rfl (fun _ hK=>?o45) abl)
   case' o41=>
    go_simp;refine(HS1.out _ KV.out).mono ?_;rintro e0 V ⟨rfl,k1⟩;dsimp only;replace KV:=lH (KV.out.tr k1);replace P6:=lH (P6.out.kp k1);clear k1;refine hK.out _ _ (HKX.out _ KV.out) fun qJ=>?_
    clear hK;refine abo (rs:=[3,5]) kM sC ?_;refine aa4 rfl (fun _ hK=>?UR) (aa4 rfl (fun _ hK=>?UQ) abl)
    case' UR=>
     go_simp;refine(HS2.out _ KV.out).mono ?_;rintro e0 V ⟨rfl,k1⟩;dsimp only;replace KV:=lH (KV.out.tr k1);replace P6:=lH (P6.out.kp k1);clear k1;refine hK.out _ _ (HKX.out _ KV.out) fun qJ=>?_
     clear hK;refine rD 5 rfl fun _ hK=>?_
     go_simp;refine hK.out _ _ (HKX.out _ (KV.out.al _)) fun qJ=>?_
     clear hK;have P7:Hid (Ar (V.alloc (.cells #[.int .i64 0, .int .i64 0] 141)) V.heap.size 0 0):=Ar.new rfl;have hb7:Hid (W0.heap.size<=V.heap.size):=KV.out.size;have hne:Hid (b6≠V.heap.size):=acJ P6.out.lt;replace P6:=lH (P6.out.af (.cells #[.int .i64 0, .int .i64 0] 141));replace KV:=lH (KV.out.al (.cells #[.int .i64 0, .int .i64 0] 141));generalize V.heap.size=b7 at P7 hb7 hne⊢;generalize V.alloc (.cells #[.int .i64 0, .int .i64 0] 141)=V at KV P7 P6 qJ⊢
    case' UQ=>
     go_simp;refine hK.out _ _ (HKX.out _ (KV.out.al _)) fun qJ=>?_
     clear hK;have P7:Hid (Ar (V.alloc (.cells #[.int .i64 0, .int .i64 0] 141)) V.heap.size 0 0):=Ar.new rfl;have hb7:Hid (W0.heap.size<=V.heap.size):=KV.out.size;have hne:Hid (b6≠V.heap.size):=acJ P6.out.lt;replace P6:=lH (P6.out.af (.cells #[.int .i64 0, .int .i64 0] 141));replace KV:=lH (KV.out.al (.cells #[.int .i64 0, .int .i64 0] 141));generalize V.heap.size=b7 at P7 hb7 hne⊢;generalize V.alloc (.cells #[.int .i64 0, .int .i64 0] 141)=V at KV P7 P6 qJ⊢;refine rD 3 rfl fun _ hK=>?_
     go_simp;refine(HS2.out _ KV.out).mono ?_;rintro e0 V ⟨rfl,k1⟩;dsimp only;replace KV:=lH (KV.out.tr k1);replace P6:=lH (P6.out.kp k1);replace P7:=lH (P7.out.kp k1);clear k1;refine hK.out _ _ (HKX.out _ KV.out) fun qJ=>?_
     clear hK
   case' o45=>
    go_simp;refine hK.out _ _ (HKX.out _ (KV.out.al _)) fun qJ=>?_
    clear hK;have P7:Hid (Ar (V.alloc (.cells #[.int .i64 0, .int .i64 0] 141)) V.heap.size 0 0):=Ar.new rfl;have hb7:Hid (W0.heap.size<=V.heap.size):=KV.out.size;have hne:Hid (b6≠V.heap.size):=acJ P6.out.lt;replace P6:=lH (P6.out.af (.cells #[.int .i64 0, .int .i64 0] 141));replace KV:=lH (KV.out.al (.cells #[.int .i64 0, .int .i64 0] 141));generalize V.heap.size=b7 at P7 hb7 hne⊢;generalize V.alloc (.cells #[.int .i64 0, .int .i64 0] 141)=V at KV P7 P6 qJ⊢;refine rD 1 rfl fun _ hK=>?_
    go_simp;refine(HS1.out _ KV.out).mono ?_;rintro e0 V ⟨rfl,k1⟩;dsimp only;replace KV:=lH (KV.out.tr k1);replace P6:=lH (P6.out.kp k1);replace P7:=lH (P7.out.kp k1);clear k1;refine hK.out _ _ (HKX.out _ KV.out) fun qJ=>?_
    clear hK;refine rD 3 rfl fun _ hK=>?_
    go_simp;refine(HS2.out _ KV.out).mono ?_;rintro e0 V ⟨rfl,k1⟩;dsimp only;replace KV:=lH (KV.out.tr k1);replace P6:=lH (P6.out.kp k1);replace P7:=lH (P7.out.kp k1);clear k1;refine hK.out _ _ (HKX.out _ KV.out) fun qJ=>?_
    clear hK
  case' o5=>
   go_simp;refine hK.out _ _ (HKX.out _ (KV.out.al _)) fun qJ=>?_
   clear hK;have P7:Hid (Ar (V.alloc (.cells #[.int .i64 0, .int .i64 0] 141)) V.heap.size 0 0):=Ar.new rfl;have hb7:Hid (W0.heap.size<=V.heap.size):=KV.out.size;replace KV:=lH (KV.out.al (.cells #[.int .i64 0, .int .i64 0] 141));generalize V.heap.size=b7 at P7 hb7⊢;generalize V.alloc (.cells #[.int .i64 0, .int .i64 0] 141)=V at KV P7 qJ⊢;refine abo (rs:=[1,4]) kM sC ?_;refine aa4 rfl (fun _ hK=>?o51) (aa4 rfl (fun _ hK=>?o54) abl)
   case' o51=>
    go_simp;refine(HS1.out _ KV.out).mono ?_;rintro e0 V ⟨rfl,k1⟩;dsimp only;replace KV:=lH (KV.out.tr k1);replace P7:=lH (P7.out.kp k1);clear k1;refine hK.out _ _ (HKX.out _ KV.out) fun qJ=>?_
    clear hK;refine abo (rs:=[3,4]) kM sC ?_;refine aa4 rfl (fun _ hK=>?UO) (aa4 rfl (fun _ hK=>?UN) abl)
    case' UO=>
     go_simp;refine(HS2.out _ KV.out).mono ?_;rintro e0 V ⟨rfl,k1⟩;dsimp only;replace KV:=lH (KV.out.tr k1);replace P7:=lH (P7.out.kp k1);clear k1;refine hK.out _ _ (HKX.out _ KV.out) fun qJ=>?_
     clear hK;refine rD 4 rfl fun _ hK=>?_
     go_simp;refine hK.out _ _ (HKX.out _ (KV.out.al _)) fun qJ=>?_
     clear hK;have P6:Hid (Ar (V.alloc (.cells #[.int .i64 0, .int .i64 0] 141)) V.heap.size 0 0):=Ar.new rfl;have hb6:Hid (W0.heap.size<=V.heap.size):=KV.out.size;have hne:Hid (V.heap.size≠b7):=(acJ P7.out.lt).symm;replace P7:=lH (P7.out.af (.cells #[.int .i64 0, .int .i64 0] 141));replace KV:=lH (KV.out.al (.cells #[.int .i64 0, .int .i64 0] 141));generalize V.heap.size=b6 at P6 hb6 hne⊢;generalize V.alloc (.cells #[.int .i64 0, .int .i64 0] 141)=V at KV P6 P7 qJ⊢
    case' UN=>
     go_simp;refine hK.out _ _ (HKX.out _ (KV.out.al _)) fun qJ=>?_
     clear hK;have P6:Hid (Ar (V.alloc (.cells #[.int .i64 0, .int .i64 0] 141)) V.heap.size 0 0):=Ar.new rfl;have hb6:Hid (W0.heap.size<=V.heap.size):=KV.out.size;have hne:Hid (V.heap.size≠b7):=(acJ P7.out.lt).symm;replace P7:=lH (P7.out.af (.cells #[.int .i64 0, .int .i64 0] 141));replace KV:=lH (KV.out.al (.cells #[.int .i64 0, .int .i64 0] 141));generalize V.heap.size=b6 at P6 hb6 hne⊢;generalize V.alloc (.cells #[.int .i64 0, .int .i64 0] 141)=V at KV P6 P7 qJ⊢;refine rD 3 rfl fun _ hK=>?_
     go_simp;refine(HS2.out _ KV.out).mono ?_;rintro e0 V ⟨rfl,k1⟩;dsimp only;replace KV:=lH (KV.out.tr k1);replace P6:=lH (P6.out.kp k1);replace P7:=lH (P7.out.kp k1);clear k1;refine hK.out _ _ (HKX.out _ KV.out) fun qJ=>?_
     clear hK
   case' o54=>
    go_simp;refine hK.out _ _ (HKX.out _ (KV.out.al _)) fun qJ=>?_
    clear hK;have P6:Hid (Ar (V.alloc (.cells #[.int .i64 0, .int .i64 0] 141)) V.heap.size 0 0):=Ar.new rfl;have hb6:Hid (W0.heap.size<=V.heap.size):=KV.out.size;have hne:Hid (V.heap.size≠b7):=(acJ P7.out.lt).symm;replace P7:=lH (P7.out.af (.cells #[.int .i64 0, .int .i64 0] 141));replace KV:=lH (KV.out.al (.cells #[.int .i64 0, .int .i64 0] 141));generalize V.heap.size=b6 at P6 hb6 hne⊢;generalize V.alloc (.cells #[.int .i64 0, .int .i64 0] 141)=V at KV P6 P7 qJ⊢;refine rD 1 rfl fun _ hK=>?_
    go_simp;refine(HS1.out _ KV.out).mono ?_;rintro e0 V ⟨rfl,k1⟩;dsimp only;replace KV:=lH (KV.out.tr k1);replace P6:=lH (P6.out.kp k1);replace P7:=lH (P7.out.kp k1);clear k1;refine hK.out _ _ (HKX.out _ KV.out) fun qJ=>?_
    clear hK;refine rD 3 rfl fun _ hK=>?_
    go_simp;refine(HS2.out _ KV.out).mono ?_;rintro e0 V ⟨rfl,k1⟩;dsimp only;replace KV:=lH (KV.out.tr k1);replace P6:=lH (P6.out.kp k1);replace P7:=lH (P7.out.kp k1);clear k1;refine hK.out _ _ (HKX.out _ KV.out) fun qJ=>?_
    clear hK
  all_goals
   have q0:=P6.out.c0;have q1:=P6.out.c1;have q2:=P6.out.f0 0;have q3:=P6.out.f0 1;refine rD 6 rfl fun _ hK=>?_
   go_simp;replace KV:Hid (Kp W0 ((V.setCell ⟨b6,0,none⟩ (.int .i64 x0)).setCell ⟨b6,1,none⟩ (.int .i64 x1))):=(KV.out.setCell (p:=⟨b6,0,none⟩) hb6.out _).setCell (p:=⟨b6,1,none⟩) hb6.out _;replace P6:Hid (Ar ((V.setCell ⟨b6,0,none⟩ (.int .i64 x0)).setCell ⟨b6,1,none⟩ (.int .i64 x1)) b6 x0 x1):=P6.out.put;replace P7:=lH (P7.out.other hne.out.symm (.int .i64 x0) (.int .i64 x1));refine hK.out _ _ (HKX.out _ KV.out) fun qJ=>?_
   clear hK q0 q1 q2 q3;generalize ((V.setCell ⟨b6,0,none⟩ (.int .i64 x0)).setCell ⟨b6,1,none⟩ (.int .i64 x1))=V at KV P6 P7 qJ⊢;have q0:=P7.out.c0;have q1:=P7.out.c1;have q2:=P7.out.f0 0;have q3:=P7.out.f0 1;refine rD 7 rfl fun _ hK=>?_
   go_simp;replace KV:Hid (Kp W0 ((V.setCell ⟨b7,0,none⟩ (.int .i64 y0)).setCell ⟨b7,1,none⟩ (.int .i64 y1))):=(KV.out.setCell (p:=⟨b7,0,none⟩) hb7.out _).setCell (p:=⟨b7,1,none⟩) hb7.out _;replace P7:Hid (Ar ((V.setCell ⟨b7,0,none⟩ (.int .i64 y0)).setCell ⟨b7,1,none⟩ (.int .i64 y1)) b7 y0 y1):=P7.out.put;replace P6:=lH (P6.out.other hne.out (.int .i64 y0) (.int .i64 y1));refine hK.out _ _ (HKX.out _ KV.out) fun qJ=>?_
   clear hK q0 q1 q2 q3;generalize ((V.setCell ⟨b7,0,none⟩ (.int .i64 y0)).setCell ⟨b7,1,none⟩ (.int .i64 y1))=V at KV P6 P7 qJ⊢;refine abp kM ?_ _;go_wp2;go_meet;exact⟨b6,b7,rfl,rfl,P6.out,P7.out,KV.out⟩
 case rest=>
  obtain⟨b6,b7,rfl,rfl,A6,A7,k1⟩:=hcut;have M1:=lH (M0.out.tr k1.out);have a0:=A6.out.c0;have a1:=A7.out.c1;go_wp2_with fail;refine(HSZ.out _ _ (Ar.new rfl)).mono ?_;rintro e0 w2 ⟨rfl,rfl⟩;clear a0 a1
  go_upto_region 5 with fail
  obtain⟨g8,hg8⟩:∃g,g=wc.heap.size:=⟨_,rfl⟩
  obtain⟨G,hG⟩:∃g,g=g8+1:=⟨_,rfl⟩
  obtain⟨W3,HW3⟩:∃W3,Hid (W3=(wc.alloc (.cells #[.int .i64 x0, .int .i64 y1] 141)).alloc (.cells cs 3)):=⟨_,rfl⟩
  have K3:Hid (Kp wc W3):=by show Kp wc W3;rw[HW3.out];exact(Kp.af _ _).al _
  have A8:Hid (Ar W3 g8 x0 y1):=by show Ar W3 _ _ _;rw[HW3.out];exact(Ar.new hg8).af _
  have O4:Hid (Own G W3 (.slice (some ⟨G,0,none⟩) N9 N9) (List.replicate N9 0)):=by
   show Own _ W3 _ _;have hs:G=(wc.alloc (.cells #[.int .i64 x0, .int .i64 y1] 141)).heap.size:=by rw[aaY,hG,hg8]
   rw[HW3.out,hs];exact HO.out _ _ (aaZ _)
  have LT:Hid (w.heap.size+1+1<G/\b6<G/\b7<G/\g8<G):=by
   have l1:=M1.out.o.lt;have l2:=A6.out.lt;have l3:=A7.out.lt;show _/\_/\_/\_;omega
  rw[<-hg8,<-hG,<-HW3.out];have M3:=lH (M1.out.tr K3.out);have A6:=lH (A6.out.kp K3.out);have A7:=lH (A7.out.kp K3.out);have HG8:Hid (w.heap.size<=g8):=by have:=LT.out.1;show w.heap.size<=g8;omega
  clear K3 HW3 hg8 hG k1;have p0:=M3.out.t0.c0;have p1:=M3.out.t0.c1;have p2:=M3.out.t1.c0;have p3:=M3.out.t1.c1;by_cases ht1:aB s xs=false
  ·rw[ht1]at HT1;have HF:=lH (HR0.out (Or.inl ht1));clear ht1 HTB HR0 HR1;go_wp2_with fail;refine(HT1.out _ M3.out.kp).mono ?_;rintro e0 w4 ⟨rfl,k4⟩;have M4:=lH (M3.out.tr k4);clear k4;have r0:=M4.out.o.c0;have r1:=M4.out.o.c1;have u0:=M4.out.o.f0 0;have u1:=M4.out.o.f0 1;go_wp2
   go_step3
   refine⟨rfl,?_⟩;dsimp only;go_wp2
   try rw[Exit.noGoto_ret]
   refine aaX (v:= .tuple #[.agg #[zS, zS], .int .i64 30]) (by simp[results,Tryz.results90,go_sem,r0,r1];try rfl) rfl ?_;exact aG.err HF.out (M4.out.end_ _ _)
  have ht1:aB s xs=true:=by simpa using ht1
  rw[ht1]at HT1;by_cases ht2:aB t ys=false
  ·rw[ht2]at HT2;have HF:=lH (HR0.out (Or.inr ht2));clear ht1 ht2 HTB HR0 HR1;go_wp2_with fail;refine(HT1.out _ M3.out.kp).mono ?_;rintro e0 w4 ⟨rfl,k4⟩;have M4:=lH (M3.out.tr k4);clear k4 p0 p1 p2 p3;have p2:=M4.out.t1.c0;have p3:=M4.out.t1.c1;go_wp2_with fail;refine(HT2.out _ M4.out.kp).mono ?_;rintro e0 w5 ⟨rfl,k5⟩;have M4:=lH (M4.out.tr k5);clear k5;have r0:=M4.out.o.c0;have r1:=M4.out.o.c1;have u0:=M4.out.o.f0 0;have u1:=M4.out.o.f0 1;go_wp2
   go_step3
   refine⟨rfl,?_⟩;dsimp only;go_wp2
   try rw[Exit.noGoto_ret]
   refine aaX (v:= .tuple #[.agg #[zS, zS], .int .i64 30]) (by simp[results,Tryz.results90,go_sem,r0,r1];try rfl) rfl ?_;exact aG.err HF.out (M4.out.end_ _ _)
  have ht2:aB t ys=true:=by simpa using ht2
  rw[ht2]at HT2;go_wp2_with fail;refine(HT1.out _ M3.out.kp).mono ?_;rintro e0 w4 ⟨rfl,k4⟩;have M4:=lH (M3.out.tr k4);have A6:=lH (A6.out.kp k4);have A7:=lH (A7.out.kp k4);have A8:=lH (A8.out.kp k4);have O4:=lH (O4.out.kp k4);clear k4 p0 p1 p2 p3;have p2:=M4.out.t1.c0;have p3:=M4.out.t1.c1;go_wp2_with fail;refine(HT2.out _ M4.out.kp).mono ?_;rintro e0 w5 ⟨rfl,k5⟩;have M4:=lH (M4.out.tr k5);have A6:=lH (A6.out.kp k5);have A7:=lH (A7.out.kp k5);have A8:=lH (A8.out.kp k5);have O4:=lH (O4.out.kp k5);clear k5 p2 p3;have a6:=A6.out.c1;have a7:=A7.out.c0;by_cases hx:x1=y0
  ·have hx':(x1 !=y0)=false:=by simpa using hx
   by_cases hok:okS [x0,y1]=false
   ·rw[hok]at HCK;have HF:=lH (HR1.out ht1 ht2 (Or.inr hok));clear ht1 ht2 HTB HR0 HR1 hok hx;go_wp2_with fail;refine(HCK.out _ _ A8.out).mono ?_;rintro e0 w6 ⟨rfl,rfl⟩;have r0:=M4.out.o.c0;have r1:=M4.out.o.c1;have u0:=M4.out.o.f0 0;have u1:=M4.out.o.f0 1;go_wp2
    go_step3
    refine⟨rfl,?_⟩;dsimp only;go_wp2
    try rw[Exit.noGoto_ret]
    refine aaX (v:= .tuple #[.agg #[zS, zS], .int .i64 20]) (by simp[results,Tryz.results90,go_sem,r0,r1];try rfl) rfl ?_;exact aG.err HF.out (M4.out.end_ _ _)
   ·have hok:okS [x0,y1]=true:=by simpa using hok
    rw[hok]at HCK;obtain⟨M,K,N,rfl,rfl,hM,hK,hN,hxl,hyl,rfl,rfl,rfl,rfl,hNN,hMN,hform⟩:=HTB.out ht1 ht2 hx hok;have HFM:=lH hform;have HLN:=lH (And.intro hxl hyl);have HMN:=lH hMN;have HNN:=lH hNN;clear ht1 ht2 HTB HR0 HR1 hok hx hform hxl hyl hMN hNN HT1 HT2 HS1 HS2 HSZ HO HN9 HSD M0 M1 M3 hmk;have a8:=A8.out.c0;go_wp2_with fail;refine(HCK.out _ _ A8.out).mono ?_;rintro e0 w6 ⟨rfl,rfl⟩;go_wp2;obtain⟨F,hF⟩:=eX (atQ xs ys K N);have HFE:=lH hF;have ME:Hid (R=if(cL F (List.range N9)).2=0 then([(M:Int),(N:Int)],(cL F (List.range N9)).1,0)else([],[],(cL F (List.range N9)).2)):=by show R=_;rw[HFM.out,hF,HNN.out];rfl
    have HE0:Hid (Ee F (List.range N9) 0 (List.replicate N9 0)):=by
     have h:=mo (f:=F) (l:=List.range N9);rw[abM]at h;exact h
    obtain⟨W4,hW4⟩:=eX (w5);subst hW4;clear a6 a7 a8 hF HFM
    go_loopw [46,10] (fun i er wr=>∃(i':Nat) (ev:Int) (zs:BU),i= .int .i64 i'/\er= .int .i64 ev/\Hid (Ee F (List.range N9) (i'*N) zs)/\Hid (i'<=M)/\Hid (Own G wr (.slice (some ⟨G,0,none⟩) N9 N9) zs)/\Hid (Below G W4 wr)) (fun i _ _=>M-(intOf i).toNat)
    case atStart=>exact⟨0,20,_,rfl,rfl,by rw[Nat.zero_mul];exact HE0.out,aa6 _,O4.out,abu _ _⟩
    case round=>
     obtain⟨i,ev,zs,rfl,rfl,hr,hi,ho,hb⟩:=hrel;have M5:=lH (M4.out.tb hb.out LT.out.1);have A65:=lH (A6.out.tb hb.out LT.out.2.1);have A75:=lH (A7.out.tb hb.out LT.out.2.2.1);have A85:=lH (A8.out.tb hb.out LT.out.2.2.2);by_cases hlt:i<M
     ·have hlt':(i:Int)<(M:Int):=by omega
      have p0:=M5.out.t0.c0;have p1:=M5.out.t0.c1;have a6:=A65.out.c1;have a8:=A85.out.c1;obtain⟨P,hP⟩:∃P:Nat,P=i*K:=⟨_,rfl⟩
      obtain⟨Q,hQ⟩:∃Q:Nat,Q=i*N:=⟨_,rfl⟩
      have hP2:P<=240:=by rw[hP];exact(Cd (k:=0) (show i<16 by omega) oM hK).1
      have hQ2:Q<=240:=by rw[hQ];exact(Cd (k:=0) (show i<16 by omega) oM hN).1
      have wP:IntKind.i64.wrap ((i:Int)*(K:Int))=(P:Int):=by
       have e1:(i:Int)*(K:Int)=((i*K:Nat):Int):=(ab4 i K).symm;rw[e1,<-hP];exact IntWalk.i64_in _ oM
      have wQ:IntKind.i64.wrap ((i:Int)*(N:Int))=(Q:Int):=by
       have e1:(i:Int)*(N:Int)=((i*N:Nat):Int):=(ab4 i N).symm;rw[e1,<-hQ];exact IntWalk.i64_in _ oM
      have HPQ:=lH (And.intro hP hQ);rw[<-hQ]at hr;clear hP hQ;go_wp2_with fail;refine(lZ A B 2 c xs.length d (P:Int) 1 _).mono ?_;rintro e0 w5 ⟨rfl,l5,k5⟩;obtain⟨b5,hb5⟩:∃b,b=wr.heap.size:=⟨_,rfl⟩
      rw[<-hb5];rw[<-hb5]at l5;have hG5:G<b5:=by
       rw[hb5];obtain⟨g,e1,_,e2⟩:=ho.out.addr (by have h1:=hr.out.2.1;rw[abM]at h1;have h2:=HMN.out;omega);injection e1 with e1
       injection e1 with e1
       omega
      have HG5:=lH hG5;have L5:=lH l5;have O5:=lH (ho.out.kp k5);have M6:=lH (M5.out.tr k5);have A66:=lH (A65.out.kp k5);have A76:=lH (A75.out.kp k5);have A86:=lH (A85.out.kp k5);have HB5:=lH (hb.out.trans (k5.mono (by rw[<-hb5];omega)));clear p0 p1 a6 a8 k5 l5 hb5 hG5;have a8:=A86.out.c1;have H1:Hid (∀(k:Nat) W,k<K->Ln W b5 A 2 c B xs.length d (P:Int) 1->Kp w W->CJ 163 #[.int .i64 (k:Int), pX b5 0, pX (b5+1) 0, pX (b5+1+1) 0] W fun e W'=>e= .returned (.int .i64 (qN xs K i k))/\W=W'):=fun k W hk hL kW=>by
       have hl:=mT (i:=i) (M:=M) hlt hk;exact sq A B 2 c d b5 xs P 1 k (i*K+k) W hL (HRD.out.2.1.kp kW) oM oM oM (by rw[HPQ.out.1,Nat.mul_one]) (by rw[HLN.out.1];exact hl)
      go_wp2
      go_loopw [57,10] (fun j er wx=>∃(j':Nat) (ev:Int) (zs:BU),j= .int .i64 j'/\er= .int .i64 ev/\Hid (Ee F (List.range N9) (Q+j') zs)/\Hid (j'<=N)/\Hid (Own G wx (.slice (some ⟨G,0,none⟩) N9 N9) zs)/\Hid (Below G W4 wx)/\Hid (Ln wx b5 A 2 c B xs.length d (P:Int) 1)) (fun j _ _=>N-(intOf j).toNat)
      case atStart=>exact⟨0,ev,zs,rfl,rfl,hr.out,aa6 _,O5.out,HB5.out,L5.out⟩
      case round=>
       obtain⟨j,ev,zs,rfl,rfl,hr,hj,ho,hb,hl⟩:=hrel;have M7:=lH (M4.out.tb hb.out LT.out.1);have A67:=lH (A6.out.tb hb.out LT.out.2.1);have A77:=lH (A7.out.tb hb.out LT.out.2.2.1);have A87:=lH (A8.out.tb hb.out LT.out.2.2.2);by_cases hjt:j<N
       ·have Vp:(j:Int)<(N:Int):=by omega
        clear a8;obtain⟨q,hq⟩:∃q:Nat,q=Q+j:=⟨_,rfl⟩
        have hqM:q<N9:=by rw[hq,HPQ.out.2,HNN.out];exact mT hlt hjt
        have wq:IntKind.i64.wrap ((Q:Int)+(j:Int))=(q:Int):=by rw[IntWalk.i64_in _ oM];omega
        have hq1:(0:Int)<=(q:Int):=by omega
        have hq2:(q:Int)<(N9:Int):=by omega
        have hzl:zs.length=N9:=by have h1:=hr.out.2.1;rwa [abM]at h1
        have hcz:=ho.out.cell_ (j:=q) (aaV oM);have hfz:=ho.out.fE q;have hFq:F q=gQ (qN xs K i) (qO ys N j) K:=by
         rw[HFE.out];show gQ (qN xs K (q/N)) (qO ys N (q%N)) K=_;have e1:q=j+N*i:=by rw[hq,HPQ.out.2,Nat.mul_comm];omega
         rw[e1,Nat.add_mul_div_left _ _ oM,Nat.add_mul_mod_self_left,Nat.div_eq_of_lt hjt,Nat.mod_eq_of_lt hjt,abw]
        obtain⟨r1,hr1⟩:=eX ((F q).1);obtain⟨r2,hr2⟩:=eX ((F q).2);have HAL:Hid (∀W b6,Ln W b5 A 2 c B xs.length d (P:Int) 1->Ln W b6 C 2 e D ys.length f (j:Int) (N:Int)->Kp w W->CJ 117 #[.func (.func 163) #[] #[pX b5 0, pX (b5+1) 0, pX (b5+1+1) 0], .func (.func 163) #[] #[pX b6 0, pX (b6+1) 0, pX (b6+1+1) 0], .int .i64 (K:Int)] W
          fun e W'=>e= .returned (.tuple #[.int .i64 r1, .int .i64 r2])/\Kp W W'):=fun W b6 hL hR kW=>by
         have hh:=Dr b5 b6 K (qN xs K i) (qO ys N j) W hK (fun k hk=>fS HIJ.out.1 _) (fun k hk=>fS HIJ.out.2 _) (fun k V hk kV=>H1.out k V hk (hL.kp kV) (kW.tr kV))
          (fun k V hk kV=>by
           have hl:=mT (i:=k) (k:=j) hk hjt;have hle:=(Cd (i:=k) (k:=j) (show k<16 by omega) (show j<16 by omega) hN).2;exact sq C D 2 e f b6 ys j N k (k*N+j) V (hR.kp kV) (HRD.out.2.2.2.kp (kW.tr kV)) oM oM oM (Nat.add_comm _ _) (by rw[HLN.out.2];exact hl))
         rw[<-hFq,<-hr1,<-hr2]at hh;exact hh
        have SZ:Hid (r2=0->Ee F (List.range N9) (Q+(j+1)) (zs.set q r1)):=fun h0=>by
         have hh:=qF hr.out (x:=q) (by rw[<-hq];exact abm hqM) (by rw[<-hr2];exact h0);rw[<-hr1,<-hq]at hh;have e1:Q+(j+1)=q+1:=by omega
         show Ee _ _ _ _;rw[e1];exact hh
        have S9:Hid (r2≠0->R=([],[],r2)):=fun h0=>by
         have hh:=wO hr.out (x:=q) (by rw[<-hq];exact abm hqM) (by rw[<-hr2];exact h0);rw[<-hr2]at hh;rw[ME.out,hh,aaT h0]
        have HKX:Hid (∀V,Kp wr V->V.cell? ⟨g8,1,none⟩=some (.int .i64 (N:Int))/\V.cell? ⟨w.heap.size+1,0,none⟩=some (.slice C 2 e)/\V.cell? ⟨w.heap.size+1,1,none⟩=some (.slice D ys.length f)/\V.cell? ⟨b7,1,none⟩=some (.int .i64 (N:Int))/\V.cell? ⟨b6,1,none⟩=some (.int .i64 (K:Int))):=fun V kV=>⟨(A87.out.kp kV).c1,(M7.out.t1.kp kV).c0,(M7.out.t1.kp kV).c1,(A77.out.kp kV).c1,(A67.out.kp kV).c1⟩
        have lt0:=LT.out;have HSS:Hid (∀(V:World) (u:Value),(V.cell? ⟨g8,1,none⟩=some (.int .i64 (N:Int))/\V.cell? ⟨w.heap.size+1,0,none⟩=some (.slice C 2 e)/\V.cell? ⟨w.heap.size+1,1,none⟩=some (.slice D ys.length f)/\V.cell? ⟨b7,1,none⟩=some (.int .i64 (N:Int))/\V.cell? ⟨b6,1,none⟩=some (.int .i64 (K:Int)))->((V.setCell ⟨G,q,none⟩ u).cell? ⟨g8,1,none⟩=some (.int .i64 (N:Int))/\(V.setCell ⟨G,q,none⟩ u).cell? ⟨w.heap.size+1,0,none⟩=some (.slice C 2 e)/\(V.setCell ⟨G,q,none⟩ u).cell? ⟨w.heap.size+1,1,none⟩=some (.slice D ys.length f)/\(V.setCell ⟨G,q,none⟩ u).cell? ⟨b7,1,none⟩=some (.int .i64 (N:Int))/\(V.setCell ⟨G,q,none⟩ u).cell? ⟨b6,1,none⟩=some (.int .i64 (K:Int)))):=fun V u ⟨h1,h2,h3,h4,h5⟩=>⟨bp (fun e=>by have e:=abP Addr.block e;dsimp only at e;omega) h1,bp (fun e=>by have e:=abP Addr.block e;dsimp only at e;omega) h2,bp (fun e=>by have e:=abP Addr.block e;dsimp only at e;omega) h3,bp (fun e=>by have e:=abP Addr.block e;dsimp only at e;omega) h4,bp (fun e=>by have e:=abP Addr.block e;dsimp only at e;omega) h5⟩
        have HGW:Hid (G<=wr.heap.size):=by
         obtain⟨g,e1,_,e2⟩:=ho.out.addr (by have h2:=HMN.out;omega);injection e1 with e1
         injection e1 with e1
         show G<=_;omega
        have HZQ:Hid (zs[q]?≠none):=by show _≠none;rw[aaV oM];simp
        obtain⟨zq,hzq⟩:∃zq,zs[q]?=some zq:=⟨_,aaV oM⟩
        have HZC:Hid (∀V,Kp wr V->V.cell? ⟨G,q,none⟩=some (.int .i64 zq)/\V.frozen? ⟨G,q,none⟩=false):=fun V kV=>⟨(ho.out.kp kV).cell_ hzq,(ho.out.kp kV).fE q⟩
        have hqs:=HKX.out _ (aa3 (Kp.refl wr));have hdr:Hid (Kp wr wr.drew):=aa3 (Kp.refl _);have HLC:=lH (fun(W:World)=>lZ C D 2 e ys.length f (j:Int) (N:Int) W);clear hFq hr1 hr2 hcz hfz hzl hq hqM HZQ hzq lt0;go_wp2
        go_region_held3 (fun V=>V.cell? ⟨g8,1,none⟩=some (.int .i64 (N:Int))/\V.cell? ⟨w.heap.size+1,0,none⟩=some (.slice C 2 e)/\V.cell? ⟨w.heap.size+1,1,none⟩=some (.slice D ys.length f)/\V.cell? ⟨b7,1,none⟩=some (.int .i64 (N:Int))/\V.cell? ⟨b6,1,none⟩=some (.int .i64 (K:Int))) (first|exact hqs|exact q6|exact q7|exact HSS.out _ _ q7)
         (first
         |(go_at_call 116;refine(HLC.out _).mono ?_;rintro e0 w6 ⟨rfl,l6,k6⟩;have K6:Hid (Kp wr w6):=hdr.out.tr k6;have L6:=lH l6;have q6:=HKX.out _ K6.out;clear k6 l6)
         |(go_at_call 117;refine(HAL.out _ _ (hl.out.kp K6.out) L6.out (M7.out.kp.tr K6.out)).mono ?_;rintro e0 w7 ⟨rfl,k7⟩;have K7:Hid (Kp wr w7):=K6.out.tr k7;have q7:=HKX.out _ K7.out;have hcq:=(HZC.out _ K7.out).1;have hfq:=(HZC.out _ K7.out).2;clear k7 q6))
        clear q7 hcq hfq hqs;obtain⟨w8,hw8⟩:∃w8,Hid (w8=w7.setCell ⟨G,q,none⟩ (.int .i64 r1)):=⟨_,rfl⟩
        have O8:Hid (Own G w8 (.slice (some ⟨G,0,none⟩) N9 N9) (zs.set q r1)):=by show Own _ w8 _ _;rw[hw8.out];exact(ho.out.kp K7.out).kY _ _
        have B8:Hid (Below G W4 w8):=by show Below _ _ w8;rw[hw8.out];exact(hb.out.trans (K7.out.mono HGW.out)).setCell (p:=⟨G,q,none⟩) (aaZ _) _
        have L8:Hid (Ln w8 b5 A 2 c B xs.length d (P:Int) 1):=by show Ln w8 _ _ _ _ _ _ _ _ _;rw[hw8.out];exact(hl.out.kp K7.out).past HG5.out _
        rw[<-hw8.out];clear hw8 K6 L6 K7;by_cases he:r2=0
        ·have HEE:=lH (SZ.out he);have he':(r2 !=0)=false:=by simpa using he
         subst he;go_wp2;go_roundw
         case rel=>exact⟨j+1,0,_,by go_num,rfl,HEE.out,hjt,O8.out,B8.out,L8.out⟩
         case measure=>simp[intOf];omega
        ·have HF:=lH (S9.out he);have he':(r2 !=0)=true:=by simpa using he
         have M4:=lH (M4.out.tb B8.out LT.out.1);clear he;have r0:=M4.out.o.c0;have r1:=M4.out.o.c1;have u0:=M4.out.o.f0 0;have u1:=M4.out.o.f0 1;go_wp2
         go_step3
         refine⟨rfl,?_⟩;dsimp only;go_wp2
         try rw[Exit.noGoto_ret]
         refine aaX (v:= .tuple #[.agg #[zS, zS], .int .i64 r2]) (by simp[results,Tryz.results90,go_sem,r0,r1];try rfl) rfl ?_;exact aG.err HF.out (M4.out.end_ _ _)
       ·have Vp:¬(j:Int)<(N:Int):=by omega
        have hjN:j=N:=by have:=hj.out;omega
        have HEN:Hid (Ee F (List.range N9) ((i+1)*N) zs):=by
         have h:=hr.out;rw[hjN,HPQ.out.2]at h;show Ee _ _ _ _;rw[Nat.succ_mul];exact h
        go_wp2;go_roundw
        case rel=>exact⟨i+1,ev,zs,by go_num,rfl,HEN.out,hlt,ho.out,hb.out⟩
        case measure=>simp[intOf];omega
     ·have hlt':¬(i:Int)<(M:Int):=by omega
      have hiM:i=M:=by have:=hi.out;omega
      have HE:=lH (wN hr.out (by rw[abM,hiM,HNN.out];omega));have hzl:zs.length=N9:=by have h1:=hr.out.2.1;rwa [abM]at h1
      have HFR:Hid (R=([(M:Int),(N:Int)],zs,0)):=by show R=_;rw[ME.out,HE.out,aaW rfl]
      have HZL:=lH hzl;have r0:=M5.out.o.c0;have r1:=M5.out.o.c1;have u0:=M5.out.o.f0 0;have u1:=M5.out.o.f0 1;clear hzl hiM;go_wp2
      try rw[GH]
      refine aaX (v:= .tuple #[.agg #[.slice (some ⟨g8,0,none⟩) 2 2, .slice (some ⟨G,0,none⟩) N9 N9], .int .i64 0]) (by simp[results,Tryz.results90,go_sem,r0,r1];try rfl) rfl ?_;exact aG.on HFR.out rfl HZL.out.symm (Sl.past (Sl.of A85.out.rd sC) M5.out.o _ _) (ho.out.sl.past M5.out.o _ _) (M5.out.end_ _ _) (fun _ ad e0=>by injection e0 with e0;subst e0;exact HG8.out) (ho.out.nw (by have:=LT.out.1;omega))
  ·have hx':(x1 !=y0)=true:=by simpa using hx
   have HF:=lH (HR1.out ht1 ht2 (Or.inl hx));clear ht1 ht2 HTB HR0 HR1 hx;have r0:=M4.out.o.c0;have r1:=M4.out.o.c1;have u0:=M4.out.o.f0 0;have u1:=M4.out.o.f0 1;go_wp2
   go_step3
   refine⟨rfl,?_⟩;dsimp only;go_wp2
   try rw[Exit.noGoto_ret]
   refine aaX (v:= .tuple #[.agg #[zS, zS], .int .i64 20]) (by simp[results,Tryz.results90,go_sem,r0,r1];try rfl) rfl ?_;exact aG.err HF.out (M4.out.end_ _ _)
theorem vk{s xs:BU}(h:bN xs):bN (bJ s xs):=fun y hy=>by
 unfold bJ at hy;obtain⟨i,_,rfl⟩:=abN.1 hy;unfold atV;split
 ·exact fS h _
 ·show _<=(0:Int)/\(0:Int)<=_;omega
theorem Lc{g xs t ys:BU}(h:aB g xs=false∨aB t ys=false):fL g xs t ys=([],[],30):=by unfold fL;rw[aaW h]
theorem E7{s xs g ys:BU}(h:aB s xs=false∨aB g ys=false):di s xs g ys=([],[],30):=by unfold di;rw[aaW h]
theorem Ld{g xs t ys:BU}(h:aB t ys=true):fL g xs t ys=gu g xs t.reverse (bJ t ys):=by
 unfold fL;by_cases h1:aB g xs=false
 ·rw[aaW (Or.inl h1)];unfold gu;rw[aaW (Or.inl h1)]
 ·rw[aaT (by simp[h,h1]),oT h];by_cases h2:t.length≠2
  ·rw[aaW h2];unfold gu;rw[aaT (by simp[h1,gG h]),aaW (Or.inr (Or.inl (by simpa using h2)))]
  ·rw[aaT h2]
theorem E8{s xs g ys:BU}(h:aB s xs=true):di s xs g ys=gu s.reverse (bJ s xs) g ys:=by
 unfold di;by_cases h1:aB g ys=false
 ·rw[aaW (Or.inr h1)];unfold gu;rw[aaW (Or.inr h1)]
 ·rw[aaT (by simp[h,h1]),oT h];by_cases h2:s.length≠2
  ·rw[aaW h2];unfold gu;rw[aaT (by simp[h1,gG h]),aaW (Or.inl (by simpa using h2))]
  ·rw[aaT h2]
theorem AH(A B C D:DV)(c d e f:Nat)(s xs t ys:BU)(w:World)(hA:Rd w A s)(hB:Rd w B xs)(hC:Rd w C t)(hD:Rd w D ys)(hI:bN xs)(hJ:bN ys):
  CJ 173 #[.agg #[.slice A s.length c, .slice B xs.length d], .agg #[.slice C t.length e, .slice D ys.length f]] w (aG (fL s xs t ys) w):=by
 have hl1:=hA.len;have hl2:=hC.len;have F0:=lH (Mb.mk_ w A s.length c B xs.length d C t.length e D ys.length f);have HTU:Hid (∀W,Kp w W->CJ 94 #[.agg #[.slice C t.length e, .slice D ys.length f]] W (aG (bF t ys) W)):=fun W k=>jg C D e f t ys W (hC.kp k) (hD.kp k)
 cases ht:aB t ys with
 |false=>
  have e0:bF t ys=([],[],30):=by unfold bF;rw[aaW ht]
  rw[e0]at HTU;have HF:Hid (fL s xs t ys=([],[],30)):=Lc (Or.inr ht);clear ht e0 hA hB hC hD hI hJ;go_enter Tryz.func173,Tryz.ntmps173;go_wp2_with fail;refine(HTU.out _ F0.out.kp).mono ?_;rintro e0 w1 ⟨A3,c3,B3,d3,rfl,_,_,k1⟩;have F1:=lH (F0.out.tr k1);clear k1;dsimp only;have lt0:=F1.out.o.lt;have r0:=F1.out.o.c0;have r1:=F1.out.o.c1;have u0:=F1.out.o.f0 0;have u1:=F1.out.o.f0 1;go_wp2;have HZ:=((F1.out.o.put (C:=none) (n':=0) (c':=0) (D:=none) (m':=0) (d':=0)).af (.cells #[.slice A3 0 c3, .slice B3 0 d3] 25))
  have z0:=HZ.c0;have z1:=HZ.c1;refine aaX (v:= .tuple #[.agg #[zS, zS], .int .i64 30]) (by simp[results,Tryz.results173,go_sem,z0,z1];try rfl) rfl ?_;exact aG.err HF.out ((F1.out.end_ _ _).al _)
 |true=>
  rw[oT ht]at HTU;have HF:Hid (fL s xs t ys=gu s xs t.reverse (bJ t ys)):=Ld ht;have HM:Hid (∀W A3 B3 c3 d3,Kp w W->Rd W A3 t.reverse->Rd W B3 (bJ t ys)->CJ 90 #[.agg #[.slice A s.length c, .slice B xs.length d], .agg #[.slice A3 t.reverse.length c3, .slice B3 (bJ t ys).length d3]] W (aG (fL s xs t ys) W)):=fun W A3 B3 c3 d3 k r1 r2=>by
   rw[HF.out];exact pL A B A3 B3 c d c3 d3 s xs t.reverse (bJ t ys) W (hA.kp k) (hB.kp k) r1 r2 hI (vk hJ)
  obtain⟨R1,R2,R3,hR⟩:∃R1 R2 R3,fL s xs t ys=(R1,R2,R3):=⟨_,_,_,rfl⟩
  rw[hR]at HM⊢;generalize t.reverse=T1 at HTU HM;generalize bJ t ys=T2 at HTU HM;clear ht hA hB hC hD hI hJ HF hR;go_enter Tryz.func173,Tryz.ntmps173;go_wp2_with fail;refine(HTU.out _ F0.out.kp).mono ?_;rintro e0 w1 ⟨A3,c3,B3,d3,rfl,r1,r2,k1⟩;have F1:=lH (F0.out.tr k1);have HR:=lH (And.intro r1 r2);clear k1 r1 r2;dsimp only;have p0:=F1.out.t0.c0;have p1:=F1.out.t0.c1;have p4:=F1.out.o.lt;have p5:w.heap.size<w1.heap.size:=by omega
  have p6:w.heap.size+1<w1.heap.size:=by omega
  go_wp2_with fail;refine(HM.out _ _ _ _ _ (F1.out.kp.al _) (HR.out.1.rd.af _) (HR.out.2.rd.af _)).mono ?_;rintro e0 w2 ⟨A4,c4,B4,d4,rfl,r3,r4,k2⟩;have F2:=lH ((F1.out.tr (Kp.af _ _)).tr k2);have HS:=lH (And.intro r3 r4);clear k2 r3 r4 p0 p1 p4 p5 p6;dsimp only;have r0:=F2.out.o.c0;have r1:=F2.out.o.c1;have u0:=F2.out.o.f0 0;have u1:=F2.out.o.f0 1;go_wp2;refine aaX (v:= .tuple #[.agg #[.slice A4 R1.length c4, .slice B4 R2.length d4], .int .i64 R3]) (by simp[results,Tryz.results173,go_sem,r0,r1];try rfl) rfl ?_;exact aG.of rfl (HS.out.1.toSl.past F2.out.o _ _) (HS.out.2.toSl.past F2.out.o _ _) (F2.out.end_ _ _) (HS.out.1.nw.mo (F1.out.kp.al _).size) (HS.out.2.nw.mo (F1.out.kp.al _).size)
theorem xS(A B C D:DV)(c d e f:Nat)(s xs t ys:BU)(w:World)(hA:Rd w A s)(hB:Rd w B xs)(hC:Rd w C t)(hD:Rd w D ys)(hI:bN xs)(hJ:bN ys):
  CJ 174 #[.agg #[.slice A s.length c, .slice B xs.length d], .agg #[.slice C t.length e, .slice D ys.length f]] w (aG (di s xs t ys) w):=by
 have hl1:=hA.len;have hl2:=hC.len;have F0:=lH (Mb.mk_ w A s.length c B xs.length d C t.length e D ys.length f);have HTU:Hid (∀W,Kp w W->CJ 94 #[.agg #[.slice A s.length c, .slice B xs.length d]] W (aG (bF s xs) W)):=fun W k=>jg A B c d s xs W (hA.kp k) (hB.kp k)
 cases ht:aB s xs with
 |false=>
  have e0:bF s xs=([],[],30):=by unfold bF;rw[aaW ht]
  rw[e0]at HTU;have HF:Hid (di s xs t ys=([],[],30)):=E7 (Or.inl ht);clear ht e0 hA hB hC hD hI hJ;go_enter Tryz.func174,Tryz.ntmps174;go_wp2_with fail;refine(HTU.out _ F0.out.kp).mono ?_;rintro e0 w1 ⟨A3,c3,B3,d3,rfl,_,_,k1⟩;have F1:=lH (F0.out.tr k1);clear k1;dsimp only;have lt0:=F1.out.o.lt;have r0:=F1.out.o.c0;have r1:=F1.out.o.c1;have u0:=F1.out.o.f0 0;have u1:=F1.out.o.f0 1;go_wp2;have HZ:=((F1.out.o.put (C:=none) (n':=0) (c':=0) (D:=none) (m':=0) (d':=0)).af (.cells #[.slice A3 0 c3, .slice B3 0 d3] 25))
  have z0:=HZ.c0;have z1:=HZ.c1;refine aaX (v:= .tuple #[.agg #[zS, zS], .int .i64 30]) (by simp[results,Tryz.results174,go_sem,z0,z1];try rfl) rfl ?_;exact aG.err HF.out ((F1.out.end_ _ _).al _)
 |true=>
  rw[oT ht]at HTU;have HF:Hid (di s xs t ys=gu s.reverse (bJ s xs) t ys):=E8 ht;have HM:Hid (∀W A3 B3 c3 d3,Kp w W->Rd W A3 s.reverse->Rd W B3 (bJ s xs)->CJ 90 #[.agg #[.slice A3 s.reverse.length c3, .slice B3 (bJ s xs).length d3], .agg #[.slice C t.length e, .slice D ys.length f]] W (aG (di s xs t ys) W)):=fun W A3 B3 c3 d3 k r1 r2=>by
   rw[HF.out];exact pL A3 B3 C D c3 d3 e f s.reverse (bJ s xs) t ys W r1 r2 (hC.kp k) (hD.kp k) (vk hI) hJ
  obtain⟨R1,R2,R3,hR⟩:∃R1 R2 R3,di s xs t ys=(R1,R2,R3):=⟨_,_,_,rfl⟩
  rw[hR]at HM⊢;generalize s.reverse=T1 at HTU HM;generalize bJ s xs=T2 at HTU HM;clear ht hA hB hC hD hI hJ HF hR;go_enter Tryz.func174,Tryz.ntmps174;go_wp2_with fail;refine(HTU.out _ F0.out.kp).mono ?_;rintro e0 w1 ⟨A3,c3,B3,d3,rfl,r1,r2,k1⟩;have F1:=lH (F0.out.tr k1);have HR:=lH (And.intro r1 r2);clear k1 r1 r2;dsimp only;have p0:=F1.out.t1.c0;have p1:=F1.out.t1.c1;have p4:=F1.out.o.lt;have p5:w.heap.size<w1.heap.size:=by omega
  have p6:w.heap.size+1<w1.heap.size:=by omega
  go_wp2_with fail;refine(HM.out _ _ _ _ _ (F1.out.kp.al _) (HR.out.1.rd.af _) (HR.out.2.rd.af _)).mono ?_;rintro e0 w2 ⟨A4,c4,B4,d4,rfl,r3,r4,k2⟩;have F2:=lH ((F1.out.tr (Kp.af _ _)).tr k2);have HS:=lH (And.intro r3 r4);clear k2 r3 r4 p0 p1 p4 p5 p6;dsimp only;have r0:=F2.out.o.c0;have r1:=F2.out.o.c1;have u0:=F2.out.o.f0 0;have u1:=F2.out.o.f0 1;go_wp2;refine aaX (v:= .tuple #[.agg #[.slice A4 R1.length c4, .slice B4 R2.length d4], .int .i64 R3]) (by simp[results,Tryz.results174,go_sem,r0,r1];try rfl) rfl ?_;exact aG.of rfl (HS.out.1.toSl.past F2.out.o _ _) (HS.out.2.toSl.past F2.out.o _ _) (F2.out.end_ _ _) (HS.out.1.nw.mo (F1.out.kp.al _).size) (HS.out.2.nw.mo (F1.out.kp.al _).size)
open ChangeShapes WideShapes ChangeAt
