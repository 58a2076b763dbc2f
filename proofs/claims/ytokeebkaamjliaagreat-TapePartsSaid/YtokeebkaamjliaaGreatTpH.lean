/- The landed tape: rows that are copied, element by element. -/
import Derived.Test.YtokeebkaamjliaaGreatEvRw
set_option maxHeartbeats 16000000
set_option maxRecDepth 100000
set_option linter.unusedVariables false
set_option linter.unusedSimpArgs false
namespace Go.Proofs.YtokeebkaamjliaaGreat.Ez
open RowKit ShM GrM InM ImM EvM
section
variable{w w':World}{B:Nat}{X:Nat->Prop}{v:Value}{ts us:List T}
theorem Zn(A:DV)(c:Nat)(h:zf B X w v ts)(ty:TypeId):(Builtin.append_ #[26,26] ty #[v, .slice A 0 c]).run Tryz.prog w= .ok v w:=by
 obtain⟨i,hi,hz,h1,h2⟩:=info_parts mA;have hl:∀(x:Addr),(loadCells x 0).run Tryz.prog w= .ok #[] w:=fun x=>by simpa using run_loadCells_list (P:=Tryz.prog) w x [] sC
 have ht:=abk (P:=Tryz.prog) (w:=w) Tryz.underlying26;obtain⟨⟨vs,hown,hv⟩,_⟩:=h;rcases hown.2 with⟨rfl,h0⟩|⟨g,cap,cur,rfl,_,_,hn,_⟩
 · cases A<;>simp[Builtin.append_,ht,sizeOf,typeInfo,hi,Builtin.lenOf,Builtin.firstCells,hl]
 · cases A<;>simp[Builtin.append_,ht,sizeOf,typeInfo,hi,Builtin.lenOf,Builtin.firstCells,hn,storeCells,hl]
theorem zf.any(h:zf B X w v ts){A:DV}{c:Nat}(hr:RdX w X A us)(hs:ts.length+us.length<=1000000)(hB:B<=w.heap.size)(ty:TypeId):
  ∃A' c' w',(Builtin.append_ #[26,26] ty #[v, .slice A us.length c]).run Tryz.prog w= .ok (.slice A' (ts.length+us.length) c') w'/\zf B X w' (.slice A' (ts.length+us.length) c') (ts++us)/\Below B w w':=by
 by_cases hu:us=[]
 · subst hu
   obtain⟨A',c',e,_⟩:=h.form;refine⟨A',c',w,?_,?_,abu _ _⟩
   · rw[acC,Zn A c h,e];rfl
   · rw[List.append_nil,acC,Nat.add_zero,<-e];exact h
 · obtain⟨ad,e,_,_⟩:=hr.2.choose_spec.2 (List.length_pos_iff.2 hu)
   subst e;obtain⟨A',c',w',h1,h2,h3,_⟩:=h.apps ad us (List.length_pos_iff.2 hu) c hr hs hB ty;exact⟨A',c',w',h1,h2,h3⟩
theorem YJ{ops:Array Oper}{rest:List Oper}{o:Oper}{a:Act}{Q:Exit->Act->World->Prop}(hgd:Region.wanted o (yielded ops a.tmps)=true)(s x:Operand)
    (hop:o.op= .call {callee:= .builtin .append,args:= #[s,x],argTypes:= #[26,26]})
    (v:Value)(hs:a.eval s=v)(ho:zf B X w v ts)(A:DV)(c n:Nat)(hx:a.eval x= .slice A n c)(hn:n=us.length)(hr:RdX w X A us)(hl:ts.length+us.length<=1000000)(hB:B<=w.heap.size)
    (h:∀A' c' w',zf B X w' (.slice A' (ts.length+us.length) c') (ts++us)->Below B w w'->wpList Tryz.prog ops Q rest (a.put o.dst (.slice A' (ts.length+us.length) c')) w'):wpList Tryz.prog ops Q (o::rest) a w:=by
  refine BigFrame.wpList_want hgd fun K hK=>?_
  subst hn;obtain⟨A',c',w',hrun,h1,h2⟩:=ho.any (c:=c) hr hl hB o.type;unfold Oper.wp execOp;simp only[hop,resolve,invoke,builtin,acX,acW,acr,ab7,abT,ack,hs,hx,hrun];exact hK _ _ (h A' c' w' h1 h2)
theorem zf.zero(w:World):zf w.heap.size X (w.alloc (.cells #[] 25)) (.slice (some ⟨w.heap.size,0,none⟩) 0 0) []:=
 ⟨⟨[],World.ownsRow_lit (base:=w.heap.size) (e:=25) (size:=2) w #[] 0 (aaZ _) sC sC,iO.bU _ _⟩,fun g e=>by
  have e':w.heap.size=g:=by simpa [Value.ownBlock]using e
  subst e';exact⟨_,_,World.alloc_heap_new w _,fun u hu=>by simp at hu⟩⟩
end
theorem ZO(A:DV)(c n:Nat)(ts:List T)(w:World)(h:RdT w A ts)(hn:n=ts.length)(hs:ts.length<=1000):
  CJ 30 #[.slice A n c] w fun e w'=>∃A' c',e= .returned (.slice A' ts.length c')/\Hid (zf w.heap.size (fun _=>True) w' (.slice A' ts.length c') ts)/\Kp w w':=by
 subst hn;have qT:∀(w:World) (a:DV) (n c:Nat),(binOp .eql 26 (.slice a n c) (.slice none 0 0)).run Tryz.prog w= .ok (.bool a.isNone) w:=fun w a n c=>Lib.run_eql_slice_nil w _ _ a n c 0 0 Tryz.underlying26
 cases A with
 |none=>
  obtain rfl:ts=[]:=by
   cases ts with
   |nil=>rfl
   |cons x xs=>obtain⟨_,vs,_,h2⟩:=h;obtain⟨ad,e,_⟩:=h2 sC;cases e
  go_enter Tryz.func30,Tryz.ntmps30;go_wp2;go_ret;exact⟨none,0,rfl,zf.bU _ _,Kp.refl _⟩
 |some ad=>
  have HZ:Hid (zf w.heap.size (fun _=>True) (w.alloc (.cells #[] 25)) (.slice (some ⟨w.heap.size,0,none⟩) 0 0) []):=zf.zero w;have HR:Hid (RdX (w.alloc (.cells #[] 25)) (fun _=>True) (some ad) ts):=h.kp (Kp.af _ _);clear h;go_enter Tryz.func30,Tryz.ntmps30;go_wp2_with (at_builtin;refine YJ (B:=w.heap.size) (ts:=[]) (us:=ts) rfl (.tmp 5) (.tmp 6) rfl _ rfl HZ.out (some ad) c _ rfl rfl HR.out (by simp;omega) sC ?_;intro A1 c1 w1 o1 b1;have K1:=lH ((Kp.af w (.cells #[] 25)).trans b1);have R1:=lH o1;clear o1 b1);rw[acC,abw]at R1;rw[acu]at R1;go_ret;exact⟨A1,c1,rfl,R1.out,K1.out⟩
/-- A node's row that is the call's own. -/
def Gw(B:Nat)(w:World)(v:Value)(ts:List Nd):Prop:=∃vs,w.ownsRow B 39 3 v ts.length (dx vs)/\fM w (fun _=>True) vs ts
theorem ZP(A:DV)(c n:Nat)(ts:List Nd)(w:World)(h:RdG w A ts)(hn:n=ts.length)(hs:ts.length<=1000):
  CJ 22 #[.slice A n c] w fun e w'=>∃A' c',e= .returned (.slice A' ts.length c')/\Hid (Gw w.heap.size w' (.slice A' ts.length c') ts)/\Kp w w':=by
 subst hn;have qT:∀(w:World) (a:DV) (n c:Nat),(binOp .eql 22 (.slice a n c) (.slice none 0 0)).run Tryz.prog w= .ok (.bool a.isNone) w:=fun w a n c=>Lib.run_eql_slice_nil w _ _ a n c 0 0 Tryz.underlying22
 cases A with
 |none=>
  obtain rfl:ts=[]:=by
   cases ts with
   |nil=>rfl
   |cons x xs=>obtain⟨_,vs,_,h2⟩:=h;obtain⟨ad,e,_⟩:=h2 sC;cases e
  go_enter Tryz.func22,Tryz.ntmps22;go_wp2;go_ret;exact⟨none,0,rfl,⟨[],World.ownsRow_nil w _ _ 3,fM.bU _ _⟩,Kp.refl _⟩
 |some ad=>
  have HZ:Hid (fJ w.heap.size (w.alloc (.cells #[] 39)) (.slice (some ⟨w.heap.size,0,none⟩) 0 0) []):=fJ.zero w (aaZ _);have HR:Hid (RdN (w.alloc (.cells #[] 39)) (fun k=>(Value.slice (some ⟨w.heap.size,0,none⟩) 0 0).ownBlock≠some k) (some ad) ts):=(RdN.old h).mono (Kp.af _ _) fun k hk _ e=>by
   have e':w.heap.size=k:=by simpa [Value.ownBlock]using e
   omega
  clear h;go_enter Tryz.func22,Tryz.ntmps22;go_wp2_with (at_builtin;refine mq (B:=w.heap.size) rfl (.tmp 5) (.tmp 6) rfl _ [] rfl HZ.out (some ad) c ts _ rfl rfl HR.out (by simp;omega) sC ?_;intro z1 A1 c1 w1 HE o1 b1 _;have K1:=lH ((Kp.af w (.cells #[] 39)).trans b1);have R1:=lH o1;clear o1 b1);go_ret;have hz:z1=ts:=by have:=HE.out;simpa using this
  subst hz;refine⟨A1,c1,rfl,?_,K1.out⟩;obtain⟨vs,h1,h2⟩:=R1.out;exact⟨vs,h1,h2.mono (Kp.refl _) fun _ _ _=>trivial⟩
/-- A copied tensor. -/
def aac(t:T)(w:World)(e:Ending)(w':World):Prop:=
 ∃A c B d,e= .returned (.agg #[.slice A t.1.length c, .slice B t.2.length d])/\Hid (Sw w.heap.size w' A c t.1)/\Hid (Sw w.heap.size w' B d t.2)/\Kp w w'
theorem Yy(P Q:DV)(n c m d:Nat)(t:T)(w:World)(hT:TR w P t.1 Q t.2)(hn:n=t.1.length)(hm:m=t.2.length)(h1:t.1.length<=1000000)(h2:t.2.length<=1000000):
  CJ 24 #[.agg #[.slice P n c, .slice Q m d]] w (aac t w):=by
 have H1:Hid (∀V,Kp w V->CJ 23 #[.slice P n c] V (oQ t.1 V)):=fun V k=>by rw[hn];exact cv P c t.1 V (hT.s.kp k) h1
 have H2:Hid (∀V,Kp w V->CJ 23 #[.slice Q m d] V (oQ t.2 V)):=fun V k=>by rw[hm];exact cv Q d t.2 V (hT.d.kp k) h2
 obtain⟨w1,hw1⟩:=eX ((w.alloc (.cells #[.slice P n c, .slice Q m d] 25)).alloc (.cells #[.slice none 0 0, .slice none 0 0] 25));have B1:Hid (Bk w1 w.heap.size P n c Q m d):=by rw[hw1];exact(Bk.new rfl).af _
 have O1:Hid (Bk w1 (w.heap.size+1) none 0 0 none 0 0):=by rw[hw1];exact Bk.new (by rw[aaY])
 have K1:Hid (Kp w w1):=by rw[hw1];exact(Kp.af _ _).tr (Kp.af _ _)
 have HW:=lH hw1;have HSS:Hid (∀V,Kp w1 V->V.cell? ⟨w.heap.size,0,none⟩=some (.slice P n c)/\V.cell? ⟨w.heap.size,1,none⟩=some (.slice Q m d)):=fun V kV=>⟨(B1.out.kp kV).c0,(B1.out.kp kV).c1⟩
 clear hw1 hT hn hm h1 h2;go_enter Tryz.func24,Tryz.ntmps24;go_wp2_with fail;rw[<-HW.out];refine aa8 (S:=fun V=>V.cell? ⟨w.heap.size,0,none⟩=some (.slice P n c)/\V.cell? ⟨w.heap.size,1,none⟩=some (.slice Q m d)) kM (HSS.out _ (aa3 (Kp.refl _))) (fun qJ=>?_);have X2:Hid (Kp w1 w1.drew):=aa3 (Kp.refl _);generalize w1.drew=V0 at X2 qJ⊢;refine tK 0 (pX w.heap.size 0) rfl qJ<|tK 1 (.slice P n c) rfl qJ<|tK 3 (pX w.heap.size 1) rfl qJ<|tK 4 (.slice Q m d) rfl qJ ?_;refine rD 2 rfl fun _ hK=>?_
 go_simp;refine(H1.out _ (K1.out.tr X2.out)).mono ?_;rintro e3 w3 ⟨A3,c3,rfl,o3,k3⟩;dsimp only;have X3:Hid (Kp w1 w3):=X2.out.tr k3;have L3:=lH (o3.sw (b:=w.heap.size) (K1.out.tr X2.out).size);have hS3:=HSS.out _ X3.out;clear k3 o3;refine hK.out _ _ (hS3) fun qJ=>?_
 clear hK;refine rD 5 rfl fun _ hK=>?_
 go_simp;refine(H2.out _ (K1.out.tr X3.out)).mono ?_;rintro e4 w4 ⟨B3,d3,rfl,o4,k4⟩;dsimp only;have X4:Hid (Kp w1 w4):=X3.out.tr k4;have L4:=lH (o4.sw (b:=w.heap.size) (K1.out.tr X3.out).size);have M4:=lH (L3.out.kp k4);have O4:=lH (O1.out.kp X4.out);have K4:=lH (K1.out.tr X4.out);have hS4:=HSS.out _ X4.out;clear k4 o4;refine hK.out _ _ (hS4) fun qJ=>?_
 clear hK;refine tK 6 (.agg #[.slice A3 t.1.length c3, .slice B3 t.2.length d3]) rfl qJ ?_;have o0:=O4.out.c0;have o1:=O4.out.c1;have f0:=O4.out.f0 0;have f1:=O4.out.f0 1;have hS6:((w4.setCell ⟨w.heap.size+1,0,none⟩ (.slice A3 t.1.length c3)).setCell ⟨w.heap.size+1,1,none⟩ (.slice B3 t.2.length d3)).cell? ⟨w.heap.size,0,none⟩=some (.slice P n c)/\((w4.setCell ⟨w.heap.size+1,0,none⟩ (.slice A3 t.1.length c3)).setCell ⟨w.heap.size+1,1,none⟩ (.slice B3 t.2.length d3)).cell? ⟨w.heap.size,1,none⟩=some (.slice Q m d):=by
  obtain⟨u0,u1⟩:=hS4;constructor<;>simp[go_sem,u0,u1]
 refine rD 7 rfl fun _ hK=>?_
 go_simp;refine hK.out _ _ (hS6) fun qJ=>?_
 clear hK;refine abp kM ?_ _;clear qJ hS3 hS4 hS6 HSS;go_wp2;refine aaX (v:= .agg #[.slice A3 t.1.length c3, .slice B3 t.2.length d3]) (by simp[results,Tryz.results24,go_sem,o0,o1];try rfl) rfl ?_;exact⟨A3,c3,B3,d3,rfl,lH ⟨M4.out.toSl.past O4.out _ _,M4.out.nw⟩,lH ⟨L4.out.toSl.past O4.out _ _,L4.out.nw⟩,(K4.out.setCell (p:=⟨w.heap.size+1,0,none⟩) (abe _) _).setCell (p:=⟨w.heap.size+1,1,none⟩) (abe _) _⟩
/-- The first so many of a row have their numbers there. -/
def Zx(X:Nat->Prop)(w:World)(g k:Nat):Prop:=∀j,j<k->∃P n a Q m b,w.cell? ⟨g,j*2,none⟩=some (.slice P n a)/\w.cell? ⟨g,j*2+1,none⟩=some (.slice Q m b)/\(∀ad,P=some ad->0<n->X ad.block)/\(∀ad,Q=some ad->0<m->X ad.block)
section
variable{w w':World}{B g n c k:Nat}{X:Nat->Prop}{ts:List T}
theorem Zx.kp(h:Zx X w g k)(kk:Kp w w'):Zx X w' g k:=fun j hj=>by
 obtain⟨P,n,a,Q,m,b,c1,c2,x⟩:=h j hj;exact⟨P,n,a,Q,m,b,Iz.ay c1 kk,Iz.ay c2 kk,x⟩
theorem Zx.put(h:Zx X w g k){P Q:DV}{n a m b:Nat}(c1:(w.cell? ⟨g,k*2,none⟩).isSome=true)(c2:(w.cell? ⟨g,k*2+1,none⟩).isSome=true)(xP:∀ad,P=some ad->0<n->X ad.block)(xQ:∀ad,Q=some ad->0<m->X ad.block):
  Zx X ((w.setCell ⟨g,k*2,none⟩ (.slice P n a)).setCell ⟨g,k*2+1,none⟩ (.slice Q m b)) g (k+1):=fun j hj=>by
 have ne:∀{x y:Nat},x≠y->(⟨g,x,none⟩:Addr)≠⟨g,y,none⟩:=fun h e=>h (by injection e)
 by_cases e:j=k
 · subst e
   obtain⟨u,hu⟩:=Option.isSome_iff_exists.1 c1;obtain⟨v,hv⟩:=Option.isSome_iff_exists.1 c2;refine⟨P,n,a,Q,m,b,bp (ne oM) ?_,?_,xP,xQ⟩
   · exact World.cell?_setCell_same _ _ _ hu
   · have h9:=bp (w:=w) (u:= .slice P n a) (ne (x:=j*2) (y:=j*2+1) oM) hv
     exact World.cell?_setCell_same _ _ _ h9
 · obtain⟨P',n',a',Q',m',b',d1,d2,x⟩:=h j oM
   exact⟨P',n',a',Q',m',b',bp (ne oM) (bp (ne oM) d1),bp (ne oM) (bp (ne oM) d2),x⟩
theorem zf.loc(h:zf B (fun _=>True) w (.slice (some ⟨g,0,none⟩) n c) ts)(hl:Zx X w g ts.length):zf B X w (.slice (some ⟨g,0,none⟩) n c) ts:=by
 have hn:=h.num;subst hn;obtain⟨⟨vs,hown,hv⟩,hs⟩:=h;refine⟨⟨vs,hown,hv.len,fun j p t e1 e2=>?_⟩,hs⟩;obtain⟨P,a,Q,b,ep,r,_,_,b1⟩:=hv.at_ j p t e1 e2;have hj:j<ts.length:=(aaU.1 e2).1;obtain⟨P',n',a',Q',m',b',c1,c2,x1,x2⟩:=hl j hj;obtain⟨f1,f2⟩:=uT e1;rw[World.ownsRow.cellAt hown _ oM,f1,ep]at c1;rw[World.ownsRow.cellAt hown _ oM,f2,ep]at c2;injection c1 with c1
 injection c1 with q1 q2 q3
 injection c2 with c2
 injection c2 with q4 q5 q6
 subst q1 q2 q4 q5;exact⟨P,a,Q,b,ep,r,x1,x2,b1⟩
theorem zf.aae{A:DV}(h:zf B (fun _=>True) w (.slice A n c) ts)(hl:∀ad,A=some ad->Zx X w ad.block ts.length):zf B X w (.slice A n c) ts:=by
 obtain⟨⟨vs,ho,hv⟩,_⟩:=id h;rcases ho.2 with⟨e,h0⟩|⟨g,cap,cur,e,_⟩
 · injection e with e1 e2 e3
   subst e1 e2 e3;obtain rfl:=abd h0;exact zf.bU _ _
 · injection e with e1 e2 e3
   subst e1;exact h.loc (hl _ rfl)
end
def Z8(B0:Nat)(ts:List T)(w:World)(e:Ending)(w':World):Prop:=∃A c,e= .returned (.slice A ts.length c)/\Hid (zf w.heap.size (fun k=>w.heap.size<=k) w' (.slice A ts.length c) ts)/\Kp w w'
theorem I0(A:DV)(n c:Nat)(ts:List T)(w:World)(h:RdT w A ts)(hn:n=ts.length)(hs:ts.length<=1000)(hq:∀t∈ts,t.1.length<=1000/\t.2.length<=1000):
  CJ 25 #[.slice A n c] w (Z8 0 ts w):=by
 have HC:Hid (∀V,Kp w V->CJ 30 #[.slice A n c] V fun e w'=>∃A' c',e= .returned (.slice A' ts.length c')/\Hid (zf V.heap.size (fun _=>True) w' (.slice A' ts.length c') ts)/\Kp V w'):=fun V k=>ZO A c n ts V (h.kp k) hn hs
 have HQ:=lH hq;have HS:=lH hs;clear h hn hs hq;go_enter Tryz.func25,Tryz.ntmps25;go_wp2_with fail;refine(HC.out _ (Kp.refl _)).mono ?_;rintro e1 w1 ⟨A1,c1,rfl,r1,k1⟩;have K1:=lH k1;clear k1;have hle:ts.length<=1000:=HS.out;go_wp2_with fail
 go_loopw [10] (fun i wx=>∃k:Nat,i= .int .i64 (k:Int)/\Hid (k<=ts.length)/\Hid (zf w.heap.size (fun _=>True) wx (.slice A1 ts.length c1) ts)/\Hid (∀ad,A1=some ad->Zx (fun j=>w.heap.size<=j) wx ad.block k)/\Hid (Kp w wx)) (fun i _=>ts.length-(intOf i).toNat)
 case atStart=>exact⟨0,rfl,aa6 _,r1.out,fun ad e j hj=>absurd hj (Nat.not_lt_zero j),K1.out⟩
 case round=>
  obtain⟨k,rfl,hk,hr,hlo,hK⟩:=hrel;obtain⟨wo,hwo⟩:=eX (wr);subst hwo;by_cases hj:k<ts.length
  · have hj':(k:Int)<(ts.length:Int):=by omega
    have hk0:(0:Int)<=(k:Int):=by omega
    obtain⟨g,e1⟩:∃g,A1=some ⟨g,0,none⟩:=by
     obtain⟨⟨vs,ho,_⟩,_⟩:=hr.out;obtain⟨g,cap,e,_⟩:=World.ownsRow.form ho oM;injection e with e
     exact⟨g,e⟩
    subst e1;obtain⟨⟨P,a,Q,b,q1,q2,hT,_,_⟩,hf⟩:=hr.out.at_ hj;obtain⟨t,ht⟩:=eX (ts.getD k eT);rw[<-ht]at q1 q2 hT;have htm:t∈ts:=by rw[ht,aaS,aaV hj];exact List.getElem_mem hj
    have hst:ts.set k t=ts:=by rw[ht,aaS,aaV hj];exact List.set_getElem_self hj
    have HST:=lH hst;have HTC:Hid (∀V,Kp wo V->CJ 24 #[.agg #[.slice P t.1.length a, .slice Q t.2.length b]] V (aac t V)):=fun V kV=>Yy P Q _ a _ b t V (hT.r.kp kV) rfl rfl (by have:=(HQ.out t htm).1;omega) (by have:=(HQ.out t htm).2;omega)
    obtain⟨w2,hw2⟩:=eX (wo.alloc (.cells #[.slice P t.1.length a, .slice Q t.2.length b] 25));have K2:Hid (Kp wo w2):=by rw[hw2];exact Kp.af _ _
    have HW2:=lH hw2;have gl:g<wo.heap.size:=(hr.out.lt (k:=g) rfl).2;clear ht htm hst hT hw2;go_wp2_with fail;rw[<-HW2.out];refine(HTC.out _ K2.out).mono ?_;rintro e3 w3 ⟨P3,a3,Q3,b3,rfl,s3,t3,k3⟩;have K3:Hid (Kp wo w3):=K2.out.tr k3;have R3:=lH (hr.out.kp K3.out);have L3:=lH ((hlo.out _ rfl).kp K3.out);have y1:=Iz.ay q1 K3.out;have y2:=Iz.ay q2 K3.out;have y3:=(R3.out.at_ hj).2;have hS:=s3.out.mo (ab3 hK.out.size K2.out.size);have hT:=t3.out.mo (ab3 hK.out.size K2.out.size);have R4:=lH (R3.out.put hj (t:=t) ⟨⟨hS.toSl.rd,hT.toSl.rd⟩,⟨hS.toSl.le,hS.toSl.cap⟩,⟨hT.toSl.le,hT.toSl.cap⟩⟩ (fun _ _ _=>trivial) (fun _ _ _=>trivial)).1;rw[HST.out]at R4;have L4:=lH (L3.out.put (P:=P3) (Q:=Q3) (n:=t.1.length) (a:=a3) (m:=t.2.length) (b:=b3) (by rw[y1];rfl) (by rw[y2];rfl) (fun ad e h0=>hS.nw h0 ad e) (fun ad e h0=>hT.nw h0 ad e));have HG:w.heap.size<=g:=(hr.out.lt (k:=g) rfl).1;have K4:Hid (Kp w ((w3.setCell ⟨g,k*2,none⟩ (.slice P3 t.1.length a3)).setCell ⟨g,k*2+1,none⟩ (.slice Q3 t.2.length b3))):=((hK.out.tr K3.out).setCell (p:=⟨g,k*2,none⟩) HG _).setCell (p:=⟨g,k*2+1,none⟩) HG _;clear k3 s3 t3 q1 q2 hf hS hT;dsimp only;go_wp2;go_roundw
    case rel=>exact⟨k+1,by go_num,(by show k+1<=ts.length;omega),R4.out,fun ad e=>by(injection e with e;subst e;exact L4.out),K4.out⟩
    case measure=>simp[intOf];omega
  · have hj':¬(k:Int)<(ts.length:Int):=by omega
    have hk2:k=ts.length:=by have:=hk.out;omega
    have HR:=lH (hr.out.aae (X:=fun j=>w.heap.size<=j) fun ad e=>by rw[<-hk2];exact hlo.out ad e);go_wp2;refine aaX (v:= .slice A1 ts.length c1) (by simp[results,Tryz.results25,go_sem];try rfl) rfl ?_;exact⟨A1,c1,rfl,HR.out,hK.out⟩
