/- The landed vjp: Back. -/
import Derived.Test.YtokeebkaamjliaaGreatEvRw
import Derived.Test.YtokeebkaamjliaaGreatVkP
import Derived.Test.YtokeebkaamjliaaGreatEvZh
set_option maxHeartbeats 16000000
set_option maxRecDepth 100000
set_option linter.unusedVariables false
set_option linter.unusedSimpArgs false
namespace Go.Proofs.YtokeebkaamjliaaGreat.Ez
open RowKit ShM GrM InM ImM cF EvM Gz
theorem wZ:∀{L:List (Int×Value)} {k:Int},k∈L.map Prod.fst->∃v,atM L k=some v/\(k,v)∈L
 | [],k,h=>by cases h
 |(j,v)::L,k,h=>by
  by_cases e:k=j
  · subst e
    exact⟨v,by simp[atM],by simp⟩
  · have h:k∈L.map Prod.fst:=by simpa [e]using h
    obtain⟨u,h1,h2⟩:=wZ h;exact⟨u,by simp[atM,e,h1],by simp[h2]⟩
theorem MD{P:Program}{W:World}{g:Nat}{L:List (Int×Value)}{t kt et:TypeId}(h:Md W g L)(ht:P.underlying t=some (.map kt et))(hk:P.underlying kt=some (.int .i64)){z:Value}(hz:(zeroValue et).run P W= .ok z W){k:Int}(hv:atM L k=none):
  (Instr.lookup t (.map (some g)) (.int .i64 k) false).run P W= .ok z W:=by
 obtain⟨es,c,hb,e⟩:=h;obtain⟨r,q1,q2⟩:=dL (P:=P) (W:=W) hk e k;rw[hv]at q2
 cases r with
 |none=>simp[Instr.lookup,abk ht,abx hb,abH (n:=9999) hk (show MapKept.IsKey (.int .i64) (.int .i64 k)from rfl),q1,hz,Result.andThen]
 |some x=>simp at q2
theorem P9{P:Program}{W:World}{g:Nat}{L:List (Int×Value)}{t kt et:TypeId}(h:Md W g L)(ht:P.underlying t=some (.map kt et))(hk:P.underlying kt=some (.int .i64)){k:Int}{v:Value}(hv:atM L k=some v):
  (Instr.lookup t (.map (some g)) (.int .i64 k) false).run P W= .ok v W:=by
 obtain⟨es,c,hb,e⟩:=h;obtain⟨r,q1,q2⟩:=dL (P:=P) (W:=W) hk e k;rw[hv]at q2
 cases r with
 |none=>simp at q2
 |some x=>
  have hx:x.2=v:=by simpa using q2
  simp[Instr.lookup,abk ht,abx hb,abH (n:=9999) hk (show MapKept.IsKey (.int .i64) (.int .i64 k)from rfl),q1,hx,Result.andThen]
theorem xG(W:World):(zeroValue 123).run Tryz.prog W= .ok (.slice none 0 0) W:=by go_simp
theorem look{RU:List Tn}{op:Int}{W0 V:World}{gm:Nat}(h:Fin RU op W0 gm V)(hno:op∉KSL->RU=[]):
  ∃AR,(Instr.lookup 124 (.map (some gm)) (.int .i64 op) false).run Tryz.prog V= .ok (.slice AR RU.length RU.length) V/\∀(i:Nat) (r:Tn),RU[i]?=some r->∃b v,AR=some ⟨b,0,none⟩/\V.cell? ⟨b,i,none⟩=some v/\Ru W0 V v True r:=by
 obtain⟨L,h1,h2,h3⟩:=h;by_cases hk:op∈KSL
 · obtain⟨v,e1,e2⟩:=wZ ((h3 op).2 hk)
   obtain⟨b,vs,e3,hb,hr⟩:=h2 _ e2;obtain⟨e4,hr⟩:=hr rfl;have e3:v= .slice (some ⟨b,0,none⟩) vs.length vs.length:=e3;refine⟨some ⟨b,0,none⟩,?_,fun i r hi=>?_⟩
   · rw[P9 h1 Tryz.underlying124 Tryz.underlying3 e1,e3,e4]
   · have hi2:i<vs.length:=by rw[e4];exact(aaU.1 hi).1
     exact⟨b,vs[i],rfl,hb.cell (aaV hi2),hr i _ r (aaV hi2) hi⟩
 · rw[hno hk]
   refine⟨none,?_,fun i r hi=>by simp at hi⟩;exact MD h1 Tryz.underlying124 Tryz.underlying3 (xG V) (jK fun e=>hk ((h3 op).1 e))
theorem zJ{RU:List Tn}{k:Nat}{r:Tn}(h:RU[k]?=some r):(RU.take (k+1)).map (fun r:Tn=>((r.1,r.2.1):T))=(RU.take k).map (fun r=>(r.1,r.2.1))++[(r.1,r.2.1)]:=by rw[cr h,abK];rfl
/-- Tensors, all in memory of the call's own. -/
def Zw(ts:List T)(err:Int)(k:Nat)(w:World)(e:Ending)(w':World):Prop:=
 ∃A c,e= .returned (.tuple #[.slice A k c, .int .i64 err])/\Hid (RdX w' (fun j=>w.heap.size<=j) A ts/\∀ad,A=some ad->w.heap.size<=ad.block)/\Hid (ts.length<=c/\c<=9223372036854775807)/\Kp w w'
theorem Zw.all{ts:List T}{err:Int}{k:Nat}{w:World}{e:Ending}{w':World}(h:Zw ts err k w e w'):PU ts err k w e w':=by
 obtain⟨A,c,h1,h2,h3⟩:=h;exact⟨A,c,h1,h2.out.1.all,h3⟩
theorem PD(op:Int)(nums:BU)(P Q SS O1 O2 G1 G2:DV)(n c d ng h o1 o2 g1 g2:Nat)(ts xs:List T)(o g:T)(err:Int)(x:Nat)(w:World)(hQ:Rd w Q nums)(hS:RdT w SS ts)(hO:TRc w O1 o1 O2 o2 o)(hG:TRc w G1 g1 G2 g2 g)(hd:nums.length<=d/\d<=9223372036854775807)(hng:ng=ts.length)(hts:xh ts)(hso:SmT o)(hsg:SmT g)(hw:W64 nums)(hl:nums.length<=100)(hr:cU op nums ts o g=(xs,err))(hx:xs.length=x):
  CJ 67 #[.agg #[.int .i64 op, .slice P n c, .slice Q nums.length d], .slice SS ng h, .agg #[.slice O1 o.1.length o1, .slice O2 o.2.length o2], .agg #[.slice G1 g.1.length g1, .slice G2 g.2.length g2]] w (Zw xs err x w):=by
 obtain⟨w1,hw1⟩:=eX (((w.alloc (.cells #[.int .i64 op, .slice P n c, .slice Q nums.length d] 39)).alloc (.cells #[.slice O1 o.1.length o1, .slice O2 o.2.length o2] 25)).alloc (.cells #[.slice G1 g.1.length g1, .slice G2 g.2.length g2] 25));have BN:Hid (Bx w1 w.heap.size [.int .i64 op, .slice P n c, .slice Q nums.length d] 39):=by rw[hw1];exact((Bx.new rfl).kp (Kp.af _ _)).kp (Kp.af _ _)
 have BO:Hid (Bk w1 (w.heap.size+1) O1 o.1.length o1 O2 o.2.length o2):=by rw[hw1];exact(Bk.new (by rw[aaY])).af _
 have BG:Hid (Bk w1 (w.heap.size+1+1) G1 g.1.length g1 G2 g.2.length g2):=by rw[hw1];exact Bk.new (by rw[aaY,aaY])
 have K1:Hid (Kp w w1):=by rw[hw1];exact((Kp.af _ _).tr (Kp.af _ _)).tr (Kp.af _ _)
 have HW1:=lH hw1;have HMI:Hid (∀V,Kp w V->CJ 106 #[.agg #[.int .i64 op, .slice P n c, .slice Q nums.length d], .slice SS ng h, .agg #[.slice O1 o.1.length o1, .slice O2 o.2.length o2], .agg #[.slice G1 g.1.length g1, .slice G2 g.2.length g2]] V fun e w'=>e= .returned (.int .i64 (rZ op nums ts o g))/\Kp V w'):=fun V kV=>
  Ga op nums P Q SS O1 O2 G1 G2 n c nums.length d ng h o1 o2 g1 g2 ts o g _ V (hQ.kp kV) (hS.kp kV) (hO.kp kV) (hG.kp kV) rfl hd hng hts.1 hw hl rfl
 by_cases hmi:rZ op nums ts o g=0
 ·obtain⟨FQ,hl2,hno⟩:=Sq hmi hts hsg;have hv:=wX (op:=op) (nums:=nums) (ts:=ts) (o:=o) (g:=g) (.inl hl2);rw[hmi,aaT dG,hr]at hv;rw[hmi]at HMI;have RI:op∉KSL->Aj op nums ts o g=[]:=fun hn=>by unfold Aj;rw[aaW (by rw[hno hn];rfl)]
  obtain⟨RU,hRU⟩:=eX (Aj op nums ts o g);rw[<-hRU]at FQ hv RI;obtain⟨_,vs,hvs,hcells⟩:=hS;obtain⟨A1,a1,A2,a2,B1,b1,B2,b2,hsp,ra,rb⟩:=pairT hvs hl2;obtain⟨a,ha⟩:=eX (ts.getD 0 eT);obtain⟨b,hb⟩:=eX (ts.getD 1 eT);have HNA:Hid (bN a.2):=by show bN a.2;rw[ha];exact lp (fun t ht=>(hts.2 t ht).2.2.2) 0
  have HNB:Hid (bN b.2):=by show bN b.2;rw[hb];exact lp (fun t ht=>(hts.2 t ht).2.2.2) 1
  rw[<-ha,<-hb]at hsp FQ;rw[<-ha]at ra;rw[<-hb]at rb;have HSP:=lH hsp;have HFQ:=lH FQ;have HNO:=lH RI;have HV:=lH hv;have HJ:Hid (∀V,Kp w V->Jb V Q A1 A2 B1 B2 O1 O2 G1 G2 d a1 a2 b1 b2 o1 o2 g1 g2 nums a b o g):=fun V kV=>⟨hQ.kp kV,ra.kp kV,rb.kp kV,hO.kp kV,hG.kp kV,HNA.out,HNB.out,hso.2.2.2,hsg.2.2.2⟩
  have HVL:Hid ((flat vs).length=ng*2):=by show _=_;rw[dO,hvs.len,hng]
  have HMN:Hid (ng=Nat.min ng 2):=by show ng=min ng 2;omega
  have HON:Hid (∀v∈flat vs,v.oneCell'=true):=fun v hv=>by
   obtain⟨A,x,y,rfl⟩:=gC hvs v hv;rfl
  have HCL:Hid (∀V,Kp w V->0<(flat vs).length->∃ad,SS=some ad/\∀j u,(flat vs)[j]?=some u->V.cell? (ad.add j)=some u):=fun V kV hpos=>by
   obtain⟨ad,e,hlt,hc⟩:=hcells (by rw[dO,hvs.len]at hpos;omega);exact⟨ad,e,fun j u hu=>(kV.cell (by rw[ah];exact hlt)).trans (hc j u hu)⟩
  have hs1:(Tryz.prog.info? 25).map (·.size)=some 2:=by kernel_rfl
  have hRL:Hid (RU.length<=2):=by
   show _<=_;rw[hRU];unfold Aj;split
   · simp
   · split<;>simp
  have HX:=lH hx;clear hw1 hv hQ hO hG hd hng hts hso hsg hw hl hr hmi hl2 hno RI FQ hRU hvs hcells hsp ra rb ha hb hx;go_enter Tryz.func67,Tryz.ntmps67;go_wp2_with fail;rw[<-HW1.out];refine(HMI.out _ K1.out).mono ?_;rintro e0 w2 ⟨rfl,k2⟩;have K2:=lH (K1.out.tr k2);have k12:=lH k2;have hrow:(w2.alloc (.cells #[.slice none 0 0, .slice none 0 0, .slice none 0 0, .slice none 0 0] 88)).heap[w2.heap.size]?=some (.cells ([.slice none 0 0, .slice none 0 0, .slice none 0 0, .slice none 0 0]:List Value).toArray 88 (0,0)):=World.alloc_heap_new w2 _;have hbl:Hid (Below w2.heap.size w2 (w2.alloc (.cells #[.slice none 0 0, .slice none 0 0, .slice none 0 0, .slice none 0 0] 88))):=Kp.af _ _;have hpos:Hid (0<(flat vs).length->∃ad,SS=some ad/\∀j u,(flat vs)[j]?=some u->(w2.alloc (.cells #[.slice none 0 0, .slice none 0 0, .slice none 0 0, .slice none 0 0] 88)).cell? (ad.add j)=some u):=HCL.out _ (K2.out.tr hbl.out);have hfit:Hid (0+(flat vs).length<= [Value.slice none 0 0,Value.slice none 0 0,Value.slice none 0 0,Value.slice none 0 0].length):=by show _<=4;rw[HVL.out];have h9:ng=min ng 2:=HMN.out;omega
  clear k2;dsimp only;go_wp2_with (refine kP rfl (.tmp 25) (.tmp 26) 26 26 rfl 25 Tryz.underlying26 hs1 _ _ _ _ _ _ rfl rfl w2.heap.size 0 [.slice none 0 0, .slice none 0 0, .slice none 0 0, .slice none 0 0] 88 hrow (flat vs) ng HMN.out HVL.out (fun hp=>⟨rfl,hpos.out hp⟩) hfit.out HON.out w2.heap.size w2 hbl.out (aaZ _) ?_;intro w4 hg4 hb4;have G4:=lH hg4;have B4:=lH hb4;clear hg4 hb4);have K4:Hid (Kp w2 w4):=B4.out;have BA:Hid (Bx w4 w2.heap.size [.slice A1 a.1.length a1, .slice A2 a.2.length a2, .slice B1 b.1.length b1, .slice B2 b.2.length b2] 88):=by
   have h9:=G4.out.out;rw[HSP.out]at h9;exact h9
  have K14:Hid (Kp w1 w4):=k12.out.tr K4.out;have HSS:Hid (∀V,Kp w4 V->V.cell? ⟨w.heap.size,0,none⟩=some (.int .i64 op)/\V.cell? ⟨w.heap.size,1,none⟩=some (.slice P n c)/\V.cell? ⟨w.heap.size,2,none⟩=some (.slice Q nums.length d)/\V.cell? ⟨w.heap.size+1,0,none⟩=some (.slice O1 o.1.length o1)/\V.cell? ⟨w.heap.size+1,1,none⟩=some (.slice O2 o.2.length o2)/\V.cell? ⟨w.heap.size+1+1,0,none⟩=some (.slice G1 g.1.length g1)/\V.cell? ⟨w.heap.size+1+1,1,none⟩=some (.slice G2 g.2.length g2)/\V.cell? ⟨w2.heap.size,0,none⟩=some (.slice A1 a.1.length a1)/\V.cell? ⟨w2.heap.size,1,none⟩=some (.slice A2 a.2.length a2)/\V.cell? ⟨w2.heap.size,2,none⟩=some (.slice B1 b.1.length b1)/\V.cell? ⟨w2.heap.size,3,none⟩=some (.slice B2 b.2.length b2)):=fun V kV=>⟨(BN.out.kp (K14.out.tr kV)).cell (j:=0) rfl,(BN.out.kp (K14.out.tr kV)).cell (j:=1) rfl,(BN.out.kp (K14.out.tr kV)).cell (j:=2) rfl,(BO.out.kp (K14.out.tr kV)).c0,(BO.out.kp (K14.out.tr kV)).c1,(BG.out.kp (K14.out.tr kV)).c0,(BG.out.kp (K14.out.tr kV)).c1,(BA.out.kp kV).cell (j:=0) rfl,(BA.out.kp kV).cell (j:=1) rfl,(BA.out.kp kV).cell (j:=2) rfl,(BA.out.kp kV).cell (j:=3) rfl⟩
  have HJ4:Hid (∀V,Kp w4 V->Jb V Q A1 A2 B1 B2 O1 O2 G1 G2 d a1 a2 b1 b2 o1 o2 g1 g2 nums a b o g):=fun V kV=>HJ.out V ((K1.out.tr K14.out).tr kV)
  clear hrow hs1 G4;go_wp2_with fail;refine aa8 (S:=fun V=>V.cell? ⟨w.heap.size,0,none⟩=some (.int .i64 op)/\V.cell? ⟨w.heap.size,1,none⟩=some (.slice P n c)/\V.cell? ⟨w.heap.size,2,none⟩=some (.slice Q nums.length d)/\V.cell? ⟨w.heap.size+1,0,none⟩=some (.slice O1 o.1.length o1)/\V.cell? ⟨w.heap.size+1,1,none⟩=some (.slice O2 o.2.length o2)/\V.cell? ⟨w.heap.size+1+1,0,none⟩=some (.slice G1 g.1.length g1)/\V.cell? ⟨w.heap.size+1+1,1,none⟩=some (.slice G2 g.2.length g2)/\V.cell? ⟨w2.heap.size,0,none⟩=some (.slice A1 a.1.length a1)/\V.cell? ⟨w2.heap.size,1,none⟩=some (.slice A2 a.2.length a2)/\V.cell? ⟨w2.heap.size,2,none⟩=some (.slice B1 b.1.length b1)/\V.cell? ⟨w2.heap.size,3,none⟩=some (.slice B2 b.2.length b2)) kM (HSS.out _ (aa3 (Kp.refl _))) (fun qJ=>?_);have X4:Hid (Kp w4 w4.drew):=aa3 (Kp.refl _);generalize w4.drew=V0 at X4 qJ⊢;refine tK 0 (.agg #[.int .i64 op, .slice P n c, .slice Q nums.length d]) rfl qJ<|tK 1 (pX w2.heap.size 0) rfl qJ<|tK 2 (.agg #[.slice A1 a.1.length a1, .slice A2 a.2.length a2]) rfl qJ<|tK 3 (pX w2.heap.size 2) rfl qJ<|tK 4 (.agg #[.slice B1 b.1.length b1, .slice B2 b.2.length b2]) rfl qJ<|tK 5 (.agg #[.slice O1 o.1.length o1, .slice O2 o.2.length o2]) rfl qJ<|tK 6 (.agg #[.slice G1 g.1.length g1, .slice G2 g.2.length g2]) rfl qJ<|tK 7 (.agg #[.int .i64 op, .slice P n c, .slice Q nums.length d, .slice A1 a.1.length a1, .slice A2 a.2.length a2, .slice B1 b.1.length b1, .slice B2 b.2.length b2, .slice O1 o.1.length o1, .slice O2 o.2.length o2, .slice G1 g.1.length g1, .slice G2 g.2.length g2]) rfl qJ<|tK 9 (pX w.heap.size 0) rfl qJ<|tK 10 (.int .i64 op) rfl qJ<|tK 13 (.int .i64 0) rfl qJ ?_;refine rD 8 rfl fun _ hK=>?_
  go_simp;refine(J7 (HJ4.out _ X4.out) HFQ.out).mono ?_;rintro e5 w5 ⟨gm,W0,rfl,hfi,kW0,k05⟩;dsimp only;have X5:Hid (Kp w4 w5):=X4.out.tr (kW0.out.tr k05.out);obtain⟨AR,hlk,hel⟩:=look hfi.out HNO.out;have HEL:=lH hel;have K05:=lH k05.out;have hS5:=HSS.out _ X5.out;clear hfi hel kW0 k05;refine hK.out _ _ (hS5) fun qJ=>?_
  clear hK;refine rD 11 rfl fun _ hK=>?_
  go_simp;refine hK.out _ _ (hS5) fun qJ=>?_
  clear hK;refine rD 12 rfl fun _ hK=>?_
  go_simp;refine hK.out _ _ (hS5) fun qJ=>?_
  clear hK;refine abp kM ?_ _;clear qJ hS5 hlk;go_wp2_with fail;obtain⟨nR,hnR⟩:=eX RU.length;rw[<-hnR]at hRL⊢;have HNR:=lH hnR;have hR2:nR<=2:=hRL.out;clear hnR
  go_loopw [12,41] (fun v i wx=>∃k:Nat,∃gs:List T,Hid (zf w5.heap.size (fun k=>w.heap.size<=k) wx v gs)/\i= .int .i64 (k:Int)/\Hid (k<=nR)/\Hid (gs=(RU.take k).map (fun r=>(r.1,r.2.1)))/\Hid (∀j q,j<k->RU[j]?=some q->q.2.2=0)/\Hid (Kp w5 wx)) (fun _ i _=>nR-(intOf i).toNat)
  case atStart=>exact⟨0,[],zf.bU _ _,rfl,aa6 _,rfl,fun j q hj=>absurd hj (Nat.not_lt_zero j),Kp.refl _⟩
  case round=>
   obtain⟨k,gs,hG,rfl,hk,hgs,hok,hKx⟩:=hrel;obtain⟨wo,hwo⟩:=eX (wr);subst hwo;have hgl:Hid (gs.length=k):=by show _=_;rw[hgs.out,abA,abv];have:=hk.out;have:=HNR.out;omega
   obtain⟨A8,c8,rfl,hR8,CH,CG⟩:=hG.out.form;have HLO:Hid (∀ad,A8=some ad->w5.heap.size<=ad.block):=fun ad e=>(hG.out.lt (k:=ad.block) (by rw[e];rfl)).1
   have HR8:=lH hR8;have HC8:=lH (And.intro CH CG);clear hR8 CH CG;by_cases hj:k<nR
   ·have hj':(k:Int)<(nR:Int):=by omega
    have hk0:(0:Int)<=(k:Int):=by omega
    obtain⟨r,hr⟩:∃r,RU[k]?=some r:=⟨_,aaV (by have:=HNR.out;omega)⟩
    obtain⟨bb,u,hAR,hcell,f,L,hu,hcf,hcl⟩:=HEL.out k r hr;have HRR:=lH hr;subst hAR hu;have z0:=Iz.ay hcell hKx.out;have Uw:=lH (hcl wo trivial (K05.out.tr hKx.out) (Kc.kp hKx.out));clear hr hcell hcl;by_cases he:r.2.2=0
    · have HE:=lH he
      have HOK:Hid (∀j q,j<k+1->RU[j]?=some q->q.2.2=0):=fun j q hj' hq=>by
       by_cases e:j=k
       · subst e;rw[HRR.out]at hq;injection hq with hq;subst hq;exact HE.out
       · exact hok.out j q oM hq
      clear he;go_wp2_with fail;refine Uw.out.mono ?_;rintro e7 w7 ⟨A6,c6,B6,d6,rfl,s6,t6,k6⟩;have K7:=lH (hKx.out.tr k6);have HX3:Hid (∀o ty,RdX ((w7.alloc o).alloc (.cells #[.slice A6 r.1.length c6, .slice B6 r.2.1.length d6] ty)) (fun k=>w.heap.size<=k) (some ⟨w7.heap.size+1,0,none⟩) [((r.1,r.2.1):T)]):=fun o ty=>by
       have hx:=RdX.one (X:=fun k=>w.heap.size<=k) (t:=((r.1,r.2.1):T)) (TR.kp ⟨s6.rd,t6.rd⟩ (Kp.af w7 o)) (fun ad e h0=>ab3 (((K1.out.tr K14.out).tr X5.out).tr hKx.out).size (s6.nw h0 ad e)) (fun ad e h0=>ab3 (((K1.out.tr K14.out).tr X5.out).tr hKx.out).size (t6.nw h0 ad e)) ⟨s6.le,s6.cap⟩ ⟨t6.le,t6.cap⟩ ty;rw[aaY]at hx;exact hx
      have G7:=lH (hG.out.kp k6);have HSZ:Hid (w5.heap.size<=w7.heap.size):=K7.out.size;clear k6 s6 t6 z0;rw[HE.out];dsimp only;go_wp2_with (at_builtin;refine qQ (B:=w5.heap.size) rfl (.tmp 53) (.tmp 55) rfl _ rfl ((G7.out.kp (Kp.af _ _)).kp (Kp.af _ _)) gs.length rfl _ 1 (r.1,r.2.1) rfl (HX3.out _ _) (by have:=hgl.out;omega) (by have:=HSZ.out;simp;omega) ?_;intro A9 c9 w9 o9 b9 _;have O9:=lH o9;have K9:Hid (Kp w5 w9):=(gal (gal K7.out _) _).trans b9;clear o9 b9);go_roundw
      case rel=>exact⟨k+1,_,O9.out,by go_num,(by show k+1<=nR;omega),(by show _=_;rw[zJ HRR.out,hgs.out]),HOK.out,K9.out⟩
      case measure=>simp[intOf];omega
    · have he':(r.2.2 !=0)=true:=by simpa using he
      have hb:Hid ((xs,err)=([],r.2.2)):=HV.out.trans (tX hok.out HRR.out he);clear he;go_wp2_with fail;refine Uw.out.mono ?_;rintro e7 w7 ⟨A6,c6,B6,d6,rfl,s6,t6,k6⟩;have K7:=lH (hKx.out.tr k6);clear k6 s6 t6 z0;dsimp only;go_wp2;refine aaX (v:= .tuple #[.slice none 0 0, .int .i64 r.2.2]) (by simp[results,Tryz.results67,go_sem];try rfl) rfl ?_;obtain⟨e1,e2⟩:=Prod.mk.inj hb.out;have e3:x=0:=by rw[<-HX.out,e1];rfl
      rw[e1,e2,e3];exact⟨none,0,rfl,⟨RdX.bU _ _ _,fun _ e=>by cases e⟩,⟨aaZ _,oM⟩,((K1.out.tr K14.out).tr X5.out).tr (K7.out.tr ((Kp.af _ _)))⟩
   ·have hj':¬(k:Int)<(nR:Int):=by omega
    have hb:Hid ((xs,err)=(gs,0)):=by
     show _=_;have hkn:k=RU.length:=by have:=hk.out;have:=HNR.out;omega
     rw[HV.out,vA fun j q hq=>hok.out j q (by rw[hkn];exact(aaU.1 hq).1) hq,hgs.out,hkn,acj]
    go_wp2;refine aaX (v:= .tuple #[.slice A8 gs.length c8, .int .i64 0]) (by simp[results,Tryz.results67,go_sem];try rfl) rfl ?_;obtain⟨e1,e2⟩:=Prod.mk.inj hb.out;have e3:x=gs.length:=by rw[<-HX.out,e1]
    rw[e1,e2,e3];exact⟨A8,c8,rfl,⟨HR8.out,fun ad e=>ab3 ((K1.out.tr K14.out).tr X5.out).size (HLO.out ad e)⟩,HC8.out,((K1.out.tr K14.out).tr X5.out).tr hKx.out⟩
 ·have hv:=wX (op:=op) (nums:=nums) (ts:=ts) (o:=o) (g:=g) (.inr hmi);rw[aaW hmi,hr]at hv;obtain⟨m,hm⟩:=eX (rZ op nums ts o g);rw[<-hm]at hv hmi HMI;have h9:(m !=0)=true:=by simpa using hmi
  have HV:=lH hv;have HX:=lH hx;clear hw1 hv hQ hS hO hG hd hng hts hso hsg hw hl hr hmi hm hx;go_enter Tryz.func67,Tryz.ntmps67;go_wp2_with fail;rw[<-HW1.out];refine(HMI.out _ K1.out).mono ?_;rintro e0 w2 ⟨rfl,k2⟩;have K2:=lH (K1.out.tr k2);clear k2;go_wp2;refine aaX (v:= .tuple #[.slice none 0 0, .int .i64 m]) (by simp[results,Tryz.results67,go_sem];try rfl) rfl ?_;obtain⟨e1,e2⟩:=Prod.mk.inj HV.out;have e3:x=0:=by rw[<-HX.out,e1];rfl
  rw[e1,e2,e3];exact⟨none,0,rfl,⟨RdX.bU _ _ _,fun _ e=>by cases e⟩,⟨aaZ _,oM⟩,K2.out⟩
end Go.Proofs.YtokeebkaamjliaaGreat.Ez
/- Layer 14: the program's calls, as the laws ask for them. -/
namespace Go.Proofs.YtokeebkaamjliaaGreat
open RowKit ShM GrM InM ImM EvM
