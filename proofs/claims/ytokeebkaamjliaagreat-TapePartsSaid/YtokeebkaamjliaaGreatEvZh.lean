import Derived.Test.YtokeebkaamjliaaGreatEvZf
set_option maxHeartbeats 16000000
set_option maxRecDepth 100000
set_option linter.unusedVariables false
set_option linter.unusedSimpArgs false
namespace Go.Proofs.YtokeebkaamjliaaGreat.Ez
open RowKit ShM GrM InM ImM cF EvM Gz
def PZ(r:T×Int)(w:World)(e:Ending)(w':World):Prop:=
 ∃A c B d,e= .returned (.tuple #[.agg #[.slice A r.1.1.length c, .slice B r.1.2.length d], .int .i64 r.2])/\Hid (Sw w.heap.size w' A c r.1.1)/\Hid (Sw w.heap.size w' B d r.1.2)/\Hid (Kp w w')
theorem KF(op:Int)(nums:BU)(ts:List T)(inp:T)(ps:List T):bq op nums ts inp ps=if(shE op nums ts).2=0 then aV op nums (ts.getD 0 eT) (ts.getD 1 eT) (shE op nums ts).1 inp ps else(eT,(shE op nums ts).2):=by
 unfold bq shE;split
 ·rfl
 ·rfl
theorem EH{op:Int}{nums:BU}{ts:List T}{s:BU}(h:shE op nums ts=(s,0)):0<=ak op/\aM (op,[],nums)=true/\ts.length<=2:=by
 unfold shE at h;split at h
 ·injection h with _ h;cases h
 ·cases hb:(decide (((shT ts).length:Int)=ak op)&&(aM (op,[],nums)&&(shT ts).all okS))with
  |false=>rw[Iz.Bh hb]at h;injection h with _ h;cases h
  |true=>
   obtain⟨_,e2,e3,_⟩:=Iz.vQ hb;have e4:(shT ts).length=ts.length:=by unfold shT;rw[abA]
   rw[e4]at e2;have:=gT op;exact⟨oM,e3,oM⟩
theorem pairT{W:World}{X:Nat->Prop}{vs:List V2}{ts:List T}(hv:iO W X vs ts)(h2:ts.length<=2):
  ∃A1 a1 A2 a2 B1 b1 B2 b2,splice [.slice none 0 0, .slice none 0 0, .slice none 0 0, .slice none 0 0] 0 (flat vs)=[.slice A1 (ts.getD 0 eT).1.length a1, .slice A2 (ts.getD 0 eT).2.length a2, .slice B1 (ts.getD 1 eT).1.length b1, .slice B2 (ts.getD 1 eT).2.length b2]/\TRc W A1 a1 A2 a2 (ts.getD 0 eT)/\TRc W B1 b1 B2 b2 (ts.getD 1 eT):=by
 have hl:=hv.len;have hz:TRc W none 0 none 0 eT:=⟨TR.bU,by simp[eT],by simp[eT]⟩
 match vs,ts,hv,hl,h2 with
 | [],[],_,_,_=>exact⟨none,0,none,0,none,0,none,0,by simp[splice,flat,eT],hz,hz⟩
 | [p],[a],hv,_,_=>
  obtain⟨P,c,Q,d,rfl,r,_,_,hc⟩:=hv.at_ 0 p a rfl rfl;exact⟨P,c,Q,d,none,0,none,0,by simp[splice,flat,eT],⟨r,hc.1,hc.2⟩,hz⟩
 | [p,q],[a,b],hv,_,_=>
  obtain⟨P,c,Q,d,rfl,r,_,_,hc⟩:=hv.at_ 0 p a rfl rfl;obtain⟨P',c',Q',d',rfl,r',_,_,hc'⟩:=hv.at_ 1 q b rfl rfl;exact⟨P,c,Q,d,P',c',Q',d',by simp[splice,flat],⟨r,hc.1,hc.2⟩,⟨r',hc'.1,hc'.2⟩⟩
 | [],b::_,_,hl,_=>simp at hl
 |_::_,[],_,hl,_=>simp at hl
 | [_],_::_::_,_,hl,_=>simp at hl
 |_::_::_,[_],_,hl,_=>simp at hl
 |_::_::_::_,[_,_],_,hl,_=>simp at hl
 |_,_::_::_::_,_,_,h2=>simp at h2
theorem IW(op:Int)(nums:BU)(P Q S I1 I2 R:DV)(n c m d ng h k1 i1 k2 i2 kr rc:Nat)(ts ps:List T)(inp:T)(r:T×Int)(w:World)(hQ:Rd w Q nums)(hS:RdT w S ts)(hI:TRc w I1 i1 I2 i2 inp)(hR:RdT w R ps)
  (hm:m=nums.length)(hd:m<=d/\d<=9223372036854775807)(hng:ng=ts.length)(hts:ts.length<=100)(hw:W64 nums)(hl:nums.length<=100)(hi:∀t∈ts,N64 t.2)(hk1:k1=inp.1.length)(hk2:k2=inp.2.length)(hkr:kr=ps.length)(hr:bq op nums ts inp ps=r):
  CJ 35 #[.agg #[.int .i64 op, .slice P n c, .slice Q m d], .slice S ng h, .agg #[.slice I1 k1 i1, .slice I2 k2 i2], .slice R kr rc] w (PZ r w):=by
 obtain⟨w1,hw1⟩:=eX (((w.alloc (.cells #[.int .i64 op, .slice P n c, .slice Q m d] 39)).alloc (.cells #[.slice I1 k1 i1, .slice I2 k2 i2] 25)).alloc (.cells #[.slice none 0 0, .slice none 0 0] 25));have BN:Hid (Bx w1 w.heap.size [.int .i64 op, .slice P n c, .slice Q m d] 39):=by rw[hw1];exact(Bx.new rfl).kp ((Kp.af _ _).tr (Kp.af _ _))
 have BI:Hid (Bx w1 (w.heap.size+1) [.slice I1 k1 i1, .slice I2 k2 i2] 25):=by rw[hw1];exact(Bx.new (by rw[aaY])).kp (Kp.af _ _)
 have BO:Hid (Bk w1 (w.heap.size+1+1) none 0 0 none 0 0):=by rw[hw1];exact Bk.new (by rw[aaY,aaY])
 have K1:Hid (Kp w w1):=by rw[hw1];exact((Kp.af _ _).tr (Kp.af _ _)).tr (Kp.af _ _)
 have HW1:=lH hw1;obtain⟨s,er,hse⟩:∃s er,shE op nums ts=(s,er):=⟨_,_,rfl⟩
 have HSH:Hid (∀V,Kp w V->CJ 63 #[.agg #[.int .i64 op, .slice P n c, .slice Q m d], .slice S ng h] V (za (s,er) V)):=fun V kV=>
  Ab op nums P Q S n c m d ng h ts (s,er) V (hQ.kp kV) (hS.kp kV) hm hd hng hts hw hl hse
 have hv:=KF op nums ts inp ps;rw[hse,hr]at hv;replace hv:r=if er=0 then aV op nums (ts.getD 0 eT) (ts.getD 1 eT) s inp ps else(eT,er):=hv;have x0:=BN.out.cell (j:=0) rfl;have x1:=BN.out.cell (j:=1) rfl;have x2:=BN.out.cell (j:=2) rfl;by_cases he:er=0
 ·subst he;rw[aaW rfl]at hv;obtain⟨f1,f2,f3⟩:=EH hse;obtain⟨_,vs,hvs,hcells⟩:=hS;obtain⟨A1,a1,A2,a2,B1,b1,B2,b2,hsp,ra,rb⟩:=pairT hvs f3;obtain⟨a,ha⟩:=eX (ts.getD 0 eT);obtain⟨b,hb⟩:=eX (ts.getD 1 eT);have HNA:Hid (bN a.2):=by show bN a.2;rw[ha];exact lp hi 0
  have HNB:Hid (bN b.2):=by show bN b.2;rw[hb];exact lp hi 1
  rw[<-ha,<-hb]at hsp hv;rw[<-ha]at ra;rw[<-hb]at rb;have HSP:=lH hsp;have HRA:=lH ra;have HRB:=lH rb;have HV:=lH hv;have HF:=lH (And.intro f1 f2);have HVL:Hid ((flat vs).length=ng*2):=by show _=_;rw[dO,hvs.len,hng]
  have HMN:Hid (ng=Nat.min ng 2):=by show ng=min ng 2;omega
  have HON:Hid (∀v∈flat vs,v.oneCell'=true):=fun v hv=>by
   obtain⟨A,x,y,rfl⟩:=gC hvs v hv;rfl
  have HCL:Hid (∀V,Kp w V->0<(flat vs).length->∃ad,S=some ad/\∀j u,(flat vs)[j]?=some u->V.cell? (ad.add j)=some u):=fun V kV hpos=>by
   obtain⟨ad,e,hlt,hc⟩:=hcells (by rw[dO,hvs.len]at hpos;omega);exact⟨ad,e,fun j u hu=>(kV.cell (by rw[ah];exact hlt)).trans (hc j u hu)⟩
  have HQ:=lH hQ;have HI:=lH hI;have HR:=lH hR;have HK:=lH (And.intro hm (And.intro hk1 (And.intro hk2 hkr)));have hs1:(Tryz.prog.info? 25).map (·.size)=some 2:=by kernel_rfl
  clear hw1 hse hv hQ hI hR hm hk1 hk2 hkr hng hts hw hl hi hr f1 f2 f3 hvs hcells hsp ra rb ha hb hd;go_enter Tryz.func35,Tryz.ntmps35;go_wp2_with fail;rw[<-HW1.out];refine(HSH.out _ K1.out).mono ?_;rintro e0 w2 ⟨AS,cs,rfl,SS,k2⟩;have K2:=lH (K1.out.tr k2.out);obtain⟨w3,hw3⟩:=eX (w2.alloc (.cells #[.slice AS s.length cs, .int .i64 0] 86));have BS:Hid (Bx w3 w2.heap.size [.slice AS s.length cs, .int .i64 0] 86):=by rw[hw3];exact Bx.new rfl
  have K3:Hid (Kp w1 w3):=by rw[hw3];exact k2.out.tr (Kp.af _ _)
  have S3:Hid (Sl w3 AS cs s):=by rw[hw3];exact SS.out.kp (Kp.af _ _)
  have hsz:w3.heap.size=w2.heap.size+1:=by rw[hw3,aaY]
  have HSZ:=lH hsz;have HW3:=lH hw3;have hrow:(w3.alloc (.cells #[.slice none 0 0, .slice none 0 0, .slice none 0 0, .slice none 0 0] 88)).heap[w3.heap.size]?=some (.cells ([.slice none 0 0, .slice none 0 0, .slice none 0 0, .slice none 0 0]:List Value).toArray 88 (0,0)):=World.alloc_heap_new w3 _;have hbl:Hid (Below w3.heap.size w3 (w3.alloc (.cells #[.slice none 0 0, .slice none 0 0, .slice none 0 0, .slice none 0 0] 88))):=Kp.af _ _;have hpos:Hid (0<(flat vs).length->∃ad,S=some ad/\∀j u,(flat vs)[j]?=some u->(w3.alloc (.cells #[.slice none 0 0, .slice none 0 0, .slice none 0 0, .slice none 0 0] 88)).cell? (ad.add j)=some u):=HCL.out _ ((K1.out.tr K3.out).tr hbl.out);have hfit:Hid (0+(flat vs).length<= [Value.slice none 0 0,Value.slice none 0 0,Value.slice none 0 0,Value.slice none 0 0].length):=by show _<=4;rw[HVL.out];have h9:ng=min ng 2:=HMN.out;omega
  rw[hw3,aaY]at hrow;clear k2 SS x0 x1 x2 hw3 hsz;dsimp only;go_wp2_with (refine kP rfl (.tmp 23) (.tmp 24) 26 26 rfl 25 Tryz.underlying26 hs1 _ _ _ _ _ _ rfl rfl (w2.heap.size+1) 0 [.slice none 0 0, .slice none 0 0, .slice none 0 0, .slice none 0 0] 88 hrow (flat vs) ng HMN.out HVL.out (by rw[<-HW3.out];exact fun hp=>⟨rfl,hpos.out hp⟩) hfit.out HON.out (w2.heap.size+1) w3 (by rw[<-HW3.out,<-HSZ.out];exact hbl.out) (aaZ _) ?_;intro w4 hg4 hb4;have G4:=lH hg4;have B4:=lH hb4;clear hg4 hb4);have K4:Hid (Kp w3 w4):=by show Below _ _ _;rw[HSZ.out];exact B4.out
  have BA:Hid (Bx w4 (w2.heap.size+1) [.slice A1 a.1.length a1, .slice A2 a.2.length a2, .slice B1 b.1.length b1, .slice B2 b.2.length b2] 88):=by
   have h9:=G4.out.out;rw[HSP.out]at h9;exact h9
  have K14:=lH (K3.out.tr K4.out);have HSS:Hid (∀V,Kp w4 V->V.cell? ⟨w.heap.size,0,none⟩=some (.int .i64 op)/\V.cell? ⟨w.heap.size,1,none⟩=some (.slice P n c)/\V.cell? ⟨w.heap.size,2,none⟩=some (.slice Q m d)/\V.cell? ⟨w.heap.size+1,0,none⟩=some (.slice I1 k1 i1)/\V.cell? ⟨w.heap.size+1,1,none⟩=some (.slice I2 k2 i2)/\V.cell? ⟨w2.heap.size+1,0,none⟩=some (.slice A1 a.1.length a1)/\V.cell? ⟨w2.heap.size+1,1,none⟩=some (.slice A2 a.2.length a2)/\V.cell? ⟨w2.heap.size+1,2,none⟩=some (.slice B1 b.1.length b1)/\V.cell? ⟨w2.heap.size+1,3,none⟩=some (.slice B2 b.2.length b2)/\V.cell? ⟨w2.heap.size,0,none⟩=some (.slice AS s.length cs)):=fun V kV=>⟨(BN.out.kp (K14.out.tr kV)).cell (j:=0) rfl,(BN.out.kp (K14.out.tr kV)).cell (j:=1) rfl,(BN.out.kp (K14.out.tr kV)).cell (j:=2) rfl,(BI.out.kp (K14.out.tr kV)).cell (j:=0) rfl,(BI.out.kp (K14.out.tr kV)).cell (j:=1) rfl,(BA.out.kp kV).cell (j:=0) rfl,(BA.out.kp kV).cell (j:=1) rfl,(BA.out.kp kV).cell (j:=2) rfl,(BA.out.kp kV).cell (j:=3) rfl,(BS.out.kp (K4.out.tr kV)).cell (j:=0) rfl⟩
  have Uu:=lH (fun V (kV:Kp w4 V)=>(BO.out.kp (K14.out.tr kV)));clear hrow hs1 G4;go_wp2_with fail;refine aa8 (S:=fun V=>V.cell? ⟨w.heap.size,0,none⟩=some (.int .i64 op)/\V.cell? ⟨w.heap.size,1,none⟩=some (.slice P n c)/\V.cell? ⟨w.heap.size,2,none⟩=some (.slice Q m d)/\V.cell? ⟨w.heap.size+1,0,none⟩=some (.slice I1 k1 i1)/\V.cell? ⟨w.heap.size+1,1,none⟩=some (.slice I2 k2 i2)/\V.cell? ⟨w2.heap.size+1,0,none⟩=some (.slice A1 a.1.length a1)/\V.cell? ⟨w2.heap.size+1,1,none⟩=some (.slice A2 a.2.length a2)/\V.cell? ⟨w2.heap.size+1,2,none⟩=some (.slice B1 b.1.length b1)/\V.cell? ⟨w2.heap.size+1,3,none⟩=some (.slice B2 b.2.length b2)/\V.cell? ⟨w2.heap.size,0,none⟩=some (.slice AS s.length cs)) kM (HSS.out _ (aa3 (Kp.refl _))) (fun qJ=>?_);have X4:Hid (Kp w4 w4.drew):=aa3 (Kp.refl _);generalize w4.drew=V0 at X4 qJ⊢;refine tK 0 (.agg #[.int .i64 op, .slice P n c, .slice Q m d]) rfl qJ<|tK 1 (pX (w2.heap.size+1) 0) rfl qJ<|tK 2 (.agg #[.slice A1 a.1.length a1, .slice A2 a.2.length a2]) rfl qJ<|tK 3 (pX (w2.heap.size+1) 2) rfl qJ<|tK 4 (.agg #[.slice B1 b.1.length b1, .slice B2 b.2.length b2]) rfl qJ<|tK 5 (.agg #[.slice I1 k1 i1, .slice I2 k2 i2]) rfl qJ<|tK 6 (.slice R kr rc) rfl qJ<|tK 7 (pX w2.heap.size 0) rfl qJ<|tK 8 (.slice AS s.length cs) rfl qJ<|tK 9 (.agg #[.int .i64 op, .slice P n c, .slice Q m d, .slice A1 a.1.length a1, .slice A2 a.2.length a2, .slice B1 b.1.length b1, .slice B2 b.2.length b2, .slice I1 k1 i1, .slice I2 k2 i2, .slice R kr rc, .slice AS s.length cs]) rfl qJ<|tK 11 (pX w.heap.size 0) rfl qJ<|tK 12 (.int .i64 op) rfl qJ ?_;refine rD 10 rfl fun _ hK=>?_
  go_simp;refine(J8 op P Q A1 A2 B1 B2 I1 I2 R AS n c m d a.1.length a1 a.2.length a2 b.1.length b1 b.2.length b2 k1 i1 k2 i2 kr rc s.length cs V0).mono ?_;rintro e5 w5 ⟨g,bn,ba,bb,rfl,hmd,k5,Y1,Y2,Y3,Y4⟩;dsimp only;have X5:Hid (Kp w4 w5):=X4.out.tr k5.out;have KW5:Hid (Kp w w5):=(K1.out.tr K14.out).tr X5.out;obtain⟨hk0,hk1,hk2,hkr⟩:=HK.out;have EJ:Ej w5 V0.heap.size bn ba bb op Q A1 A2 B1 B2 I1 I2 R AS d a1 a2 b1 b2 i1 i2 rc cs nums a b inp ps s:={j0:=Y1.out.cell (j:=0) rfl,j7:=by rw[<-hk1];exact Y1.out.cell (j:=7) rfl,j8:=by rw[<-hk2];exact Y1.out.cell (j:=8) rfl,j9:=by rw[<-hkr];exact Y1.out.cell (j:=9) rfl,j10:=Y1.out.cell (j:=10) rfl,n0:=by rw[<-hk0];exact Y2.out.cell (j:=0) rfl,p0:=Y3.out.cell (j:=0) rfl,p1:=Y3.out.cell (j:=1) rfl,q0:=Y4.out.cell (j:=0) rfl,q1:=Y4.out.cell (j:=1) rfl,rn:=HQ.out.kp KW5.out,ra:=HRA.out.kp KW5.out,rb:=HRB.out.kp KW5.out,ri:=HI.out.kp KW5.out,rp:=HR.out.kp KW5.out,rs:=S3.out.kp (K4.out.tr X5.out),na:=HNA.out,nb:=HNB.out}
  obtain⟨f,L,hat,hcf,hcl⟩:=NJ EJ HF.out.1 HF.out.2;have hlk:=Iz.Md.Uj hmd Tryz.underlying91 Tryz.underlying3 hat;rw[<-HV.out]at hcl;have VQ:=lH hcl;have hS5:=HSS.out _ X5.out;clear hmd k5 Y1 Y2 Y3 Y4 hk0 hk1 hk2 hkr EJ hat hcl;refine hK.out _ _ (hS5) fun qJ=>?_
  clear hK;refine rD 13 rfl fun _ hK=>?_
  go_simp;refine hK.out _ _ (hS5) fun qJ=>?_
  clear hK;refine rD 14 rfl fun _ hK=>?_
  go_simp;refine hK.out _ _ (hS5) fun qJ=>?_
  clear hK;refine abp kM ?_ _;clear qJ hS5 hlk;go_wp2_with fail;refine VQ.out.mono ?_;rintro e6 w6 ⟨A6,c6,B6,d6,rfl,s6,t6,k6⟩;have X6:Hid (Kp w4 w6):=X5.out.tr k6;obtain⟨w7,hw7⟩:=eX (w6.alloc (.cells #[.slice A6 r.1.1.length c6, .slice B6 r.1.2.length d6, .int .i64 r.2] 96));have B7:Hid (Bx w7 w6.heap.size [.slice A6 r.1.1.length c6, .slice B6 r.1.2.length d6, .int .i64 r.2] 96):=by rw[hw7];exact Bx.new rfl
  have X7:Hid (Kp w4 w7):=by rw[hw7];exact X6.out.tr (Kp.af _ _)
  have S7:Hid (Sw w.heap.size w7 A6 c6 r.1.1):=by rw[hw7];exact(s6.mo ((K1.out.tr K14.out).tr X5.out).size).kp (Kp.af _ _)
  have T7:Hid (Sw w.heap.size w7 B6 d6 r.1.2):=by rw[hw7];exact(t6.mo ((K1.out.tr K14.out).tr X5.out).size).kp (Kp.af _ _)
  have HW7:=lH hw7;have HS7:Hid (∀V,Kp w7 V->V.cell? ⟨w6.heap.size,0,none⟩=some (.slice A6 r.1.1.length c6)/\V.cell? ⟨w6.heap.size,1,none⟩=some (.slice B6 r.1.2.length d6)/\V.cell? ⟨w6.heap.size,2,none⟩=some (.int .i64 r.2)):=fun V kV=>⟨(B7.out.kp kV).cell (j:=0) rfl,(B7.out.kp kV).cell (j:=1) rfl,(B7.out.kp kV).cell (j:=2) rfl⟩
  have HLT:Hid (w.heap.size+1+1<w6.heap.size):=(Uu.out _ X6.out).lt;clear hw7 s6 t6 k6 hcf;dsimp only
  go_upto_region 8 with fail
  rw[<-HW7.out];refine aa8 (S:=fun V=>V.cell? ⟨w6.heap.size,0,none⟩=some (.slice A6 r.1.1.length c6)/\V.cell? ⟨w6.heap.size,1,none⟩=some (.slice B6 r.1.2.length d6)/\V.cell? ⟨w6.heap.size,2,none⟩=some (.int .i64 r.2)) kM (HS7.out _ (aa3 (Kp.refl _))) (fun qJ=>?_);have X8:Hid (Kp w7 w7.drew):=aa3 (Kp.refl _);generalize w7.drew=V1 at X8 qJ⊢;refine tK 0 (pX w6.heap.size 0) rfl qJ<|tK 1 (.agg #[.slice A6 r.1.1.length c6, .slice B6 r.1.2.length d6]) rfl qJ<|tK 2 (pX w6.heap.size 2) rfl qJ<|tK 3 (.int .i64 r.2) rfl qJ ?_;have BO1:=lH (Uu.out _ (X7.out.tr X8.out));have o0:=BO1.out.c0;have o1:=BO1.out.c1;have f0:=BO1.out.f0 0;have f1:=BO1.out.f0 1;have hne:¬w.heap.size+1+1=w6.heap.size:=by have:=HLT.out;omega
  have hS9:((V1.setCell ⟨w.heap.size+1+1,0,none⟩ (.slice A6 r.1.1.length c6)).setCell ⟨w.heap.size+1+1,1,none⟩ (.slice B6 r.1.2.length d6)).cell? ⟨w6.heap.size,0,none⟩=some (.slice A6 r.1.1.length c6)/\((V1.setCell ⟨w.heap.size+1+1,0,none⟩ (.slice A6 r.1.1.length c6)).setCell ⟨w.heap.size+1+1,1,none⟩ (.slice B6 r.1.2.length d6)).cell? ⟨w6.heap.size,1,none⟩=some (.slice B6 r.1.2.length d6)/\((V1.setCell ⟨w.heap.size+1+1,0,none⟩ (.slice A6 r.1.1.length c6)).setCell ⟨w.heap.size+1+1,1,none⟩ (.slice B6 r.1.2.length d6)).cell? ⟨w6.heap.size,2,none⟩=some (.int .i64 r.2):=by
   obtain⟨u0,u1,u2⟩:=HS7.out _ X8.out;refine⟨?_,?_,?_⟩<;>simp[go_sem,u0,u1,u2,hne]
  refine rD 4 rfl fun _ hK=>?_
  go_simp;refine hK.out _ _ (hS9) fun qJ=>?_
  clear hK;refine rD 5 rfl fun _ hK=>?_
  go_simp;refine hK.out _ _ (hS9) fun qJ=>?_
  clear hK;refine abp kM ?_ _;clear qJ hS9;go_wp2;refine aaX (v:= .tuple #[.agg #[.slice A6 r.1.1.length c6, .slice B6 r.1.2.length d6], .int .i64 r.2]) (by simp[results,Tryz.results35,go_sem,o0,o1];try rfl) rfl ?_;refine⟨A6,c6,B6,d6,rfl,lH ⟨(S7.out.toSl.kp X8.out).past BO1.out _ _,S7.out.nw⟩,lH ⟨(T7.out.toSl.kp X8.out).past BO1.out _ _,T7.out.nw⟩,?_⟩;exact((((K1.out.tr K14.out).tr (X7.out.tr X8.out)).setCell (p:=⟨w.heap.size+1+1,0,none⟩) (by show w.heap.size<=w.heap.size+1+1;omega) _).setCell (p:=⟨w.heap.size+1+1,1,none⟩) (by show w.heap.size<=w.heap.size+1+1;omega) _)
 ·rw[aaT he]at hv;have HV:Hid (r=(eT,er)):=hv;clear hv;have e1:(er !=0)=true:=by simpa using he
  clear hw1 hse hQ hS hI hR hm hk1 hk2 hkr hng hts hw hl hi hr hd;go_enter Tryz.func35,Tryz.ntmps35;go_wp2_with fail;rw[<-HW1.out];refine(HSH.out _ K1.out).mono ?_;rintro e0 w2 ⟨AS,cs,rfl,SS,k2⟩;obtain⟨w3,hw3⟩:=eX (w2.alloc (.cells #[.slice AS s.length cs, .int .i64 er] 86));have BS:Hid (Bx w3 w2.heap.size [.slice AS s.length cs, .int .i64 er] 86):=by rw[hw3];exact Bx.new rfl
  have K3:Hid (Kp w1 w3):=by rw[hw3];exact k2.out.tr (Kp.af _ _)
  have HW3:=lH hw3;have HS3:Hid (∀V,Kp w3 V->V.cell? ⟨w2.heap.size,1,none⟩=some (.int .i64 er)):=fun V kV=>(BS.out.kp kV).cell (j:=1) rfl
  have HLT:Hid (w.heap.size+1+1<w2.heap.size):=(BO.out.kp k2.out).lt;clear k2 SS x0 x1 x2 hw3;dsimp only
  go_upto_region 3 with fail
  rw[<-HW3.out];refine aa8 (S:=fun V=>V.cell? ⟨w2.heap.size,1,none⟩=some (.int .i64 er)) kM (HS3.out _ (aa3 (Kp.refl _))) (fun qJ=>?_);have X4:Hid (Kp w3 w3.drew):=aa3 (Kp.refl _);generalize w3.drew=V0 at X4 qJ⊢;refine tK 0 (.agg #[.slice none 0 0, .slice none 0 0]) rfl qJ<|tK 1 (pX w2.heap.size 1) rfl qJ<|tK 2 (.int .i64 er) rfl qJ ?_;have BO1:=lH (BO.out.kp (K3.out.tr X4.out));have o0:=BO1.out.c0;have o1:=BO1.out.c1;have f0:=BO1.out.f0 0;have f1:=BO1.out.f0 1;have hne:¬w.heap.size+1+1=w2.heap.size:=by have:=HLT.out;omega
  have hS9:((V0.setCell ⟨w.heap.size+1+1,0,none⟩ (.slice none 0 0)).setCell ⟨w.heap.size+1+1,1,none⟩ (.slice none 0 0)).cell? ⟨w2.heap.size,1,none⟩=some (.int .i64 er):=by
   have u0:=HS3.out _ X4.out;simp[go_sem,u0,hne]
  refine rD 3 rfl fun _ hK=>?_
  go_simp;refine hK.out _ _ (hS9) fun qJ=>?_
  clear hK;refine rD 4 rfl fun _ hK=>?_
  go_simp;refine hK.out _ _ (hS9) fun qJ=>?_
  clear hK;refine abp kM ?_ _;clear qJ hS9;go_wp2;refine aaX (v:= .tuple #[.agg #[.slice none 0 0, .slice none 0 0], .int .i64 er]) (by simp[results,Tryz.results35,go_sem,o0,o1];try rfl) rfl ?_;rw[HV.out];exact⟨none,0,none,0,rfl,lH ⟨Sl.bU _,Nw.bU _ _⟩,lH ⟨Sl.bU _,Nw.bU _ _⟩,((K1.out.tr (K3.out.tr X4.out)).setCell (p:=⟨w.heap.size+1+1,0,none⟩) (by show w.heap.size<=w.heap.size+1+1;omega) _).setCell (p:=⟨w.heap.size+1+1,1,none⟩) (by show w.heap.size<=w.heap.size+1+1;omega) _⟩
