import Derived.Test.YtokeebkaamjliaaGreatEvZb
set_option maxHeartbeats 16000000
set_option maxRecDepth 100000
set_option linter.unusedVariables false
set_option linter.unusedSimpArgs false
namespace Go.Proofs.YtokeebkaamjliaaGreat.Ez
open RowKit ShM GrM InM ImM cF EvM
def PW(t:T)(w:World)(e:Ending)(w':World):Prop:=
 ∃A c B d,e= .returned (.agg #[.slice A t.1.length c, .slice B t.2.length d])/\Hid (TRc w' A c B d t)/\Hid (Kp w w')
theorem Ko(R:DV)(k rc:Nat)(ps:List T)(p:Int)(w:World)(h:RdT w R ps)(hk:k=ps.length)(hp:0<=p):
  CJ 87 #[.slice R k rc, .int .i64 p] w (PW (xX ps p) w):=by
 obtain⟨q,rfl⟩:∃q:Nat,p=(q:Int):=⟨p.toNat,oM⟩
 have hl:=h.len;subst hk;by_cases hq:q<ps.length
 ·obtain⟨ad,t,P,c,Q,d,rfl,hb,ht,c0,c1,r,x1,x2,b1,b2⟩:=h.DS hq;have hv:xX ps (q:Int)=t:=by
   unfold xX;rw[aaW hp,aa2,aaS,ht];rfl
  rw[hv];have HT:Hid (TRc (w.alloc (.cells #[.slice P t.1.length c, .slice Q t.2.length d] 25)) P c Q d t):=⟨r.af _,b1,b2⟩
  have z0:(w.alloc (.cells #[.slice none 0 0, .slice none 0 0] 25)).cell? (ad.add (q*2))=some (.slice P t.1.length c):=Iz.ay c0 (Kp.af _ _);have z1:(w.alloc (.cells #[.slice none 0 0, .slice none 0 0] 25)).cell? ⟨(ad.add (q*2)).block,(ad.add (q*2)).off+1,none⟩=some (.slice Q t.2.length d):=Iz.ay c1 (Kp.af _ _);have hq1:¬(ps.length:Int)<=(q:Int):=by omega
  have hq2:(q:Int)<(ps.length:Int):=by omega
  clear hv h r x1 x2 b1 b2 ht hp c0 c1;go_enter Tryz.func87,Tryz.ntmps87;go_wp2;refine aaX (v:= .agg #[.slice P t.1.length c, .slice Q t.2.length d]) (by simp[results,Tryz.results87,go_sem];try rfl) rfl ?_;exact⟨P,c,Q,d,rfl,HT.out,Kp.af _ _⟩
 ·have hv:xX ps (q:Int)=eT:=by
   unfold xX;rw[aaW hp,aa2,aaS,abO oM];rfl
  rw[hv];have hq1:(ps.length:Int)<=(q:Int):=by omega
  clear hv h hp;go_enter Tryz.func87,Tryz.ntmps87;go_wp2;refine aaX (v:= .agg #[.slice none 0 0, .slice none 0 0]) (by simp[results,Tryz.results87,go_sem];try rfl) rfl ?_;exact⟨none,0,none,0,rfl,⟨TR.bU,by simp[eT],by simp[eT]⟩,Kp.af _ _⟩
theorem wL(t:T)(s:BU):(bL t s).2≠0->(bL t s).1.1=[]/\(bL t s).1.2=[]:=by
 unfold bL;split
 ·exact fun h=>absurd rfl h
 ·exact fun _=>⟨rfl,rfl⟩
theorem CP(P Q A:DV)(n c m d k e:Nat)(t:T)(s:BU)(w:World)(h:TR w P t.1 Q t.2)(g:Rd w A s)(hn:n=t.1.length)(hm:m=t.2.length)(hk:k=s.length):
  CJ 85 #[.agg #[.slice P n c, .slice Q m d], .slice A k e] w (bH (bL t s) w):=by
 have ln:=h.s.len;have lm:=h.d.len;rw[<-hn]at ln;rw[<-hm]at lm;have K0:Hid (Kp w ((w.alloc (.cells #[.slice P n c, .slice Q m d] 25)).alloc (.cells #[.slice none 0 0, .slice none 0 0, .int .i64 0] 96))):=(Kp.af _ _).tr (Kp.af _ _);have B0:Hid (Bk ((w.alloc (.cells #[.slice P n c, .slice Q m d] 25)).alloc (.cells #[.slice none 0 0, .slice none 0 0, .int .i64 0] 96)) w.heap.size P n c Q m d):=(Bk.new rfl).af _;have F0:Hid (Bx ((w.alloc (.cells #[.slice P n c, .slice Q m d] 25)).alloc (.cells #[.slice none 0 0, .slice none 0 0, .int .i64 0] 96)) (w.heap.size+1) [.slice none 0 0, .slice none 0 0, .int .i64 0] 96):=Bx.new (by rw[aaY]);have HCK:Hid (∀V,Kp w V->CJ 77 #[.agg #[.slice P n c, .slice Q m d]] V fun e w'=>e= .returned (.bool (bO t))/\Kp V w'):=fun V kV=>by
  rw[hn,hm];exact av P Q c d t.1 t.2 V (h.s.kp kV) (h.d.kp kV)
 have HEQ:Hid (∀V,Kp w V->CJ 69 #[.slice P n c, .slice A k e] V fun e w'=>e= .returned (.bool (t.1==s))/\Kp V w'):=fun V kV=>by
  rw[hn,hk];exact(eF P A c e t.1 s V (h.s.kp kV) (g.kp kV)).mono fun e0 w' hh=>⟨hh.1,by obtain⟨q,rfl⟩:=hh.2;exact Kp.aI _ q⟩
 obtain⟨W0,hW0⟩:=eX (((w.alloc (.cells #[.slice P n c, .slice Q m d] 25)).alloc (.cells #[.slice none 0 0, .slice none 0 0, .int .i64 0] 96)));rw[<-hW0]at F0 K0 B0;have HW:=lH hW0
 cases hc:bO t with
 |false=>
  have hr:bL t s=(eT,130):=by unfold bL;rw[aaT (by simp[hc])]
  rw[hr];rw[hc]at HCK;clear hr hc h g hn hm hk hW0;go_enter Tryz.func85,Tryz.ntmps85;go_wp2_with fail;rw[<-HW.out];refine(HCK.out _ K0.out).mono ?_;rintro e0 w1 ⟨rfl,k1⟩;have K1:=lH (K0.out.tr k1);have F1:=lH (F0.out.kp k1);clear k1;have o0:=F1.out.cell (j:=0) rfl;have o1:=F1.out.cell (j:=1) rfl;have o2:=F1.out.cell (j:=2) rfl;have f0:=F1.out.frz 0;have f1:=F1.out.frz 1;have f2:=F1.out.frz 2;go_wp2;refine aaX (v:= .agg #[.slice none 0 0, .slice none 0 0, .int .i64 130]) (by simp[results,Tryz.results85,go_sem,o0,o1,o2];try rfl) rfl ?_;exact bH.box (aN _ _ _) (aN _ _ _) rfl rfl rfl (fun _=>⟨rfl,rfl⟩) (abe _) F1.out ⟨Sl.bU _,Nw.bU _ _⟩ ⟨Sl.bU _,Nw.bU _ _⟩ K1.out
 |true=>
  rw[hc]at HCK
  cases he:(t.1==s)with
  |false=>
   have hr:bL t s=(eT,130):=by unfold bL;rw[aaT (by intro hh;simp[hh.2]at he)]
   rw[hr];rw[he]at HEQ;have x0:=B0.out.c0;clear hr hc he h g hn hm hk hW0;go_enter Tryz.func85,Tryz.ntmps85;go_wp2_with fail;rw[<-HW.out];refine(HCK.out _ K0.out).mono ?_;rintro e0 w1 ⟨rfl,k1⟩;have K1:=lH (K0.out.tr k1);have F1:=lH (F0.out.kp k1);have y0:=(B0.out.kp k1).c0;clear k1 x0;go_wp2_with fail;refine(HEQ.out _ K1.out).mono ?_;rintro e0 w2 ⟨rfl,k2⟩;have K2:=lH (K1.out.tr k2);have F2:=lH (F1.out.kp k2);clear k2 y0;have o0:=F2.out.cell (j:=0) rfl;have o1:=F2.out.cell (j:=1) rfl;have o2:=F2.out.cell (j:=2) rfl;have f0:=F2.out.frz 0;have f1:=F2.out.frz 1;have f2:=F2.out.frz 2;go_wp2;refine aaX (v:= .agg #[.slice none 0 0, .slice none 0 0, .int .i64 130]) (by simp[results,Tryz.results85,go_sem,o0,o1,o2];try rfl) rfl ?_;exact bH.box (aN _ _ _) (aN _ _ _) rfl rfl rfl (fun _=>⟨rfl,rfl⟩) (abe _) F2.out ⟨Sl.bU _,Nw.bU _ _⟩ ⟨Sl.bU _,Nw.bU _ _⟩ K2.out
  |true=>
   have hr:bL t s=(t,0):=by unfold bL;rw[aaW ⟨hc,by simpa using he⟩]
   rw[hr];rw[he]at HEQ;have Vs:=Go.Proofs.EvM.zF hc;have H1:Hid (∀V,Kp w V->CJ 23 #[.slice P n c] V (Jy t.1 V)):=fun V kV=>by
    rw[hn];exact Iz.gR P c t.1 V (h.s.kp kV) oM
   have H2:Hid (∀V,Kp w V->CJ 23 #[.slice Q m d] V (Jy t.2 V)):=fun V kV=>by
    rw[hm];exact Iz.gR Q d t.2 V (h.d.kp kV) oM
   have x0:=B0.out.c0;clear hr hc he h g hn hm hk hW0 Vs;go_enter Tryz.func85,Tryz.ntmps85;go_wp2_with fail;rw[<-HW.out];refine(HCK.out _ K0.out).mono ?_;rintro e0 w1 ⟨rfl,k1⟩;have K1:=lH (K0.out.tr k1);have F1:=lH (F0.out.kp k1);have B1:=lH (B0.out.kp k1);have y0:=B1.out.c0;clear k1 x0;go_wp2_with fail;refine(HEQ.out _ K1.out).mono ?_;rintro e0 w2 ⟨rfl,k2⟩;have K2:=lH (K1.out.tr k2);have F2:=lH (F1.out.kp k2);have B2:=lH (B1.out.kp k2);have HSS:Hid (∀V,Kp w2 V->V.cell? ⟨w.heap.size,0,none⟩=some (.slice P n c)/\V.cell? ⟨w.heap.size,1,none⟩=some (.slice Q m d)):=fun V kV=>⟨(B2.out.kp kV).c0,(B2.out.kp kV).c1⟩
   have hS0:=HSS.out _ (Kp.refl _);clear k2 y0;go_wp2_with fail;refine aa8 (S:=fun V=>V.cell? ⟨w.heap.size,0,none⟩=some (.slice P n c)/\V.cell? ⟨w.heap.size,1,none⟩=some (.slice Q m d)) kM (HSS.out _ (aa3 (Kp.refl _))) (fun qJ=>?_);have X2:Hid (Kp w2 w2.drew):=aa3 (Kp.refl _);generalize w2.drew=V0 at X2 qJ⊢;refine tK 0 (pX w.heap.size 0) rfl qJ<|tK 1 (.slice P n c) rfl qJ<|tK 3 (pX w.heap.size 1) rfl qJ<|tK 4 (.slice Q m d) rfl qJ ?_;refine rD 2 rfl fun _ hK=>?_
   ·go_simp;refine(H1.out _ (K2.out.tr X2.out)).mono ?_;rintro e3 w3 ⟨A3,c3,rfl,o3,k3⟩;dsimp only;have X3:Hid (Kp w2 w3):=X2.out.tr k3;have L3:=lH (o3.sw (b:=w.heap.size) (K2.out.tr X2.out).size);have hS3:=HSS.out _ X3.out;clear k3 o3;refine hK.out _ _ (hS3) fun qJ=>?_
    clear hK;refine rD 5 rfl fun _ hK=>?_
    go_simp;refine(H2.out _ (K2.out.tr X3.out)).mono ?_;rintro e4 w4 ⟨B3,d3,rfl,o4,k4⟩;dsimp only;have X4:Hid (Kp w2 w4):=X3.out.tr k4;have L4:=lH (o4.sw (b:=w.heap.size) (K2.out.tr X3.out).size);have M4:=lH (L3.out.kp k4);have hS4:=HSS.out _ X4.out;clear k4 o4;refine hK.out _ _ (hS4) fun qJ=>?_
    clear hK;refine tK 6 (.agg #[.slice A3 t.1.length c3, .slice B3 t.2.length d3]) rfl qJ ?_;refine rD 7 rfl fun _ hK=>?_
    go_simp;refine(gU _ _ _ _ _ _ _ _).mono ?_;rintro e5 w5 ⟨rfl,k5⟩;dsimp only;have X5:Hid (Kp w2 w5):=X4.out.tr k5;have L5:=lH (L4.out.kp k5);have M5:=lH (M4.out.kp k5);have F5:=lH (F2.out.kp X5.out);have K5:=lH (K2.out.tr X5.out);have hS5:=HSS.out _ X5.out;clear k5;refine hK.out _ _ (hS5) fun qJ=>?_
    clear hK;have o0:=F5.out.cell (j:=0) rfl;have o1:=F5.out.cell (j:=1) rfl;have o2:=F5.out.cell (j:=2) rfl;have f0:=F5.out.frz 0;have f1:=F5.out.frz 1;have f2:=F5.out.frz 2;have hS6:(((w5.setCell ⟨w.heap.size+1,0,none⟩ (.slice A3 t.1.length c3)).setCell ⟨w.heap.size+1,1,none⟩ (.slice B3 t.2.length d3)).setCell ⟨w.heap.size+1,2,none⟩ (.int .i64 0)).cell? ⟨w.heap.size,0,none⟩=some (.slice P n c)/\(((w5.setCell ⟨w.heap.size+1,0,none⟩ (.slice A3 t.1.length c3)).setCell ⟨w.heap.size+1,1,none⟩ (.slice B3 t.2.length d3)).setCell ⟨w.heap.size+1,2,none⟩ (.int .i64 0)).cell? ⟨w.heap.size,1,none⟩=some (.slice Q m d):=by
     obtain⟨u0,u1⟩:=hS5;constructor<;>simp[go_sem,u0,u1]
    refine rD 8 rfl fun _ hK=>?_
    go_simp;refine hK.out _ _ (hS6) fun qJ=>?_
    clear hK;refine abp kM ?_ _;clear qJ hS0 hS3 hS4 hS5 hS6 HSS;go_wp2;refine aaX (v:= .agg #[.slice A3 t.1.length c3, .slice B3 t.2.length d3, .int .i64 0]) (by simp[results,Tryz.results85,go_sem,o0,o1,o2];try rfl) rfl ?_;exact bH.box (aN _ _ _) (aN _ _ _) rfl rfl rfl (fun hh=>absurd rfl hh) (abe _) F5.out M5.out L5.out K5.out
section
variable{W:World}{bj bn ba bb:Nat}{op:Int}{Q A1 A2 B1 B2 I1 I2 R S:DV}{d a1 a2 b1 b2 i1 i2 rc sc:Nat}{nums:BU}{a b inp:T}{ps:List T}{s:BU}
theorem Lj(H:Ej W bj bn ba bb op Q A1 A2 B1 B2 I1 I2 R S d a1 a2 b1 b2 i1 i2 rc sc nums a b inp ps s):CJ 84 #[pX bj 0] W (bH (bL inp s) W):=by
 have x7:=H.j7;have x8:=H.j8;have x10:=H.j10;have lbj:bj<W.heap.size:=Iz.dZ H.j7;have HC:Hid (∀V,Kp W V->CJ 85 #[.agg #[.slice I1 inp.1.length i1, .slice I2 inp.2.length i2], .slice S s.length sc] V (bH (bL inp s) V)):=fun V kV=>CP I1 I2 S _ i1 _ i2 _ sc inp s V (H.ri.r.kp kV) (H.rs.rd.kp kV) rfl rfl rfl
 have HE:=lH (wL inp s);obtain⟨Q3,hQ⟩:=eX (bL inp s);rw[<-hQ]at HC HE⊢;have F0:Hid (Bx (W.alloc (.cells #[.slice none 0 0, .slice none 0 0, .int .i64 0] 96)) W.heap.size [.slice none 0 0, .slice none 0 0, .int .i64 0] 96):=Bx.new rfl;have K0:Hid (Kp W (W.alloc (.cells #[.slice none 0 0, .slice none 0 0, .int .i64 0] 96))):=Kp.af _ _;clear H hQ;go_enter Tryz.func84,Tryz.ntmps84;go_wp2_with fail;refine(HC.out _ K0.out).mono ?_;rintro e1 w2 ⟨A3,c3,B3,d3,rfl,s3,t3,k1⟩;have K2:=lH (K0.out.tr k1);have F2:=lH (F0.out.kp k1);have S2:=lH (s3.mo K0.out.size);have T2:=lH (t3.mo K0.out.size);clear k1 s3 t3 x7 x8 x10;have o0:=F2.out.cell (j:=0) rfl;have o1:=F2.out.cell (j:=1) rfl;have o2:=F2.out.cell (j:=2) rfl;have f0:=F2.out.frz 0;have f1:=F2.out.frz 1;have f2:=F2.out.frz 2;go_wp2;refine aaX (v:= .agg #[.slice A3 Q3.1.1.length c3, .slice B3 Q3.1.2.length d3, .int .i64 Q3.2]) (by simp[results,Tryz.results84,go_sem,o0,o1,o2];try rfl) rfl ?_;exact bH.box (aN _ _ _) (aN _ _ _) rfl rfl rfl HE.out (aaZ _) F2.out S2.out T2.out K2.out
theorem Pk(H:Ej W bj bn ba bb op Q A1 A2 B1 B2 I1 I2 R S d a1 a2 b1 b2 i1 i2 rc sc nums a b inp ps s)(h1:nums.length=1):CJ 88 #[pX bn 0] W (bH (tnE (dm [] (nums.getD 0 0))) W):=by
 obtain⟨x,rfl⟩:=Iz.gK h1;obtain⟨aq,rfl,hlt,hc⟩:=H.rn.2 sC;have y0:W.cell? aq=some (.int .i64 x):=by simpa [Addr.add]using hc 0 x rfl
 have xn0:W.cell? ⟨bn,0,none⟩=some (.slice (some aq) 1 d):=H.n0;have lbn:bn<W.heap.size:=Iz.dZ H.n0;obtain⟨Q4,hQ⟩:∃Q3,Q3=dm [] x:=⟨_,rfl⟩
 have HC:Hid (∀V,Kp W V->CJ 65 #[.slice none 0 0, .int .i64 x] V (aG Q4 V)):=fun V kV=>by rw[hQ];exact qy none 0 [] x V (Rd.nil _ _)
 have HE:Hid (Q4.2.2≠0->Q4.1=[]/\Q4.2.1=[]):=by show _;rw[hQ];exact LR [] x
 have HG:Hid (bH (tnE (dm [] (([x]:BU).getD 0 0))) W=bH (tnE Q4) W):=by rw[hQ];rfl
 rw[HG.out];have F0:Hid (Bx (W.alloc (.cells #[.slice none 0 0, .slice none 0 0, .int .i64 0] 96)) W.heap.size [.slice none 0 0, .slice none 0 0, .int .i64 0] 96):=Bx.new rfl;have K0:Hid (Kp W (W.alloc (.cells #[.slice none 0 0, .slice none 0 0, .int .i64 0] 96))):=Kp.af _ _;clear H hQ hc h1 HG;go_enter Tryz.func88,Tryz.ntmps88;go_wp2_with fail;refine(HC.out _ K0.out).mono ?_;rintro e1 w1 ⟨A3,c3,B3,d3,rfl,s3,t3,k1⟩;have K1:=lH (K0.out.tr k1);have F1:=lH (F0.out.kp k1);have S1:=lH (s3.mo K0.out.size);have T1:=lH (t3.mo K0.out.size);clear k1 s3 t3 y0 xn0;dsimp only;go_wp2_with fail;refine(gU _ _ _ _ _ _ _ _).mono ?_;rintro e2 w2 ⟨rfl,k2⟩;have K2:=lH (K1.out.tr k2);have F2:=lH (F1.out.kp k2);have S2:=lH (S1.out.kp k2);have T2:=lH (T1.out.kp k2);clear k2;have o0:=F2.out.cell (j:=0) rfl;have o1:=F2.out.cell (j:=1) rfl;have o2:=F2.out.cell (j:=2) rfl;have f0:=F2.out.frz 0;have f1:=F2.out.frz 1;have f2:=F2.out.frz 2;go_wp2;refine aaX (v:= .agg #[.slice A3 Q4.1.length c3, .slice B3 Q4.2.1.length d3, .int .i64 Q4.2.2]) (by simp[results,Tryz.results88,go_sem,o0,o1,o2];try rfl) rfl ?_;exact bH.box (aN _ _ _) (aN _ _ _) rfl rfl rfl HE.out (aaZ _) F2.out S2.out T2.out K2.out
theorem N4(H:Ej W bj bn ba bb op Q A1 A2 B1 B2 I1 I2 R S d a1 a2 b1 b2 i1 i2 rc sc nums a b inp ps s)(h1:1<=nums.length)(hp:0<=nums.getD 0 0):CJ 86 #[pX bj 0, pX bn 0] W (bH (bL (xX ps (nums.getD 0 0)) s) W):=by
 obtain⟨p,hp0⟩:=eX (nums.getD 0 0);have hq:nums[0]?=some p:=by rw[hp0,aaS,aaV oM];rfl
 rw[<-hp0]at hp⊢;obtain⟨aq,rfl,hlt,hc⟩:=H.rn.2 oM;have y0:W.cell? aq=some (.int .i64 p):=by simpa [Addr.add]using hc 0 p hq
 obtain⟨nl,hnl⟩:=eX (nums.length);have hpos:(0:Int)<(nl:Int):=by omega
 have Vg:¬nl=0:=by omega
 have xn0:W.cell? ⟨bn,0,none⟩=some (.slice (some aq) nl d):=by rw[hnl];exact H.n0
 have x9:=H.j9;have x10:=H.j10;obtain⟨u,hu⟩:=eX (xX ps p);have HP:Hid (∀V,Kp W V->CJ 87 #[.slice R ps.length rc, .int .i64 p] V (PW u V)):=fun V kV=>by rw[hu];exact Ko R _ rc ps p V (H.rp.kp kV) rfl hp
 have HC:Hid (∀V P c Q d,Kp W V->TRc V P c Q d u->CJ 85 #[.agg #[.slice P u.1.length c, .slice Q u.2.length d], .slice S s.length sc] V (bH (bL u s) V)):=fun V P c Q d kV hT=>CP P Q S _ c _ d _ sc u s V hT.r (H.rs.rd.kp kV) rfl rfl rfl
 have HE:=lH (wL u s);rw[<-hu];obtain⟨Q3,hQ⟩:=eX (bL u s);rw[<-hQ]at HC HE⊢;have HSS:Hid (∀V,Kp W V->V.cell? ⟨bj,9,none⟩=some (.slice R ps.length rc)/\V.cell? ⟨bj,10,none⟩=some (.slice S s.length sc)/\V.cell? ⟨bn,0,none⟩=some (.slice (some aq) nl d)/\V.cell? aq=some (.int .i64 p)):=fun V kV=>⟨Iz.ay x9 kV,Iz.ay x10 kV,Iz.ay xn0 kV,Iz.ay y0 kV⟩
 have F0:Hid (Bx (W.alloc (.cells #[.slice none 0 0, .slice none 0 0, .int .i64 0] 96)) W.heap.size [.slice none 0 0, .slice none 0 0, .int .i64 0] 96):=Bx.new rfl;have K0:Hid (Kp W (W.alloc (.cells #[.slice none 0 0, .slice none 0 0, .int .i64 0] 96))):=Kp.af _ _;clear H hQ hc h1 hlt hq hp0 hu hp hnl x9 x10 xn0 y0;obtain⟨W0,hW0⟩:=eX ((W.alloc (.cells #[.slice none 0 0, .slice none 0 0, .int .i64 0] 96)));rw[<-hW0]at F0 K0;have HW:=lH hW0;have K4:Hid (Kp W0 W0.drew):=aa3 (Kp.refl W0);have hS0:=HSS.out _ K0.out;clear hW0;go_enter Tryz.func86,Tryz.ntmps86;go_wp2_with fail;rw[<-HW.out];refine aa8 (S:=fun V=>V.cell? ⟨bj,9,none⟩=some (.slice R ps.length rc)/\V.cell? ⟨bj,10,none⟩=some (.slice S s.length sc)/\V.cell? ⟨bn,0,none⟩=some (.slice (some aq) nl d)/\V.cell? aq=some (.int .i64 p)) kM (HSS.out _ (aa3 K0.out)) (fun qJ=>?_);have hdr:Hid (Kp W W0.drew):=aa3 K0.out;have FB:=lH (F0.out.kp K4.out);generalize W0.drew=V0 at hdr qJ FB⊢;refine tK 0 (pX bj 9) rfl qJ<|tK 1 (.slice R ps.length rc) rfl qJ<|tK 2 (.slice (some aq) nl d) rfl qJ<|tK 3 (.pointer (some aq)) rfl qJ<|tK 4 (.int .i64 p) rfl qJ<|tK 6 (pX bj 10) rfl qJ<|tK 7 (.slice S s.length sc) rfl qJ ?_;refine rD 5 rfl fun _ hK=>?_
 go_simp;refine(HP.out _ hdr.out).mono ?_;rintro e1 w1 ⟨P1,r1,Q1,q1,rfl,ht,k1⟩;dsimp only;have K1:=lH (hdr.out.tr k1.out);have F1:=lH (FB.out.kp k1.out);have hS1:=HSS.out _ K1.out;clear k1;refine hK.out _ _ (hS1) fun qJ=>?_
 clear hK;refine rD 8 rfl fun _ hK=>?_
 go_simp;refine(HC.out _ _ _ _ _ K1.out ht.out).mono ?_;rintro e2 w2 ⟨A3,c3,B3,d3,rfl,s3,t3,k2⟩;dsimp only;have K2:=lH (K1.out.tr k2);have F2:=lH (F1.out.kp k2);have S2:=lH (s3.mo K1.out.size);have T2:=lH (t3.mo K1.out.size);have hS2:=HSS.out _ K2.out;clear k2 s3 t3;refine hK.out _ _ (hS2) fun qJ=>?_
 clear hK;have o0:=F2.out.cell (j:=0) rfl;have o1:=F2.out.cell (j:=1) rfl;have o2:=F2.out.cell (j:=2) rfl;have f0:=F2.out.frz 0;have f1:=F2.out.frz 1;have f2:=F2.out.frz 2;have hS3:=HSS.out _ (((K2.out.setCell (p:=⟨W.heap.size,0,none⟩) (aaZ _) (.slice A3 Q3.1.1.length c3)).setCell (p:=⟨W.heap.size,1,none⟩) (aaZ _) (.slice B3 Q3.1.2.length d3)).setCell (p:=⟨W.heap.size,2,none⟩) (aaZ _) (.int .i64 Q3.2));refine rD 9 rfl fun _ hK=>?_
 go_simp;refine hK.out _ _ (hS3) fun qJ=>?_
 clear hK;refine abp kM ?_ _;clear qJ hS1 hS2 hS3 HSS;go_wp2;refine aaX (v:= .agg #[.slice A3 Q3.1.1.length c3, .slice B3 Q3.1.2.length d3, .int .i64 Q3.2]) (by simp[results,Tryz.results86,go_sem,o0,o1,o2];try rfl) rfl ?_;exact bH.box (aN _ _ _) (aN _ _ _) rfl rfl rfl HE.out (aaZ _) F2.out S2.out T2.out K2.out
end
open RowKit ShM GrM InM ImM cF EvM Gz
theorem aQ{W:World}{g:Nat}{L:List (Int×Value)}{ops:Array Oper}{rest:List Oper}{o:Oper}{a:Act}{Q:Exit->Act->World->Prop}(hg:o.guard=none)(m x v:Operand)
  (hop:o.op=Op.insert 91 m x v)(k:Int)(val:Value)(hm:a.eval m= .map (some g))(hx:a.eval x= .int .i64 k)(hv:a.eval v=val)(h:Md W g L)(hn:atM L k=none)
  (hK:∀W',Md W' g (L++[(k,val)])->(∀B,B<=g->Below B W W')->wpList Tryz.prog ops Q rest (a.put o.dst undef) W'):wpList Tryz.prog ops Q (o::rest) a W:=by
 refine wpList_plain hg fun K' hK'=>?_
 obtain⟨W',hrun,r1,r2⟩:=h.put Tryz.underlying91 Tryz.underlying3 hn val;unfold Oper.wp;simp[execOp,hop,hm,hx,hv,hrun,Result.andThen];exact hK' _ _ (hK W' r1 r2)
def ruE(pj pn pa pb:Value):List (Int×Value):=
 [(1, .func (.func 84) #[] #[pj]),(2, .func (.func 86) #[] #[pj,pn]),(3, .func (.func 88) #[] #[pn]),(10, .func (.func 82) #[] #[pj,pa,pb]),(11, .func (.func 82) #[] #[pj,pa,pb]),(12, .func (.func 82) #[] #[pj,pa,pb]),(13, .func (.func 82) #[] #[pj,pa,pb]),(20, .func (.func 79) #[] #[pj,pa]),(21, .func (.func 79) #[] #[pj,pa]),(22, .func (.func 79) #[] #[pj,pa]),(23, .func (.func 79) #[] #[pj,pa]),(30, .func (.func 89) #[] #[pa,pb]),(40, .func (.func 91) #[] #[pa,pn]),(41, .func (.func 93) #[] #[pa]),(42, .func (.func 95) #[] #[pa,pn]),(43, .func (.func 97) #[] #[pa,pb,pn]),(50, .func (.func 99) #[] #[pa,pn]),(51, .func (.func 101) #[] #[pa,pn]),(52, .func (.func 103) #[] #[pa,pn])]
def ruW(bj bn ba bb:Nat):List (Int×Value):=ruE (pX bj 0) (pX bn 0) (pX ba 0) (pX bb 0)
theorem J8(op:Int)(P Q A1 A2 B1 B2 I1 I2 R S:DV)(nP cP m d n1 a1 n2 a2 m1 b1 m2 b2 k1 i1 k2 i2 kr rc ks sc:Nat)(w:World):
  CJ 64 #[.agg #[.int .i64 op, .slice P nP cP, .slice Q m d, .slice A1 n1 a1, .slice A2 n2 a2, .slice B1 m1 b1, .slice B2 m2 b2, .slice I1 k1 i1, .slice I2 k2 i2, .slice R kr rc, .slice S ks sc]] w fun e0 w'=>∃g bn ba bb,e0= .returned (.map (some g))/\Md w' g (ruW w.heap.size bn ba bb)/\Hid (Kp w w')/\
   Hid (Bx w' w.heap.size [.int .i64 op, .slice P nP cP, .slice Q m d, .slice A1 n1 a1, .slice A2 n2 a2, .slice B1 m1 b1, .slice B2 m2 b2, .slice I1 k1 i1, .slice I2 k2 i2, .slice R kr rc, .slice S ks sc] 94)/\Hid (Bx w' bn [.slice Q m d] 23)/\Hid (Bx w' ba [.slice A1 n1 a1, .slice A2 n2 a2] 25)/\Hid (Bx w' bb [.slice B1 m1 b1, .slice B2 m2 b2] 25):=by
 obtain⟨w1,hw1⟩:=eX (w.alloc (.cells #[.int .i64 op, .slice P nP cP, .slice Q m d, .slice A1 n1 a1, .slice A2 n2 a2, .slice B1 m1 b1, .slice B2 m2 b2, .slice I1 k1 i1, .slice I2 k2 i2, .slice R kr rc, .slice S ks sc] 94));have BJ:Hid (Bx w1 w.heap.size [.int .i64 op, .slice P nP cP, .slice Q m d, .slice A1 n1 a1, .slice A2 n2 a2, .slice B1 m1 b1, .slice B2 m2 b2, .slice I1 k1 i1, .slice I2 k2 i2, .slice R kr rc, .slice S ks sc] 94):=by rw[hw1];exact Bx.new rfl
 have K1:Hid (Kp w w1):=by rw[hw1];exact Kp.af _ _
 have HW1:=lH hw1;have hmm:= @run_makeMap Tryz.prog;have hmf:∀(fn:Fn) (first cap:Array Value) (w:World),(Instr.makeFunc fn first cap).run Tryz.prog w= .ok (.func fn first cap) w:=fun _ _ _ _=>rfl
 clear hw1;go_enter Tryz.func64,Tryz.ntmps64;go_wp2_with fail;rw[<-HW1.out];clear hmm
 go_cut [3,4,5] (fun v3 v4 v5 wx=>∃bn ba bb,v3= pX bn 0/\v4= pX ba 0/\v5= pX bb 0/\Hid (Bx wx bn [.slice Q m d] 23)/\Hid (Bx wx ba [.slice A1 n1 a1, .slice A2 n2 a2] 25)/\Hid (Bx wx bb [.slice B1 m1 b1, .slice B2 m2 b2] 25)/\Hid (Kp w1 wx))
 case first=>
  have HSS:Hid (∀V,Kp w1 V->V.cell? ⟨w.heap.size,2,none⟩=some (.slice Q m d)/\V.cell? ⟨w.heap.size,3,none⟩=some (.slice A1 n1 a1)/\V.cell? ⟨w.heap.size,4,none⟩=some (.slice A2 n2 a2)/\V.cell? ⟨w.heap.size,5,none⟩=some (.slice B1 m1 b1)/\V.cell? ⟨w.heap.size,6,none⟩=some (.slice B2 m2 b2)):=fun V kV=>⟨(BJ.out.kp kV).cell (j:=2) rfl,(BJ.out.kp kV).cell (j:=3) rfl,(BJ.out.kp kV).cell (j:=4) rfl,(BJ.out.kp kV).cell (j:=5) rfl,(BJ.out.kp kV).cell (j:=6) rfl⟩
  refine aa8 (S:=fun V=>V.cell? ⟨w.heap.size,2,none⟩=some (.slice Q m d)/\V.cell? ⟨w.heap.size,3,none⟩=some (.slice A1 n1 a1)/\V.cell? ⟨w.heap.size,4,none⟩=some (.slice A2 n2 a2)/\V.cell? ⟨w.heap.size,5,none⟩=some (.slice B1 m1 b1)/\V.cell? ⟨w.heap.size,6,none⟩=some (.slice B2 m2 b2)) kM (HSS.out _ (aa3 (Kp.refl _))) (fun qJ=>?_);have X0:Hid (Kp w1 w1.drew):=aa3 (Kp.refl _);generalize w1.drew=V0 at X0 qJ⊢;refine tK 0 (pX w.heap.size 0) rfl qJ<|tK 1 (pX w.heap.size 2) rfl qJ<|tK 2 (.slice Q m d) rfl qJ<|tK 3 (pX w.heap.size 3) rfl qJ<|tK 4 (.agg #[.slice A1 n1 a1, .slice A2 n2 a2]) rfl qJ<|tK 5 (pX w.heap.size 5) rfl qJ<|tK 6 (.agg #[.slice B1 m1 b1, .slice B2 m2 b2]) rfl qJ ?_;refine al3 (i:=7) (j:=8) (k:=9) (d:=3) (e:=4) (f:=5) (t:=23) (u:=25) (v:=25) (z:=[.slice none 0 0]) (y:=[.slice none 0 0, .slice none 0 0]) (x:=[.slice none 0 0, .slice none 0 0]) ⟨_,rfl,rfl,rfl,fun A V=>by go_simp⟩ ⟨_,rfl,rfl,rfl,fun A V=>by go_simp⟩ ⟨_,rfl,rfl,rfl,fun A V=>by go_simp⟩ dG dG kM kM kM kM kM kM kM (fun V kV=>HSS.out V (X0.out.tr kV)) ?_;intro V3 bn ba bb kV y7 y8 y9 g7 g8 g9 n78 n79 n89;have X3:=lH (X0.out.tr kV);have hW:Hid (w1.heap.size<=V0.heap.size):=X0.out.size;have Y7:=lH y7;have Y8:=lH y8;have Y9:=lH y9;have G7:Hid (w1.heap.size<=bn):=ab3 hW.out g7;have G8:Hid (w1.heap.size<=ba):=ab3 hW.out g8;have G9:Hid (w1.heap.size<=bb):=ab3 hW.out g9;have N78:=lH n78;have N79:=lH n79;have N89:=lH n89;have qJ:=HSS.out _ X3.out;simp only[Act.put,List.setIfInBounds_toArray,List.set_cons_zero,List.set_cons_succ];clear kV y7 y8 y9 g7 g8 g9 n78 n79 n89 hW;have u0:=Y7.out.cell (j:=0) rfl;have f0:=Y7.out.frz 0;refine rD 10 rfl fun _ hK=>?_
  go_simp;have X4:Hid (Kp w1 (V3.setCell ⟨bn,0,none⟩ (.slice Q m d))):=(X3.out.setCell (p:=⟨bn,0,none⟩) G7.out (.slice Q m d))
  replace Y7:Hid (Bx (V3.setCell ⟨bn,0,none⟩ (.slice Q m d)) bn [.slice Q m d] 23):=(Y7.out.set 0 (.slice Q m d))
  replace Y8:=lH ((Y8.out.other (p:=⟨bn,0,none⟩) (fun e=>N78.out e.symm) (.slice Q m d)));replace Y9:=lH ((Y9.out.other (p:=⟨bn,0,none⟩) (fun e=>N79.out e.symm) (.slice Q m d)));refine hK.out _ _ (HSS.out _ X4.out) fun qJ=>?_
  clear hK X3 u0 f0;generalize (V3.setCell ⟨bn,0,none⟩ (.slice Q m d))=V4 at X4 Y7 Y8 Y9 qJ⊢;have u0:=Y8.out.cell (j:=0) rfl;have f0:=Y8.out.frz 0;have u1:=Y8.out.cell (j:=1) rfl;have f1:=Y8.out.frz 1;refine rD 11 rfl fun _ hK=>?_
  go_simp;have X5:Hid (Kp w1 ((V4.setCell ⟨ba,0,none⟩ (.slice A1 n1 a1)).setCell ⟨ba,1,none⟩ (.slice A2 n2 a2))):=((X4.out.setCell (p:=⟨ba,0,none⟩) G8.out (.slice A1 n1 a1)).setCell (p:=⟨ba,1,none⟩) G8.out (.slice A2 n2 a2))
  replace Y8:Hid (Bx ((V4.setCell ⟨ba,0,none⟩ (.slice A1 n1 a1)).setCell ⟨ba,1,none⟩ (.slice A2 n2 a2)) ba [.slice A1 n1 a1, .slice A2 n2 a2] 25):=((Y8.out.set 0 (.slice A1 n1 a1)).set 1 (.slice A2 n2 a2))
  replace Y7:=lH (((Y7.out.other (p:=⟨ba,0,none⟩) N78.out (.slice A1 n1 a1)).other (p:=⟨ba,1,none⟩) N78.out (.slice A2 n2 a2)));replace Y9:=lH (((Y9.out.other (p:=⟨ba,0,none⟩) (fun e=>N89.out e.symm) (.slice A1 n1 a1)).other (p:=⟨ba,1,none⟩) (fun e=>N89.out e.symm) (.slice A2 n2 a2)));refine hK.out _ _ (HSS.out _ X5.out) fun qJ=>?_
  clear hK X4 u0 f0 u1 f1;generalize ((V4.setCell ⟨ba,0,none⟩ (.slice A1 n1 a1)).setCell ⟨ba,1,none⟩ (.slice A2 n2 a2))=V5 at X5 Y7 Y8 Y9 qJ⊢;have u0:=Y9.out.cell (j:=0) rfl;have f0:=Y9.out.frz 0;have u1:=Y9.out.cell (j:=1) rfl;have f1:=Y9.out.frz 1;refine rD 12 rfl fun _ hK=>?_
  go_simp;have X6:Hid (Kp w1 ((V5.setCell ⟨bb,0,none⟩ (.slice B1 m1 b1)).setCell ⟨bb,1,none⟩ (.slice B2 m2 b2))):=((X5.out.setCell (p:=⟨bb,0,none⟩) G9.out (.slice B1 m1 b1)).setCell (p:=⟨bb,1,none⟩) G9.out (.slice B2 m2 b2))
  replace Y9:Hid (Bx ((V5.setCell ⟨bb,0,none⟩ (.slice B1 m1 b1)).setCell ⟨bb,1,none⟩ (.slice B2 m2 b2)) bb [.slice B1 m1 b1, .slice B2 m2 b2] 25):=((Y9.out.set 0 (.slice B1 m1 b1)).set 1 (.slice B2 m2 b2))
  replace Y7:=lH (((Y7.out.other (p:=⟨bb,0,none⟩) N79.out (.slice B1 m1 b1)).other (p:=⟨bb,1,none⟩) N79.out (.slice B2 m2 b2)));replace Y8:=lH (((Y8.out.other (p:=⟨bb,0,none⟩) N89.out (.slice B1 m1 b1)).other (p:=⟨bb,1,none⟩) N89.out (.slice B2 m2 b2)));refine hK.out _ _ (HSS.out _ X6.out) fun qJ=>?_
  clear hK X5 u0 f0 u1 f1;generalize ((V5.setCell ⟨bb,0,none⟩ (.slice B1 m1 b1)).setCell ⟨bb,1,none⟩ (.slice B2 m2 b2))=V6 at X6 Y7 Y8 Y9 qJ⊢;refine abp kM ?_ _;clear qJ HSS;go_wp2;go_meet;exact⟨bn,ba,bb,rfl,rfl,rfl,Y7,Y8,Y9,X6⟩
 case rest=>
 obtain⟨bn,ba,bb,rfl,rfl,rfl,Y7,Y8,Y9,XC⟩:=hcut;have hmm:= @run_makeMap Tryz.prog;have h0:=Md.new wc;go_wp2_with (first
  |(refine aQ (L:=(ruW w.heap.size bn ba bb).take 0) rfl _ _ _ rfl 1 _ rfl rfl rfl h0 rfl ?_;intro Wy h1 b1)
  |(refine aQ (L:=(ruW w.heap.size bn ba bb).take 1) rfl _ _ _ rfl 2 _ rfl rfl rfl h1 rfl ?_;intro Wx h2 b2)
  |(refine aQ (L:=(ruW w.heap.size bn ba bb).take 2) rfl _ _ _ rfl 3 _ rfl rfl rfl h2 rfl ?_;intro Ww h3 b3)
  |(refine aQ (L:=(ruW w.heap.size bn ba bb).take 3) rfl _ _ _ rfl 10 _ rfl rfl rfl h3 rfl ?_;intro Wv h4 b4)
  |(refine aQ (L:=(ruW w.heap.size bn ba bb).take 4) rfl _ _ _ rfl 11 _ rfl rfl rfl h4 rfl ?_;intro Wu h5 b5)
  |(refine aQ (L:=(ruW w.heap.size bn ba bb).take 5) rfl _ _ _ rfl 12 _ rfl rfl rfl h5 rfl ?_;intro Wt h6 b6)
  |(refine aQ (L:=(ruW w.heap.size bn ba bb).take 6) rfl _ _ _ rfl 13 _ rfl rfl rfl h6 rfl ?_;intro Ws h7 b7)
  |(refine aQ (L:=(ruW w.heap.size bn ba bb).take 7) rfl _ _ _ rfl 20 _ rfl rfl rfl h7 rfl ?_;intro Wr h8 b8)
  |(refine aQ (L:=(ruW w.heap.size bn ba bb).take 8) rfl _ _ _ rfl 21 _ rfl rfl rfl h8 rfl ?_;intro Wq h9 b9)
  |(refine aQ (L:=(ruW w.heap.size bn ba bb).take 9) rfl _ _ _ rfl 22 _ rfl rfl rfl h9 rfl ?_;intro Wp h10 b10)
  |(refine aQ (L:=(ruW w.heap.size bn ba bb).take 10) rfl _ _ _ rfl 23 _ rfl rfl rfl h10 rfl ?_;intro Wo h11 b11)
  |(refine aQ (L:=(ruW w.heap.size bn ba bb).take 11) rfl _ _ _ rfl 30 _ rfl rfl rfl h11 rfl ?_;intro Wn h12 b12)
  |(refine aQ (L:=(ruW w.heap.size bn ba bb).take 12) rfl _ _ _ rfl 40 _ rfl rfl rfl h12 rfl ?_;intro Wm h13 b13)
  |(refine aQ (L:=(ruW w.heap.size bn ba bb).take 13) rfl _ _ _ rfl 41 _ rfl rfl rfl h13 rfl ?_;intro Wl h14 b14)
  |(refine aQ (L:=(ruW w.heap.size bn ba bb).take 14) rfl _ _ _ rfl 42 _ rfl rfl rfl h14 rfl ?_;intro Wk h15 b15)
  |(refine aQ (L:=(ruW w.heap.size bn ba bb).take 15) rfl _ _ _ rfl 43 _ rfl rfl rfl h15 rfl ?_;intro Wj h16 b16)
  |(refine aQ (L:=(ruW w.heap.size bn ba bb).take 16) rfl _ _ _ rfl 50 _ rfl rfl rfl h16 rfl ?_;intro Wi h17 b17)
  |(refine aQ (L:=(ruW w.heap.size bn ba bb).take 17) rfl _ _ _ rfl 51 _ rfl rfl rfl h17 rfl ?_;intro Wh h18 b18)
  |(refine aQ (L:=(ruW w.heap.size bn ba bb).take 18) rfl _ _ _ rfl 52 _ rfl rfl rfl h18 rfl ?_;intro UD h19 b19))
 go_ret;have n0:wc.heap.size<=wc.heap.size:=aaZ _;have kk:=Below.alloc (abu wc.heap.size wc) (aaZ _) (.map #[] 0);have ka:=((((((((((((((((((kk.trans (b1 _ n0)).trans (b2 _ n0)).trans (b3 _ n0)).trans (b4 _ n0)).trans (b5 _ n0)).trans (b6 _ n0)).trans (b7 _ n0)).trans (b8 _ n0)).trans (b9 _ n0)).trans (b10 _ n0)).trans (b11 _ n0)).trans (b12 _ n0)).trans (b13 _ n0)).trans (b14 _ n0)).trans (b15 _ n0)).trans (b16 _ n0)).trans (b17 _ n0)).trans (b18 _ n0)).trans (b19 _ n0);have kb:Kp wc UD:=ka;exact⟨_,bn,ba,bb,rfl,h19,(K1.out.tr XC.out).tr kb,(BJ.out.kp XC.out).kp kb,Y7.out.kp kb,Y8.out.kp kb,Y9.out.kp kb⟩
open RowKit ShM GrM InM ImM cF EvM Gz
open RowKit ShM GrM InM ImM cF EvM Gz
theorem NJ{W:World}{bj bn ba bb:Nat}{op:Int}{Q A1 A2 B1 B2 I1 I2 R S:DV}{d a1 a2 b1 b2 i1 i2 rc sc:Nat}{nums:BU}{a b inp:T}{ps:List T}{s:BU}
  (H:Ej W bj bn ba bb op Q A1 A2 B1 B2 I1 I2 R S d a1 a2 b1 b2 i1 i2 rc sc nums a b inp ps s)(h0:0<=ak op)(hn:aM (op,[],nums)=true):
  ∃f L,atM (ruE (pX bj 0) (pX bn 0) (pX ba 0) (pX bb 0)) op=some (.func (.func f) #[] L)/\(∀args W,(callFunc f args).run Tryz.prog W= .ok (.enter f args) W)/\CJ f L W (bH (aV op nums a b s inp ps) W):=by
 rcases Iz.pR h0 with rfl|rfl|rfl|rfl|rfl|rfl|rfl|rfl|rfl|rfl|rfl|rfl|rfl|rfl|rfl|rfl|rfl|rfl|rfl
 ·have e0:aV 1 nums a b s inp ps=bL inp s:=by simp[aV,dY]
  rw[e0];exact⟨84,#[pX bj 0],rfl,fun args W=>MuLone.run_callFunc_enter Tryz.func84 kM rfl args W,Lj H⟩
 ·have e0:aV 2 nums a b s inp ps=bL (xX ps (nums.getD 0 0)) s:=by simp[aV,dY]
  have h1:1<=nums.length:=by
   obtain⟨p,s,rfl,_⟩:=vO hn;simp
  have h2:0<=nums.getD 0 0:=by
   obtain⟨p,s,rfl,hp,_⟩:=vO hn;simpa using hp
  rw[e0];exact⟨86,#[pX bj 0, pX bn 0],rfl,fun args W=>MuLone.run_callFunc_enter Tryz.func86 kM rfl args W,N4 H h1 h2⟩
 ·have e0:aV 3 nums a b s inp ps=tnE (dm [] (nums.getD 0 0)):=by simp[aV,dY]
  rw[e0];exact⟨88,#[pX bn 0],rfl,fun args W=>MuLone.run_callFunc_enter Tryz.func88 kM rfl args W,Pk H (by simpa [aM]using hn)⟩
 ·have e0:aV 10 nums a b s inp ps=tnE (bg 10 a.1 a.2 b.1 b.2):=by simp[aV,dY]
  rw[e0];exact⟨82,#[pX bj 0, pX ba 0, pX bb 0],rfl,fun args W=>MuLone.run_callFunc_enter Tryz.func82 kM rfl args W,D7 H⟩
 ·have e0:aV 11 nums a b s inp ps=tnE (bg 11 a.1 a.2 b.1 b.2):=by simp[aV,dY]
  rw[e0];exact⟨82,#[pX bj 0, pX ba 0, pX bb 0],rfl,fun args W=>MuLone.run_callFunc_enter Tryz.func82 kM rfl args W,D7 H⟩
 ·have e0:aV 12 nums a b s inp ps=tnE (bg 12 a.1 a.2 b.1 b.2):=by simp[aV,dY]
  rw[e0];exact⟨82,#[pX bj 0, pX ba 0, pX bb 0],rfl,fun args W=>MuLone.run_callFunc_enter Tryz.func82 kM rfl args W,D7 H⟩
 ·have e0:aV 13 nums a b s inp ps=tnE (bg 13 a.1 a.2 b.1 b.2):=by simp[aV,dY]
  rw[e0];exact⟨82,#[pX bj 0, pX ba 0, pX bb 0],rfl,fun args W=>MuLone.run_callFunc_enter Tryz.func82 kM rfl args W,D7 H⟩
 ·have e0:aV 20 nums a b s inp ps=tnE (dS 20 a.1 a.2):=by simp[aV,dY]
  rw[e0];exact⟨79,#[pX bj 0, pX ba 0],rfl,fun args W=>MuLone.run_callFunc_enter Tryz.func79 kM rfl args W,FE H⟩
 ·have e0:aV 21 nums a b s inp ps=tnE (dS 21 a.1 a.2):=by simp[aV,dY]
  rw[e0];exact⟨79,#[pX bj 0, pX ba 0],rfl,fun args W=>MuLone.run_callFunc_enter Tryz.func79 kM rfl args W,FE H⟩
 ·have e0:aV 22 nums a b s inp ps=tnE (dS 22 a.1 a.2):=by simp[aV,dY]
  rw[e0];exact⟨79,#[pX bj 0, pX ba 0],rfl,fun args W=>MuLone.run_callFunc_enter Tryz.func79 kM rfl args W,FE H⟩
 ·have e0:aV 23 nums a b s inp ps=tnE (dS 23 a.1 a.2):=by simp[aV,dY]
  rw[e0];exact⟨79,#[pX bj 0, pX ba 0],rfl,fun args W=>MuLone.run_callFunc_enter Tryz.func79 kM rfl args W,FE H⟩
 ·have e0:aV 30 nums a b s inp ps=tnE (gu a.1 a.2 b.1 b.2):=by simp[aV,dY]
  rw[e0];exact⟨89,#[pX ba 0, pX bb 0],rfl,fun args W=>MuLone.run_callFunc_enter Tryz.func89 kM rfl args W,Rq H⟩
 ·have e0:aV 40 nums a b s inp ps=tnE (aJ a.1 a.2 nums):=by simp[aV,dY]
  rw[e0];exact⟨91,#[pX ba 0, pX bn 0],rfl,fun args W=>MuLone.run_callFunc_enter Tryz.func91 kM rfl args W,Pn H⟩
 ·have e0:aV 41 nums a b s inp ps=tnE (bF a.1 a.2):=by simp[aV,dY]
  rw[e0];exact⟨93,#[pX ba 0],rfl,fun args W=>MuLone.run_callFunc_enter Tryz.func93 kM rfl args W,Nh H⟩
 ·have e0:aV 42 nums a b s inp ps=tnE (aS a.1 a.2 (nums.getD 0 0) (nums.getD 1 0) (nums.getD 2 0)):=by simp[aV,dY]
  rw[e0];exact⟨95,#[pX ba 0, pX bn 0],rfl,fun args W=>MuLone.run_callFunc_enter Tryz.func95 kM rfl args W,N0 H (by simpa [aM]using hn)⟩
 ·have e0:aV 43 nums a b s inp ps=tnE (eE a.1 a.2 b.1 b.2 (nums.getD 0 0)):=by simp[aV,dY]
  rw[e0];exact⟨97,#[pX ba 0, pX bb 0, pX bn 0],rfl,fun args W=>MuLone.run_callFunc_enter Tryz.func97 kM rfl args W,Pj H (by simpa [aM]using hn)⟩
 ·have e0:aV 50 nums a b s inp ps=tnE (iM a.1 a.2 (nums.getD 0 0)):=by simp[aV,dY]
  rw[e0];exact⟨99,#[pX ba 0, pX bn 0],rfl,fun args W=>MuLone.run_callFunc_enter Tryz.func99 kM rfl args W,QX H (by simpa [aM]using hn)⟩
 ·have e0:aV 51 nums a b s inp ps=tnE (fK a.1 a.2 (nums.getD 0 0)):=by simp[aV,dY]
  rw[e0];exact⟨101,#[pX ba 0, pX bn 0],rfl,fun args W=>MuLone.run_callFunc_enter Tryz.func101 kM rfl args W,Ow H (by simpa [aM]using hn)⟩
 ·have e0:aV 52 nums a b s inp ps=tnE (uE a.1 a.2 (nums.getD 0 0)):=by simp[aV,dY]
  rw[e0];exact⟨103,#[pX ba 0, pX bn 0],rfl,fun args W=>MuLone.run_callFunc_enter Tryz.func103 kM rfl args W,Rp H (by simpa [aM]using hn)⟩
