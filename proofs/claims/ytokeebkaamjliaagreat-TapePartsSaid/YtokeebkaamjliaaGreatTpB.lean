/- The landed tape: a node back. -/
import Derived.Test.YtokeebkaamjliaaGreatTpV
import Derived.Test.YtokeebkaamjliaaGreatVjY
set_option maxHeartbeats 16000000
set_option maxRecDepth 100000
set_option linter.unusedVariables false
set_option linter.unusedSimpArgs false
namespace Go.Proofs.YtokeebkaamjliaaGreat.Ez
open RowKit ShM GrM InM ImM EvM
def Jy(B b:Nat)(t:Tpe)(d:(List T×List T)×Int)(W:World)(e:Ending)(w':World):Prop:=e= .returned (.int .i64 d.2)/\(∃hg gr,Hid (Rx B b w' {t with hang:=hg,fD:=gr})/\Hid (d.2=0->hg=d.1.1/\gr=d.1.2))/\Hid (Below B W w')
section
variable{B b:Nat}{W:World}{G:Value}{P:DV}{e:Nat}{Q:DV}{f:Nat}{R V H D:Value}{t:Tpe}
theorem XH{l:List Nd}{vals:List T}{inp:T}{ps:List T}{i:Nat}{n:Nd}(G:Gv l vals inp ps)(hn:l[i]?=some n):xh (cq vals n.2.1)/\n.2.1.length<=2:=by
 obtain⟨a1,a2,a3⟩:=WL G.ck hn;have h2:=gT n.1;have hil:=(aaU.1 hn).1;refine⟨⟨by unfold cq;rw[abA];omega,fun t ht=>?_⟩,oM⟩;unfold cq at ht;obtain⟨a,ha,rfl⟩:=abN.1 ht;have h3:=a3 a ha;refine G.few _ ?_;rw[aaS,aaV (by rw[G.len];omega)];exact List.getElem_mem _
theorem aat(h:Rl B b W G P e Q f R V H D t)(i:Nat)(GV:Gv t.l t.vals t.inp t.ps)(sm:dV t.l)(hil:i<t.l.length)(HI:EvM.Hi t.l.length t.hang)(HG:EvM.Hi 8 t.fD)(hp:(t.hang.getD i eT).2.length≠0)(n:Nd)(hn:t.l[i]?=some n):
 CJ 38 #[pX b 0, .int .i64 (i:Int)] W (Jy B b t (dD n t.vals t.hang t.fD i) W):=by
 obtain⟨A,c,R',d,V',vc,H',hc,D',dc,rfl,rfl,rfl,rfl,rfl⟩:=h.open_;obtain⟨A0,c0,e0,hg,_,_⟩:=h.ts.g.form;injection e0 with e0 _ e1
 subst e0 e1;obtain⟨ad,n',P1,n1,Q1,m1,rfl,hlt,hn',g0,g1,g2,hN,hcP,hcQ⟩:=hg.at_ hil;rw[hn]at hn';injection hn' with hn'
 subst hn';obtain⟨gh,rfl⟩:=h.ts.h.adr (by rw[HI.len];omega);have hih:i<t.hang.length:=by rw[HI.len];exact hil
 obtain⟨⟨PT,cT,QT,dT,y0,y1,hT,_⟩,_⟩:=h.ts.h.at_ (k:=i) hih;obtain⟨u,hu⟩:=eX (t.hang.getD i eT);rw[<-hu]at y0 y1 hT hp;have htk:bO u=true/\N64 u.2:=by rw[hu];exact XU (HI.tq i) (by rw[<-hu];exact hp)
 obtain⟨gv,rfl⟩:=h.ts.v.adr (by rw[GV.len];omega);obtain⟨gd,rfl⟩:=h.ts.d.adr (by rw[HG.len];omega);obtain⟨r,hr⟩:=eX (dD n t.vals t.hang t.fD i);have HR:=lH hr;rw[<-hr];have x0:=h.bx.cell (j:=0) rfl;have x7:=h.bx.cell (j:=7) rfl;have hll:=sm.1;have HH:=lH h;have HGV:=lH GV;have HHI:=lH HI;have HHG:=lH HG;have HNN:=lH hn;have HU:=lH hu;have HTK:=lH htk;have HSM:=lH sm;have HNR:=lH hN;have HNL:=lH hcP;have HNM:=lH hcQ;have HTT:=lH hT;have HIL:=lH hil;have HB:Hid (B<=W.heap.size):=by have h1:=h.bx.lt;have h2:=h.lb;show _<=_;omega
 have HSS:Hid (∀U,Kp W U->U.cell? ⟨b,0,none⟩=some (.slice (some ad) t.l.length c)/\U.cell? ⟨b,7,none⟩=some (.slice (some ⟨gh,0,none⟩) t.hang.length hc)/\U.cell? (ad.add (i*3))=some (.int .i64 n.1)/\U.cell? ⟨(ad.add (i*3)).block,(ad.add (i*3)).off+1,none⟩=some (.slice P1 n.2.1.length n1)/\U.cell? ⟨(ad.add (i*3)).block,(ad.add (i*3)).off+2,none⟩=some (.slice Q1 n.2.2.length m1)/\U.cell? ⟨gh,i*2,none⟩=some (.slice PT u.1.length cT)/\U.cell? ⟨gh,i*2+1,none⟩=some (.slice QT u.2.length dT)):=fun U kU=>⟨Iz.ay x0 kU,Iz.ay x7 kU,Iz.ay g0 kU,Iz.ay g1 kU,Iz.ay g2 kU,Iz.ay y0 kU,Iz.ay y1 kU⟩
 have hi1:(i:Int)<(t.l.length:Int):=by omega
 have hi2:(i:Int)<(t.hang.length:Int):=by omega
 clear hr hll h GV HI HG hn hu htk sm hN hcP hcQ hT hil hih hp hg hlt x0 x7 g0 g1 g2 y0 y1;go_enter Tryz.func38,Tryz.ntmps38;go_wp2_with fail;refine aa8 (S:=fun U=>U.cell? ⟨b,0,none⟩=some (.slice (some ad) t.l.length c)/\U.cell? ⟨b,7,none⟩=some (.slice (some ⟨gh,0,none⟩) t.hang.length hc)/\U.cell? (ad.add (i*3))=some (.int .i64 n.1)/\U.cell? ⟨(ad.add (i*3)).block,(ad.add (i*3)).off+1,none⟩=some (.slice P1 n.2.1.length n1)/\U.cell? ⟨(ad.add (i*3)).block,(ad.add (i*3)).off+2,none⟩=some (.slice Q1 n.2.2.length m1)/\U.cell? ⟨gh,i*2,none⟩=some (.slice PT u.1.length cT)/\U.cell? ⟨gh,i*2+1,none⟩=some (.slice QT u.2.length dT)) kM (HSS.out _ (aa3 (Kp.refl _))) (fun qJ=>?_);have X0:Hid (Kp W W.drew):=aa3 (Kp.refl _);generalize W.drew=V0 at X0 qJ⊢;refine tK 0 (pX b 0) rfl qJ ?_;refine tK 1 (pX b 0) rfl qJ ?_;refine tK 2 (pX b 0) rfl qJ ?_;refine tK 3 (pX b 0) rfl qJ ?_;refine tK 4 (.slice (some ad) t.l.length c) rfl qJ ?_;refine tK 5 (.int .i64 (i:Int)) rfl qJ ?_;refine tK 6 (.pointer (some (ad.add (i*3)))) rfl qJ ?_;refine tK 7 (.agg #[.int .i64 n.1, .slice P1 n.2.1.length n1, .slice Q1 n.2.2.length m1]) rfl qJ ?_;refine tK 8 (pX b 0) rfl qJ ?_;refine tK 9 (pX b 0) rfl qJ ?_;refine tK 10 (pX b 0) rfl qJ ?_;refine tK 11 (pX b 7) rfl qJ ?_;refine tK 12 (.slice (some ⟨gh,0,none⟩) t.hang.length hc) rfl qJ ?_;refine tK 13 (.int .i64 (i:Int)) rfl qJ ?_;refine tK 14 (pX gh (i*2)) rfl qJ ?_;refine tK 15 (.agg #[.slice PT u.1.length cT, .slice QT u.2.length dT]) rfl qJ ?_;refine al2 (i:=16) (j:=17) (d:=5) (e:=6) (t:=39) (u:=25) (z:=[.int .i64 0, .slice none 0 0, .slice none 0 0]) (y:=[.slice none 0 0, .slice none 0 0]) ⟨_,rfl,rfl,rfl,fun A V=>by go_simp⟩ ⟨_,rfl,rfl,rfl,fun A V=>by go_simp⟩ dG dG kM kM kM (fun V kV=>HSS.out V (X0.out.tr kV)) ?_;intro V1 bn bg k1 BN BG ln lg nbg;have X1:Hid (Kp W V1):=X0.out.tr k1;have LN:Hid (W.heap.size<=bn):=ab3 X0.out.size ln;have LG:Hid (W.heap.size<=bg):=ab3 X0.out.size lg;have HNE:Hid (bn≠bg):=nbg;replace qJ:=HSS.out _ X1.out;have o0:=BN.cell (j:=0) rfl;have o1:=BN.cell (j:=1) rfl;have o2:=BN.cell (j:=2) rfl;have f0:=BN.frz 0;have f1:=BN.frz 1;have f2:=BN.frz 2;obtain⟨V2,hV2⟩:=eX (((V1.setCell ⟨bn,0,none⟩ (.int .i64 n.1)).setCell ⟨bn,1,none⟩ (.slice P1 n.2.1.length n1)).setCell ⟨bn,2,none⟩ (.slice Q1 n.2.2.length m1));have X2:Hid (Kp W V2):=by show Kp _ _;rw[hV2];exact((X1.out.setCell (p:=⟨bn,0,none⟩) LN.out _).setCell (p:=⟨bn,1,none⟩) LN.out _).setCell (p:=⟨bn,2,none⟩) LN.out _
 have BM:Hid (Nb V2 bn n.1 P1 n.2.1.length n1 Q1 n.2.2.length m1):=by show Nb _ _ _ _ _ _ _ _ _;rw[hV2];exact((BN.set 0 (.int .i64 n.1)).set 1 (.slice P1 n.2.1.length n1)).set 2 (.slice Q1 n.2.2.length m1)
 have BG2:Hid (Bk V2 bg none 0 0 none 0 0):=by show Bk _ _ _ _ _ _ _ _;rw[hV2];exact((BG.other (p:=⟨bn,0,none⟩) (fun e=>nbg e.symm) _).other (p:=⟨bn,1,none⟩) (fun e=>nbg e.symm) _).other (p:=⟨bn,2,none⟩) (fun e=>nbg e.symm) _
 refine rD 18 rfl fun _ hK=>?_
 go_simp;rw[<-hV2];refine hK.out _ _ (HSS.out _ X2.out) fun qJ=>?_
 clear hK o0 o1 o2 f0 f1 f2 BN BG X1 hV2 k1;have o0:=BG2.out.c0;have o1:=BG2.out.c1;have f0:=BG2.out.f0 0;have f1:=BG2.out.f0 1;have X3:Hid (Kp W ((V2.setCell ⟨bg,0,none⟩ (.slice PT u.1.length cT)).setCell ⟨bg,1,none⟩ (.slice QT u.2.length dT))):=(X2.out.setCell (p:=⟨bg,0,none⟩) LG.out _).setCell (p:=⟨bg,1,none⟩) LG.out _;have BH:Hid (Bk ((V2.setCell ⟨bg,0,none⟩ (.slice PT u.1.length cT)).setCell ⟨bg,1,none⟩ (.slice QT u.2.length dT)) bg PT u.1.length cT QT u.2.length dT):=BG2.out.put;have BM3:Hid (Nb ((V2.setCell ⟨bg,0,none⟩ (.slice PT u.1.length cT)).setCell ⟨bg,1,none⟩ (.slice QT u.2.length dT)) bn n.1 P1 n.2.1.length n1 Q1 n.2.2.length m1):=((show Bx V2 bn _ _ from BM.out).other (p:=⟨bg,0,none⟩) nbg _).other (p:=⟨bg,1,none⟩) nbg _;refine rD 19 rfl fun _ hK=>?_
 go_simp;refine hK.out _ _ (HSS.out _ X3.out) fun qJ=>?_
 clear hK o0 o1 f0 f1 BG2 BM X2;refine abp kM ?_ _;generalize (V2.setCell ⟨bg,0,none⟩ (.slice PT u.1.length cT)).setCell ⟨bg,1,none⟩ (.slice QT u.2.length dT)=w1 at X3 BH BM3 qJ⊢;clear qJ;go_simp;have hb0:=BM3.out.c0;by_cases h2:n.1=2
 · have VN:=lH h2
   rw[h2]at hb0;go_wp2_with fail;obtain⟨hn0,hpm⟩:=Oa HGV.out.ck HNN.out h2;have HN0:=lH hn0;have hp7:=((kx HGV.out.ck).1 hpm).1;obtain⟨p,hpe⟩:∃p:Nat,n.2.2.getD 0 0=(p:Int):=⟨(n.2.2.getD 0 0).toNat,oM⟩
   obtain⟨qd,hq1,Yp,hcq,hpos⟩:=yU HNR.out.rn hn0;subst hq1;rw[hpe]at hcq;have hpg:p<t.fD.length:=by rw[HHG.out.len];omega
   have hpd:(p:Int)<(t.fD.length:Int):=by omega
   have hm0:(0:Int)<(n.2.2.length:Int):=by omega
   obtain⟨Rr,hRr⟩:=eX (iS (t.fD.getD p eT) u);have hv:r=if Rr.2=0 then((t.hang,t.fD.set p Rr.1),0)else(([],[]),Rr.2):=by
    rw[HR.out,Xp h2];unfold EvM.Kq;rw[hpe,aa2,<-HU.out,<-hRr]
   have HV:=lH hv;have NX:∀V,Kp W V->∀j,V.heap.size<=j->Xb B b j:=fun V kV j hj=>by have h1:=HH.out.bx.lt;have h2:=HH.out.lb;have h3:=kV.size;exact⟨oM,oM⟩
   have HCA:Hid (∀V,Kp W V->CJ 66 #[pX gd (p*2), .agg #[.slice PT u.1.length cT, .slice QT u.2.length dT]] V (Yi B (Xb B b) gd t.fD.length dc t.fD p Rr V)):=fun V kV=>Yd (HH.out.kp kV).ts.d hpg (NX V kV) PT QT cT dT u (HTT.out.kp kV) HTK.out (HHG.out.tq p) Rr hRr.symm
   have HNB:Hid (gd≠b/\B<=gd/\gd<W.heap.size):=⟨fun e=>HH.out.nb (.slice (some ⟨gd,0,none⟩) t.fD.length dc) sC (by rw[e];rfl),HH.out.ts.d.lt (k:=gd) rfl⟩
   have z8:=lH (HH.out.bx.cell (j:=8) rfl);have zq:=lH hcq;have HS3:Hid (∀U,Kp w1 U->U.cell? ⟨b,8,none⟩=some (.slice (some ⟨gd,0,none⟩) t.fD.length dc)/\U.cell? ⟨bn,2,none⟩=some (.slice (some qd) n.2.2.length m1)/\U.cell? qd=some (.int .i64 (p:Int))/\U.cell? ⟨bg,0,none⟩=some (.slice PT u.1.length cT)/\U.cell? ⟨bg,1,none⟩=some (.slice QT u.2.length dT)):=fun U kU=>⟨Iz.ay (Iz.ay z8.out X3.out) kU,(BM3.out.kp kU).c2,Iz.ay (Iz.ay zq.out X3.out) kU,(BH.out.kp kU).c0,(BH.out.kp kU).c1⟩
   have HSA:Hid (∀V U,Kp w1 V->Kq (fun j=>j=gd) (fun _=>False) V U->U.cell? ⟨b,8,none⟩=some (.slice (some ⟨gd,0,none⟩) t.fD.length dc)/\U.cell? ⟨bn,2,none⟩=some (.slice (some qd) n.2.2.length m1)/\U.cell? qd=some (.int .i64 (p:Int))/\U.cell? ⟨bg,0,none⟩=some (.slice PT u.1.length cT)/\U.cell? ⟨bg,1,none⟩=some (.slice QT u.2.length dT)):=fun V U kV kU=>by
    obtain⟨s1,s2,s3,s4,s5⟩:=HS3.out V kV;have n1:=HNB.out;have n2:=LN.out;have n3:=LG.out;have hb:∀{x:Nat} {y:Value} {bb:Nat},bb≠gd->V.cell? ⟨bb,x,none⟩=some y->U.cell? ⟨bb,x,none⟩=some y:=fun {x y bb} hne hc=>(World.cell?_of_block (w:=V) (a:=⟨bb,x,none⟩) (kU.block bb (yu hc) hne)).trans hc
    exact⟨hb (fun e=>n1.1 e.symm) s1,hb oM s2,kU.int _ _ (fun h=>h) s3,hb oM s4,hb oM s5⟩
   clear hn0 hpm hp7 hpe Yp hcq hpos hpg hRr hv NX h2 hb0;refine aa8 (S:=fun U=>U.cell? ⟨b,8,none⟩=some (.slice (some ⟨gd,0,none⟩) t.fD.length dc)/\U.cell? ⟨bn,2,none⟩=some (.slice (some qd) n.2.2.length m1)/\U.cell? qd=some (.int .i64 (p:Int))/\U.cell? ⟨bg,0,none⟩=some (.slice PT u.1.length cT)/\U.cell? ⟨bg,1,none⟩=some (.slice QT u.2.length dT)) kM (HS3.out _ (aa3 (Kp.refl _))) (fun qJ=>?_);have Y0:Hid (Kp w1 w1.drew):=aa3 (Kp.refl _);generalize w1.drew=V3 at Y0 qJ⊢;refine tK 0 (pX b 0) rfl qJ ?_;refine tK 1 (pX b 0) rfl qJ ?_;refine tK 2 (pX b 0) rfl qJ ?_;refine tK 3 (pX b 8) rfl qJ ?_;refine tK 4 (.slice (some ⟨gd,0,none⟩) t.fD.length dc) rfl qJ ?_;refine tK 5 (pX bn 2) rfl qJ ?_;refine tK 6 (.slice (some qd) n.2.2.length m1) rfl qJ ?_;refine tK 7 (.pointer (some qd)) rfl qJ (hy:=by intro V hSV;go_simp;intro hh;exact absurd hh HN0.out) ?_;refine tK 8 (.int .i64 (p:Int)) rfl qJ ?_;refine tK 9 (pX gd (p*2)) rfl qJ ?_;refine tK 10 (.agg #[.slice PT u.1.length cT, .slice QT u.2.length dT]) rfl qJ ?_;refine rD 11 rfl fun _ hK=>?_
   go_simp;refine(HCA.out _ (X3.out.tr Y0.out)).mono ?_;rintro e5 w5 ⟨rfl,ra,kq⟩;dsimp only;have hS5:=HSA.out _ _ Y0.out kq.out;refine hK.out _ _ hS5 fun qJ=>?_
   clear hK;refine rD 12 rfl fun _ hK=>?_
   go_simp;refine hK.out _ _ hS5 fun qJ=>?_
   clear hK;refine abp kM ?_ _;go_simp;clear qJ hS5;go_wp2;refine aaX (v:= .int .i64 Rr.2) (by simp[results,Tryz.results38,go_sem];try rfl) rfl ?_;have R5:=((HH.out.kp (X3.out.tr Y0.out)).aap rfl kq.out ra.out)
   have hr2:r.2=Rr.2:=by
    rw[HV.out];by_cases h0:Rr.2=0
    · rw[aaW h0,h0]
    · rw[aaT h0]
   refine⟨by rw[hr2],⟨t.hang,if Rr.2=0 then t.fD.set p Rr.1 else t.fD,⟨_,_,_,_,_,_,_,_,_,R5⟩,fun h0=>?_⟩,kq.out.below (ox (X3.out.tr Y0.out) HB.out) (fun j hj=>by have h4:j=gd:=hj;have:=HNB.out;omega) (by have h1:=(X3.out.tr Y0.out).size;have h3:=HB.out;omega)⟩;rw[hr2]at h0;rw[HV.out,aaW h0,aaW h0];exact⟨rfl,rfl⟩
 · have h2':(n.1==2)=false:=by simpa using h2
   go_wp2_with fail;obtain⟨hsm,hl2⟩:=XH HGV.out HNN.out;obtain⟨hs1,hs2,hs3⟩:=HSM.out.2 n (aa1 HNN.out);obtain⟨_,_,ha3⟩:=WL HGV.out.ck HNN.out;have htf:SmT u:=by rw[HU.out];exact Xw (HHI.out.tq i)
   have hvl:i<t.vals.length:=by rw[HGV.out.len];exact HIL.out
   obtain⟨⟨PO,cO,QO,dO,w0,w1',hO,_⟩,_⟩:=HH.out.ts.v.at_ (k:=i) hvl;obtain⟨o,ho⟩:=eX (t.vals.getD i eT);rw[<-ho]at w0 w1' hO;have hof:SmT o:=HGV.out.few o (by rw[ho,aaS,aaV hvl];exact List.getElem_mem hvl);obtain⟨xs,er,hbk⟩:∃xs er,cU n.1 n.2.2 (cq t.vals n.2.1) o u=(xs,er):=⟨_,_,rfl⟩
   have hbg:bkG n t.vals t.hang i=(xs,er):=by unfold bkG;rw[<-ho,<-HU.out];exact hbk
   have HV:Hid (er≠0->r.2=er):=fun h=>by
    rw[HR.out,Xq h2 (by rw[hbg];exact h),hbg]
   have HV2:Hid (er=0->r=(if(cI n.2.1 xs t.hang).2=0 then(((cI n.2.1 xs t.hang).1,t.fD),0)else(([],[]),(cI n.2.1 xs t.hang).2))/\xs.length=n.2.1.length/\∀b∈xs,bO b=true/\N64 b.2):=fun h=>by
    have hb0:(bkG n t.vals t.hang i).2=0:=by rw[hbg];exact h
    have h9:=Yc HGV.out HNN.out HHI.out hb0;rw[hbg]at h9;exact⟨by rw[HR.out,Xo h2 hb0,hbg],h9⟩
   have hi3:(i:Int)<(t.vals.length:Int):=by omega
   have HA3:Hid (∀a∈n.2.1,0<=a/\a<(i:Int)):=ha3;have HL2:=lH hl2;have HA:Hid (∀V,Kp W V->CJ 36 #[pX b 0, .agg #[.int .i64 n.1, .slice P1 n.2.1.length n1, .slice Q1 n.2.2.length m1]] V (Yf (cq t.vals n.2.1) V)):=fun V kV=>ZC (HH.out.kp kV) P1 Q1 n.1 n.2.1 n.2.1.length n1 n.2.2.length m1 (HNR.out.ra.kp kV) rfl (fun a ha=>by have:=ha3 a ha;omega) oM (by have:=HGV.out.len;have:=HSM.out.1;omega)
   have HC:Hid (∀V A8 c8 ng,Kp W V->RdT V A8 (cq t.vals n.2.1)->Hid (ng=(cq t.vals n.2.1).length)->CJ 67 #[.agg #[.int .i64 n.1, .slice P1 n.2.1.length n1, .slice Q1 n.2.2.length m1], .slice A8 ng c8, .agg #[.slice PO o.1.length cO, .slice QO o.2.length dO], .agg #[.slice PT u.1.length cT, .slice QT u.2.length dT]] V (Zw xs er xs.length V)):=fun V A8 c8 ng kV h8 hng=>PD n.1 n.2.2 P1 Q1 A8 PO QO PT QT n.2.1.length n1 m1 ng c8 cO dO cT dT (cq t.vals n.2.1) xs o u er xs.length V (HNR.out.rn.kp kV) h8 (hO.kp kV) (HTT.out.kp kV) HNM.out hng.out hsm hof htf hs3.2.2 hs2 hbk rfl
   have z6:=HH.out.bx.cell (j:=6) rfl;have HS4:Hid (∀U,Kp w1 U->U.cell? ⟨bn,0,none⟩=some (.int .i64 n.1)/\U.cell? ⟨bn,1,none⟩=some (.slice P1 n.2.1.length n1)/\U.cell? ⟨bn,2,none⟩=some (.slice Q1 n.2.2.length m1)/\U.cell? ⟨b,6,none⟩=some (.slice (some ⟨gv,0,none⟩) t.vals.length vc)/\U.cell? ⟨gv,i*2,none⟩=some (.slice PO o.1.length cO)/\U.cell? ⟨gv,i*2+1,none⟩=some (.slice QO o.2.length dO)/\U.cell? ⟨bg,0,none⟩=some (.slice PT u.1.length cT)/\U.cell? ⟨bg,1,none⟩=some (.slice QT u.2.length dT)):=fun U kU=>⟨(BM3.out.kp kU).c0,(BM3.out.kp kU).c1,(BM3.out.kp kU).c2,Iz.ay (Iz.ay z6 X3.out) kU,Iz.ay (Iz.ay w0 X3.out) kU,Iz.ay (Iz.ay w1' X3.out) kU,(BH.out.kp kU).c0,(BH.out.kp kU).c1⟩
   clear hsm hl2 hs1 hs2 hs3 ha3 htf hvl w0 w1' hO ho hof hbk hbg z6 h2 hb0;refine aa8 (S:=fun U=>U.cell? ⟨bn,0,none⟩=some (.int .i64 n.1)/\U.cell? ⟨bn,1,none⟩=some (.slice P1 n.2.1.length n1)/\U.cell? ⟨bn,2,none⟩=some (.slice Q1 n.2.2.length m1)/\U.cell? ⟨b,6,none⟩=some (.slice (some ⟨gv,0,none⟩) t.vals.length vc)/\U.cell? ⟨gv,i*2,none⟩=some (.slice PO o.1.length cO)/\U.cell? ⟨gv,i*2+1,none⟩=some (.slice QO o.2.length dO)/\U.cell? ⟨bg,0,none⟩=some (.slice PT u.1.length cT)/\U.cell? ⟨bg,1,none⟩=some (.slice QT u.2.length dT)) kM (HS4.out _ (aa3 (Kp.refl _))) (fun qJ=>?_);have Y0:Hid (Kp w1 w1.drew):=aa3 (Kp.refl _);generalize w1.drew=V3 at Y0 qJ⊢;refine tK 0 (.agg #[.int .i64 n.1, .slice P1 n.2.1.length n1, .slice Q1 n.2.2.length m1]) rfl qJ ?_;refine tK 1 (pX b 0) rfl qJ ?_;refine tK 2 (.agg #[.int .i64 n.1, .slice P1 n.2.1.length n1, .slice Q1 n.2.2.length m1]) rfl qJ ?_;refine tK 4 (pX b 0) rfl qJ ?_;refine tK 5 (pX b 0) rfl qJ ?_;refine tK 6 (pX b 0) rfl qJ ?_;refine tK 7 (pX b 6) rfl qJ ?_;refine tK 8 (.slice (some ⟨gv,0,none⟩) t.vals.length vc) rfl qJ ?_;refine tK 9 (.int .i64 (i:Int)) rfl qJ ?_;refine tK 10 (pX gv (i*2)) rfl qJ ?_;refine tK 11 (.agg #[.slice PO o.1.length cO, .slice QO o.2.length dO]) rfl qJ ?_;refine tK 12 (.agg #[.slice PT u.1.length cT, .slice QT u.2.length dT]) rfl qJ ?_;refine rD 3 rfl fun _ hK=>?_
   go_simp;refine(HA.out _ (X3.out.tr Y0.out)).mono ?_;rintro e5 V4 ⟨A8,c8,ng,rfl,hng,hr8,hc8,k5⟩;dsimp only;have Y1:=lH (Y0.out.tr k5);clear k5;refine hK.out _ _ (HS4.out _ Y1.out) fun qJ=>?_
   clear hK Y0;refine rD 13 rfl fun _ hK=>?_
   go_simp;refine(HC.out _ A8 c8 ng (X3.out.tr Y1.out) hr8.out hng).mono ?_;rintro e6 w5 ⟨A9,c9,rfl,hx9,hc9,k6⟩;dsimp only;have Y2:=lH (Y1.out.tr k6);have LX:Hid (W.heap.size<=V4.heap.size):=(X3.out.tr Y1.out).size;clear k6;refine hK.out _ _ (HS4.out _ Y2.out) fun qJ=>?_
   clear hK Y1;refine tK 14 (.tuple #[.slice A9 xs.length c9, .int .i64 er]) rfl qJ ?_;refine tK 15 (.slice A9 xs.length c9) rfl qJ ?_;refine tK 16 (.int .i64 er) rfl qJ ?_;refine rD 17 rfl fun _ hK=>?_
   go_simp;refine hK.out _ _ (HS4.out _ Y2.out) fun qJ=>?_
   clear hK;refine rD 18 rfl fun _ hK=>?_
   go_simp;refine hK.out _ _ (HS4.out _ Y2.out) fun qJ=>?_
   clear hK;refine abp kM ?_ _;go_simp;clear qJ;have K5:=lH (X3.out.tr Y2.out);by_cases h0:er=0
   · obtain⟨g1,g2,g3⟩:=HV2.out h0
     have HRR:=lH g1;have HXL:=lH g2;have HXT:=lH g3;have he':(er !=0)=false:=by simpa using h0
     clear g1 g2 g3 h0;have R5:=lH (HH.out.kp K5.out);have BM5:=lH (BM3.out.kp Y2.out);have v1:=BM5.out.c1;have hn0:n.2.1.length<=2:=HL2.out;go_wp2_with fail;have HNB:Hid (gh≠b/\B<=gh/\gh<W.heap.size):=⟨fun e=>HH.out.nb (.slice (some ⟨gh,0,none⟩) t.hang.length hc) sC (by rw[e];rfl),HH.out.ts.h.lt (k:=gh) rfl⟩
     have P5:Hid (Rd w5 P1 n.2.1):=HNR.out.ra.kp K5.out;have HX9:Hid (RdX w5 (fun j=>V4.heap.size<=j) A9 xs):=hx9.out.1;have HX8:Hid (∀ad,A9=some ad->ad.block≠gh):=fun ad e=>by have h1:=hx9.out.2 ad e;have h2:=LX.out;have h3:=HNB.out;omega
     have HXS:Hid (∀k,k<n.2.1.length->∃bd x PX cX QX dX,A9=some bd/\xs[k]?=some x/\(∀wx,Kq (fun j=>j=gh) (fun _=>False) w5 wx->wx.cell? (bd.add (k*2))=some (.slice PX x.1.length cX)/\wx.cell? ⟨(bd.add (k*2)).block,(bd.add (k*2)).off+1,none⟩=some (.slice QX x.2.length dX)/\TRc wx PX cX QX dX x)):=fun k hk=>by
      obtain⟨bd,x,PX,cX,QX,dX,e9,hlt,hx,c0,c1,hT,xP,xQ,b1,b2⟩:=HX9.out.DS (k:=k) (by rw[HXL.out];exact hk);have hne:=HX8.out bd e9;refine⟨bd,x,PX,cX,QX,dX,e9,hx,fun wx kx=>⟨?_,?_,⟨⟨kx.rd hT.s fun _ _ _ h=>h,kx.rd hT.d fun _ _ _ h=>h⟩,b1,b2⟩⟩⟩
      · rw[World.cell?_of_block (w:=w5) (a:=bd.add (k*2)) (by rw[ah];exact kx.block _ hlt hne)]
        exact c0
      · rw[World.cell?_of_block (w:=w5) (a:=⟨(bd.add (k*2)).block,(bd.add (k*2)).off+1,none⟩) (by show wx.heap[(bd.add (k*2)).block]?=_;rw[ah];exact kx.block _ hlt hne)]
        exact c1
     clear hx9 hc9 hr8 hc8 hng
     go_loopw [66] (fun iv wx=>∃(k:Nat) (hs:List T),iv= .int .i64 (k:Int)/\Hid (k<=n.2.1.length)/\Hid (cI (n.2.1.drop k) (xs.drop k) hs=cI n.2.1 xs t.hang)/\Hid (EvM.Hi t.l.length hs)/\Hid (Rl B b wx (.slice (some ad) t.l.length c) P e Q f (.slice R' t.ps.length d) (.slice (some ⟨gv,0,none⟩) t.vals.length vc) (.slice (some ⟨gh,0,none⟩) t.hang.length hc) (.slice (some ⟨gd,0,none⟩) t.fD.length dc) {t with hang:=hs})/\Hid (Kq (fun j=>j=gh) (fun _=>False) w5 wx)) (fun iv _=>n.2.1.length-(intOf iv).toNat)
     case atStart=>exact⟨0,t.hang,rfl,aa6 _,rfl,HHI.out,R5.out,Kq.refl _⟩
     case round=>
      obtain⟨k,hs,rfl,hk,hpu,hhi,hR,hKq⟩:=hrel;obtain⟨wo,hwo⟩:=eX (wr);subst hwo;by_cases hj:k<n.2.1.length
      · have hj':(k:Int)<(n.2.1.length:Int):=by omega
        have hk0:(0:Int)<=(k:Int):=by omega
        obtain⟨ap,a,e1,hlp,ha,hca⟩:=(hKq.out.rd P5.out fun _ _ _ h=>h).at_ (k:=k) hj;subst e1;obtain⟨ha0,ha1⟩:=HA3.out a (aa1 ha);obtain⟨a',rfl⟩:∃a':Nat,a=(a':Int):=⟨a.toNat,oM⟩
        obtain⟨bd,x,PX,cX,QX,dX,e9,hx,hcx⟩:=HXS.out k hj;subst e9;have hxl:k<xs.length:=by rw[HXL.out];exact hj
        have aay:(k:Int)<(xs.length:Int):=by omega
        have hhl:a'<hs.length:=by rw[hhi.out.len];have:=HIL.out;omega
        have aaB:(a':Int)<(t.hang.length:Int):=by omega
        have hxt:bO x=true/\N64 x.2:=HXT.out x (aa1 hx);obtain⟨q,hq⟩:=eX (iS (hs.getD a' eT) x);have hst:cI (n.2.1.drop k) (xs.drop k) hs=if q.2=0 then cI (n.2.1.drop (k+1)) (xs.drop (k+1)) (hs.set a' q.1)else([],q.2):=by
         rw[bP ha,bP hx];by_cases h0:q.2=0
         · rw[aaW h0,Xe (by rw[aa2,<-hq];exact h0),aa2,<-hq]
         · rw[aaT h0,Xl (by rw[aa2,<-hq];exact h0),aa2,<-hq]
        have HST:=lH hst;have HQT:Hid (q.2=0->bO q.1=true/\N64 q.1.2):=fun h0=>by
         have h9:=Xa (a:=hs.getD a' eT) hxt (by rw[<-hq];exact h0)
         rwa [<-hq]at h9
        have NX:∀V,Kp wo V->∀j,V.heap.size<=j->Xb B b j:=fun V kV j hj=>by have h1:=hR.out.bx.lt;have h2:=HH.out.lb;have h3:=kV.size;exact⟨oM,oM⟩
        have HCA:Hid (∀V,Kp wo V->CJ 66 #[pX gh (a'*2), .agg #[.slice PX x.1.length cX, .slice QX x.2.length dX]] V (Yi B (Xb B b) gh t.hang.length hc hs a' q V)):=fun V kV=>Yd (hR.out.kp kV).ts.h hhl (NX V kV) PX QX cX dX x (((hcx wo hKq.out).2.2).kp kV) hxt (hhi.out.tq a') q hq.symm
        obtain⟨w0,w1',_⟩:=hcx wo hKq.out;have z7:=hR.out.bx.cell (j:=7) rfl;have HS7:Hid (∀U,Kp wo U->U.cell? ⟨b,7,none⟩=some (.slice (some ⟨gh,0,none⟩) t.hang.length hc)/\U.cell? (bd.add (k*2))=some (.slice PX x.1.length cX)/\U.cell? ⟨(bd.add (k*2)).block,(bd.add (k*2)).off+1,none⟩=some (.slice QX x.2.length dX)):=fun U kU=>⟨Iz.ay z7 kU,Iz.ay w0 kU,Iz.ay w1' kU⟩
        have ZJ:bd.block≠gh:=HX8.out bd rfl;have HSB:Hid (∀V U,Kp wo V->Kq (fun j=>j=gh) (fun _=>False) V U->U.cell? ⟨b,7,none⟩=some (.slice (some ⟨gh,0,none⟩) t.hang.length hc)/\U.cell? (bd.add (k*2))=some (.slice PX x.1.length cX)/\U.cell? ⟨(bd.add (k*2)).block,(bd.add (k*2)).off+1,none⟩=some (.slice QX x.2.length dX)):=fun V U kV kU=>by
         obtain⟨s1,s2,s3⟩:=HS7.out V kV;have n1:=HNB.out;have hb:∀{a:Addr} {y:Value},a.block≠gh->V.cell? a=some y->U.cell? a=some y:=fun {a y} hne hc=>(World.cell?_of_block (w:=V) (a:=a) (kU.block a.block (yu hc) hne)).trans hc
         exact⟨hb (fun e=>n1.1 e.symm) s1,hb (by rw[ah];exact ZJ) s2,hb (by show(bd.add (k*2)).block≠gh;rw[ah];exact ZJ) s3⟩
        clear ha hx hcx ha0 ha1 hxl hhl hxt hq hst NX w0 w1' z7 ZJ hlp;go_wp2_with fail;refine aa8 (S:=fun U=>U.cell? ⟨b,7,none⟩=some (.slice (some ⟨gh,0,none⟩) t.hang.length hc)/\U.cell? (bd.add (k*2))=some (.slice PX x.1.length cX)/\U.cell? ⟨(bd.add (k*2)).block,(bd.add (k*2)).off+1,none⟩=some (.slice QX x.2.length dX)) kM (HS7.out _ (aa3 (Kp.refl _))) (fun qJ=>?_);have Z0:Hid (Kp wo wo.drew):=aa3 (Kp.refl _);generalize wo.drew=V6 at Z0 qJ⊢;refine tK 0 (pX b 0) rfl qJ ?_;refine tK 1 (pX b 0) rfl qJ ?_;refine tK 2 (pX b 0) rfl qJ ?_;refine tK 3 (pX b 7) rfl qJ ?_;refine tK 4 (.slice (some ⟨gh,0,none⟩) t.hang.length hc) rfl qJ ?_;refine tK 5 (.int .i64 (a':Int)) rfl qJ ?_;refine tK 6 (pX gh (a'*2)) rfl qJ ?_;refine tK 7 (.slice (some bd) xs.length c9) rfl qJ ?_;refine tK 8 (.int .i64 (k:Int)) rfl qJ ?_;refine tK 9 (.pointer (some (bd.add (k*2)))) rfl qJ ?_;refine tK 10 (.agg #[.slice PX x.1.length cX, .slice QX x.2.length dX]) rfl qJ ?_;refine rD 11 rfl fun _ hK=>?_
        go_simp;refine(HCA.out _ Z0.out).mono ?_;rintro e7 w7 ⟨rfl,ra,kq⟩;dsimp only;have hS8:=HSB.out _ _ Z0.out kq.out;refine hK.out _ _ hS8 fun qJ=>?_
        clear hK;refine rD 12 rfl fun _ hK=>?_
        go_simp;refine hK.out _ _ hS8 fun qJ=>?_
        clear hK;refine abp kM ?_ _;go_simp;clear qJ hS8;have RQ:=lH ((hR.out.kp Z0.out).aao rfl kq.out ra.out);have KQ:=lH ((hKq.out.tr (Kq.kp Z0.out)).tr kq.out);by_cases h0:q.2=0
        · have he2:(q.2 !=0)=false:=by simpa using h0
          have HP2:Hid (cI (n.2.1.drop (k+1)) (xs.drop (k+1)) (hs.set a' q.1)=cI n.2.1 xs t.hang):=by
           show _=_;rw[<-hpu.out,HST.out,aaW h0]
          have HH2:Hid (EvM.Hi t.l.length (hs.set a' q.1)):=hhi.out.set (HQT.out h0) _;rw[aaW h0]at RQ;clear h0 ra;go_wp2;go_roundw
          case rel=>exact⟨k+1,_,by go_num,(by show k+1<=n.2.1.length;omega),HP2.out,HH2.out,RQ.out,KQ.out⟩
          case measure=>simp[intOf];omega
        · have he2:(q.2 !=0)=true:=by simpa using h0
          have hr2:Hid (r.2=q.2):=by
           show _=_;rw[HRR.out,<-hpu.out,HST.out,aaT h0,aaT h0]
          have HZ:Hid (¬q.2=0):=h0;clear h0 ra;go_wp2;refine aaX (v:= .int .i64 q.2) (by simp[results,Tryz.results38,go_sem];try rfl) rfl ?_;exact⟨by rw[hr2.out],⟨_,t.fD,⟨_,_,_,_,_,_,_,_,_,RQ.out⟩,fun h=>absurd (hr2.out.symm.trans h) HZ.out⟩,KQ.out.below (ox K5.out HB.out) (fun j hj=>by have h4:j=gh:=hj;have:=HNB.out;omega) (by have h1:=K5.out.size;have h3:=HB.out;omega)⟩
      · have hj':¬(k:Int)<(n.2.1.length:Int):=by omega
        have hrr:Hid (r=((hs,t.fD),0)):=by
         have h1:=hpu.out;rw[List.drop_of_length_le (by have:=hk.out;omega)]at h1;rw[cI]at h1;show _=_;rw[HRR.out,<-h1,aaW rfl]
        clear hpu;go_wp2;refine aaX (v:= .int .i64 0) (by simp[results,Tryz.results38,go_sem];try rfl) rfl ?_;exact⟨by rw[hrr.out],⟨hs,t.fD,⟨_,_,_,_,_,_,_,_,_,hR.out⟩,fun _=>by rw[hrr.out];exact⟨rfl,rfl⟩⟩,hKq.out.below (ox K5.out HB.out) (fun j hj=>by have h4:j=gh:=hj;have:=HNB.out;omega) (by have h1:=K5.out.size;have h3:=HB.out;omega)⟩
   · have he':(er !=0)=true:=by simpa using h0
     have hr2:Hid (r.2=er):=HV.out h0;have HZ:Hid (¬er=0):=h0;clear h0;go_wp2;refine aaX (v:= .int .i64 er) (by simp[results,Tryz.results38,go_sem];try rfl) rfl ?_;exact⟨by rw[hr2.out],⟨t.hang,t.fD,⟨_,_,_,_,_,_,_,_,_,HH.out.kp K5.out⟩,fun h=>absurd (hr2.out.symm.trans h) HZ.out⟩,ox K5.out HB.out⟩
