/- The landed tape: the end. -/
import Derived.Test.YtokeebkaamjliaaGreatTpV
set_option maxHeartbeats 16000000
set_option maxRecDepth 100000
set_option linter.unusedVariables false
set_option linter.unusedSimpArgs false
namespace Go.Proofs.YtokeebkaamjliaaGreat.Ez
open RowKit ShM GrM InM ImM EvM
section
variable{B b:Nat}{W:World}{G:Value}{P:DV}{e:Nat}{Q:DV}{f:Nat}{R V H D:Value}{t:Tpe}
/-- One node's part of it. -/
def Z9(vals:List T)(i:Nat)(n:Nd)(g:List T):List T:=if n.1=2/\(g.getD (n.2.2.getD 0 0).toNat eT).2.length=0 then g.set (n.2.2.getD 0 0).toNat (tnE (dm (vals.getD i eT).1 0)).1 else g
theorem YX{vals:List T}{l:List Nd}{k:Nat}{n:Nd}{g:List T}(h:l[k]?=some n):eY vals k (l.drop k) g=eY vals (k+1) (l.drop (k+1)) (Z9 vals k n g):=by
 rw[bP h,eY];rfl
theorem Ze{l:List Nd}{vals:List T}{inp:T}{ps:List T}(G:Gv l vals inp ps){i:Nat}{n:Nd}(hn:l[i]?=some n)(h2:n.1=2):(vals.getD i eT).1=n.2.2.drop 1:=by
 have h:=(cA (G.node i n hn)).1;rw[h2]at h;unfold aF at h;split at h
 · unfold aR at h
   rw[aaT dG,aaW rfl]at h;injection h with h
   exact h.symm
 · injection h with _ h
   cases h
theorem aaj(h:Rl B b W G P e Q f R V H D t)(GV:Gv t.l t.vals t.inp t.ps)(sm:dV t.l)(HG:EvM.Hi 8 t.fD):
 CJ 40 #[pX b 0] W (YW B b ⟨t.l,t.inp,t.ps,3,t.at_,t.vals,t.hang,eY t.vals 0 t.l t.fD,t.err⟩ W):=by
 obtain⟨A,c,R',d,V',vc,H',hc,D',dc,rfl,rfl,rfl,rfl,rfl⟩:=h.open_;obtain⟨gd,rfl⟩:=h.ts.d.adr (by rw[HG.len];omega);have c4:=h.bx.cell (j:=4) rfl;have ff:=h.bx.frz 4;have R1:=lH (h.aam 3);have K1:Hid (Below B W (W.setCell ⟨b,4,none⟩ (.int .i64 3))):=(abu _ _).setCell (p:=⟨b,4,none⟩) h.lb _;have x0:=R1.out.bx.cell (j:=0) rfl;obtain⟨w1,hw1⟩:=eX (W.setCell ⟨b,4,none⟩ (.int .i64 3));rw[<-hw1]at R1 K1 x0;have HW:=lH hw1;have HNB:Hid (gd≠b/\B<=gd/\gd<w1.heap.size):=⟨fun e=>R1.out.nb (.slice (some ⟨gd,0,none⟩) t.fD.length dc) sC (by rw[e];rfl),R1.out.ts.d.lt (k:=gd) rfl⟩
 have HLB:Hid (B<=b/\b<w1.heap.size):=⟨R1.out.lb,R1.out.bx.lt⟩
 have HGV:=lH GV;have HSM:=lH sm;have hll:t.l.length<=100:=sm.1;have HHG:=lH HG;have x0w:(W.setCell ⟨b,4,none⟩ (.int .i64 3)).cell? ⟨b,0,none⟩=some (.slice A t.l.length c):=by rw[<-hw1];exact x0
 clear h GV sm HG hw1 x0;go_enter Tryz.func40,Tryz.ntmps40;go_wp2_with fail;rw[<-HW.out];clear c4 ff x0w
 go_loopw [15] (fun iv wx=>∃(k:Nat) (gs:List T),iv= .int .i64 (k:Int)/\Hid (k<=t.l.length)/\Hid (eY t.vals k (t.l.drop k) gs=eY t.vals 0 t.l t.fD)/\Hid (EvM.Hi 8 gs)/\Hid (Rl B b wx (.slice A t.l.length c) P e Q f (.slice R' t.ps.length d) (.slice V' t.vals.length vc) (.slice H' t.hang.length hc) (.slice (some ⟨gd,0,none⟩) t.fD.length dc) ⟨t.l,t.inp,t.ps,3,t.at_,t.vals,t.hang,gs,t.err⟩)/\Hid (Kq (fun j=>j=gd) (fun _=>False) w1 wx)) (fun iv _=>t.l.length-(intOf iv).toNat)
 case atStart=>exact⟨0,t.fD,rfl,aa6 _,rfl,HHG.out,R1.out,Kq.refl _⟩
 case round=>
  obtain⟨k,gs,rfl,hk,hwh,hhi,hR,hKq⟩:=hrel;obtain⟨wo,hwo⟩:=eX (wr);subst hwo;by_cases hj:k<t.l.length
  · have hj':(k:Int)<(t.l.length:Int):=by omega
    have hk0:(0:Int)<=(k:Int):=by omega
    obtain⟨A0,c0,e0,hg,_,_⟩:=hR.out.ts.g.form;injection e0 with e0 _ e1
    subst e0 e1;obtain⟨ad,n,P1,n1,Q1,m1,rfl,hlt,hn,g0,g1,g2,hN,hcP,hcQ⟩:=hg.at_ hj;have hst:=YX (vals:=t.vals) (g:=gs) hn;have HST:=lH hst;have FB:Hid (Nb (wo.alloc (.cells #[.int .i64 n.1, .slice P1 n.2.1.length n1, .slice Q1 n.2.2.length m1] 39)) wo.heap.size n.1 P1 n.2.1.length n1 Q1 n.2.2.length m1):=Nb.new rfl;obtain⟨wb,hwb⟩:=eX (wo.alloc (.cells #[.int .i64 n.1, .slice P1 n.2.1.length n1, .slice Q1 n.2.2.length m1] 39));have KB:Hid (Kp wo wb):=by show Kp _ _;rw[hwb];exact Kp.af _ _
    have FW:Hid (Nb wb wo.heap.size n.1 P1 n.2.1.length n1 Q1 n.2.2.length m1):=by rw[hwb];exact FB.out
    have z0:=FB.out.c0;have HWB:=lH hwb;have HN:=lH hN;have HNN:=lH hn;have HBN:Hid (gd<wo.heap.size/\b<wo.heap.size):=⟨(hR.out.ts.d.lt (k:=gd) rfl).2,hR.out.bx.lt⟩
    by_cases h2:n.1=2
    · obtain⟨hn0,_⟩:=Oa HGV.out.ck hn h2
      obtain⟨p0,p7,_⟩:=Xf HGV.out hn h2;obtain⟨p,hpe⟩:∃p:Nat,n.2.2.getD 0 0=(p:Int):=⟨(n.2.2.getD 0 0).toNat,oM⟩
      obtain⟨qd,hq1,Yp,hcq,hpos⟩:=yU hN.rn hn0;subst hq1;rw[hpe]at hcq;have hm0:(0:Int)<(n.2.2.length:Int):=by omega
      have hpg:p<gs.length:=by rw[hhi.out.len];omega
      have hgl:t.fD.length=8:=HHG.out.len;have hpd:(p:Int)<(t.fD.length:Int):=by omega
      obtain⟨⟨P2,a2,Q2,b2,q0,q1,_⟩,_⟩:=hR.out.ts.d.at_ (k:=p) hpg;obtain⟨s,hs⟩:=eX (gs.getD p eT);rw[show(⟨t.l,t.inp,t.ps,3,t.at_,t.vals,t.hang,gs,t.err⟩:Tpe).fD=gs from rfl,<-hs]at q0 q1;have z8:=hR.out.bx.cell (j:=8) rfl;have KA:Hid (Kp wo (wo.alloc (.cells #[.int .i64 n.1, .slice P1 n.2.1.length n1, .slice (some qd) n.2.2.length m1] 39))):=Kp.af _ _;have y2:=FB.out.c2;have yq:=Iz.ay hcq KA.out;have y8:=Iz.ay z8 KA.out;have yg:=Iz.ay q1 KA.out;have aar:Z9 t.vals k n gs=if s.2.length=0 then gs.set p (tnE (dm (t.vals.getD k eT).1 0)).1 else gs:=by
       unfold Z9;rw[hpe,aa2,<-hs];by_cases h0:s.2.length=0
       · rw[aaW ⟨h2,h0⟩,aaW h0]
       · rw[aaT (fun h=>h0 h.2),aaT h0]
      have HWP:=lH aar;have hsh:=Ze HGV.out hn h2;have htv:bO (t.vals.getD k eT)=true:=by
       have hkv:k<t.vals.length:=by rw[HGV.out.len];exact hj
       rw[aaS,aaV hkv];exact HGV.out.tok _ (List.getElem_mem hkv)
      have hok:okS (t.vals.getD k eT).1=true:=(Go.Proofs.ShM.aA.1 (show aB _ _=true from htv)).1;have HKG:=lH hpg;have h2b:(n.1 !=2)=false:=by simpa using h2
      rw[h2]at z0;clear hgl hn0 p0 p7 hpe Yp hcq hpos aar q0 q1 z8 hpg h2;by_cases h0:s.2.length=0
      · rw[h0]at yg
        obtain⟨U,hU⟩:=eX (dm (t.vals.getD k eT).1 0);have hU2:U=((t.vals.getD k eT).1,List.replicate (au (t.vals.getD k eT).1).toNat 0,0):=by rw[hU,TnE.GU 0 hok]
        have HUT:Hid (bO (U.1,U.2.1)=true/\N64 U.2.1):=by
         refine⟨?_,?_⟩
         · rw[hU2];exact wB 0 hok
         · rw[hU2]
           intro x hx;rw[acs hx];omega
        have HW2:Hid (eY t.vals (k+1) (t.l.drop (k+1)) (gs.set p (U.1,U.2.1))=eY t.vals 0 t.l t.fD):=by
         show _=_;rw[<-hwh.out,HST.out,HWP.out,aaW h0,<-hU];rfl
        have hcut:∀W,(Instr.sliceAt 23 (.slice (some qd) n.2.2.length m1) (some (.int .i64 1)) none none).run Tryz.prog W= .ok (.slice (Jt (some qd) m1 1) (n.2.2.length-1) (m1-1)) W:=fun W=>EP W (some qd) n.2.2.length m1 1 oM
        obtain⟨A3,hA3⟩:=eX (Jt (some qd) m1 1);obtain⟨c3,hc3⟩:=eX (m1-1);obtain⟨n3,hn3⟩:=eX (n.2.2.length-1);have HCF:Hid (∀V,Kp wb V->CJ 65 #[.slice A3 n3 c3, .int .i64 0] V (aG U V)):=fun V kV=>by
         have hx:n3=(n.2.2.drop 1).length:=by rw[hn3];simp
         rw[hx,hU,hsh];exact qy A3 c3 (n.2.2.drop 1) 0 V (by rw[hA3];exact((HN.out.rn.kp KB.out).kp kV).Jt hcQ.1)
        rw[<-hA3,<-hc3,<-hn3]at hcut;have HS7:Hid (∀U,Kp wb U->U.cell? ⟨b,8,none⟩=some (.slice (some ⟨gd,0,none⟩) t.fD.length dc)/\U.cell? ⟨wo.heap.size,2,none⟩=some (.slice (some qd) n.2.2.length m1)):=fun U kU=>⟨Iz.ay (by rw[hwb];exact y8) kU,(FW.out.kp kU).c2⟩
        clear hst hn hN hcP hcQ hlt hg FB h0 hs hU hU2 hA3 hc3 hn3 hsh hok htv hwb;go_wp2_with fail;rw[<-HWB.out];clear y2 yq y8 yg z0;refine aa8 (S:=fun U=>U.cell? ⟨b,8,none⟩=some (.slice (some ⟨gd,0,none⟩) t.fD.length dc)/\U.cell? ⟨wo.heap.size,2,none⟩=some (.slice (some qd) n.2.2.length m1)) kM (HS7.out _ (aa3 (Kp.refl _))) (fun qJ=>?_);have Z0:Hid (Kp wb wb.drew):=aa3 (Kp.refl _);generalize wb.drew=V6 at Z0 qJ⊢;refine tK 0 (pX b 0) rfl qJ ?_;refine tK 1 (pX b 0) rfl qJ ?_;refine tK 2 (pX b 0) rfl qJ ?_;refine tK 3 (pX b 8) rfl qJ ?_;refine tK 4 (.slice (some ⟨gd,0,none⟩) t.fD.length dc) rfl qJ ?_;refine tK 5 (.int .i64 (p:Int)) rfl qJ ?_;refine tK 6 (pX wo.heap.size 2) rfl qJ ?_;refine tK 7 (.slice (some qd) n.2.2.length m1) rfl qJ ?_;refine tK 8 (.slice A3 n3 c3) rfl qJ ?_;refine rD 9 rfl fun _ hK=>?_
        go_simp;refine(HCF.out _ Z0.out).mono ?_;rintro e7 V7 ⟨C,c9,D,d9,rfl,s6,t6,k6⟩;dsimp only;have Z1:=lH (Z0.out.tr k6);have NX:Hid (∀j,V6.heap.size<=j->Xb B b j):=fun j hj=>by have h1:=HBN.out;have h2:=(KB.out.tr Z0.out).size;have h3:=HLB.out;exact⟨oM,oM⟩
        have SU:=lH s6;have TU:=lH t6;clear k6 s6 t6;refine hK.out _ _ (HS7.out _ Z1.out) fun qJ=>?_
        clear hK;refine tK 10 (.tuple #[.agg #[.slice C U.1.length c9, .slice D U.2.1.length d9], .int .i64 U.2.2]) rfl qJ ?_;refine tK 11 (.agg #[.slice C U.1.length c9, .slice D U.2.1.length d9]) rfl qJ ?_;refine tK 12 (.int .i64 U.2.2) rfl qJ ?_;refine tK 13 (pX gd (p*2)) rfl qJ ?_;have R6:=lH (hR.out.kp (KB.out.tr Z1.out));have P3:=lH (R6.out.ts.d.put (k:=p) HKG.out (t:=(U.1,U.2.1)) ⟨⟨SU.out.toSl.rd,TU.out.toSl.rd⟩,⟨SU.out.toSl.le,SU.out.toSl.cap⟩,⟨TU.out.toSl.le,TU.out.toSl.cap⟩⟩ (fun ad e h0=>NX.out _ (SU.out.nw h0 ad e)) (fun ad e h0=>NX.out _ (TU.out.nw h0 ad e)));obtain⟨⟨_,_,_,_,q0,q1,_⟩,ff⟩:=R6.out.ts.d.at_ (k:=p) HKG.out;obtain⟨u8,u2⟩:=HS7.out _ Z1.out;have g1:gd≠b:=HNB.out.1;have g2:gd≠wo.heap.size:=by have:=HBN.out;omega
        have R7:=lH (R6.out.aap rfl P3.out.2 P3.out.1);have K7:=lH ((hKq.out.tr (Kq.kp (KB.out.tr Z1.out))).tr P3.out.2);have HE:Hid (∀(off:Nat) (bb:Nat) (u:Value),bb≠gd->V7.cell? ⟨bb,off,none⟩=some u->((V7.setCell ⟨gd,p*2,none⟩ (.slice C U.1.length c9)).setCell ⟨gd,p*2+1,none⟩ (.slice D U.2.1.length d9)).cell? ⟨bb,off,none⟩=some u):=fun off bb u hne hc=>bp (fun e=>by injection e with e;omega) (bp (fun e=>by injection e with e;omega) hc)
        refine rD 14 rfl fun _ hK=>?_
        go_simp;refine hK.out _ _ ⟨HE.out _ _ _ (fun e=>g1 e.symm) u8,HE.out _ _ _ (fun e=>g2 e.symm) u2⟩ fun qJ=>?_
        clear hK;refine abp kM ?_ _;go_simp;clear qJ u8 u2 q0 q1 ff;go_wp2;go_roundw
        case rel=>exact⟨k+1,_,by go_num,(by show k+1<=t.l.length;omega),HW2.out,hhi.out.set HUT.out _,R7.out,K7.out⟩
        case measure=>simp[intOf];omega
      · have h0':¬(s.2.length:Int)=0:=by omega
        have HW2:Hid (eY t.vals (k+1) (t.l.drop (k+1)) gs=eY t.vals 0 t.l t.fD):=by
         show _=_;rw[<-hwh.out,HST.out,HWP.out,aaT h0]
        clear hst hn hN hcP hcQ hlt hg hwb FB h0 hs hsh hok htv;go_wp2_with fail;rw[<-HWB.out];go_roundw
        case rel=>exact⟨k+1,gs,by go_num,(by show k+1<=t.l.length;omega),HW2.out,hhi.out,hR.out.kp KB.out,hKq.out.tr (Kq.kp KB.out)⟩
        case measure=>simp[intOf];omega
    · have h2':(n.1 !=2)=true:=by simpa using h2
      have HW2:Hid (eY t.vals (k+1) (t.l.drop (k+1)) gs=eY t.vals 0 t.l t.fD):=by
       show _=_;rw[<-hwh.out,HST.out];unfold Z9;rw[aaT (fun h=>h2 h.1)]
      clear hst hn hN hcP hcQ hlt hg hwb FB h2;go_wp2_with fail;rw[<-HWB.out];go_roundw
      case rel=>exact⟨k+1,gs,by go_num,(by show k+1<=t.l.length;omega),HW2.out,hhi.out,hR.out.kp KB.out,hKq.out.tr (Kq.kp KB.out)⟩
      case measure=>simp[intOf];omega
  · have hj':¬(k:Int)<(t.l.length:Int):=by omega
    have hww:Hid (gs=eY t.vals 0 t.l t.fD):=by
     have h1:=hwh.out;rw[List.drop_of_length_le (by have:=hk.out;omega)]at h1;rw[eY]at h1;exact h1
    clear hwh;go_wp2;refine aaX (v:= .tuple #[]) (by simp[results,Tryz.results40,go_sem];try rfl) rfl ?_;exact⟨⟨_,rfl⟩,(by show Rx _ _ _ ⟨_,_,_,_,_,_,_,eY t.vals 0 t.l t.fD,_⟩;rw[<-hww.out];exact⟨_,_,_,_,_,_,_,_,_,hR.out⟩),hKq.out.below K1.out (fun j hj=>by have h4:j=gd:=hj;have:=HNB.out;omega) (by have h1:=HLB.out;omega)⟩
