/- The landed tape: a node back, and down to the next live one. -/
import Derived.Test.YtokeebkaamjliaaGreatTpB
import Derived.Test.YtokeebkaamjliaaGreatTpE
import Derived.Test.YtokeebkaamjliaaGreatTpG
import Derived.Test.YtokeebkaamjliaaGreatTpD
set_option maxHeartbeats 16000000
set_option maxRecDepth 100000
set_option linter.unusedVariables false
set_option linter.unusedSimpArgs false
namespace Go.Proofs.YtokeebkaamjliaaGreat.Ez
open RowKit ShM GrM InM ImM EvM
theorem Zf{live:BU}(hl:∀x∈live,0<=x){a:Int}(h:tw live a<0):tw live a= -1:=by
 have key:∀(l:BU) (z:Int),(∀x∈l,0<=x)->(z= -1∨0<=z)->(l.foldl (fun n x=>if x<a then x else n) z= -1∨0<=l.foldl (fun n x=>if x<a then x else n) z):=by
  intro l
  induction l with
  |nil=>intro z _ hz;exact hz
  |cons x l ih=>
   intro z hx hz;rw[List.foldl_cons];refine ih _ (fun y hy=>hx y (ab1 _ hy)) ?_;split
   · exact .inr (hx x sC)
   · exact hz
 rcases key live (-1) hl (.inl rfl)with h1|h1
 · exact h1
 · unfold tw at h;omega
/-- What holds on the way back. -/
structure Bw(t:Tpe)(i:Nat)(n:Nd):Prop where
 gv:Gv t.l t.vals t.inp t.ps
 sm:dV t.l
 at_:t.at_=(i:Int)
 nd:t.l[i]?=some n
 hi:EvM.Hi t.l.length t.hang
 hg:EvM.Hi 8 t.fD
 ne:(t.hang.getD i eT).2.length≠0
 dn:(dD n t.vals t.hang t.fD i).2=0->EvM.Hi 8 (dD n t.vals t.hang t.fD i).1.2
section
variable{B b:Nat}{W:World}{G:Value}{P:DV}{e:Nat}{Q:DV}{f:Nat}{R V H D:Value}{t:Tpe}
theorem Z5(h:Rl B b W G P e Q f R V H D t)(i:Nat)(n:Nd)(F:Bw t i n):CJ 29 #[pX b 0] W (YW B b (YH t) W):=by
 have hil:=(aaU.1 F.nd).1;have Zq:YR t=n:=by unfold YR;rw[F.at_,aa2,aaS,F.nd];rfl
 obtain⟨d,hd⟩:=eX (dD n t.vals t.hang t.fD i);have hF:YH t=VG t d:=by unfold YH;rw[Zq,F.at_,aa2,<-hd]
 rw[hF];have HT:Hid (CJ 38 #[pX b 0, .int .i64 (i:Int)] W (Jy B b t d W)):=by
  show Calls _ _ _ _ _;rw[hd];exact aat h i F.gv F.sm hil F.hi F.hg F.ne n F.nd
 have x5:=h.bx.cell (j:=5) rfl;rw[F.at_]at x5;have HFF:=lH F;have HD:=lH hd;have HLB:Hid (B<=b):=h.lb;clear h F Zq hd hF hil;go_enter Tryz.func29,Tryz.ntmps29;go_wp2_with fail;refine HT.out.mono ?_;rintro e1 w1 ⟨rfl,⟨hg,gr,⟨G1,P1,c1,Q1,f1,R1,V1,H1,D1,h1⟩,hz⟩,K1⟩;have HR:=lH h1;clear h1;have y5:=HR.out.bx.cell (j:=5) rfl;rw[show({t with hang:=hg,fD:=gr}:Tpe).at_=(i:Int)from HFF.out.at_]at y5;dsimp only;clear x5;by_cases h0:d.2=0
 · have he:(d.2 !=0)=false:=by simpa using h0
   obtain⟨ehg,egr⟩:=hz.out h0;subst ehg egr;have HZ:=lH h0;have HDN:Hid (EvM.Hi 8 d.1.2):=by
    show EvM.Hi _ _;rw[HD.out];exact HFF.out.dn (by rw[<-HD.out];exact HZ.out)
   obtain⟨y,hy⟩:=eX (tw (fW t.l) (i:Int));have HY:=lH hy;have HBL:Hid (CJ 39 #[pX b 0, .int .i64 (i:Int)] w1 fun e w'=>e= .returned (.int .i64 y)/\Kp w1 w'):=by
    show Calls _ _ _ _ _;rw[hy];exact ZR HR.out HFF.out.sm _
   clear hy h0 hz;go_wp2_with fail;refine HBL.out.mono ?_;rintro e2 w2 ⟨rfl,k2⟩;dsimp only;have R2:=lH (HR.out.kp k2);have K2:Hid (Below B W w2):=K1.out.trans (ox k2 (by have h1:=HR.out.bx.lt;have h2:=HLB.out;omega));have z5:=R2.out.bx.cell (j:=5) rfl;rw[show({t with hang:=d.1.1,fD:=d.1.2}:Tpe).at_=(i:Int)from HFF.out.at_]at z5;have ff:=R2.out.bx.frz 5;have R3:=lH (R2.out.aad y);have K3:Hid (Below B W (w2.setCell ⟨b,5,none⟩ (.int .i64 y))):=K2.out.setCell (p:=⟨b,5,none⟩) HLB.out _;have HBW:Hid (VG t d=if y<0 then⟨t.l,t.inp,t.ps,3,-1,t.vals,d.1.1,eY t.vals 0 t.l d.1.2,t.err⟩else⟨t.l,t.inp,t.ps,t.phase,y,t.vals,d.1.1,d.1.2,t.err⟩):=by
    show _=_;unfold VG;rw[aaT (by rw[HZ.out];simp),HFF.out.at_,<-HY.out]
   clear k2 y5;by_cases hy0:y<0
   · have hy1:y= -1:=by
      rw[HY.out];refine Zf (fun x hx=>?_) (by rw[<-HY.out];exact hy0);rw[<-EvM.Xb HFF.out.gv.ck]at hx;unfold upTo at hx;obtain⟨j,_,rfl⟩:=abN.1 (List.mem_filter.1 hx).1;omega
     have HEN:Hid (CJ 40 #[pX b 0] (w2.setCell ⟨b,5,none⟩ (.int .i64 y)) (YW B b ⟨t.l,t.inp,t.ps,3,y,t.vals,d.1.1,eY t.vals 0 t.l d.1.2,t.err⟩ (w2.setCell ⟨b,5,none⟩ (.int .i64 y)))):=aaj R3.out HFF.out.gv HFF.out.sm HDN.out;have HW2:Hid (VG t d=⟨t.l,t.inp,t.ps,3,y,t.vals,d.1.1,eY t.vals 0 t.l d.1.2,t.err⟩):=by show _=_;rw[HBW.out,aaW hy0,hy1]
     clear hy1;go_wp2_with fail;refine HEN.out.mono ?_;rintro e8 w8 ⟨⟨v8,rfl⟩,r8,k8⟩;go_wp2;refine aaX (v:= .tuple #[]) (by simp[results,Tryz.results29,go_sem];try rfl) rfl ?_;exact⟨⟨_,rfl⟩,(by show Rx _ _ _ (VG t d);rw[HW2.out];exact r8.out),K3.out.trans k8.out⟩
   · have HW2:Hid (VG t d=⟨t.l,t.inp,t.ps,t.phase,y,t.vals,d.1.1,d.1.2,t.err⟩):=by show _=_;rw[HBW.out,aaT hy0]
     go_wp2;refine aaX (v:= .tuple #[]) (by simp[results,Tryz.results29,go_sem];try rfl) rfl ?_;exact⟨⟨_,rfl⟩,(by show Rx _ _ _ (VG t d);rw[HW2.out];exact⟨_,_,_,_,_,_,_,_,_,R3.out⟩),K3.out⟩
 · have he:(d.2 !=0)=true:=by simpa using h0
   have HFL:Hid (CJ 17 #[pX b 0, .int .i64 (i:Int), .int .i64 d.2] w1 (YW B b (iw t.l t.inp t.ps (i:Int) d.2) w1)):=YU HR.out _ _;have HW2:Hid (VG t d=iw t.l t.inp t.ps (i:Int) d.2):=by
    show _=_;unfold VG;rw[aaW h0,HFF.out.at_]
   clear h0 hz;go_wp2_with fail;refine HFL.out.mono ?_;rintro e8 w8 ⟨⟨v8,rfl⟩,r8,k8⟩;go_wp2;refine aaX (v:= .tuple #[]) (by simp[results,Tryz.results29,go_sem];try rfl) rfl ?_;exact⟨⟨_,rfl⟩,(by show Rx _ _ _ (VG t d);rw[HW2.out];exact r8.out),K1.out.trans k8.out⟩
end
def Sm4(t:Tpe):Prop:=dV t.l/\SmT t.inp/\xh t.ps
structure Fz(t:Tpe)(i:Nat):Prop where
 fw:Fw t i
 ph:t.phase=1
 sh:(aH t.l).2.2=0
 ev:evF t.inp t.ps t.l []=evF t.inp t.ps (t.l.drop i) t.vals
 tk:∀v∈t.vals,bO v=true
 h0:t.hang=[]
 g0:t.fD=[]
structure Bz(t:Tpe)(x:Int)(R:BU):Prop where
 gv:Gv t.l t.vals t.inp t.ps
 sm:dV t.l
 ph:t.phase=2
 at_:t.at_=x
 ch:Chain (fW t.l) (x::R)
 dn:Dn t.l (x::R)
 li:Li t.l (x::R) t.hang t.fD
structure Wz(t:Tpe):Prop where
 ph:3<=t.phase
 v:Zk t.vals
 h:Zk t.hang
 d:Zk t.fD
def Inv(t:Tpe):Prop:=Sm4 t/\((∃i,Fz t i)∨(∃x R,Bz t x R)∨Wz t)
theorem lM:Zk []:=⟨dG,fun _ h=>by cases h⟩
theorem Yw(l:List Nd)(inp:T)(ps:List T)(a e:Int):Wz (iw l inp ps a e):=⟨by show(3:Int)<=4;omega,lM,lM,lM⟩
theorem YT{n:Nat}{h:List T}(H:EvM.Hi n h)(hn:n<=1000):Zk h:=⟨by rw[H.len];exact hn,fun t ht=>by
 obtain⟨k,hk,rfl⟩:=acv.1 ht;have h1:=Xw (H.tq k);rw[aaS,aaV hk]at h1;exact⟨ab3 h1.1 oM,ab3 h1.2.1 oM⟩⟩
theorem YN{vs:List T}(hl:vs.length<=1000)(h:∀v∈vs,bO v=true):Zk vs:=⟨hl,fun v hv=>by
 obtain⟨a,b,_⟩:=zF (h v hv);exact⟨oM,oM⟩⟩
theorem ZB{vs:List T}(h:xh vs):Zk vs:=⟨by have:=h.1;omega,fun v hv=>by obtain⟨a,b,_⟩:=h.2 v hv;exact⟨oM,oM⟩⟩
theorem Inv.few{t:Tpe}(h:Inv t):aal t:=by
 obtain⟨⟨s1,s2,s3⟩,h⟩:=h;have hl:=s1.1;refine⟨⟨oM,fun n hn=>by obtain⟨a,b,_⟩:=s1.2 n hn;exact⟨oM,oM⟩⟩,⟨by have:=s2.1;omega,by have:=s2.2.1;omega⟩,ZB s3,?_,?_,?_⟩
 all_goals rcases h with⟨i,F⟩|⟨x,R,Bb⟩|Wb
 · exact YN (by have:=F.fw.len;have:=F.fw.lt;omega) F.tk
 · exact YN (by rw[Bb.gv.len];omega) Bb.gv.tok
 · exact Wb.v
 · rw[F.h0];exact lM
 · exact YT Bb.li.hh oM
 · exact Wb.h
 · rw[F.g0];exact lM
 · exact YT Bb.li.hg dG
 · exact Wb.d
theorem Z4{l:List Nd}(h:(aH l).2.2=0):aK l=true:=by
 cases e:aK l with
 |true=>rfl
 |false=>unfold aH at h;rw[aaT (by simp[e])]at h;cases h
theorem YE{l:List Nd}{inp:T}{ps:List T}(hl:dV l)(hi:SmT inp)(hp:xh ps):Inv (eM l inp ps):=by
 unfold eM;by_cases h:(aH l).2.2=0
 · rw[aaW h]
   refine⟨⟨hl,hi,hp⟩, .inl ⟨0,⟨Z4 h,rfl,rfl,(aO.1 (Z4 h)).1,hl,hi.2.2.2,fun p hp'=>(hp.2 p hp').2.2.2,(fun _ h=>by cases h)⟩,rfl,h,rfl,(fun _ h=>by cases h),rfl,rfl⟩⟩
 · rw[aaT h]
   exact⟨⟨hl,hi,hp⟩, .inr (.inr (Yw _ _ _ _ _))⟩
theorem Zv{t:Tpe}(sm:dV t.l)(G:Gv t.l t.vals t.inp t.ps)(hp:t.phase=2)(ha:t.at_=(t.l.length:Int)-1)(hh:t.hang=qx t.l t.vals)(hg:t.fD=List.replicate 8 eT):∃x R,Bz t x R:=by
 have hck:=G.ck;obtain⟨r,hr⟩:=Oz hck;have hrev:(fW t.l).reverse=((t.l.length:Int)-1)::r.reverse:=by rw[hr];simp
 have hch:Chain (fW t.l) (fW t.l).reverse:=YV (by rw[<-EvM.Xb hck];exact Xv _ _) (fun x hx=>by
  rw[<-EvM.Xb hck]at hx;obtain⟨⟨i,_,rfl⟩,_⟩:=Gd.1 hx;omega) _ (fW t.l) [] rfl sC
 have hd:=Xh hck;have hs:=Xm G;rw[hrev]at hch hd hs;exact⟨_,_,G,sm,hp,ha,hch,hd,by rw[hh,hg];exact hs⟩
theorem YO{l:List Nd}{vals:List T}{inp:T}{ps:List T}(G:Gv l vals inp ps):∀(m:List Nd) (i:Nat) (g:List T),l.drop i=m->EvM.Hi 8 g->EvM.Hi 8 (eY vals i m g)
 | [],_,_,_,H=>by rw[eY];exact H
 |n::m,i,g,hd,H=>by
  rw[eY];refine YO G m (i+1) _ (by rw[<-List.drop_drop,hd];rfl) ?_;split
  · have hi:i<l.length:=by
     rcases Nat.lt_or_ge i l.length with h|h
     · exact h
     · rw[List.drop_of_length_le h]at hd;cases hd
    have htv:bO (vals.getD i eT)=true:=by
     have hkv:i<vals.length:=by rw[G.len];exact hi
     rw[aaS,aaV hkv];exact G.tok _ (List.getElem_mem hkv)
    have hok:okS (vals.getD i eT).1=true:=(Go.Proofs.ShM.aA.1 (show aB _ _=true from htv)).1;refine H.set ?_ _;rw[TnE.GU 0 hok];refine⟨wB 0 hok,fun x hx=>?_⟩;rw[acs hx];omega
  · exact H
theorem Zg{t:Tpe}{i:Nat}(hs:Sm4 t)(F:Fz t i):Inv (E6 t):=by
 obtain⟨n,hn⟩:∃n,t.l[i]?=some n:=⟨_,aaV F.fw.lt⟩
 have Zq:YR t=n:=by unfold YR;rw[F.fw.at_,aa2,aaS,hn];rfl
 obtain⟨r,hr⟩:=eX (bq n.1 n.2.2 (cq t.vals n.2.1) t.inp t.ps);have hF:E6 t=RW t r:=by unfold E6;rw[Zq,<-hr]
 rw[hF];unfold RW;by_cases h0:r.2=0
 · rw[aaT (by simp[h0])]
   have hr1:bq n.1 n.2.2 (cq t.vals n.2.1) t.inp t.ps=(r.1,0):=by rw[<-hr,<-h0]
   have h64:N64 r.1.2:=by
    have h9:=pY (op:=n.1) (nums:=n.2.2) (ts:=cq t.vals n.2.1) (inp:=t.inp) (ps:=t.ps) (qc F.fw.vs _) F.fw.inp F.fw.ps (F.fw.sm.2 n (aa1 hn)).2.2.2.2
    rwa [hr1]at h9
   have ZT:bO r.1=true:=by
    have h9:=(Hj n.1 n.2.2 (cq t.vals n.2.1) t.inp t.ps).2 (by rw[hr1]);rw[hr1]at h9;exact h9
   have hev:evF t.inp t.ps t.l []=evF t.inp t.ps (t.l.drop (i+1)) (t.vals++[r.1]):=by rw[F.ev,bP hn,Sy hr1]
   have htk:∀v∈t.vals++[r.1],bO v=true:=fun v hv=>by
    rcases acg.1 hv with h|h
    · exact F.tk v h
    · rw[abF.1 h];exact ZT
   have hvs:∀v∈t.vals++[r.1],N64 v.2:=fun v hv=>by
    rcases acg.1 hv with h|h
    · exact F.fw.vs v h
    · rw[abF.1 h];exact h64
   by_cases h1:t.at_+1<(t.l.length:Int)
   · rw[aaW h1]
     have h2:=F.fw.at_;refine⟨hs, .inl ⟨i+1,⟨F.fw.ck,by show t.at_+1=_;rw[h2];push_cast;rfl,by show(t.vals++[r.1]).length=_;rw[abf,F.fw.len];rfl,by show i+1<t.l.length;omega,F.fw.sm,F.fw.inp,F.fw.ps,hvs⟩,F.ph,F.sh,hev,htk,F.h0,F.g0⟩⟩
   · rw[aaT h1]
     by_cases h3:1<r.1.2.length
     · rw[aaW h3]
       exact⟨hs, .inr (.inr (Yw _ _ _ _ _))⟩
     · rw[aaT h3]
       have h2:=F.fw.at_;have h4:=F.fw.lt;have hil:t.l.length=i+1:=by omega
       have ha:fI t.l t.inp t.ps=(t.vals++[r.1],-1,0):=by
        unfold fI;rw[aaW F.sh,hev,List.drop_of_length_le oM];rfl
       have G:=Yh ha F.fw.inp F.fw.ps (fun n hn=>(F.fw.sm.2 n hn).2.2.2.2);exact⟨hs, .inr (.inl (Zv (t:=⟨t.l,t.inp,t.ps,2,(t.l.length:Int)-1,t.vals++[r.1],qx t.l (t.vals++[r.1]),List.replicate 8 eT,t.err⟩) F.fw.sm G rfl rfl rfl rfl))⟩
 · rw[aaW h0]
   exact⟨hs, .inr (.inr (Yw _ _ _ _ _))⟩
theorem Bz.node{t:Tpe}{x:Int}{R:BU}(h:Bz t x R):∃i n,x=(i:Nat)/\Bw t i n:=by
 have h1:=h.dn.ge x sC;obtain⟨i,rfl⟩:∃i:Nat,x=(i:Int):=⟨x.toNat,oM⟩
 obtain⟨n,hn⟩:∃n,t.l[i]?=some n:=⟨_,aaV oM⟩
 have hd:=h.li.head h.gv.ck h.dn;rw[aa2]at hd;refine⟨i,n,rfl,h.gv,h.sm,h.at_,hn,h.li.hh,h.li.hg,hd,fun h0=>?_⟩;have h9:=h.li.step h.gv h.dn (n:=n) (by rw[aa2];exact hn) (by rw[aa2];exact h0);rw[aa2]at h9;exact h9.hg
theorem Zp{t:Tpe}{x:Int}{R:BU}(hs:Sm4 t)(h:Bz t x R):Inv (YH t):=by
 obtain⟨i,n,rfl,Bb⟩:=h.node;have Zq:YR t=n:=by unfold YR;rw[Bb.at_,aa2,aaS,Bb.nd];rfl
 obtain⟨d,hd⟩:=eX (dD n t.vals t.hang t.fD i);have hF:YH t=VG t d:=by unfold YH;rw[Zq,Bb.at_,aa2,<-hd]
 rw[hF];unfold VG;by_cases h0:d.2=0
 · rw[aaT (by simp[h0])]
   have hst:=h.li.step h.gv h.dn (n:=n) (by rw[aa2];exact Bb.nd) (by rw[aa2,<-hd];exact h0);rw[aa2,<-hd]at hst;obtain⟨c1,c2,c3⟩:=h.ch;have hat:t.at_=(i:Int):=Bb.at_;rw[hat,c2]
   cases R with
   |nil=>
    rw[aaW (by show(-1:Int)<0;decide)];refine⟨hs, .inr (.inr ⟨by show(3:Int)<=3;omega,YN (by show t.vals.length<=1000;rw[h.gv.len];have:=h.sm.1;omega) h.gv.tok,YT hst.hh (by have:=h.sm.1;omega),YT (YO h.gv t.l 0 _ rfl hst.hg) dG⟩)⟩
   |cons y R=>
    have hy:0<=y:=c3.1;rw[aaT (by show¬y<0;omega)];exact⟨hs, .inr (.inl ⟨y,R,h.gv,h.sm,h.ph,rfl,c3,h.dn.tail,hst⟩)⟩
 · rw[aaW h0]
   exact⟨hs, .inr (.inr (Yw _ _ _ _ _))⟩
theorem Zo{t:Tpe}(h:Inv t):Inv (lF t):=by
 obtain⟨hs,⟨i,F⟩|⟨x,R,Bb⟩|Wb⟩:=h
 · unfold lF;rw[aaW F.ph];exact Zg hs F
 · unfold lF;rw[aaT (by rw[Bb.ph];decide),aaW Bb.ph];exact Zp hs Bb
 · rw[W8 Wb.ph];exact⟨hs, .inr (.inr Wb)⟩
theorem Yx:∀(k:Nat) {t:Tpe},Inv t->Inv (gS k t)
 |0,_,h=>h
 |k+1,_,h=>Yx k (Zo h)
theorem Zm(k:Nat)(t:Tpe):gS (k+1) t=lF (gS k t):=by
 rw[ql k 1 t];rfl
theorem ZK{t:Tpe}(h:Inv t):(goB t=true/\((t.phase=1/\∃i,Fz t i)∨(t.phase=2/\∃i n,Bw t i n)))∨(goB t=false/\3<=t.phase):=by
 obtain⟨hs,⟨i,F⟩|⟨x,R,Bb⟩|Wb⟩:=h
 · refine .inl ⟨?_, .inl ⟨F.ph,i,F⟩⟩
   have h1:=F.fw.at_;have h2:=F.fw.lt;have h3:=F.fw.len;unfold goB;rw[F.fw.ck,F.ph,aaW rfl,abJ oM,abJ oM,abJ oM];rfl
 · obtain⟨i,n,rfl,Bw⟩:=Bb.node
   refine .inl ⟨?_, .inr ⟨Bb.ph,i,n,Bw⟩⟩;have h1:=Bw.at_;have h2:=(aaU.1 Bw.nd).1;unfold goB;rw[Bb.gv.ck,Bb.ph,aaT dG,aaW rfl,abJ oM,abJ oM,abJ Bb.gv.len,abJ Bb.li.hh.len,abJ Bb.li.hg.len];rfl
 · refine .inr ⟨?_,Wb.ph⟩
   have h1:=Wb.ph;unfold goB;rw[aaT oM,aaT oM];simp
