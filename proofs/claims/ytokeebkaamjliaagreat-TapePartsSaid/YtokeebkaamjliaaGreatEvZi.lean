/- The landed tape: what a node's Args were reckoned to; one is added to a sum. -/
import Derived.Test.YtokeebkaamjliaaGreatEvZh
import Derived.Test.YtokeebkaamjliaaGreatTpO
set_option maxHeartbeats 16000000
set_option maxRecDepth 100000
set_option linter.unusedVariables false
set_option linter.unusedSimpArgs false
namespace Go.Proofs.YtokeebkaamjliaaGreat.Ez
open RowKit ShM GrM InM ImM cF EvM Gz
theorem yX{acc:List T}{l:BU}{j a:Nat}{s:T}(h:l[j]?=some (a:Int))(hs:acc[a]?=some s):cq acc (l.take (j+1))=cq acc (l.take j)++[s]:=by
 unfold cq;rw[cr h,abK];congr 1;show [acc.getD ((a:Int)).toNat eT]=[s];rw[aa2,aaS,hs];rfl
theorem Sy{inp:T}{ps:List T}{n:Nd}{l:List Nd}{acc:List T}{u:T}(h:bq n.1 n.2.2 (cq acc n.2.1) inp ps=(u,0)):evF inp ps (n::l) acc=evF inp ps l (acc++[u]):=by
 rw[evF,h,aaW rfl]
theorem qM.none_{r:List T×Int×Int}{at_ err:Int}{w w':World}(hr:r=([],at_,err))(k:Kp w w'):qM r.1 r.2.1 r.2.2 r.1.length w (.returned (.tuple #[.slice none 0 0, .int .i64 at_, .int .i64 err])) w':=by
 subst hr;exact⟨none,0,rfl,RdX.bU _ _ _,by show(0:Nat)<=0/\0<=_;omega,k⟩
end Go.Proofs.YtokeebkaamjliaaGreat.Ez
namespace Go.Proofs.YtokeebkaamjliaaGreat.Ez
open RowKit ShM GrM InM ImM EvM
theorem zf.adr{w:World}{B:Nat}{X:Nat->Prop}{A:DV}{n c:Nat}{ts:List T}(h:zf B X w (.slice A n c) ts)(h0:0<ts.length):∃g,A=some ⟨g,0,none⟩:=by
 obtain⟨⟨vs,ho,_⟩,_⟩:=h;obtain⟨g,cap,e,_⟩:=World.ownsRow.form ho h0;injection e with e
 exact⟨g,e⟩
section
variable{B b:Nat}{W:World}{G:Value}{P:DV}{e:Nat}{Q:DV}{f:Nat}{R V H D:Value}{t:Tpe}
/-- Tensors, for reading. -/
def Yf(ts:List T)(W:World)(e:Ending)(w':World):Prop:=∃A c n,e= .returned (.slice A n c)/\Hid (n=ts.length)/\Hid (RdT w' A ts)/\Hid (ts.length<=c/\c<=9223372036854775807)/\Kp W w'
theorem ZC(h:Rl B b W G P e Q f R V H D t)(P1 Q1:DV)(op:Int)(ns:BU)(n1 e1 m1 f1:Nat)(hR:Rd W P1 ns)(hn:n1=ns.length)(ha:∀a∈ns,0<=a/\a<(t.vals.length:Int))(hl:ns.length<=1000)(hvl:t.vals.length<=1000):
 CJ 36 #[pX b 0, .agg #[.int .i64 op, .slice P1 n1 e1, .slice Q1 m1 f1]] W (Yf (cq t.vals ns) W):=by
 obtain⟨_,_,R',d,V',vc,H',hc,D',dc,hG0,hR0,rfl,hH0,hD0⟩:=h.open_;clear hG0 hR0 hH0 hD0;obtain⟨vals,hvv⟩:=eX t.vals;have HV:=lH h.ts.v;have hx:=h.bx.cell (j:=6) rfl;rw[<-hvv]at HV ha hvl hx⊢;have HA:=lH ha;have HR:=lH hR;have HN:=lH hn;have HL:=lH hl;have HVL:=lH hvl;have hnm:n1<=1000:=by omega
 obtain⟨wb,hwb⟩:=eX (W.alloc (.cells #[.int .i64 op, .slice P1 n1 e1, .slice Q1 m1 f1] 39));have KB:Hid (Kp W wb):=by rw[hwb];exact Kp.af _ _
 have FB:Hid (Nb wb W.heap.size op P1 n1 e1 Q1 m1 f1):=by rw[hwb];exact Nb.new rfl
 have HX:Hid (∀U,Kp wb U->U.cell? ⟨b,6,none⟩=some (.slice V' vals.length vc)):=fun U kU=>Iz.ay hx (KB.out.tr kU)
 have v1:=FB.out.c1;have HW:=lH hwb;clear h ha hR hn hl hvl hvv hx hwb;go_enter Tryz.func36,Tryz.ntmps36;go_wp2_with fail;rw[<-HW.out];go_wp2_with fail
 go_loopw [5,11] (fun v i wx=>∃j:Nat,∃gs:List T,Hid (zf wb.heap.size (fun _=>True) wx v gs)/\i= .int .i64 (j:Int)/\Hid (j<=n1)/\Hid (gs=cq vals (ns.take j))/\Hid (Kp wb wx)) (fun _ i _=>n1-(intOf i).toNat)
 case atStart=>exact⟨0,[],zf.bU _ _,rfl,aa6 _,rfl,Kp.refl _⟩
 case round=>
  obtain⟨j,zs,hG,rfl,hjn,hgs,hK2⟩:=hrel;obtain⟨wo,hwo⟩:=eX (wr);subst hwo;have KR:=lH (KB.out.tr hK2.out);obtain⟨A8,c8,rfl,hR8,CH,CG⟩:=hG.out.form;have q4:=HX.out _ hK2.out;by_cases hq:j<n1
  · have hq':(j:Int)<(n1:Int):=by omega
    obtain⟨ap,a,rfl,hlp,ha,hca⟩:=(HR.out.kp KR.out).at_ (k:=j) (by rw[<-HN.out];exact hq);obtain⟨ha0,ha1⟩:=HA.out a (aa1 ha);obtain⟨a',rfl⟩:∃a':Nat,a=(a':Int):=⟨a.toNat,oM⟩
    have hak:a'<vals.length:=by omega
    have hr6:=HV.out.kp KR.out;obtain⟨g,rfl⟩:=hr6.adr oM;obtain⟨⟨P6,e6,Q6,f6,hc6,hd6,rs,_⟩,_⟩:=hr6.at_ hak;obtain⟨s,hs⟩:=eX (vals.getD a' eT);rw[<-hs]at hc6 hd6 rs;have hs2:vals[a']?=some s:=by rw[hs,aaS,aaV hak];rfl
    have HZ1:Hid (cq vals (ns.take (j+1))=zs++[s]):=by show _=_;rw[yX ha hs2,hgs.out]
    have HX3:Hid (∀ty,RdT (wo.alloc (.cells #[.slice P6 s.1.length e6, .slice Q6 s.2.length f6] ty)) (some ⟨wo.heap.size,0,none⟩) [s]):=fun ty=>RdX.one (X:=fun _=>True) (t:=s) rs.r (fun _ _ _=>trivial) (fun _ _ _=>trivial) rs.c1 rs.c2 ty
    have HSZ:Hid (wb.heap.size<=wo.heap.size):=hK2.out.size;have hgl:Hid (zs.length<=1000):=by show _<=_;rw[hgs.out];unfold cq;rw[abA,abv];have:=HL.out;have:=HN.out;omega
    clear ha hs hs2 rs hR8 hak ha0 hr6;go_wp2_with (at_builtin;refine qQ (B:=wb.heap.size) rfl (.tmp 15) (.tmp 24) rfl _ rfl (hG.out.kp (Kp.af _ _)) zs.length rfl _ 1 s rfl (HX3.out _) (by have:=hgl.out;omega) (by have:=HSZ.out;simp;omega) ?_;intro A9 c9 w9 o9 b9 _;have O9:=lH o9;have K9:Hid (Kp wb w9):=(gal hK2.out _).trans b9;clear o9 b9);go_roundw
    case rel=>exact⟨j+1,_,O9.out,by go_num,(by show j+1<=n1;omega),HZ1.out.symm,K9.out⟩
    case measure=>simp[intOf];omega
  · have hq':¬(j:Int)<(n1:Int):=by omega
    have HGS:Hid (zs=cq vals ns):=by show _=_;rw[hgs.out,abS (by rw[<-HN.out];omega)]
    have HR9:Hid (RdT wo A8 (cq vals ns)):=by show RdT _ _ _;rw[<-HGS.out];exact hR8.all
    have HC:Hid ((cq vals ns).length<=c8/\c8<=9223372036854775807):=by show _/\_;rw[<-HGS.out];exact⟨CH,CG⟩
    clear hR8;go_wp2;refine aaX (v:= .slice A8 zs.length c8) (by simp[results,Tryz.results36,go_sem];try rfl) rfl ?_;exact⟨A8,c8,_,rfl,(by show _=_;rw[HGS.out]),HR9.out,HC.out,KR.out⟩
end
def Yi(B:Nat)(X:Nat->Prop)(g n c:Nat)(ts:List T)(k:Nat)(r:Ev)(W:World)(e:Ending)(w':World):Prop:=e= .returned (.int .i64 r.2)/\Hid (zf B X w' (.slice (some ⟨g,0,none⟩) n c) (if r.2=0 then ts.set k r.1 else ts))/\Hid (Kq (fun j=>j=g) (fun _=>False) W w')
theorem Yd{W:World}{B:Nat}{X:Nat->Prop}{g n c k:Nat}{ts:List T}(h:zf B X W (.slice (some ⟨g,0,none⟩) n c) ts)(hk:k<ts.length)(hX:∀j,W.heap.size<=j->X j)(P Q:DV)(p q:Nat)(u:T)(hT:TRc W P p Q q u)(hu:bO u=true/\N64 u.2)(hq:Tq (ts.getD k eT))(r:Ev)(hr:iS (ts.getD k eT) u=r):
 CJ 66 #[pX g (k*2), .agg #[.slice P u.1.length p, .slice Q u.2.length q]] W (Yi B X g n c ts k r W):=by
 obtain⟨⟨P0,a0,Q0,b0,z0,z1,hS,_⟩,_⟩:=h.at_ hk;obtain⟨s,hs⟩:=eX (ts.getD k eT);rw[<-hs]at z0 z1 hS hq hr;obtain⟨w1,hw1⟩:=eX (W.alloc (.cells #[.slice P u.1.length p, .slice Q u.2.length q] 25));have K1:Hid (Kp W w1):=by rw[hw1];exact Kp.af _ _
 have BT:Hid (Bk w1 W.heap.size P u.1.length p Q u.2.length q):=by rw[hw1];exact Bk.new rfl
 have HW:=lH hw1;have y0:=Iz.ay z0 K1.out;have y1:=Iz.ay z1 K1.out;have v0:=BT.out.c0;have v1:=BT.out.c1;have HR:=lH (h.kp K1.out);have HXX:Hid (∀j,w1.heap.size<=j->X j):=fun j hj=>hX j (ab3 K1.out.size hj)
 have HK:=lH hk;have hrr:=lH hr;have Vs:=zF hu.1;by_cases h0:s.2.length=0
 · rw[h0]at y1
   have yw:(W.alloc (.cells #[.slice P u.1.length p, .slice Q u.2.length q] 25)).cell? ⟨g,k*2+1,none⟩=some (.slice Q0 0 b0):=by rw[<-hw1];exact y1
   have HC:Hid (∀V,Kp w1 V->CJ 24 #[.agg #[.slice P u.1.length p, .slice Q u.2.length q]] V (aac u V)):=fun V kV=>Yy P Q _ p _ q u V ((hT.r.kp K1.out).kp kV) rfl rfl (by have:=Vs.1;omega) (by have:=Vs.2;omega)
   have hv:r=(u,0):=by rw[<-hr];unfold iS;rw[aaW h0]
   subst hv;clear h hk hX hT hu hq hr hS hs hw1 z0 z1 Vs h0;go_enter Tryz.func66,Tryz.ntmps66;go_wp2_with fail;rw[<-HW.out];go_wp2_with fail;refine(HC.out _ (Kp.refl _)).mono ?_;rintro e3 w3 ⟨A3,c3,B3,d3,rfl,s3,t3,k3⟩;have R3:=lH (HR.out.kp k3);have q0:=Iz.ay y0 k3;have q1:=Iz.ay y1 k3;have ff:=(R3.out.at_ HK.out).2;have P3:=lH (R3.out.put HK.out (t:=u) ⟨⟨s3.out.toSl.rd,t3.out.toSl.rd⟩,⟨s3.out.toSl.le,s3.out.toSl.cap⟩,⟨t3.out.toSl.le,t3.out.toSl.cap⟩⟩ (fun ad e h0=>HXX.out _ (s3.out.nw h0 ad e)) (fun ad e h0=>HXX.out _ (t3.out.nw h0 ad e)));have K3:=lH (K1.out.tr k3);clear s3 t3 k3 v0 v1 y0 y1;dsimp only;go_wp2;refine aaX (v:= .int .i64 0) (by simp[results,Tryz.results66,go_sem];try rfl) rfl ?_;exact⟨rfl,(by show zf _ _ _ _ (if(0:Int)=0 then _ else _);rw[aaW rfl];exact P3.out.1),(Kq.kp K3.out).tr P3.out.2⟩
 · have h0':¬(s.2.length:Int)=0:=by omega
   have yw:(W.alloc (.cells #[.slice P u.1.length p, .slice Q u.2.length q] 25)).cell? ⟨g,k*2+1,none⟩=some (.slice Q0 s.2.length b0):=by rw[<-hw1];exact y1
   have hsq:=XU hq h0;have HC:Hid (∀V,Kp w1 V->CJ 83 #[.int .i64 10, .agg #[.slice P0 s.1.length a0, .slice Q0 s.2.length b0], .agg #[.slice P u.1.length p, .slice Q u.2.length q]] V (aG (bg 10 s.1 s.2 u.1 u.2) V)):=
    fun V kV=>eZ 10 P0 Q0 P Q a0 b0 p q s.1 s.2 u.1 u.2 V ((hS.r.s.kp K1.out).kp kV) ((hS.r.d.kp K1.out).kp kV) ((hT.r.s.kp K1.out).kp kV) ((hT.r.d.kp K1.out).kp kV) hsq.2 hu.2
   have hv:r=tnE (bg 10 s.1 s.2 u.1 u.2):=by rw[<-hr];unfold iS;rw[aaT h0]
   obtain⟨U,hR⟩:=eX (bg 10 s.1 s.2 u.1 u.2);rw[<-hR]at HC hv;subst hv;have HSS:Hid (∀V,Kp w1 V->V.cell? ⟨W.heap.size,0,none⟩=some (.slice P u.1.length p)/\V.cell? ⟨W.heap.size,1,none⟩=some (.slice Q u.2.length q)/\V.cell? ⟨g,k*2,none⟩=some (.slice P0 s.1.length a0)/\V.cell? ⟨g,k*2+1,none⟩=some (.slice Q0 s.2.length b0)):=fun V kV=>⟨(BT.out.kp kV).c0,(BT.out.kp kV).c1,Iz.ay y0 kV,Iz.ay y1 kV⟩
   clear h hk hX hT hu hq hr hS hs hw1 z0 z1 Vs h0 hsq hR hrr;go_enter Tryz.func66,Tryz.ntmps66;go_wp2_with fail;rw[<-HW.out];go_wp2_with fail;clear y0 y1 v0 v1 yw
   go_cut [5,6] (fun v5 v6 wx=>∃b6 C c D d,v5= pX b6 0/\v6= .int .i64 U.2.2/\Hid (Bk wx b6 C U.1.length c D U.2.1.length d)/\Hid (Sw w1.heap.size wx C c U.1)/\Hid (Sw w1.heap.size wx D d U.2.1)/\Hid (Kp w1 wx))
   case first=>
    refine aa8 (S:=fun V=>V.cell? ⟨W.heap.size,0,none⟩=some (.slice P u.1.length p)/\V.cell? ⟨W.heap.size,1,none⟩=some (.slice Q u.2.length q)/\V.cell? ⟨g,k*2,none⟩=some (.slice P0 s.1.length a0)/\V.cell? ⟨g,k*2+1,none⟩=some (.slice Q0 s.2.length b0)) kM (HSS.out _ (aa3 (Kp.refl _))) (fun qJ=>?_);have X0:Hid (Kp w1 w1.drew):=aa3 (Kp.refl _);generalize w1.drew=V0 at X0 qJ⊢;refine tK 0 (pX g (k*2)) rfl qJ<|tK 1 (pX g (k*2)) rfl qJ<|tK 2 (.agg #[.slice P0 s.1.length a0, .slice Q0 s.2.length b0]) rfl qJ<|tK 3 (.agg #[.slice P u.1.length p, .slice Q u.2.length q]) rfl qJ ?_;refine abo (rs:=[4,8]) kM sC ?_;refine aa4 rfl (fun _ hK=>?o4) (aa4 rfl (fun _ hK=>?o8) abl)
    case' o4=>
     go_simp;refine(HC.out _ X0.out).mono ?_;rintro e6 V2 ⟨C,c,D,d,rfl,s6,t6,k5⟩;dsimp only;have SU:=lH (s6.mo X0.out.size);have TU:=lH (t6.mo X0.out.size);clear s6 t6;have X2:=lH (X0.out.tr k5);clear k5;refine hK.out _ _ (HSS.out _ X2.out) fun qJ=>?_
     clear hK X0;refine tK 5 (.tuple #[.agg #[.slice C U.1.length c, .slice D U.2.1.length d], .int .i64 U.2.2]) rfl qJ<|tK 6 (.agg #[.slice C U.1.length c, .slice D U.2.1.length d]) rfl qJ<|tK 7 (.int .i64 U.2.2) rfl qJ ?_;refine rD 8 rfl fun _ hK=>?_
     go_simp;have B6:Hid (Bk (V2.alloc (.cells #[.slice none 0 0, .slice none 0 0] 25)) V2.heap.size none 0 0 none 0 0):=Bk.new rfl;have X3:Hid (Kp w1 (V2.alloc (.cells #[.slice none 0 0, .slice none 0 0] 25))):=X2.out.tr (Kp.af _ _);have L6:Hid (w1.heap.size<=V2.heap.size):=X2.out.size;replace SU:=lH (SU.out.kp (Kp.af V2 (.cells #[.slice none 0 0, .slice none 0 0] 25)));replace TU:=lH (TU.out.kp (Kp.af V2 (.cells #[.slice none 0 0, .slice none 0 0] 25)));generalize V2.alloc (.cells #[.slice none 0 0, .slice none 0 0] 25)=V3 at X3 B6 SU TU⊢;generalize V2.heap.size=b6 at B6 L6⊢;refine hK.out _ _ (HSS.out _ X3.out) fun qJ=>?_
     clear hK X2
    case' o8=>
     go_simp;have B6:Hid (Bk (V0.alloc (.cells #[.slice none 0 0, .slice none 0 0] 25)) V0.heap.size none 0 0 none 0 0):=Bk.new rfl;have X1:Hid (Kp w1 (V0.alloc (.cells #[.slice none 0 0, .slice none 0 0] 25))):=X0.out.tr (Kp.af _ _);have L6:Hid (w1.heap.size<=V0.heap.size):=X0.out.size;generalize V0.alloc (.cells #[.slice none 0 0, .slice none 0 0] 25)=V1 at X1 B6⊢;generalize V0.heap.size=b6 at B6 L6⊢;refine hK.out _ _ (HSS.out _ X1.out) fun qJ=>?_
     clear hK X0;refine rD 4 rfl fun _ hK=>?_
     go_simp;refine(HC.out _ X1.out).mono ?_;rintro e6 V3 ⟨C,c,D,d,rfl,s6,t6,k5⟩;dsimp only;have SU:=lH (s6.mo X1.out.size);have TU:=lH (t6.mo X1.out.size);clear s6 t6;have X3:=lH (X1.out.tr k5);replace B6:=lH (B6.out.kp k5);clear k5;refine hK.out _ _ (HSS.out _ X3.out) fun qJ=>?_
     clear hK X1;refine tK 5 (.tuple #[.agg #[.slice C U.1.length c, .slice D U.2.1.length d], .int .i64 U.2.2]) rfl qJ<|tK 6 (.agg #[.slice C U.1.length c, .slice D U.2.1.length d]) rfl qJ<|tK 7 (.int .i64 U.2.2) rfl qJ ?_
    all_goals
     have o0:=B6.out.c0;have o1:=B6.out.c1;have f0:=B6.out.f0 0;have f1:=B6.out.f0 1;have X4:Hid (Kp w1 ((V3.setCell ⟨b6,0,none⟩ (.slice C U.1.length c)).setCell ⟨b6,1,none⟩ (.slice D U.2.1.length d))):=(X3.out.setCell (p:=⟨b6,0,none⟩) L6.out _).setCell (p:=⟨b6,1,none⟩) L6.out _;refine rD 9 rfl fun _ hK=>?_
     go_simp;refine hK.out _ _ (HSS.out _ X4.out) fun qJ=>?_
     clear hK;refine rD 10 rfl fun _ hK=>?_
     go_simp;refine hK.out _ _ (HSS.out _ X4.out) fun qJ=>?_
     clear hK;refine abp kM ?_ _;go_wp2;go_meet;exact⟨b6,C,c,D,d,rfl,rfl,B6.out.put,⟨SU.out.toSl.past B6.out _ _,SU.out.nw⟩,⟨TU.out.toSl.past B6.out _ _,TU.out.nw⟩,X4.out⟩
   case rest=>
   obtain⟨b6,C,c,D,d,rfl,rfl,B6,SU,TU,XC⟩:=hcut;have R3:=lH (HR.out.kp XC.out);obtain⟨_,_,q0,q1⟩:=HSS.out _ XC.out;have ff:=(R3.out.at_ HK.out).2;have P3:=lH (R3.out.put HK.out (t:=(U.1,U.2.1)) ⟨⟨SU.out.toSl.rd,TU.out.toSl.rd⟩,⟨SU.out.toSl.le,SU.out.toSl.cap⟩,⟨TU.out.toSl.le,TU.out.toSl.cap⟩⟩ (fun ad e h0=>HXX.out _ (SU.out.nw h0 ad e)) (fun ad e h0=>HXX.out _ (TU.out.nw h0 ad e)));have K3:=lH (K1.out.tr XC.out);have o0:=B6.out.c0;have o1:=B6.out.c1;by_cases he:U.2.2=0
   · have HE:=lH he
     rw[he];clear he;go_wp2;refine aaX (v:= .int .i64 0) (by simp[results,Tryz.results66,go_sem];try rfl) rfl ?_;exact⟨by show _=Ending.returned (.int .i64 U.2.2);rw[HE.out],(by show zf _ _ _ _ (if U.2.2=0 then _ else _);rw[aaW HE.out];exact P3.out.1),(Kq.kp K3.out).tr P3.out.2⟩
   · have he':(U.2.2 !=0)=true:=by simpa using he
     have HE:=lH he;clear he;go_wp2;refine aaX (v:= .int .i64 U.2.2) (by simp[results,Tryz.results66,go_sem];try rfl) rfl ?_;exact⟨rfl,(by show zf _ _ _ _ (if U.2.2=0 then _ else _);rw[aaT HE.out];exact R3.out),Kq.kp K3.out⟩
