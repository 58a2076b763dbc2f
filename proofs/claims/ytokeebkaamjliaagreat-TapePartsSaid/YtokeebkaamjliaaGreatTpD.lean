/- The landed tape: a tape in memory of its own. -/
import Derived.Test.YtokeebkaamjliaaGreatTpO
set_option maxHeartbeats 16000000
set_option maxRecDepth 100000
set_option linter.unusedVariables false
set_option linter.unusedSimpArgs false
namespace Go.Proofs.YtokeebkaamjliaaGreat.Ez
open RowKit ShM GrM InM ImM EvM
def Zk(ts:List T):Prop:=ts.length<=1000/\∀t∈ts,t.1.length<=1000/\t.2.length<=1000
/-- Few of all. -/
structure aal(t:Tpe):Prop where
 l:t.l.length<=1000/\∀n∈t.l,n.2.1.length<=1000/\n.2.2.length<=1000
 i:t.inp.1.length<=1000/\t.inp.2.length<=1000
 p:Zk t.ps
 v:Zk t.vals
 h:Zk t.hang
 d:Zk t.fD
def aak(t:Tpe)(w:World)(x:Ending)(w':World):Prop:=∃b G P e Q f R V H D,x= .returned (pX b 0)/\Hid (Rl w.heap.size b w' G P e Q f R V H D t)/\Kp w w'
/-- What a store of a slice into a box leaves. -/
theorem lG{w:World}{b j:Nat}{cs:List Value}{ty:TypeId}{B:DV}{n c:Nat}(h:Bx w b cs ty)(hj:cs[j]?=some (.slice B n c))(u:Value):Kq (fun k=>k=b) (fun _=>False) w (w.setCell ⟨b,j,none⟩ u):=
 Kq.over (S:=fun k=>k=b) (Z:=fun _=>False) (p:=⟨b,j,none⟩) rfl ⟨B,n,c,h.cell hj⟩ u
theorem Gw.aae{w:World}{B n c:Nat}{X:Nat->Prop}{A:DV}{ts:List Nd}(h:Gw B w (.slice A n c) ts)(hl:∀ad,A=some ad->Zy X w ad.block ts.length):Yz B X w (.slice A n c) ts:=by
 obtain⟨vs,ho,hv⟩:=id h;rcases ho.2 with⟨e,h0⟩|⟨g,cap,cur,e,_⟩
 · obtain rfl:=abd h0
   exact h.aav
 · injection e with e1 e2 e3
   subst e1;exact h.loc (hl _ rfl)
theorem ZA(t:Tpe)(A P Q R V H D:DV)(c e f d vc hc dc:Nat)(w:World)(h:LI w A c P Q e f R d V vc H hc D dc t)(hs:aal t):
 CJ 15 #[.agg #[.slice A t.l.length c, .slice P t.inp.1.length e, .slice Q t.inp.2.length f, .slice R t.ps.length d, .int .i64 t.phase, .int .i64 t.at_, .slice V t.vals.length vc, .slice H t.hang.length hc, .slice D t.fD.length dc, .int .i64 t.err]] w (aak t w):=by
 have HN:Hid (∀W,Kp w W->CJ 22 #[.slice A t.l.length c] W fun e w'=>∃A' c',e= .returned (.slice A' t.l.length c')/\Hid (Gw W.heap.size w' (.slice A' t.l.length c') t.l)/\Kp W w'):=fun W k=>ZP A c _ t.l W (h.g.kp k) rfl hs.l.1
 have HI:Hid (∀W,Kp w W->CJ 24 #[.agg #[.slice P t.inp.1.length e, .slice Q t.inp.2.length f]] W (aac t.inp W)):=fun W k=>Yy P Q _ e _ f t.inp W (h.i.r.kp k) rfl rfl (by have:=hs.i.1;omega) (by have:=hs.i.2;omega)
 have HR:Hid (∀W,Kp w W->CJ 25 #[.slice R t.ps.length d] W (Z8 0 t.ps W)):=fun W k=>I0 R _ d t.ps W (h.p.kp k) rfl hs.p.1 hs.p.2
 have HV:Hid (∀W,Kp w W->CJ 25 #[.slice V t.vals.length vc] W (Z8 0 t.vals W)):=fun W k=>I0 V _ vc t.vals W (h.v.kp k) rfl hs.v.1 hs.v.2
 have HH:Hid (∀W,Kp w W->CJ 25 #[.slice H t.hang.length hc] W (Z8 0 t.hang W)):=fun W k=>I0 H _ hc t.hang W (h.h.kp k) rfl hs.h.1 hs.h.2
 have HD:Hid (∀W,Kp w W->CJ 25 #[.slice D t.fD.length dc] W (Z8 0 t.fD W)):=fun W k=>I0 D _ dc t.fD W (h.d.kp k) rfl hs.d.1 hs.d.2
 have HC:Hid (∀W (A:DV) (n c:Nat) (xs:BU),Rd W A xs->n=xs.length->xs.length<=1000->CJ 23 #[.slice A n c] W (oQ xs W)):=fun W A n c xs r hn hl=>by
  rw[hn];exact cv A c xs W r oM
 have HF:=lH hs;obtain⟨w1,hw1⟩:=eX (w.alloc (.cells #[.slice A t.l.length c, .slice P t.inp.1.length e, .slice Q t.inp.2.length f, .slice R t.ps.length d, .int .i64 t.phase, .int .i64 t.at_, .slice V t.vals.length vc, .slice H t.hang.length hc, .slice D t.fD.length dc, .int .i64 t.err] 31));have B1:Hid (Bx w1 w.heap.size [.slice A t.l.length c, .slice P t.inp.1.length e, .slice Q t.inp.2.length f, .slice R t.ps.length d, .int .i64 t.phase, .int .i64 t.at_, .slice V t.vals.length vc, .slice H t.hang.length hc, .slice D t.fD.length dc, .int .i64 t.err] 31):=by rw[hw1];exact Bx.new rfl
 have K1:Hid (Kp w w1):=by rw[hw1];exact Kp.af _ _
 have HW1:=lH hw1;have Z1:Hid (w1.heap.size=w.heap.size+1):=by show _=_;rw[hw1,aaY]
 have x0:=B1.out.cell (j:=0) rfl;have hl1:t.l.length<=1000:=hs.l.1;clear h hs hw1;go_enter Tryz.func15,Tryz.ntmps15;go_wp2_with fail;rw[HW1.out]at x0;go_wp2_with fail;rw[<-HW1.out];refine(HN.out _ K1.out).mono ?_;rintro e2 w2 ⟨A2,c2,rfl,r2,k2⟩;have K2:=lH (K1.out.tr k2);have B2:=lH (B1.out.kp k2);have NE2:Hid (∀g,(Value.slice A2 t.l.length c2).ownBlock=some g->w.heap.size<g/\g<w2.heap.size):=fun g e=>by
  have:=r2.out.lt e;have:=Z1.out;omega
 have KS:Hid (Kq (fun k=>k=w.heap.size) (fun _=>False) w2 (w2.setCell ⟨w.heap.size,0,none⟩ (.slice A2 t.l.length c2))):=lG B2.out (j:=0) rfl _;have R2:Hid (Gw w1.heap.size (w2.setCell ⟨w.heap.size,0,none⟩ (.slice A2 t.l.length c2)) (.slice A2 t.l.length c2) t.l):=KS.out.aan r2.out (fun _ h=>h) fun g e h=>by have:=NE2.out g e;omega
 have B3:Hid (Bx (w2.setCell ⟨w.heap.size,0,none⟩ (.slice A2 t.l.length c2)) w.heap.size [.slice A2 t.l.length c2, .slice P t.inp.1.length e, .slice Q t.inp.2.length f, .slice R t.ps.length d, .int .i64 t.phase, .int .i64 t.at_, .slice V t.vals.length vc, .slice H t.hang.length hc, .slice D t.fD.length dc, .int .i64 t.err] 31):=B2.out.set 0 _;have K3:Hid (Kp w (w2.setCell ⟨w.heap.size,0,none⟩ (.slice A2 t.l.length c2))):=K2.out.setCell (p:=⟨w.heap.size,0,none⟩) (aaZ _) _;have y0:=B2.out.cell (j:=0) rfl;have f0:=B2.out.frz 0;have z0:=B3.out.cell (j:=0) rfl;clear k2 r2 x0;go_wp2_with fail
 go_loopw [12] (fun i wx=>∃k:Nat,i= .int .i64 (k:Int)/\Hid (k<=t.l.length)/\Hid (Gw w1.heap.size wx (.slice A2 t.l.length c2) t.l)/\Hid (∀ad,A2=some ad->Zy (fun j=>w.heap.size<=j) wx ad.block k)/\Hid (Bx wx w.heap.size [.slice A2 t.l.length c2, .slice P t.inp.1.length e, .slice Q t.inp.2.length f, .slice R t.ps.length d, .int .i64 t.phase, .int .i64 t.at_, .slice V t.vals.length vc, .slice H t.hang.length hc, .slice D t.fD.length dc, .int .i64 t.err] 31)/\Hid (Kp w wx)) (fun i _=>t.l.length-(intOf i).toNat)
 case atStart=>exact⟨0,rfl,aa6 _,R2.out,fun ad e j hj=>absurd hj (Nat.not_lt_zero j),B3.out,K3.out⟩
 case round=>
  clear y0 f0 z0;obtain⟨k,rfl,hk,hr,hlo,hb,hK⟩:=hrel;obtain⟨wo,hwo⟩:=eX (wr);subst hwo;by_cases hj:k<t.l.length
  · have hj':(k:Int)<(t.l.length:Int):=by omega
    have hk0:(0:Int)<=(k:Int):=by omega
    obtain⟨g,e1⟩:∃g,A2=some ⟨g,0,none⟩:=by
     obtain⟨vs,ho,_⟩:=hr.out;obtain⟨g,cap,e,_⟩:=World.ownsRow.form ho oM;injection e with e
     exact⟨g,e⟩
    subst e1;obtain⟨⟨P4,a4,Q4,b4,q0,q1,q2,rP,rQ⟩,hf⟩:=hr.out.at_ hj;have Ut:Hid (∀V P a Q b,Gw w1.heap.size V (.slice (some ⟨g,0,none⟩) t.l.length c2) t.l->Sl V P a (t.l.getD k nd0).2.1->Sl V Q b (t.l.getD k nd0).2.2->Gw w1.heap.size ((V.setCell ⟨g,k*3+1,none⟩ (.slice P (t.l.getD k nd0).2.1.length a)).setCell ⟨g,k*3+2,none⟩ (.slice Q (t.l.getD k nd0).2.2.length b)) (.slice (some ⟨g,0,none⟩) t.l.length c2) t.l):=fun V P a Q b h hP hQ=>(h.put hj hP hQ).1
    obtain⟨n,hn⟩:=eX (t.l.getD k nd0);rw[<-hn]at q0 q1 q2 rP rQ Ut;have hnm:n∈t.l:=by rw[hn,aaS,aaV hj];exact List.getElem_mem hj
    have hq:=HF.out.l.2 n hnm;have gl:=hr.out.lt (k:=g) rfl;have Z1':=Z1.out;have hgb:Hid (w.heap.size<g/\g<wo.heap.size):=⟨oM,gl.2⟩
    obtain⟨w3,hw3⟩:=eX (wo.alloc (.cells #[.int .i64 n.1, .slice P4 n.2.1.length a4, .slice Q4 n.2.2.length b4] 39));have KN:Hid (Kp wo w3):=by rw[hw3];exact Kp.af _ _
    have BN:Hid (Bx w3 wo.heap.size [.int .i64 n.1, .slice P4 n.2.1.length a4, .slice Q4 n.2.2.length b4] 39):=by rw[hw3];exact Bx.new rfl
    have HW3:=lH hw3;have HCP:Hid (∀V,Kp wo V->CJ 23 #[.slice P4 n.2.1.length a4] V (oQ n.2.1 V)):=fun V kV=>HC.out V P4 _ a4 n.2.1 (rP.kp kV) rfl hq.1
    have HCQ:Hid (∀V,Kp wo V->CJ 23 #[.slice Q4 n.2.2.length b4] V (oQ n.2.2 V)):=fun V kV=>HC.out V Q4 _ b4 n.2.2 (rQ.kp kV) rfl hq.2
    have HSS:Hid (∀V,Kp w3 V->V.cell? ⟨w.heap.size,0,none⟩=some (.slice (some ⟨g,0,none⟩) t.l.length c2)/\V.cell? ⟨wo.heap.size,1,none⟩=some (.slice P4 n.2.1.length a4)/\V.cell? ⟨wo.heap.size,2,none⟩=some (.slice Q4 n.2.2.length b4)):=fun V kV=>⟨((hb.out.kp KN.out).kp kV).cell (j:=0) rfl,(BN.out.kp kV).cell (j:=1) rfl,(BN.out.kp kV).cell (j:=2) rfl⟩
    have HQ1:Hid (∀V,Kp wo V->V.cell? ⟨g,k*3+1,none⟩=some (.slice P4 n.2.1.length a4)):=fun V kV=>Iz.ay q1 kV
    have HQ2:Hid (∀V,Kp wo V->V.cell? ⟨g,k*3+2,none⟩=some (.slice Q4 n.2.2.length b4)):=fun V kV=>Iz.ay q2 kV
    have HFZ:Hid (∀V,Kp wo V->∀i,V.frozen? ⟨g,i,none⟩=false):=fun V kV i=>(kV.frozen (p:=⟨g,i,none⟩) gl.2).trans (hf i)
    clear hn hnm hq gl Z1' rP rQ hw3;go_wp2_with fail;rw[<-HW3.out];clear q0 q1 q2 hf;refine aa8 (S:=fun V=>V.cell? ⟨w.heap.size,0,none⟩=some (.slice (some ⟨g,0,none⟩) t.l.length c2)/\V.cell? ⟨wo.heap.size,1,none⟩=some (.slice P4 n.2.1.length a4)/\V.cell? ⟨wo.heap.size,2,none⟩=some (.slice Q4 n.2.2.length b4)) kM (HSS.out _ (aa3 (Kp.refl _))) (fun qJ=>?_);have X3:Hid (Kp w3 w3.drew):=aa3 (Kp.refl _);generalize w3.drew=V0 at X3 qJ⊢;refine tK 0 (pX w.heap.size 0) rfl qJ<|tK 1 (.slice (some ⟨g,0,none⟩) t.l.length c2) rfl qJ<|tK 2 (.int .i64 (k:Int)) rfl qJ<|tK 3 (pX w.heap.size 0) rfl qJ<|tK 4 (.slice (some ⟨g,0,none⟩) t.l.length c2) rfl qJ<|tK 5 (.int .i64 (k:Int)) rfl qJ<|tK 6 (pX wo.heap.size 1) rfl qJ<|tK 7 (.slice P4 n.2.1.length a4) rfl qJ<|tK 9 (pX wo.heap.size 2) rfl qJ<|tK 10 (.slice Q4 n.2.2.length b4) rfl qJ ?_;refine rD 8 rfl fun _ hK9=>?_
    go_simp;refine(HCP.out _ (KN.out.tr X3.out)).mono ?_;rintro e4 w4 ⟨A6,c6,rfl,o4,k4⟩;dsimp only;have X4:Hid (Kp w3 w4):=X3.out.tr k4;have L4:=lH (o4.sw (b:=w.heap.size) (hK.out.tr (KN.out.tr X3.out)).size);have hS4:=HSS.out _ X4.out;clear k4 o4;refine hK9.out _ _ (hS4) fun qJ=>?_
    clear hK9;refine rD 11 rfl fun _ hK9=>?_
    go_simp;refine(HCQ.out _ (KN.out.tr X4.out)).mono ?_;rintro e5 w5 ⟨A7,c7,rfl,o5,k5⟩;dsimp only;have X5:Hid (Kp w3 w5):=X4.out.tr k5;have L5:=lH (o5.sw (b:=w.heap.size) (hK.out.tr (KN.out.tr X4.out)).size);have M5:=lH (L4.out.kp k5);have hS5:=HSS.out _ X5.out;clear k5 o5;refine hK9.out _ _ (hS5) fun qJ=>?_
    clear hK9;have K5:Hid (Kp wo w5):=KN.out.tr X5.out;have u1:=HQ1.out _ K5.out;have u2:=HQ2.out _ K5.out;have v1:=HFZ.out _ K5.out (k*3+1);have v2:=HFZ.out _ K5.out (k*3+2);refine tK 12 (pX g (k*3)) rfl qJ<|tK 13 (pX g (k*3+1)) rfl qJ ?_;refine rD 14 rfl fun _ hK9=>?_
    go_simp;have n1:(⟨g,k*3+1,none⟩:Addr)≠⟨w.heap.size,0,none⟩:=fun e=>by injection e with e;have:=hgb.out.1;omega
    have n2:∀i j,(⟨g,i,none⟩:Addr)≠⟨wo.heap.size,j,none⟩:=fun i j e=>by injection e with e;have:=hgb.out.2;omega
    have n3:∀i j,(⟨g,i,none⟩:Addr)≠⟨w.heap.size,j,none⟩:=fun i j e=>by injection e with e;have:=hgb.out.1;omega
    have hS6:(w5.setCell ⟨g,k*3+1,none⟩ (.slice A6 n.2.1.length c6)).cell? ⟨w.heap.size,0,none⟩=some (.slice (some ⟨g,0,none⟩) t.l.length c2)/\(w5.setCell ⟨g,k*3+1,none⟩ (.slice A6 n.2.1.length c6)).cell? ⟨wo.heap.size,1,none⟩=some (.slice P4 n.2.1.length a4)/\(w5.setCell ⟨g,k*3+1,none⟩ (.slice A6 n.2.1.length c6)).cell? ⟨wo.heap.size,2,none⟩=some (.slice Q4 n.2.2.length b4):=⟨bp (n3 _ _) hS5.1,bp (n2 _ _) hS5.2.1,bp (n2 _ _) hS5.2.2⟩
    refine hK9.out _ _ (hS6) fun qJ=>?_
    clear hK9;refine tK 15 (pX g (k*3)) rfl qJ<|tK 16 (pX g (k*3+2)) rfl qJ ?_;have u3:(w5.setCell ⟨g,k*3+1,none⟩ (.slice A6 n.2.1.length c6)).cell? ⟨g,k*3+2,none⟩=some (.slice Q4 n.2.2.length b4):=bp (fun e=>by injection e with _ e;omega) u2;have hS7:((w5.setCell ⟨g,k*3+1,none⟩ (.slice A6 n.2.1.length c6)).setCell ⟨g,k*3+2,none⟩ (.slice A7 n.2.2.length c7)).cell? ⟨w.heap.size,0,none⟩=some (.slice (some ⟨g,0,none⟩) t.l.length c2)/\((w5.setCell ⟨g,k*3+1,none⟩ (.slice A6 n.2.1.length c6)).setCell ⟨g,k*3+2,none⟩ (.slice A7 n.2.2.length c7)).cell? ⟨wo.heap.size,1,none⟩=some (.slice P4 n.2.1.length a4)/\((w5.setCell ⟨g,k*3+1,none⟩ (.slice A6 n.2.1.length c6)).setCell ⟨g,k*3+2,none⟩ (.slice A7 n.2.2.length c7)).cell? ⟨wo.heap.size,2,none⟩=some (.slice Q4 n.2.2.length b4):=⟨bp (n3 _ _) hS6.1,bp (n2 _ _) hS6.2.1,bp (n2 _ _) hS6.2.2⟩
    refine rD 17 rfl fun _ hK9=>?_
    go_simp;refine hK9.out _ _ (hS7) fun qJ=>?_
    clear hK9;refine abp kM ?_ _;have R6:=lH (Ut.out _ A6 c6 A7 c7 (hr.out.kp K5.out) M5.out.toSl L5.out.toSl);have L6:=lH (((hlo.out _ rfl).kp K5.out).put (P:=A6) (Q:=A7) (n:=n.2.1.length) (a:=c6) (m:=n.2.2.length) (b:=c7) (by rw[u1];rfl) (by rw[u2];rfl) (fun ad e h0=>M5.out.nw h0 ad e) (fun ad e h0=>L5.out.nw h0 ad e));have B6:Hid (Bx ((w5.setCell ⟨g,k*3+1,none⟩ (.slice A6 n.2.1.length c6)).setCell ⟨g,k*3+2,none⟩ (.slice A7 n.2.2.length c7)) w.heap.size [.slice (some ⟨g,0,none⟩) t.l.length c2, .slice P t.inp.1.length e, .slice Q t.inp.2.length f, .slice R t.ps.length d, .int .i64 t.phase, .int .i64 t.at_, .slice V t.vals.length vc, .slice H t.hang.length hc, .slice D t.fD.length dc, .int .i64 t.err] 31):=((hb.out.kp K5.out).other (p:=⟨g,k*3+1,none⟩) (by have:=hgb.out.1;show w.heap.size≠g;omega) _).other (p:=⟨g,k*3+2,none⟩) (by have:=hgb.out.1;show w.heap.size≠g;omega) _;have K6:Hid (Kp w ((w5.setCell ⟨g,k*3+1,none⟩ (.slice A6 n.2.1.length c6)).setCell ⟨g,k*3+2,none⟩ (.slice A7 n.2.2.length c7))):=((hK.out.tr K5.out).setCell (p:=⟨g,k*3+1,none⟩) (Nat.le_of_lt hgb.out.1) _).setCell (p:=⟨g,k*3+2,none⟩) (Nat.le_of_lt hgb.out.1) _;clear qJ hS4 hS5 hS6 hS7 HSS u1 u2 u3 v1 v2 n1 n2 n3;go_wp2;go_roundw
    case rel=>exact⟨k+1,by go_num,(by show k+1<=t.l.length;omega),R6.out,fun ad e=>by(injection e with e;subst e;exact L6.out),B6.out,K6.out⟩
    case measure=>simp[intOf];omega
  · have hj':¬(k:Int)<(t.l.length:Int):=by omega
    have hk2:k=t.l.length:=by have:=hk.out;omega
    have GL:=lH (hr.out.aae (X:=fun j=>w.heap.size<=j) fun ad e=>by rw[<-hk2];exact hlo.out ad e);have GB:Hid (∀g,(Value.slice A2 t.l.length c2).ownBlock=some g->w.heap.size<g/\g<wo.heap.size):=fun g e=>by have:=GL.out.lt e;have:=Z1.out;omega
    clear hr hlo hk2;have y1:=hb.out.cell (j:=1) rfl;have y2:=hb.out.cell (j:=2) rfl;go_wp2_with fail;refine(HI.out _ hK.out).mono ?_;rintro e5 w5 ⟨P5,e5',Q5,f5,rfl,s5,t5,k5⟩;have K5:=lH (hK.out.tr k5);have B5:=lH (hb.out.kp k5);obtain⟨W5,hW5⟩:=eX ((w5.setCell ⟨w.heap.size,1,none⟩ (.slice P5 t.inp.1.length e5')).setCell ⟨w.heap.size,2,none⟩ (.slice Q5 t.inp.2.length f5));have X5:Hid (Kq (fun j=>j=w.heap.size) (fun _=>False) w5 W5):=by rw[hW5];exact(lG B5.out (j:=1) rfl _).tr (lG (B5.out.set 1 _) (j:=2) rfl _)
    have B6:Hid (Bx W5 w.heap.size [.slice A2 t.l.length c2, .slice P5 t.inp.1.length e5', .slice Q5 t.inp.2.length f5, .slice R t.ps.length d, .int .i64 t.phase, .int .i64 t.at_, .slice V t.vals.length vc, .slice H t.hang.length hc, .slice D t.fD.length dc, .int .i64 t.err] 31):=by rw[hW5];exact(B5.out.set 1 _).set 2 _
    have K6:Hid (Kp w W5):=X5.out.to K5.out fun j e=>by rw[e];exact aaZ _
    have GL6:Hid (Yz w1.heap.size (fun j=>w.heap.size<=j) W5 (.slice A2 t.l.length c2) t.l):=X5.out.Zd ((Kq.kp (S:=fun j=>j=w.heap.size) (Z:=fun _=>False) k5).Zd GL.out (fun _ _ h=>h) fun g e h=>by have:=GB.out g e;omega) (fun _ _ h=>h) fun g e h=>by have:=GB.out g e;omega
    have IP6:Hid (Sw w.heap.size W5 P5 e5' t.inp.1):=⟨⟨X5.out.rd s5.out.rd fun _ _ _ h=>h,s5.out.le,s5.out.cap⟩,s5.out.nw.mo hK.out.size⟩
    have IQ6:Hid (Sw w.heap.size W5 Q5 f5 t.inp.2):=⟨⟨X5.out.rd t5.out.rd fun _ _ _ h=>h,t5.out.le,t5.out.cap⟩,t5.out.nw.mo hK.out.size⟩
    have GB6:Hid (∀g,(Value.slice A2 t.l.length c2).ownBlock=some g->w.heap.size<g/\g<W5.heap.size):=fun g e=>by have:=GB.out g e;have:=k5.size;have:=X5.out.size;omega
    have HW5:=lH hW5;have z0:=B5.out.cell (j:=1) rfl;have z1:=B5.out.cell (j:=2) rfl;have g0:=B5.out.frz 1;have g1:=B5.out.frz 2;clear hW5 s5 t5 k5 y1 y2 GL GB hK hb;dsimp only
    go_upto_region 8 with fail
    rw[<-HW5.out];clear z0 z1 g0 g1;have y3:=B6.out.cell (j:=3) rfl;go_wp2_with fail;refine(HR.out _ K6.out).mono ?_;rintro e6 w6 ⟨R6,d6,rfl,r6,k6⟩;obtain⟨W6,hW6⟩:=eX (w6.setCell ⟨w.heap.size,3,none⟩ (.slice R6 t.ps.length d6));have B7:=lH (B6.out.kp k6);have X6:Hid (Kq (fun j=>j=w.heap.size) (fun _=>False) w6 W6):=by rw[hW6];exact lG B7.out (j:=3) rfl _
    have X56:Hid (Kq (fun j=>j=w.heap.size) (fun _=>False) W5 W6):=(Kq.kp k6).tr X6.out;have B8:Hid (Bx W6 w.heap.size [.slice A2 t.l.length c2, .slice P5 t.inp.1.length e5', .slice Q5 t.inp.2.length f5, .slice R6 t.ps.length d6, .int .i64 t.phase, .int .i64 t.at_, .slice V t.vals.length vc, .slice H t.hang.length hc, .slice D t.fD.length dc, .int .i64 t.err] 31):=by rw[hW6];exact B7.out.set 3 _
    have K8:Hid (Kp w W6):=X56.out.to K6.out fun j e=>by rw[e];exact aaZ _
    have RB6:Hid (∀g,(Value.slice R6 t.ps.length d6).ownBlock=some g->W5.heap.size<=g/\g<w6.heap.size):=fun g e=>r6.out.lt e
    have LB5:Hid (w.heap.size<W5.heap.size):=B6.out.lt;have RR6:Hid (zf W5.heap.size (fun j=>w.heap.size<=j) W6 (.slice R6 t.ps.length d6) t.ps):=X6.out.row (r6.out.xm fun j _ h=>ab3 K6.out.size h) (fun _ _ h=>h) fun g e h=>by have:=RB6.out g e;have:=LB5.out;omega
    have HW6:=lH hW6;have z3:=B7.out.cell (j:=3) rfl;have g3:=B7.out.frz 3;clear hW6 k6 r6 y3;dsimp only
    go_upto_region 9 with fail
    rw[<-HW6.out];clear z3 g3;have HSS:Hid (∀U,Kp W6 U->U.cell? ⟨w.heap.size,6,none⟩=some (.slice V t.vals.length vc)/\U.cell? ⟨w.heap.size,7,none⟩=some (.slice H t.hang.length hc)/\U.cell? ⟨w.heap.size,8,none⟩=some (.slice D t.fD.length dc)):=fun U kU=>⟨(B8.out.kp kU).cell (j:=6) rfl,(B8.out.kp kU).cell (j:=7) rfl,(B8.out.kp kU).cell (j:=8) rfl⟩
    refine cQ (St:=[10,12,14]) (S:=fun U=>U.cell? ⟨w.heap.size,6,none⟩=some (.slice V t.vals.length vc)/\U.cell? ⟨w.heap.size,7,none⟩=some (.slice H t.hang.length hc)/\U.cell? ⟨w.heap.size,8,none⟩=some (.slice D t.fD.length dc)) kM (HSS.out _ (aa3 (Kp.refl _))) (fun qJ=>?_);have Y0:Hid (Kp W6 W6.drew):=aa3 (Kp.refl _);generalize W6.drew=V0 at Y0 qJ⊢;refine bV 0 (pX w.heap.size 6) rfl (fun _=>qJ)<|bV 3 (pX w.heap.size 7) rfl (fun _=>qJ)<|bV 6 (pX w.heap.size 8) rfl (fun _=>qJ)<|aT 1 (.slice V t.vals.length vc) rfl qJ<|aT 4 (.slice H t.hang.length hc) rfl qJ<|aT 7 (.slice D t.fD.length dc) rfl qJ ?_;refine cB 2 rfl fun _ hK9=>?_
    go_simp;refine(HV.out _ (K8.out.tr Y0.out)).mono ?_;rintro e7 w7 ⟨V7,c7,rfl,r7,k7⟩;dsimp only;have Y7:Hid (Kp W6 w7):=Y0.out.tr k7;have hS7:=HSS.out _ Y7.out;have LA:Hid (W6.heap.size<=V0.heap.size/\V0.heap.size<=w7.heap.size):=⟨Y0.out.size,k7.size⟩
    clear k7;refine hK9.out _ _ (fun _=>hS7) ?_;clear hK9;refine bV 9 (pX w.heap.size 6) rfl (fun _=>hS7) ?_;refine cB 5 rfl fun _ hK9=>?_
    go_simp;refine(HH.out _ (K8.out.tr Y7.out)).mono ?_;rintro e8 w8 ⟨H8,c8,rfl,r8,k8⟩;dsimp only;have Y8:Hid (Kp W6 w8):=Y7.out.tr k8;have k8':=lH k8;have hS8:=HSS.out _ Y8.out;clear k8;refine hK9.out _ _ (fun _=>hS8) ?_;clear hK9;refine cB 8 rfl fun _ hK9=>?_
    go_simp;refine(HD.out _ (K8.out.tr Y8.out)).mono ?_;rintro e9 w9 ⟨D9,c9,rfl,r9,k9⟩;dsimp only;have Y9:Hid (Kp W6 w9):=Y8.out.tr k9;have k9':=lH k9;have hS9:=HSS.out _ Y9.out;clear k9;refine hK9.out _ _ (fun _=>hS9) ?_;clear hK9;have B9:=lH (B8.out.kp Y9.out);have o6:=B9.out.cell (j:=6) rfl;have o7:=(B9.out.set 6 (.slice V7 t.vals.length c7)).cell (j:=7) rfl;have o8:=((B9.out.set 6 (.slice V7 t.vals.length c7)).set 7 (.slice H8 t.hang.length c8)).cell (j:=8) rfl;have p6:=B9.out.frz 6;have p7:=B9.out.frz 7;have p8:=B9.out.frz 8;refine cB 10 rfl fun _ hK9=>?_
    go_simp;refine hK9.out _ _ (fun h=>absurd h dG) ?_;clear hK9;refine bV 11 (pX w.heap.size 7) rfl (fun h=>absurd h dG) ?_;refine cB 12 rfl fun _ hK9=>?_
    go_simp;refine hK9.out _ _ (fun h=>absurd h dG) ?_;clear hK9;refine bV 13 (pX w.heap.size 8) rfl (fun h=>absurd h dG) ?_;refine cB 14 rfl fun _ hK9=>?_
    go_simp;refine hK9.out _ _ (fun h=>absurd h dG) ?_;clear hK9;refine cK kM ?_ _;obtain⟨W9,hW9⟩:=eX (((w9.setCell ⟨w.heap.size,6,none⟩ (.slice V7 t.vals.length c7)).setCell ⟨w.heap.size,7,none⟩ (.slice H8 t.hang.length c8)).setCell ⟨w.heap.size,8,none⟩ (.slice D9 t.fD.length c9));have X9:Hid (Kq (fun j=>j=w.heap.size) (fun _=>False) w9 W9):=by rw[hW9];exact((lG B9.out (j:=6) rfl _).tr (lG (B9.out.set 6 _) (j:=7) rfl _)).tr (lG ((B9.out.set 6 _).set 7 _) (j:=8) rfl _)
    have BF:Hid (Bx W9 w.heap.size [.slice A2 t.l.length c2, .slice P5 t.inp.1.length e5', .slice Q5 t.inp.2.length f5, .slice R6 t.ps.length d6, .int .i64 t.phase, .int .i64 t.at_, .slice V7 t.vals.length c7, .slice H8 t.hang.length c8, .slice D9 t.fD.length c9, .int .i64 t.err] 31):=by rw[hW9];exact((B9.out.set 6 _).set 7 _).set 8 _
    rw[<-hW9];have X69:Hid (Kq (fun j=>j=w.heap.size) (fun _=>False) W6 W9):=(Kq.kp Y9.out).tr X9.out;have KF:Hid (Kp w W9):=X69.out.to K8.out fun j e=>by rw[e];exact aaZ _
    have BV:Hid (∀g,(Value.slice V7 t.vals.length c7).ownBlock=some g->W6.heap.size<=g/\g<w7.heap.size):=fun g e=>by have:=r7.out.lt e;have:=LA.out.1;omega
    have BH:Hid (∀g,(Value.slice H8 t.hang.length c8).ownBlock=some g->w7.heap.size<=g/\g<w8.heap.size):=fun g e=>r8.out.lt e
    have BD:Hid (∀g,(Value.slice D9 t.fD.length c9).ownBlock=some g->w8.heap.size<=g/\g<w9.heap.size):=fun g e=>r9.out.lt e
    have S1:=LB5.out;have S2:=X56.out.size;have S3:=LA.out;have S4:=k8'.out.size;have S5:=k9'.out.size;have S6:=X9.out.size;have S7:=X6.out.size;have VR:Hid (zf w.heap.size (fun j=>w.heap.size<=j) W9 (.slice V7 t.vals.length c7) t.vals):=((Kq.kp (k8'.out.tr k9'.out)).tr X9.out).row (r7.out.bm oM|>.xm fun j _ h=>by omega) (fun _ _ h=>h) fun g e h=>by have:=BV.out g e;omega
    have HR9:Hid (zf w.heap.size (fun j=>w.heap.size<=j) W9 (.slice H8 t.hang.length c8) t.hang):=((Kq.kp k9'.out).tr X9.out).row (r8.out.bm oM|>.xm fun j _ h=>by omega) (fun _ _ h=>h) fun g e h=>by have:=BH.out g e;omega
    have DR:Hid (zf w.heap.size (fun j=>w.heap.size<=j) W9 (.slice D9 t.fD.length c9) t.fD):=X9.out.row (r9.out.bm oM|>.xm fun j _ h=>by omega) (fun _ _ h=>h) fun g e h=>by have:=BD.out g e;omega
    have RR9:Hid (zf w.heap.size (fun j=>w.heap.size<=j) W9 (.slice R6 t.ps.length d6) t.ps):=X69.out.row (RR6.out.bm oM) (fun _ _ h=>h) fun g e h=>by have:=RB6.out g e;omega
    have GL9:Hid (Yz w.heap.size (fun j=>w.heap.size<=j) W9 (.slice A2 t.l.length c2) t.l):=(X69.out.Zd (X56.out.Zd GL6.out (fun _ _ h=>h) fun g e h=>by have:=GB6.out g e;omega) (fun _ _ h=>h) fun g e h=>by have:=GB6.out g e;omega).bm (by have:=Z1.out;omega);have X59:Hid (Kq (fun j=>j=w.heap.size) (fun _=>False) W5 W9):=X56.out.tr X69.out;have IP9:Hid (Sw w.heap.size W9 P5 e5' t.inp.1):=⟨⟨X59.out.rd IP6.out.toSl.rd fun _ _ _ h=>h,IP6.out.toSl.le,IP6.out.toSl.cap⟩,IP6.out.nw⟩
    have IQ9:Hid (Sw w.heap.size W9 Q5 f5 t.inp.2):=⟨⟨X59.out.rd IQ6.out.toSl.rd fun _ _ _ h=>h,IQ6.out.toSl.le,IQ6.out.toSl.cap⟩,IQ6.out.nw⟩
    have y0:=BF.out.cell (j:=0) rfl;have y1:=BF.out.cell (j:=1) rfl;have y2:=BF.out.cell (j:=2) rfl;have y3':=BF.out.cell (j:=3) rfl;have y4:=BF.out.cell (j:=4) rfl;have y5:=BF.out.cell (j:=5) rfl;have y6:=BF.out.cell (j:=6) rfl;have y7:=BF.out.cell (j:=7) rfl;have y8:=BF.out.cell (j:=8) rfl;have y9:=BF.out.cell (j:=9) rfl;clear qJ hS7 hS8 hS9 o6 o7 o8 p6 p7 p8 hW9 r7 r8 r9 HSS;go_wp2;refine aaX (v:= pX W9.heap.size 0) (by simp[results,Tryz.results15,go_sem];try rfl) rfl ?_;have kk:Kp W9 (W9.alloc (.cells #[.slice A2 t.l.length c2, .slice P5 t.inp.1.length e5', .slice Q5 t.inp.2.length f5, .slice R6 t.ps.length d6, .int .i64 t.phase, .int .i64 t.at_, .slice V7 t.vals.length c7, .slice H8 t.hang.length c8, .slice D9 t.fD.length c9, .int .i64 t.err] 51)):=Kp.af _ _;have hXb:∀j,j<W9.heap.size->w.heap.size<=j->Xb w.heap.size W9.heap.size j:=fun j h1 h2=>⟨h2,oM⟩
    have T1:=Z1.out;refine⟨W9.heap.size, .slice A2 t.l.length c2,P5,e5',Q5,f5, .slice R6 t.ps.length d6, .slice V7 t.vals.length c7, .slice H8 t.hang.length c8, .slice D9 t.fD.length c9,rfl,lH ⟨Bx.new rfl,KF.out.size,?_,⟨(Kq.kp (S:=fun _=>False) (Z:=fun _=>False) kk).Zd (GL9.out.xm hXb) (fun _ _ h=>h) (fun _ _ h=>h),⟨IP9.out.toSl.kp kk,fun ad e0 h0=>?_⟩,⟨IQ9.out.toSl.kp kk,fun ad e0 h0=>?_⟩,(RR9.out.xm hXb).kp kk,(VR.out.xm hXb).kp kk,(HR9.out.xm hXb).kp kk,(DR.out.xm hXb).kp kk,?_⟩⟩,KF.out.tr kk⟩
    · intro x hx e0
      simp only[abD,ab6,or_false]at hx;rcases hx with rfl|rfl|rfl|rfl|rfl
      · have:=GB6.out _ e0;omega
      · have:=RB6.out _ e0;omega
      · have:=BV.out _ e0;omega
      · have:=BH.out _ e0;omega
      · have:=BD.out _ e0;omega
    · obtain⟨ad',e1,hlt,_⟩:=IP9.out.toSl.rd.2 h0
      rw[e0]at e1;injection e1 with e1;subst e1
      exact hXb _ hlt (IP9.out.nw h0 _ e0)
    · obtain⟨ad',e1,hlt,_⟩:=IQ9.out.toSl.rd.2 h0
      rw[e0]at e1;injection e1 with e1;subst e1
      exact hXb _ hlt (IQ9.out.nw h0 _ e0)
    · refine List.Pairwise.cons ?_ (List.Pairwise.cons ?_ (List.Pairwise.cons ?_ (List.Pairwise.cons ?_ (List.Pairwise.cons (fun y hy=>by cases hy) List.Pairwise.nil))))<;>intro y hy j ej ek<;>simp only[abD,ab6,or_false]at hy
      · have:=GB6.out _ ej
        rcases hy with rfl|rfl|rfl|rfl
        · have:=RB6.out _ ek;omega
        · have:=BV.out _ ek;omega
        · have:=BH.out _ ek;omega
        · have:=BD.out _ ek;omega
      · have:=RB6.out _ ej
        rcases hy with rfl|rfl|rfl
        · have:=BV.out _ ek;omega
        · have:=BH.out _ ek;omega
        · have:=BD.out _ ek;omega
      · have:=BV.out _ ej
        rcases hy with rfl|rfl
        · have:=BH.out _ ek;omega
        · have:=BD.out _ ek;omega
      · have:=BH.out _ ej
        subst hy;have:=BD.out _ ek;omega
