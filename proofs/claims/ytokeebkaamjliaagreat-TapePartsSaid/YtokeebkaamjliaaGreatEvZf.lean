import Derived.Test.YtokeebkaamjliaaGreatEvZc
set_option maxHeartbeats 16000000
set_option maxRecDepth 100000
set_option linter.unusedVariables false
set_option linter.unusedSimpArgs false
namespace Go.Proofs.YtokeebkaamjliaaGreat.Ez
open RowKit ShM GrM InM ImM cF EvM Gz
def za(r:BU×Int)(w:World)(e:Ending)(w':World):Prop:=
 ∃A c,e= .returned (.agg #[.slice A r.1.length c, .int .i64 r.2])/\Hid (Sl w' A c r.1)/\Hid (Kp w w')
theorem za.box{r:BU×Int}{s:BU}{err:Int}{w w3:World}{b n:Nat}{A:DV}{c:Nat}(hr:r=(s,err))(hn:n=s.length)(hb:w.heap.size<=b)
  (hA:Sl w3 A c s)(hx:∀ad,A=some ad->0<s.length->ad.block≠b)(k:Kp w w3):
  za r w (.returned (.agg #[.slice A n c, .int .i64 err])) ((w3.setCell ⟨b,0,none⟩ (.slice A n c)).setCell ⟨b,1,none⟩ (.int .i64 err)):=by
 subst hr hn;refine⟨A,c,rfl,⟨?_,hA.le,hA.cap⟩,(k.setCell (p:=⟨b,0,none⟩) hb (.slice A s.length c)).setCell (p:=⟨b,1,none⟩) hb (.int .i64 err)⟩;show Rd _ A s
 cases s with
 |nil=>exact Rd.nil _ _
 |cons z zs=>exact(hA.rd.gW (fun ad e=>hx ad e sC) _).gW (fun ad e=>hx ad e sC) _
def shE(op:Int)(nums:BU)(ts:List T):BU×Int:=if ts.all bO=false then([],30)else aF op nums (shT ts)
theorem Nw{op:Int}{nums:BU}{ts:List T}{k:Nat}{t:T}(ht:ts[k]?=some t)(hf:bO t=false):shE op nums ts=([],30):=by
 unfold shE;rw[aaW];rw[List.all_eq_false];exact⟨t,aa1 ht,by simp[hf]⟩
theorem JY{op:Int}{nums:BU}{ts:List T}(h:∀k,k<ts.length->∀t,ts[k]?=some t->bO t=true):shE op nums ts=aF op nums (shT ts):=by
 unfold shE;rw[aaT];intro hh;rw[List.all_eq_false]at hh;obtain⟨t,ht,hf⟩:=hh;obtain⟨k,hk⟩:=abC.1 ht;exact hf (h k (aaU.1 hk).1 t hk)
theorem vu{ts:List T}{k:Nat}{t:T}(h:ts[k]?=some t):shT (ts.take (k+1))=shT (ts.take k)++[t.1]:=by
 unfold shT;rw[cr h,abK];rfl
theorem Ab(op:Int)(nums:BU)(P Q A:DV)(n c m d na e:Nat)(ts:List T)(r:BU×Int)(w:World)(hQ:Rd w Q nums)(hA:RdT w A ts)(hm:m=nums.length)(hd:m<=d/\d<=9223372036854775807)(hna:na=ts.length)(hts:ts.length<=100)(hw:W64 nums)(hl:nums.length<=100)(hr:shE op nums ts=r):
  CJ 63 #[.agg #[.int .i64 op, .slice P n c, .slice Q m d], .slice A na e] w (za r w):=by
 obtain⟨w1,hw1⟩:=eX ((w.alloc (.cells #[.int .i64 op, .slice P n c, .slice Q m d] 39)).alloc (.cells #[.slice none 0 0, .int .i64 0] 86));have BN:Hid (Bx w1 w.heap.size [.int .i64 op, .slice P n c, .slice Q m d] 39):=by rw[hw1];exact(Bx.new rfl).kp (Kp.af _ _)
 have BT:Hid (Bx w1 (w.heap.size+1) [.slice none 0 0, .int .i64 0] 86):=by rw[hw1];exact Bx.new (by rw[aaY])
 have K1:Hid (Kp w w1):=by rw[hw1];exact(Kp.af _ _).tr (Kp.af _ _)
 have HW1:=lH hw1;have HRD:=lH (hA.kp K1.out);have HND:Hid (∀V A8 c8 ng,Kp w V->RdL V A8 (shT ts)->ng=(shT ts).length->ng<=c8/\c8<=9223372036854775807->CJ 27 #[.agg #[.int .i64 op, .slice P n c, .slice Q m d], .slice A8 ng c8] V (Iz.cZ (aF op nums (shT ts)) V)):=fun V A8 c8 ng kV h8 hng h9=>
  Iz.Bl op nums P Q A8 n c m d ng c8 (shT ts) V (hQ.kp kV) h8 hm hd hng h9 hw hl
 have HL:=lH hts;have HNA:=lH hna;have HR:=lH hr;have Vj:na<=100:=by omega
 clear hw1 hQ hA hm hd hna hts hw hl hr;go_enter Tryz.func63,Tryz.ntmps63;go_wp2_with fail;rw[<-HW1.out]
 go_loopw [5,10] (fun v i wx=>∃k:Nat,∃gs:List (BU),Hid (jM w1.heap.size (fun b=>b<w1.heap.size) wx v gs)/\i= .int .i64 (k:Int)/\Hid (k<=na)/\Hid (gs=shT (ts.take k))/\Hid (∀j,j<k->∀t,ts[j]?=some t->bO t=true)/\Hid (Kp w1 wx)) (fun _ i _=>na-(intOf i).toNat)
 case atStart=>exact⟨0,[],jM.bU _ _ _,rfl,aa6 _,rfl,fun j hj=>absurd hj (Nat.not_lt_zero j),Kp.refl _⟩
 case round=>
  obtain⟨k,gs,hG,rfl,hk,hgs,hok,hK⟩:=hrel;obtain⟨wo,hwo⟩:=eX (wr);subst hwo;obtain⟨A8,c8,rfl,hR8,CH,CG⟩:=hG.out.form;have HR8:=lH hR8;have HC8:=lH (And.intro CH CG);have hgl:Hid (gs.length=k):=by show _=_;rw[hgs.out];unfold shT;rw[abA,abv];have:=HNA.out;have:=hk.out;omega
  clear hR8 CH CG;by_cases hj:k<na
  ·have hj':(k:Int)<(na:Int):=by omega
   obtain⟨ad,t,P1,e1,Q1,f1,rfl,hlt,ht,hc0,hc1,hT,x1,x2,hb1,hb2⟩:=(HRD.out.kp hK.out).DS (k:=k) (by rw[<-HNA.out];exact hj);have HTT:Hid (ts[k]?=some t):=ht;have HT:=lH hT;have HB1:=lH hb1;have hold:Hid (∀ad,P1=some ad->0<t.1.length->ad.block<w1.heap.size):=by
    obtain⟨ad',t',P',e',Q',f',ea,_,ht',Sc,Lo,hT',_⟩:=HRD.out.DS (k:=k) (by rw[<-HNA.out];exact hj);injection ea with ea
    subst ea;rw[ht]at ht';injection ht' with ht';subst ht'
    have q:=(Iz.ay Sc hK.out).symm.trans hc0;injection q with q
    injection q with q1 q2 q3
    subst q1;intro ad ea hp;obtain⟨ad2,e2,hb2,_⟩:=hT'.s.2 hp;rw[ea]at e2;injection e2 with e2;subst e2;exact hb2
   obtain⟨wb,hwb⟩:=eX (wo.alloc (.cells #[.slice P1 t.1.length e1, .slice Q1 t.2.length f1] 25));have z0:(wo.alloc (.cells #[.slice none 0 0, .slice none 0 0] 25)).cell? (ad.add (k*2))=some (.slice P1 t.1.length e1):=Iz.ay hc0 (Kp.af _ _);have z1:(wo.alloc (.cells #[.slice none 0 0, .slice none 0 0] 25)).cell? ⟨(ad.add (k*2)).block,(ad.add (k*2)).off+1,none⟩=some (.slice Q1 t.2.length f1):=Iz.ay hc1 (Kp.af _ _);have KB:Hid (Kp wo wb):=by rw[hwb];exact Kp.af _ _
   have FW:Hid (Bk wb wo.heap.size P1 t.1.length e1 Q1 t.2.length f1):=by rw[hwb];exact Bk.new rfl
   have HWB:=lH hwb;have HCK:Hid (∀V,Kp wo V->CJ 77 #[.agg #[.slice P1 t.1.length e1, .slice Q1 t.2.length f1]] V fun e w'=>e= .returned (.bool (bO t))/\Kp V w'):=fun V kV=>
    av P1 Q1 e1 f1 t.1 t.2 V (HT.out.s.kp kV) (HT.out.d.kp kV)
   have y0:=FW.out.c0;have y1:=FW.out.c1;clear hwb hT x1 x2 hb1 hb2 ht
   cases hck:bO t with
   |false=>
    rw[hck]at HCK;have hr:r=([],30):=by rw[<-HR.out];exact Nw HTT.out hck
    subst hr;clear hck;go_wp2_with fail;rw[<-HWB.out];refine(HCK.out _ KB.out).mono ?_;rintro e3 w3 ⟨rfl,k3⟩;have K3:=lH ((hK.out.tr KB.out).tr k3);have o0:=(BT.out.kp K3.out).cell (j:=0) rfl;have o1:=(BT.out.kp K3.out).cell (j:=1) rfl;have f0:=(BT.out.kp K3.out).frz 0;have f1:=(BT.out.kp K3.out).frz 1;clear k3 y0 y1 z0 z1 hc0 hc1;go_wp2;refine aaX (v:= .agg #[.slice none 0 0, .int .i64 30]) (by simp[results,Tryz.results63,go_sem,o0,o1];try rfl) rfl ?_;exact za.box rfl rfl (abe _) (Sl.bU _) (fun _ h=>by cases h) (K1.out.tr K3.out)
   |true=>
    rw[hck]at HCK;have HT1:Hid (shT (ts.take (k+1))=gs++[t.1]):=by show _=_;rw[vu HTT.out,hgs.out]
    have HOK:Hid (∀j,j<k+1->∀t,ts[j]?=some t->bO t=true):=fun j hj t' ht'=>by
     by_cases e:j=k
     ·subst e;rw[HTT.out]at ht';injection ht' with ht';subst ht';exact hck
     ·exact hok.out j oM t' ht'
    clear hck;go_wp2_with fail;rw[<-HWB.out];refine(HCK.out _ KB.out).mono ?_;rintro e3 w3 ⟨rfl,k3⟩;have K3:=lH (KB.out.tr k3);have y3:=(FW.out.kp k3).c0;have y4:=(FW.out.kp k3).c1;have HS3:=lH (HT.out.s.kp K3.out);have HX1:Hid (∀ad',P1=some ad'->0<t.1.length->ad'.block<w1.heap.size/\(Value.slice A8 gs.length c8).ownBlock≠some ad'.block):=fun ad' e1 e2=>by
     refine⟨hold.out ad' e1 e2,fun e3=>?_⟩;have h1:=hG.out.from_ e3;have h2:=hold.out ad' e1 e2;omega
    have HGL:Hid (gs.length<=100):=by show _<=_;have:=hgl.out;have:=HL.out;have:=HNA.out;omega
    have HSZ:Hid (w1.heap.size<=w3.heap.size):=(hK.out.tr K3.out).size;have HG3:=lH (hG.out.kp K3.out);clear k3 y0 y1 z0 z1 hc0 hc1;go_wp2_with (at_builtin;refine gF (B:=w1.heap.size) (X:=fun b=>b<w1.heap.size) rfl (.tmp 18) (.tmp 21) rfl _ gs rfl (HG3.out.kp (Kp.af _ _)) _ _ [t.1] 1 rfl rfl (iA.one HS3.out HB1.out.1 HB1.out.2 HX1.out _) (by have:=HGL.out;simp;omega) (by have:=HSZ.out;simp;omega) ?_;intro z1 A1 c1 w6 HZ1 o1 b1 _;have O1:=lH o1;have K6:Hid (Kp w1 w6):=(gal (hK.out.tr K3.out) _).trans b1;clear o1 b1);go_roundw
    case rel=>exact⟨k+1,z1,O1.out,by go_num,(by show k+1<=na;omega),(by show z1=_;rw[HZ1.out,HT1.out]),HOK.out,K6.out⟩
    case measure=>simp[intOf];omega
  ·have hj':¬(k:Int)<(na:Int):=by omega
   have Jh:Hid (gs=shT ts):=by show _=_;rw[hgs.out,abS (by have:=HNA.out;omega)]
   have hv:Hid (r=aF op nums (shT ts)):=by
    show _=_;rw[<-HR.out];exact JY fun j hj2 t ht=>hok.out j (by have:=HNA.out;omega) t ht
   have b0:=(BN.out.kp hK.out).cell (j:=0) rfl;have b1:=(BN.out.kp hK.out).cell (j:=1) rfl;have b2:=(BN.out.kp hK.out).cell (j:=2) rfl;have HN:=lH (HND.out wo A8 c8 gs.length (K1.out.tr hK.out) (by rw[<-Jh.out];exact HR8.out.all) (by rw[Jh.out]) HC8.out);rw[<-hv.out]at HN;go_wp2_with fail;refine HN.out.mono ?_;rintro e3 w3 ⟨A3,c3,rfl,s3,x3,k3⟩;have K3:=lH (hK.out.tr k3);have S3:=lH s3;have HLT:Hid (w.heap.size+1<wo.heap.size):=(BT.out.kp hK.out).lt;have X3:Hid (∀ad,A3=some ad->0<r.1.length->ad.block≠w.heap.size+1):=fun ad e1 e2=>by
    have:=x3 ad e1 e2;have:=HLT.out;omega
   clear k3 s3 x3 b0 b1 b2;dsimp only;go_wp2_with fail;refine(Nr _ _ _ _ _).mono ?_;rintro e4 w4 ⟨rfl,k4⟩;have K4:=lH (K3.out.tr k4);have S4:=lH (S3.out.kp k4);have o0:=(BT.out.kp K4.out).cell (j:=0) rfl;have o1:=(BT.out.kp K4.out).cell (j:=1) rfl;have f0:=(BT.out.kp K4.out).frz 0;have f1:=(BT.out.kp K4.out).frz 1;clear k4;go_wp2;refine aaX (v:= .agg #[.slice A3 r.1.length c3, .int .i64 r.2]) (by simp[results,Tryz.results63,go_sem,o0,o1];try rfl) rfl ?_;exact za.box rfl rfl (abe _) S4.out X3.out (K1.out.tr K4.out)
