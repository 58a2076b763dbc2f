/- The landed vjp: why a node can't be turned back. -/
import Derived.Test.YtokeebkaamjliaaGreatEvZf
import Derived.Test.YtokeebkaamjliaaGreatVkF
set_option maxHeartbeats 16000000
set_option maxRecDepth 100000
set_option linter.unusedVariables false
set_option linter.unusedSimpArgs false
namespace Go.Proofs.YtokeebkaamjliaaGreat.Ez
open RowKit ShM GrM InM ImM cF EvM
def rZ(op:Int)(nums:BU)(ts:List T)(o g:T):Int:=
 if ts.all bO=false then 30 else if bO o=false then 30 else if bO g=false then 30 else
 if(aF op nums (shT ts)).2≠0 then(aF op nums (shT ts)).2 else if(o.1==(aF op nums (shT ts)).1)=false then 20 else if(g.1==(aF op nums (shT ts)).1)=false then 20 else 0
theorem KQ{op:Int}{nums:BU}{ts:List T}{o g:T}{k:Nat}{t:T}(ht:ts[k]?=some t)(hf:bO t=false):rZ op nums ts o g=30:=by
 unfold rZ;rw[aaW];rw[List.all_eq_false];exact⟨t,aa1 ht,by simp[hf]⟩
theorem Gc{op:Int}{nums:BU}{ts:List T}{o g:T}(h:∀k,k<ts.length->∀t,ts[k]?=some t->bO t=true):rZ op nums ts o g=if bO o=false then 30 else if bO g=false then 30 else
  if(aF op nums (shT ts)).2≠0 then(aF op nums (shT ts)).2 else if(o.1==(aF op nums (shT ts)).1)=false then 20 else if(g.1==(aF op nums (shT ts)).1)=false then 20 else 0:=by
 unfold rZ;rw[aaT];intro hh;rw[List.all_eq_false]at hh;obtain⟨t,ht,hf⟩:=hh;obtain⟨k,hk⟩:=abC.1 ht;exact hf (h k (aaU.1 hk).1 t hk)
theorem Ga(op:Int)(nums:BU)(P Q A O1 O2 G1 G2:DV)(n c m d na e o1 o2 g1 g2:Nat)(ts:List T)(o g:T)(r:Int)(w:World)(hQ:Rd w Q nums)(hA:RdT w A ts)(ho:TRc w O1 o1 O2 o2 o)(hg:TRc w G1 g1 G2 g2 g)(hm:m=nums.length)(hd:m<=d/\d<=9223372036854775807)(hna:na=ts.length)(hts:ts.length<=100)(hw:W64 nums)(hl:nums.length<=100)(hr:rZ op nums ts o g=r):
  CJ 106 #[.agg #[.int .i64 op, .slice P n c, .slice Q m d], .slice A na e, .agg #[.slice O1 o.1.length o1, .slice O2 o.2.length o2], .agg #[.slice G1 g.1.length g1, .slice G2 g.2.length g2]] w fun e w'=>e= .returned (.int .i64 r)/\Kp w w':=by
 obtain⟨w1,hw1⟩:=eX (((w.alloc (.cells #[.int .i64 op, .slice P n c, .slice Q m d] 39)).alloc (.cells #[.slice O1 o.1.length o1, .slice O2 o.2.length o2] 25)).alloc (.cells #[.slice G1 g.1.length g1, .slice G2 g.2.length g2] 25));have BN:Hid (Bx w1 w.heap.size [.int .i64 op, .slice P n c, .slice Q m d] 39):=by rw[hw1];exact((Bx.new rfl).kp (Kp.af _ _)).kp (Kp.af _ _)
 have BO:Hid (Bk w1 (w.heap.size+1) O1 o.1.length o1 O2 o.2.length o2):=by rw[hw1];exact(Bk.new (by rw[aaY])).af _
 have BG:Hid (Bk w1 (w.heap.size+1+1) G1 g.1.length g1 G2 g.2.length g2):=by rw[hw1];exact Bk.new (by rw[aaY,aaY])
 have K1:Hid (Kp w w1):=by rw[hw1];exact((Kp.af _ _).tr (Kp.af _ _)).tr (Kp.af _ _)
 have HW1:=lH hw1;have HRD:=lH (hA.kp K1.out);have HCO:Hid (∀V,Kp w V->CJ 77 #[.agg #[.slice O1 o.1.length o1, .slice O2 o.2.length o2]] V fun e w'=>e= .returned (.bool (bO o))/\Kp V w'):=fun V kV=>av O1 O2 o1 o2 o.1 o.2 V (ho.r.s.kp kV) (ho.r.d.kp kV)
 have HCG:Hid (∀V,Kp w V->CJ 77 #[.agg #[.slice G1 g.1.length g1, .slice G2 g.2.length g2]] V fun e w'=>e= .returned (.bool (bO g))/\Kp V w'):=fun V kV=>av G1 G2 g1 g2 g.1 g.2 V (hg.r.s.kp kV) (hg.r.d.kp kV)
 have HQO:Hid (∀V C c s,Kp w V->Rd V C s->CJ 69 #[.slice O1 o.1.length o1, .slice C s.length c] V fun e w'=>e= .returned (.bool (o.1==s))/\Kp V w'):=fun V C c s kV h=>(eF O1 C o1 c o.1 s V (ho.r.s.kp kV) h).mono fun e0 w' hh=>⟨hh.1,by obtain⟨q,rfl⟩:=hh.2;exact Kp.aI _ q⟩
 have HQG:Hid (∀V C c s,Kp w V->Rd V C s->CJ 69 #[.slice G1 g.1.length g1, .slice C s.length c] V fun e w'=>e= .returned (.bool (g.1==s))/\Kp V w'):=fun V C c s kV h=>(eF G1 C g1 c g.1 s V (hg.r.s.kp kV) h).mono fun e0 w' hh=>⟨hh.1,by obtain⟨q,rfl⟩:=hh.2;exact Kp.aI _ q⟩
 have HND:Hid (∀V A8 c8 ng,Kp w V->RdL V A8 (shT ts)->ng=(shT ts).length->ng<=c8/\c8<=9223372036854775807->CJ 27 #[.agg #[.int .i64 op, .slice P n c, .slice Q m d], .slice A8 ng c8] V (Iz.cZ (aF op nums (shT ts)) V)):=fun V A8 c8 ng kV h8 hng h9=>
  Iz.Bl op nums P Q A8 n c m d ng c8 (shT ts) V (hQ.kp kV) h8 hm hd hng h9 hw hl
 have HL:=lH hts;have HNA:=lH hna;have HR:=lH hr;have Vj:na<=100:=by omega
 clear hw1 hQ hA hm hd hna hts hw hl hr ho hg;go_enter Tryz.func106,Tryz.ntmps106;go_wp2_with fail;rw[<-HW1.out]
 go_loopw [9,16] (fun v i wx=>∃k:Nat,∃gs:List (BU),Hid (jM w1.heap.size (fun b=>b<w1.heap.size) wx v gs)/\i= .int .i64 (k:Int)/\Hid (k<=na)/\Hid (gs=shT (ts.take k))/\Hid (∀j,j<k->∀t,ts[j]?=some t->bO t=true)/\Hid (Kp w1 wx)) (fun _ i _=>na-(intOf i).toNat)
 case atStart=>exact⟨0,[],jM.bU _ _ _,rfl,aa6 _,rfl,fun j hj=>absurd hj (Nat.not_lt_zero j),Kp.refl _⟩
 case round=>
  obtain⟨k,gs,hG,rfl,hk,hgs,hok,hK⟩:=hrel;obtain⟨wo,hwo⟩:=eX (wr);subst hwo;obtain⟨A8,c8,rfl,hR8,CH,CG⟩:=hG.out.form;have HR8:=lH hR8;have HC8:=lH (And.intro CH CG);have hgl:Hid (gs.length=k):=by show _=_;rw[hgs.out];unfold shT;rw[abA,abv];have:=HNA.out;have:=hk.out;omega
  clear hR8 CH CG;by_cases hj:k<na
  ·have hj':(k:Int)<(na:Int):=by omega
   obtain⟨ad,t,P1,e1,Q1,f1,rfl,hlt,ht,hc0,hc1,hT,x1,x2,hb1,hb2⟩:=(HRD.out.kp hK.out).DS (k:=k) (by rw[<-HNA.out];exact hj);have HTT:Hid (ts[k]?=some t):=ht;have HT:=lH hT;have HB1:=lH hb1;have hold:Hid (∀ad,P1=some ad->0<t.1.length->ad.block<w1.heap.size):=by
    obtain⟨ad',t',P',e',Q',f',ea,_,ht',Sc,Lo,hT',_⟩:=HRD.out.DS (k:=k) (by rw[<-HNA.out];exact hj);injection ea with ea
    subst ea;rw[ht]at ht';injection ht' with ht';subst ht'
    have q:=(Iz.ay Sc hK.out).symm.trans hc0;injection q with q
    injection q with q1 q2 q3
    subst q1;intro ad ea hp;obtain⟨ad2,e2,hb2,_⟩:=hT'.s.2 hp;rw[ea]at e2;injection e2 with e2;subst e2;exact hb2
   obtain⟨wb,hwb⟩:=eX (wo.alloc (.cells #[.slice P1 t.1.length e1, .slice Q1 t.2.length f1] 25));have z0:(wo.alloc (.cells #[.slice none 0 0, .slice none 0 0] 25)).cell? (ad.add (k*2))=some (.slice P1 t.1.length e1):=Iz.ay hc0 (Kp.af _ _);have z1:(wo.alloc (.cells #[.slice none 0 0, .slice none 0 0] 25)).cell? ⟨(ad.add (k*2)).block,(ad.add (k*2)).off+1,none⟩=some (.slice Q1 t.2.length f1):=Iz.ay hc1 (Kp.af _ _);have KB:Hid (Kp wo wb):=by rw[hwb];exact Kp.af _ _
   have FW:Hid (Bk wb wo.heap.size P1 t.1.length e1 Q1 t.2.length f1):=by rw[hwb];exact Bk.new rfl
   have HWB:=lH hwb;have HCK:Hid (∀V,Kp wo V->CJ 77 #[.agg #[.slice P1 t.1.length e1, .slice Q1 t.2.length f1]] V fun e w'=>e= .returned (.bool (bO t))/\Kp V w'):=fun V kV=>
    av P1 Q1 e1 f1 t.1 t.2 V (HT.out.s.kp kV) (HT.out.d.kp kV)
   have y0:=FW.out.c0;have y1:=FW.out.c1;clear hwb hT x1 x2 hb1 hb2 ht
   cases hck:bO t with
   |false=>
    rw[hck]at HCK;have hr:r=30:=by rw[<-HR.out];exact KQ HTT.out hck
    subst hr;clear hck;go_wp2_with fail;rw[<-HWB.out];refine(HCK.out _ KB.out).mono ?_;rintro e3 w3 ⟨rfl,k3⟩;have K3:=lH ((hK.out.tr KB.out).tr k3);clear k3 y0 y1 z0 z1 hc0 hc1;go_wp2;refine aaX (v:= .int .i64 30) (by simp[results,Tryz.results106,go_sem];try rfl) rfl ?_;exact⟨rfl,K1.out.tr K3.out⟩
   |true=>
    rw[hck]at HCK;have HT1:Hid (shT (ts.take (k+1))=gs++[t.1]):=by show _=_;rw[vu HTT.out,hgs.out]
    have HOK:Hid (∀j,j<k+1->∀t,ts[j]?=some t->bO t=true):=fun j hj t' ht'=>by
     by_cases e:j=k
     ·subst e;rw[HTT.out]at ht';injection ht' with ht';subst ht';exact hck
     ·exact hok.out j oM t' ht'
    clear hck;go_wp2_with fail;rw[<-HWB.out];refine(HCK.out _ KB.out).mono ?_;rintro e3 w3 ⟨rfl,k3⟩;have K3:=lH (KB.out.tr k3);have y3:=(FW.out.kp k3).c0;have y4:=(FW.out.kp k3).c1;have HS3:=lH (HT.out.s.kp K3.out);have HX1:Hid (∀ad',P1=some ad'->0<t.1.length->ad'.block<w1.heap.size/\(Value.slice A8 gs.length c8).ownBlock≠some ad'.block):=fun ad' e1 e2=>by
     refine⟨hold.out ad' e1 e2,fun e3=>?_⟩;have h1:=hG.out.from_ e3;have h2:=hold.out ad' e1 e2;omega
    have HGL:Hid (gs.length<=100):=by show _<=_;have:=hgl.out;have:=HL.out;have:=HNA.out;omega
    have HSZ:Hid (w1.heap.size<=w3.heap.size):=(hK.out.tr K3.out).size;have HG3:=lH (hG.out.kp K3.out);clear k3 y0 y1 z0 z1 hc0 hc1;go_wp2_with (at_builtin;refine gF (B:=w1.heap.size) (X:=fun b=>b<w1.heap.size) rfl (.tmp 23) (.tmp 26) rfl _ gs rfl (HG3.out.kp (Kp.af _ _)) _ _ [t.1] 1 rfl rfl (iA.one HS3.out HB1.out.1 HB1.out.2 HX1.out _) (by have:=HGL.out;simp;omega) (by have:=HSZ.out;simp;omega) ?_;intro z1 A1 c1 w6 HZ1 o1 b1 _;have O1:=lH o1;have K6:Hid (Kp w1 w6):=(gal (hK.out.tr K3.out) _).trans b1;clear o1 b1);go_roundw
    case rel=>exact⟨k+1,z1,O1.out,by go_num,(by show k+1<=na;omega),(by show z1=_;rw[HZ1.out,HT1.out]),HOK.out,K6.out⟩
    case measure=>simp[intOf];omega
  ·have hj':¬(k:Int)<(na:Int):=by omega
   have Jh:Hid (gs=shT ts):=by show _=_;rw[hgs.out,abS (by have:=HNA.out;omega)]
   obtain⟨N,hN⟩:=eX (aF op nums (shT ts));have hv:=HR.out.symm.trans (Gc (op:=op) (nums:=nums) (o:=o) (g:=g) fun j hj2 t ht=>hok.out j (by have:=HNA.out;omega) t ht);have HN:=lH (HND.out);rw[<-hN]at hv HN;have BO0:=lH (BO.out.kp hK.out);have BG0:=lH (BG.out.kp hK.out);have x0:=BO0.out.c0;have x1:=BO0.out.c1;have y0:=BG0.out.c0;have y1:=BG0.out.c1;clear hN
   cases ho:bO o with
   |false=>
    rw[ho,aaW rfl]at hv;rw[ho]at HCO;subst hv;clear ho;go_wp2_with fail;refine(HCO.out _ (K1.out.tr hK.out)).mono ?_;rintro e3 w3 ⟨rfl,k3⟩;have K3:=lH (hK.out.tr k3);clear k3 x0 x1 y0 y1;go_wp2;refine aaX (v:= .int .i64 30) (by simp[results,Tryz.results106,go_sem];try rfl) rfl ?_;exact⟨rfl,K1.out.tr K3.out⟩
   |true=>
   rw[ho,aaT sC]at hv;rw[ho]at HCO
   cases hg:bO g with
   |false=>
    rw[hg,aaW rfl]at hv;rw[hg]at HCG;subst hv;clear ho hg;go_wp2_with fail;refine(HCO.out _ (K1.out.tr hK.out)).mono ?_;rintro e2 w2 ⟨rfl,k2⟩;have K2:=lH (hK.out.tr k2);have y0:=(BG.out.kp K2.out).c0;have y1:=(BG.out.kp K2.out).c1;clear k2 x0 x1;go_wp2_with fail;refine(HCG.out _ (K1.out.tr K2.out)).mono ?_;rintro e3 w3 ⟨rfl,k3⟩;have K3:=lH (K2.out.tr k3);clear k3 y0 y1;go_wp2;refine aaX (v:= .int .i64 30) (by simp[results,Tryz.results106,go_sem];try rfl) rfl ?_;exact⟨rfl,K1.out.tr K3.out⟩
   |true=>
   rw[hg,aaT sC]at hv;rw[hg]at HCG;clear ho hg;go_wp2_with fail;refine(HCO.out _ (K1.out.tr hK.out)).mono ?_;rintro e2 w2 ⟨rfl,k2⟩;have K2:=lH (hK.out.tr k2);have VL:=lH (HR8.out.kp k2);replace y0:=(BG.out.kp K2.out).c0;replace y1:=(BG.out.kp K2.out).c1;clear k2 x0 x1;go_wp2_with fail;refine(HCG.out _ (K1.out.tr K2.out)).mono ?_;rintro e3 w3 ⟨rfl,k3⟩;have K3:=lH (K2.out.tr k3);have VK:=lH (VL.out.kp k3);have b0:=(BN.out.kp K3.out).cell (j:=0) rfl;have b1:=(BN.out.kp K3.out).cell (j:=1) rfl;have b2:=(BN.out.kp K3.out).cell (j:=2) rfl;have HN3:=lH (HN.out w3 A8 c8 gs.length (K1.out.tr K3.out) (by rw[<-Jh.out];exact VK.out.all) (by rw[Jh.out]) HC8.out);clear k3 y0 y1;obtain⟨s,er⟩:=N;by_cases he:er=0
   · subst he
     rw[aaT sC]at hv;go_wp2_with fail;refine HN3.out.mono ?_;rintro e4 w4 ⟨A3,c3,rfl,s3,_,k4⟩;have K4:=lH (K3.out.tr k4);have S4:=lH s3;have z0:=(BO.out.kp K4.out).c0;clear k4 s3 b0 b1 b2;have HV:=lH hv;clear hv;dsimp only
     cases hq:(o.1==s)with
     |false=>
       have hr:r=20:=by rw[HV.out];rw[hq,aaW rfl]
       subst hr;go_wp2_with fail;refine(HQO.out _ _ _ _ (K1.out.tr K4.out) S4.out.rd).mono ?_;rintro e5 w5 ⟨rfl,k5⟩;have K5:=lH (K4.out.tr k5);clear k5 z0;rw[hq];go_wp2;refine aaX (v:= .int .i64 20) (by simp[results,Tryz.results106,go_sem];try rfl) rfl ?_;exact⟨rfl,K1.out.tr K5.out⟩
     |true=>
       have hq2:(o.1==s)=true:=hq;go_wp2_with fail;refine(HQO.out _ _ _ _ (K1.out.tr K4.out) S4.out.rd).mono ?_;rintro e5 w5 ⟨rfl,k5⟩;have K5:=lH (K4.out.tr k5);have S5:=lH (S4.out.kp k5);have z1:=(BG.out.kp K5.out).c0;clear k5 z0;rw[hq]
       cases hu:(g.1==s)with
       |false=>
         have hr:r=20:=by rw[HV.out];rw[hq,aaT sC,hu,aaW rfl]
         subst hr;go_wp2_with fail;refine(HQG.out _ _ _ _ (K1.out.tr K5.out) S5.out.rd).mono ?_;rintro e6 w6 ⟨rfl,k6⟩;have K6:=lH (K5.out.tr k6);clear k6 z1;rw[hu];go_wp2;refine aaX (v:= .int .i64 20) (by simp[results,Tryz.results106,go_sem];try rfl) rfl ?_;exact⟨rfl,K1.out.tr K6.out⟩
       |true=>
         have hr:r=0:=by rw[HV.out];rw[hq,aaT sC,hu,aaT sC]
         subst hr;go_wp2_with fail;refine(HQG.out _ _ _ _ (K1.out.tr K5.out) S5.out.rd).mono ?_;rintro e6 w6 ⟨rfl,k6⟩;have K6:=lH (K5.out.tr k6);clear k6 z1;rw[hu];go_wp2;refine aaX (v:= .int .i64 0) (by simp[results,Tryz.results106,go_sem];try rfl) rfl ?_;exact⟨rfl,K1.out.tr K6.out⟩
   · rw[aaW he]at hv
     have hv:r=er:=hv;subst hv;have he':(r !=0)=true:=by simpa using he
     go_wp2_with fail;refine HN3.out.mono ?_;rintro e4 w4 ⟨A3,c3,rfl,s3,_,k4⟩;have K4:=lH (K3.out.tr k4);clear k4 s3 b0 b1 b2 he;dsimp only;go_wp2;refine aaX (v:= .int .i64 r) (by simp[results,Tryz.results106,go_sem];try rfl) rfl ?_;exact⟨rfl,K1.out.tr K4.out⟩
end Go.Proofs.YtokeebkaamjliaaGreat.Ez
/- The landed vjp: what a node that fits gives each rule (plain). -/
namespace Go.Proofs.EvM
open ShM cF GrM InM ImM
theorem KG{op:Int}{nums:BU}{gs:List (BU)}{s:BU}(h:aF op nums gs=(s,0)):0<=ak op/\aM (op,[],nums)=true/\(gs.length:Int)=ak op/\gs.all okS=true/\aR op nums (gs.getD 0 []) (gs.getD 1 [])=(s,0):=by
  unfold aF at h;split at h
  · rename_i g
    have g1:=g.1;unfold gE at g1;rw[abb,abE]at g1;exact⟨g1.1,g1.2,g.2.1,g.2.2,h⟩
  · injection h with _ h;cases h
/-- An op of two args, of one, of none. -/
theorem Ic{op:Int}{ts:List T}(h:(ts.length:Int)=ak op)(hop:(10<=op/\op<=13)∨op=30∨op=43):∃a b,ts=[a,b]:=by
  have e:ak op=2:=by unfold ak;rw[aaT oM,aaW oM]
  rw[e]at h
  match ts,h with
  | [a,b],_=>exact⟨a,b,rfl⟩
  | [],h=>simp at h
  | [_],h=>simp at h
  |_::_::_::_,h=>simp at h;omega
theorem Ie{op:Int}{ts:List T}(h:(ts.length:Int)=ak op)(hop:(20<=op/\op<=23)∨(40<=op/\op<=42)∨(50<=op/\op<=52)):∃a,ts=[a]:=by
  have e:ak op=1:=by unfold ak;rw[aaT oM,aaT oM,aaW oM]
  rw[e]at h
  match ts,h with
  | [a],_=>exact⟨a,rfl⟩
  | [],h=>simp at h
  |_::_::_,h=>simp at h;omega
theorem Dq{op:Int}{ts:List T}(h:(ts.length:Int)=ak op)(hop:1<=op/\op<=3):ts=[]:=by
  have e:ak op=0:=by unfold ak;rw[aaW hop]
  rw[e]at h;exact abd oM
theorem c9{op:Int}{nums:BU}(h:aM (op,[],nums)=true)(hop:op=43∨(50<=op/\op<=52)):∃k,nums=[k]:=by
  have e:aM (op,[],nums)=decide (nums.length=1):=by
    unfold aM;rw[aaT oM,aaT oM,aaT oM,aaW oM]
  rw[e,abE]at h
  match nums,h with
  | [k],_=>exact⟨k,rfl⟩
/-- A side that may be. -/
theorem jS{s:BU}(h:okS s=true){k:Nat}(hk:k<s.length):1<=s.getD k 0/\s.getD k 0<=16:=by
  have h2:=(aD.1 h).2.1;have e:s[k]?=some (s.getD k 0):=by rw[aaS,aaV hk];rfl
  have h3:=abn.1 h2 _ (aa1 e);unfold aX at h3;rw[abE]at h3;exact h3
end Go.Proofs.EvM
namespace Go.Proofs.YtokeebkaamjliaaGreat.Ez
open RowKit ShM GrM InM ImM cF EvM
def vE:List Tn->List T×Int
 | []=>([],0)
 |r::rs=>if r.2.2≠0 then([],r.2.2)else if(vE rs).2≠0 then([],(vE rs).2)else((r.1,r.2.1)::(vE rs).1,0)
def Aj(op:Int)(nums:BU)(ts:List T)(o g:T):List Tn:=
 if ts.length=0 then []else if ts.length=1 then [vjA op nums (ts.getD 0 eT) (ts.getD 1 eT) o g]else [vjA op nums (ts.getD 0 eT) (ts.getD 1 eT) o g,vjB op nums (ts.getD 0 eT) (ts.getD 1 eT) o g]
theorem tX:∀{rs:List Tn} {k:Nat} {r:Tn},(∀(j:Nat) (q:Tn),j<k->rs[j]?=some q->q.2.2=0)->rs[k]?=some r->r.2.2≠0->vE rs=([],r.2.2)
 |q::rs,0,r,_,h,hr=>by
  have e:q=r:=by simpa using h
  subst e;simp only[vE];rw[aaW hr]
 |q::rs,k+1,r,hz,h,hr=>by
  have h0:=hz 0 q oM rfl;have ih:=tX (rs:=rs) (k:=k) (r:=r) (fun j q' hj e=>hz (j+1) q' oM (by simpa using e)) (by simpa using h) hr;simp only[vE];rw[aaT (by simpa using h0),ih,aaW hr]
 | [],k,r,_,h,_=>by simp at h
theorem vA:∀{rs:List Tn},(∀(j:Nat) (q:Tn),rs[j]?=some q->q.2.2=0)->vE rs=(rs.map fun r=>(r.1,r.2.1),0)
 | [],_=>rfl
 |q::rs,hz=>by
  have h0:=hz 0 q rfl;have ih:=vA (rs:=rs) fun j q' e=>hz (j+1) q' (by simpa using e)
  simp only[vE];rw[aaT (by simpa using h0),ih,aaT sC];rfl
theorem Q0{r:Tn}(h:r.2.2=0):vE [r]=([(r.1,r.2.1)],0):=vA fun j q e=>by
 cases j with
 |zero=>
           have e:r=q:=by simpa using e
           rw[<-e];exact h
 |succ j=>simp at e
theorem QZ{r q:Tn}(h:r.2.2=0)(h2:q.2.2=0):vE [r,q]=([(r.1,r.2.1),(q.1,q.2.1)],0):=vA fun j p e=>by
 match j with
 |0=>
        have e:r=p:=by simpa using e
        rw[<-e];exact h
 |1=>
        have e:q=p:=by simpa using e
        rw[<-e];exact h2
 |j+2=>simp at e
theorem NI{r q:Tn}(h:r.2.2=0)(h2:q.2.2≠0):vE [r,q]=([],q.2.2):=tX (k:=1) (fun j p hj e=>by
 have hj:j=0:=by omega
 subst hj;have e:r=p:=by simpa using e
 rw[<-e];exact h) rfl h2
theorem wX{op:Int}{nums:BU}{ts:List T}{o g:T}(h2:ts.length<=2∨rZ op nums ts o g≠0):cU op nums ts o g=if rZ op nums ts o g≠0 then([],rZ op nums ts o g)else vE (Aj op nums ts o g):=by
 have hm:rZ op nums ts o g=rZ op nums ts o g:=rfl;unfold cU
 revert h2
 unfold rZ;by_cases c1:ts.all bO=false
 · rw[aaW c1,aaW (.inl c1),aaW dG];intros;rfl
 rw[aaT c1];by_cases c2:bO o=false
 · rw[aaW c2,aaW (.inr (.inl c2)),aaW dG];intros;rfl
 rw[aaT c2];by_cases c3:bO g=false
 · rw[aaW c3,aaW (.inr (.inr c3)),aaW dG];intros;rfl
 rw[aaT c3,aaT (show¬(ts.all bO=false∨bO o=false∨bO g=false) by intro h;rcases h with h|h|h;exact c1 h;exact c2 h;exact c3 h)];by_cases c4:(aF op nums (shT ts)).2≠0
 · rw[aaW c4,aaW c4,aaW c4];intros;rfl
 rw[aaT c4,aaT c4];by_cases c5:(o.1==(aF op nums (shT ts)).1)=false
 · rw[aaW c5,aaW (.inl (by simpa using c5)),aaW dG];intros;rfl
 rw[aaT c5];by_cases c6:(g.1==(aF op nums (shT ts)).1)=false
 · rw[aaW c6,aaW (.inr (by simpa using c6)),aaW dG];intros;rfl
 rw[aaT c6,aaT (show¬(o.1≠(aF op nums (shT ts)).1∨g.1≠(aF op nums (shT ts)).1) by intro h;rcases h with h|h;exact c5 (by simpa using h);exact c6 (by simpa using h)),aaT (show¬(0:Int)≠0 by decide)];intro h2;have h2:ts.length<=2:=by rcases h2 with h|h;exact h;exact absurd rfl h
 unfold Aj;by_cases d0:ts.length=0
 · rw[aaW d0,aaW d0];rfl
 rw[aaT d0,aaT d0];by_cases e1:(vjA op nums (ts.getD 0 eT) (ts.getD 1 eT) o g).2.2≠0
 · rw[aaW e1]
   split
   · simp only[vE];rw[aaW e1]
   · simp only[vE];rw[aaW e1]
 rw[aaT e1];by_cases d1:ts.length=1
 · rw[aaW d1,aaW d1,Q0 (by simpa using e1)];rfl
 rw[aaT d1,aaT d1];by_cases e2:(vjB op nums (ts.getD 0 eT) (ts.getD 1 eT) o g).2.2≠0
 · rw[aaW e2,NI (by simpa using e1) e2]
 · rw[aaT e2,QZ (by simpa using e1) (by simpa using e2)];rfl
theorem Gb{op:Int}{nums:BU}{ts:List T}{o g:T}(h:rZ op nums ts o g=0):ts.all bO=true/\bO o=true/\bO g=true/\aF op nums (shT ts)=(g.1,0)/\o.1=g.1:=by
 unfold rZ at h;split at h
 · cases h
 rename_i c1;split at h
 · cases h
 rename_i c2;split at h
 · cases h
 rename_i c3;split at h
 · rename_i c4;exact absurd h c4
 rename_i c4;split at h
 · cases h
 rename_i c5;split at h
 · cases h
 rename_i c6;have c5:o.1=(aF op nums (shT ts)).1:=by simpa using c5
 have c6:g.1=(aF op nums (shT ts)).1:=by simpa using c6
 have c4:(aF op nums (shT ts)).2=0:=by simpa using c4
 exact⟨by simpa using c1,by simpa using c2,by simpa using c3,Prod.ext c6.symm c4,by rw[c5,c6]⟩
theorem Mf{g:T}(hg:bO g=true)(hn:N64 g.2){y:Int}(hy:1<=y/\y<=16):(bg 13 g.1 g.2 [] [4294967296*y]).2.2=0:=by
 have ht:aB g.1 g.2=true:=hg;obtain⟨ho,hl,_,_⟩:=aW ht;have h1:aB [] [4294967296*y]=true:=by rfl
 have hJ:bG g.1 []=(g.1,0):=fR.2 (Jn.bU ho).comm;have hp:∀x:Int,-9223372036854775808<=x/\x<=9223372036854775807->nE x (4294967296*y)=(x/y,0):=fun x hx=>by
  unfold nE;rw[aaT oM,Int.fdiv_eq_ediv_of_nonneg _ oM,acn x,Int.mul_ediv_mul_of_pos _ _ dG];exact cO (Int.le_ediv_of_mul_le oM oM) (Int.ediv_le_of_le_mul oM oM)
 rw[zB (Z:=g.2.map fun x=>x/y) oM ht h1 hJ (by rw[abA,hl]) fun i hi=>?_];unfold atN;rw[zQ ho hi,zR ht hi];have hi2:i<g.2.length:=by omega
 have e1:(([4294967296*y]:BU).getD 0 0)=4294967296*y:=rfl;rw[e1];show(if(13:Int)=10 then _ else _)=_;rw[aaT dG,aaT dG,aaT dG,aaW rfl,hp _ (gO hn i)];rw[aaS,aaS,aa7,aaV hi2];rfl
theorem m5{a g:T}{k:Nat}(ha:bO a=true)(hg:bO g=true)(hk:k<a.1.length)(he:a.1.eraseIdx k=g.1):(bE g.1 g.2 (k:Int) (a.1.getD k 0)).2.2=0:=by
 have h1:inL g.1 k (a.1.getD k 0)=a.1:=by rw[<-he,mZ hk]
 have ht:aB g.1 g.2=true:=hg;have ho:okS a.1=true:=(Go.Proofs.ImM.aA.1 ha).1;have hl:g.1.length=a.1.length-1:=by rw[<-he,List.length_eraseIdx,aaW hk]
 unfold bE;rw[aaT (by simp[ht]),aa2,h1,aaT (by rw[ho];simp;omega)]
theorem Sq{op:Int}{nums:BU}{ts:List T}{o g:T}(h:rZ op nums ts o g=0)(hs:xh ts)(hg:SmT g):
  Fq op nums (ts.getD 0 eT) (ts.getD 1 eT) o g (nums.getD 0 0).toNat ((ts.getD 0 eT).1.getD (nums.getD 0 0).toNat 0) (nums.getD 1 0) ((ts.getD 0 eT).1.getD (nums.getD 0 0).toNat 0+(ts.getD 1 eT).1.getD (nums.getD 0 0).toNat 0) (Aj op nums ts o g)/\ts.length<=2/\(op∉KSL->ts=[]):=by
 obtain⟨h1,h2,h3,h4,h5⟩:=Gb h;obtain⟨q0,q1,q2,q3,q4⟩:=KG h4;have hlen:(shT ts).length=ts.length:=by unfold shT;rw[abA]
 rw[hlen]at q2;have k0:(shT ts).getD 0 []=(ts.getD 0 eT).1:=by cases ts with|nil=>rfl|cons t ts=>rfl
 have k1:(shT ts).getD 1 []=(ts.getD 1 eT).1:=by cases ts with|nil=>rfl|cons t ts=>cases ts with|nil=>rfl|cons u ts=>rfl
 rw[k0,k1]at q4;have hsz:(ts.getD 0 eT).2.length<=100/\(ts.getD 0 eT).1.length<=100:=by
  cases ts with
  |nil=>exact⟨dG,dG⟩
  |cons t ts=>exact⟨(hs.2 t sC).2.1,(hs.2 t sC).1⟩
 have ta:ts≠ []->bO (ts.getD 0 eT)=true:=fun hn=>by
  cases ts with
  |nil=>exact absurd rfl hn
  |cons t ts=>exact abn.1 h1 t sC
 have ne1:(20<=op/\op<=23)∨(40<=op/\op<=42)∨(50<=op/\op<=52)->ts.length=1:=fun hop=>by obtain⟨a,rfl⟩:=Ie q2 hop;rfl
 have ne2:(10<=op/\op<=13)∨op=30∨op=43->ts.length=2:=fun hop=>by obtain⟨a,b,rfl⟩:=Ic q2 hop;rfl
 have nz:ts.length≠0->ts≠ []:=fun hn e=>hn (by rw[e];rfl)
 obtain⟨a,ea⟩:=eX (ts.getD 0 eT);obtain⟨b,eb⟩:=eX (ts.getD 1 eT);have R1:ts.length=1->Aj op nums ts o g=[vjA op nums a b o g]:=fun e=>by unfold Aj;rw[aaT oM,aaW e,<-ea,<-eb]
 have R2:ts.length=2->Aj op nums ts o g=[vjA op nums a b o g,vjB op nums a b o g]:=fun e=>by unfold Aj;rw[aaT oM,aaT oM,<-ea,<-eb]
 rw[<-ea,<-eb]at q4;rw[<-ea]at hsz ta⊢;rw[<-eb];have hx:op=42∨op=43∨(50<=op/\op<=52)->nums[0]?=some (nums.getD 0 0)/\0<=nums.getD 0 0/\(nums.getD 0 0).toNat<a.1.length:=fun hop=>by
  obtain⟨c1,c2,_⟩:=gy q4 oM;refine⟨?_,c2,c1⟩;rcases hop with rfl|hop
  · obtain⟨x,y,z,rfl⟩:=ke q1;rfl
  · obtain⟨x,rfl⟩:=c9 q1 hop;rfl
 obtain⟨K,hK⟩:=eX (nums.getD 0 0).toNat;rw[<-hK]at hx⊢;have hKI:op=42∨op=43∨(50<=op/\op<=52)->nums.getD 0 0=(K:Int):=fun hop=>by have:=(hx hop).2.1;omega
 have hget:∀{l:BU} {k:Nat},k<l.length->l[k]?=some (l.getD k 0):=fun {l k} hk=>by rw[aaS,aaV hk];rfl
 refine⟨{f21:= ?_,f22:= ?_,fk:= ?_,f42:= ?_,f43:= ?_,f51:= ?_,q10:= ?_,q11:= ?_,q12:= ?_,q13:= ?_,q20:= ?_,q21:= ?_,q22:= ?_,q23:= ?_,q30:= ?_,q40:= ?_,q41:= ?_,q42:= ?_,q43:= ?_,q50:= ?_,q51:= ?_,q52:= ?_},?_,?_⟩
 · rintro rfl
   have e:=vV q4 oM;have t1:=(aW (show aB a.1 a.2=true from ta (nz (by rw[ne1 oM];decide)))).2.1;have t2:=(aW (show aB g.1 g.2=true from h3)).2.1;rw[e]at t2;have:=hg.1;have:=hg.2.1;exact⟨oM,oM,oM⟩
 · intro _;omega
 · intro hop
   refine⟨?_,hget (hx hop).2.2⟩;rw[(hx hop).1,hKI hop]
 · rintro rfl
   obtain⟨x,y,z,rfl⟩:=ke q1;rfl
 · rintro rfl
   obtain⟨_,_,hc⟩:=gy q4 oM;rw[aaT dG,aaW rfl]at hc;rcases gB a.1 b.1 (nums.getD 0 0)with⟨e,_⟩|e
   · rw[e]at hc
     injection hc with hc
     rw[<-hc,<-hK,abt (hx oM).2.2]
   · rw[e]at hc;injection hc with _ hc;cases hc
 · rintro rfl
   exact Go.Proofs.EvM.jS (Go.Proofs.ImM.aA.1 (ta (nz (by rw[ne1 oM];decide)))).1 (hx oM).2.2
 · rintro rfl
   rw[R2 (ne2 oM)];simp[vjA,vjB,cG]
 · rintro rfl
   rw[R2 (ne2 oM)];simp[vjA,vjB,cG]
 · rintro rfl
   rw[R2 (ne2 oM)];simp[vjA,vjB]
 · rintro rfl
   rw[R2 (ne2 oM)];simp[vjA,vjB]
 · rintro rfl
   rw[R1 (ne1 oM)];simp[vjA]
 · rintro rfl
   rw[R1 (ne1 oM)];simp[vjA]
 · rintro rfl
   rw[R1 (ne1 oM)];simp[vjA]
 · rintro rfl
   rw[R1 (ne1 oM)];simp[vjA]
 · rintro rfl
   rw[R2 (ne2 oM)];simp[vjA,vjB]
 · rintro rfl
   rw[R1 (ne1 oM)];simp[vjA]
 · rintro rfl
   rw[R1 (ne1 oM)];simp[vjA]
 · rintro rfl
   rw[R1 (ne1 oM)];have e:=hKI oM;have e2:nums[0]?.getD 0=(K:Int):=by simpa using e
   simp[vjA,vjX,e2]
 · rintro rfl
   rw[R2 (ne2 oM)];have e:=hKI oM;have e2:nums[0]?.getD 0=(K:Int):=by simpa using e
   simp[vjA,vjB,vjX,e2]
 · rintro rfl
   rw[R1 (ne1 oM)];have e:=hKI oM;have e2:nums[0]?.getD 0=(K:Int):=by simpa using e
   simp[vjA,vjX,e2]
 · rintro rfl
   rw[R1 (ne1 oM)];have e:=hKI oM;have e2:nums[0]?.getD 0=(K:Int):=by simpa using e
   have hz:=Mf h3 (show N64 g.2 from hg.2.2.2) (Go.Proofs.EvM.jS (Go.Proofs.ImM.aA.1 (ta (nz (by rw[ne1 oM];decide)))).1 (hx oM).2.2);rw[aaS]at hz;simp[vjA,vjX,e2,uM,hz]
 · rintro rfl
   rw[R1 (ne1 oM)];have e:=hKI oM;have e2:nums[0]?.getD 0=(K:Int):=by simpa using e
   obtain⟨c1,_,hc⟩:=gy q4 oM;rw[aaT dG,aaT dG]at hc;injection hc with hc
   rw[<-hK]at hc;have hz:=m5 (ta (nz (by rw[ne1 oM];decide))) h3 (hx oM).2.2 hc;rw[aaS]at hz;simp[vjA,vjX,e2,xg,hz,CZ]
 · have:=gT op
   omega
 · intro hn
   refine Dq q2 ?_;simp only[KSL,abD,ab6,or_false,not_or]at hn;rcases Iz.pR q0 with rfl|rfl|rfl|h|h|h|h|h|h|h|h|h|h|h|h|h|h|h|h<;>omega
