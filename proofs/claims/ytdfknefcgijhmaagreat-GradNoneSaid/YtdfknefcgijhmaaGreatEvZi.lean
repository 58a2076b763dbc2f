import Derived.Test.YtdfknefcgijhmaaGreatTk
import Derived.Test.YtdfknefcgijhmaaGreatEvZh
set_option maxHeartbeats 16000000
set_option maxRecDepth 100000
set_option linter.unusedVariables false
set_option linter.unusedSimpArgs false
namespace Go.Proofs.YtdfknefcgijhmaaGreat.Ez
open Go.RowKit Go.Proofs.ShM Go.Proofs.GrM Go.Proofs.InM Go.Proofs.ImM Go.Proofs.cF Go.Proofs.EvM Go.Proofs.YtdfknefcgijhmaaGreat.Gz
theorem yX{acc:List T}{l:List Int}{j a:Nat}{s:T}(h:l[j]?=some (a:Int))(hs:acc[a]?=some s):cq acc (l.take (j+1))=cq acc (l.take j)++[s]:=by
 unfold cq
 rw[cr h,List.map_append]
 congr 1
 show [acc.getD ((a:Int)).toNat eT]=[s]
 rw[Int.toNat_natCast,List.getD_eq_getElem?_getD,hs];rfl
theorem Sy{inp:T}{ps:List T}{n:Nd}{l:List Nd}{acc:List T}{u:T}(h:bq n.1 n.2.2 (cq acc n.2.1) inp ps=(u,0)):evF inp ps (n::l) acc=evF inp ps l (acc++[u]):=by
 rw[evF,h,if_pos rfl]
theorem SA{inp:T}{ps:List T}{n:Nd}{l:List Nd}{acc:List T}{u:T}{er:Int}(h:bq n.1 n.2.2 (cq acc n.2.1) inp ps=(u,er))(he:er≠0):evF inp ps (n::l) acc=([],(acc.length:Int),er):=by
 rw[evF,h,if_neg he]
theorem qM.none_{r:List T×Int×Int}{at_ err:Int}{w w':World}(hr:r=([],at_,err))(k:Kp w w'):qM r.1 r.2.1 r.2.2 r.1.length w (.returned (.tuple #[.slice none 0 0, .int .i64 at_, .int .i64 err])) w':=by
 subst hr
 exact⟨none,0,rfl,RdX.bU _ _ _,by show(0:Nat)≤0∧0≤_;omega,k⟩
theorem qM.some_{r:List T×Int×Int}{acc:List T}{at_ err:Int}{w w':World}{a0:Addr}{k c:Nat}(hr:r=(acc,at_,err))(hk:k=acc.length)(h:RdT w' (some a0) acc)(hc:acc.length≤c∧c≤9223372036854775807)(kp:Kp w w'):
  qM r.1 r.2.1 r.2.2 r.1.length w (.returned (.tuple #[.slice (some a0) k c, .int .i64 at_, .int .i64 err])) w':=by
 subst hr hk
 exact⟨some a0,c,rfl,h,hc,kp⟩
theorem Vz(A I1 I2 R:Option Addr)(c m k1 i1 k2 i2 kr rc:Nat)(l:List Nd)(inp:T)(ps:List T)(r:List T×Int×Int)(w:World)(h:RdG w A l)(hc1:l.length≤c)(hc2:c≤9223372036854775807)(hS:dV l)(hm:m=l.length)
  (hI:TRc w I1 i1 I2 i2 inp)(hR:RdT w R ps)(hk1:k1=inp.1.length)(hk2:k2=inp.2.length)(hkr:kr=ps.length)(hi:N64 inp.2)(hp:∀t∈ps,N64 t.2)(hr:fI l inp ps=r):
  Calls Tryz.prog 13 #[.slice A m c, .agg #[.slice I1 k1 i1, .slice I2 k2 i2], .slice R kr rc] w (qM r.1 r.2.1 r.2.2 r.1.length w):=by
 subst hm
 have hl:=h.len
 have HSM:=lH hS
 obtain⟨w1,hw1⟩:=eX (w.alloc (.cells #[.slice I1 k1 i1, .slice I2 k2 i2] 31))
 have BI:Hid (Bk w1 w.heap.size I1 k1 i1 I2 k2 i2):=by rw[hw1];exact Bk.new rfl
 have K1:Hid (Kp w w1):=by rw[hw1];exact Kp.af _ _
 have HW1:=lH hw1
 have HRD:=lH (h.kp K1.out)
 have HC:=lH (Iz.EG A c l.length l w1 (h.kp K1.out) hc1 hc2 hS rfl)
 obtain⟨ss,sat,ser,hsh⟩:∃ss sat ser,aH l=(ss,sat,ser):=⟨_,_,_,rfl⟩
 rw[hsh]at HC
 have hv:r=if ser=0 then evF inp ps l []else([],sat,ser):=by rw[←hr];unfold fI;rw[hsh]
 clear hr hw1
 by_cases he:ser=0
 ·rw[if_pos he]at hv
  subst he
  have hck:aK l=true:=by
   cases e:aK l with
   |true=>rfl
   |false=>
    have:aH l=([],-1,100):=by unfold aH;rw[if_neg (by simp[e])]
    rw[this]at hsh
    injection hsh with _ hsh
    injection hsh with _ hsh
    cases hsh
  have HT0:Hid (evF inp ps (l.drop 0) []=r):=hv.symm
  have MQ:=(aO.1 hck).2.1
  have S0:=lH MQ
  have HNB:Hid (∀(k:Nat) (t:Nd),l[k]?=some t→t.2.1.length≤2∧∀a∈t.2.1,0≤a∧a<(k:Int)):=fun k t ht=>by
   obtain⟨_,g2,_,g4,_⟩:=bh.1 ((aO.1 hck).2.2 k t ht)
   have:=gT t.1
   exact⟨by omega,g4⟩
  obtain⟨csz,hmk,hown⟩:=U3 l.length (by omega)
  have HOW:=lH hown
  have HI:=lH (hI.kp K1.out)
  have HR:=lH (hR.kp K1.out)
  have HKK:=lH (And.intro hk1 (And.intro hk2 hkr))
  have QN:=lH (And.intro hi hp)
  clear hck h hS hsh hv MQ hown hI hR hk1 hk2 hkr hi hp
  go_enter Tryz.func13,Tryz.ntmps13
  go_wp2_with fail
  rw[←HW1.out]
  refine(Hid.out HC).mono ?_;rintro e0 w2 ⟨AS,cS,rfl,_,_,k2⟩
  have K2:=lH k2
  have H0:=lH (HOW.out w2 w2.heap.size (Nat.le_refl _))
  obtain⟨a0,ha0⟩:∃a0:Addr,a0=⟨w2.heap.size,0,none⟩:=⟨_,rfl⟩
  have HA0:=lH ha0
  clear k2 HOW ha0
  dsimp only
  go_wp2
  clear hmk
  go_loopw [12,35] (fun v i wx=>∃k:Nat,∃acc:List T,v= .slice (some a0) k l.length∧Hid (tE w2.heap.size wx w2.heap.size l.length acc)∧i= .int .i64 (k:Int)∧Hid (k≤l.length)∧Hid (acc.length=k)∧Hid (evF inp ps (l.drop k) acc=r)∧Hid (∀t∈acc,N64 t.2)∧Hid (Kp w2 wx)) (fun _ i _=>l.length-(intOf i).toNat)
  case atStart=>exact⟨0,[],by rw[HA0.out],H0.out,rfl,Nat.zero_le _,rfl,HT0.out,(fun t ht=>by cases ht),Kp.af _ _⟩
  case round=>
   obtain⟨k,acc,rfl,hO,rfl,hk,hal,hT,hN6,hK⟩:=hrel
   obtain⟨wo,hwo⟩:=eX (wr)
   subst hwo
   have KW:=lH (K2.out.tr hK.out)
   by_cases hj:k<l.length
   ·have hj':(k:Int)<(l.length:Int):=by omega
    obtain⟨ad,t,P,e,Q,g,rfl,hlt,ht,hc0,Lo,Pc,hN,hcP,hcQ⟩:=(HRD.out.kp KW.out).at_ hj
    obtain⟨hl2,hrg⟩:=HNB.out k t ht
    have HRG:=lH hrg
    have HTT:Hid (l[k]?=some t):=ht
    have HN:=lH hN
    have HCQ:=lH hcQ
    have CF:l.drop k=t::l.drop (k+1):=bP ht
    rw[CF]at hT
    obtain⟨hs1,hs2,hs3⟩:=HSM.out.2 t (List.mem_of_getElem? ht)
    have MX:Hid (t.2.2.length≤100∧W64 t.2.2):=⟨hs2,hs3.2.2⟩
    obtain⟨n0,hn0⟩:=eX (t.2.1.length)
    have HN0:Hid (n0=t.2.1.length):=hn0
    obtain⟨m0,hm0⟩:=eX (t.2.2.length)
    have HM0:Hid (m0=t.2.2.length):=hm0
    rw[←hn0]at hl2 Lo
    rw[←hm0]at Pc
    have FB:Hid (Nb (wo.alloc (.cells #[.int .i64 t.1, .slice P n0 e, .slice Q m0 g] 37)) wo.heap.size t.1 P n0 e Q m0 g):=Nb.new rfl
    have z1:=FB.out.c1
    obtain⟨wb,hwb⟩:=eX (wo.alloc (.cells #[.int .i64 t.1, .slice P n0 e, .slice Q m0 g] 37))
    have KB:Hid (Kp wo wb):=by show Kp _ _;rw[hwb];exact Kp.af _ _
    have FW:Hid (Nb wb wo.heap.size t.1 P n0 e Q m0 g):=by rw[hwb];exact FB.out
    clear CF ht hrg hN hcP hcQ hn0 hm0 hs1 hs2 hs3
    go_wp2
    rw[←hwb]
    clear hwb FB z1 hc0 Lo Pc
    go_loopw [15,43] (fun v i wx=>∃j:Nat,∃gs:List T,Hid (iP wb.heap.size wx v gs)∧i= .int .i64 (j:Int)∧Hid (j≤n0)∧Hid (gs=cq acc (t.2.1.take j))∧Hid (Kp wb wx)) (fun _ i _=>n0-(intOf i).toNat)
    case atStart=>exact⟨0,[],iP.bU _ _,rfl,Nat.zero_le _,rfl,Kp.refl _⟩
    case round=>
     obtain⟨j,gs,hG,rfl,hjn,hgs,hK2⟩:=hrel
     have KR:=lH (KB.out.tr hK2.out)
     obtain⟨A8,c8,rfl,hR8,CH,CG⟩:=hG.out.form
     have hgl:Hid (gs.length≤2):=by show _≤_;rw[hgs.out];unfold cq;rw[List.length_map,List.length_take,←HN0.out];omega
     have q0:=(FW.out.kp hK2.out).c0
     have q1:=(FW.out.kp hK2.out).c1
     have q2:=(FW.out.kp hK2.out).c2
     by_cases hq:j<n0
     ·have hq':(j:Int)<(n0:Int):=by omega
      obtain⟨ap,a,rfl,hlp,ha,hca⟩:=(HN.out.ra.kp KR.out).at_ (k:=j) (by rw[←HN0.out];exact hq)
      obtain⟨ha0,ha1⟩:=HRG.out a (List.mem_of_getElem? ha)
      obtain⟨a',rfl⟩:∃a':Nat,a=(a':Int):=⟨a.toNat,by omega⟩
      have hak:a'<acc.length:=by rw[hal.out];omega
      obtain⟨ad6,s,P6,e6,Q6,f6,e66,hl6,hs,hc6,hd6,rs,x61,x62,l61,l62⟩:=(hO.out.rd.kp KR.out).DS (k:=a') hak
      have e67:a0=ad6:=by rw[HA0.out];injection e66
      subst e67
      have Vi:(a':Int)<(k:Int):=ha1
      have HZ1:Hid (cq acc (t.2.1.take (j+1))=gs++[s]):=by show _=_;rw[yX ha hs,hgs.out]
      have HX1:Hid (∀ad',P6=some ad'→0<s.1.length→(Value.slice A8 gs.length c8).ownBlock≠some ad'.block):=fun ad' e1 e2 e3=>by
       obtain⟨ad2,t2,P2,e2',Q2,f2,e4,hb4,hs4,hc4,hd4,rs4,_⟩:=hO.out.rd.DS (k:=a') hak
       rw[hs]at hs4;injection hs4 with hs4;subst hs4
       rw[HA0.out]at hc6
       injection e4 with e4
       subst e4
       have q:=(Iz.ay hc4 KR.out).symm.trans hc6
       injection q with q
       injection q with q1 q2 q3
       subst q1
       obtain⟨ad5,e5,hb5,_⟩:=rs4.s.2 e2
       rw[e1]at e5;injection e5 with e5;subst e5
       have h1:=hG.out.from_ e3
       have:=KB.out.size
       omega
      have HX2:Hid (∀ad',Q6=some ad'→0<s.2.length→(Value.slice A8 gs.length c8).ownBlock≠some ad'.block):=fun ad' e1 e2 e3=>by
       obtain⟨ad2,t2,P2,e2',Q2,f2,e4,hb4,hs4,hc4,hd4,rs4,_⟩:=hO.out.rd.DS (k:=a') hak
       rw[hs]at hs4;injection hs4 with hs4;subst hs4
       rw[HA0.out]at hd6
       injection e4 with e4
       subst e4
       have q:=(Iz.ay hd4 KR.out).symm.trans hd6
       injection q with q
       injection q with q1 q2 q3
       subst q1
       obtain⟨ad5,e5,hb5,_⟩:=rs4.d.2 e2
       rw[e1]at e5;injection e5 with e5;subst e5
       have h1:=hG.out.from_ e3
       have:=KB.out.size
       omega
      have HRS:=lH rs
      have HL1:=lH l61
      have HL2:=lH l62
      clear ha hs rs x61 x62 l61 l62 hR8 hak ha0 ha1 e66
      go_wp2_with (at_builtin;refine tG (B:=wb.heap.size) rfl (.tmp 47) (.tmp 52) rfl _ gs rfl (hG.out.kp (Kp.af _ _)) _ _ [s] 1 rfl rfl (RdX.one HRS.out HX1.out HX2.out HL1.out HL2.out _) (by have:=hgl.out;simp;omega) (by have:=hK2.out.size;simp;omega) ?_;intro z1 A1 c1 w6 HZ2 o1 b1 _;have O1:=lH o1;have K6:Hid (Kp wb w6):=(gal hK2.out _).trans b1;clear o1 b1)
      go_roundw
      case rel=>exact⟨j+1,z1,O1.out,by go_num,(by show j+1≤n0;omega),(by show z1=_;rw[HZ2.out,HZ1.out]),K6.out⟩
      case measure=>simp[intOf];omega
     ·have hq':¬(j:Int)<(n0:Int):=by omega
      have HGS:Hid (gs=cq acc t.2.1):=by show _=_;rw[hgs.out,List.take_of_length_le (by rw[←HN0.out];omega)]
      have KV:=lH (KW.out.tr KR.out)
      obtain⟨ng,hng⟩:=eX (gs.length)
      obtain⟨u,er,hnd⟩:∃u er,bq t.1 t.2.2 gs inp ps=(u,er):=⟨_,_,rfl⟩
      have HND:Hid (Calls Tryz.prog 24 #[.agg #[.int .i64 t.1, .slice P n0 e, .slice Q m0 g], .slice A8 ng c8, .agg #[.slice I1 k1 i1, .slice I2 k2 i2], .slice R kr rc] wr (PZ (u,er) wr)):=
       IW t.1 t.2.2 P Q A8 I1 I2 R n0 e m0 g ng c8 k1 i1 k2 i2 kr rc gs ps inp (u,er) wr (HN.out.rn.kp KR.out) hR8.all (HI.out.kp KV.out) (HR.out.kp KV.out) HM0.out (by rw[HM0.out];exact HCQ.out) hng (by have:=hgl.out;omega) MX.out.2 MX.out.1
        (by rw[HGS.out];exact qc hN6.out _) HKK.out.1 HKK.out.2.1 HKK.out.2.2 hnd
      have HU:Hid (N64 u.2):=by
       have h6:=pY (op:=t.1) (nums:=t.2.2) (ts:=gs) (inp:=inp) (ps:=ps) (by rw[HGS.out];exact qc hN6.out _) QN.out.1 QN.out.2 MX.out.2
       rw[hnd]at h6
       exact h6
      have p0:=(BI.out.kp KV.out).c0
      have p1:=(BI.out.kp KV.out).c1
      rw[←hng]
      by_cases he:er=0
      ·subst he
       have hT2:Hid (evF inp ps (l.drop (k+1)) (acc++[u])=r):=by
        show _=_
        rw[←hT.out,Sy (u:=u) (by rw[←HGS.out];exact hnd)]
       clear hnd hR8 hng
       go_wp2_with fail
       refine(Hid.out HND).mono ?_;rintro e3 w3 ⟨A3,c3,B3,d3,rfl,s3,t3,k3⟩
       have K3:=lH (KR.out.tr k3.out)
       have HAL:=lH (And.intro hal.out hj)
       have HT3:Hid (TR w3 A3 u.1 B3 u.2):=⟨s3.out.rd,t3.out.rd⟩
       have HC3:Hid (u.1.length≤c3∧c3≤9223372036854775807):=⟨s3.out.le,s3.out.cap⟩
       have HD3:Hid (u.2.length≤d3∧d3≤9223372036854775807):=⟨t3.out.le,t3.out.cap⟩
       have HX3:Hid (∀o ty,RdT ((w3.alloc o).alloc (.cells #[.slice A3 u.1.length c3, .slice B3 u.2.length d3] ty)) (some ⟨w3.heap.size+1,0,none⟩) [u]):=fun o ty=>by
        have hx:=RdX.one (X:=fun _=>True) (HT3.out.kp (Kp.af w3 o)) (fun _ _ _=>trivial) (fun _ _ _=>trivial) HC3.out HD3.out ty
        rw[World.size_alloc]at hx
        exact hx
       have HO3:=lH (hO.out.kp K3.out)
       have HS3:Hid (w2.heap.size≤w3.heap.size):=(hK.out.tr K3.out).size
       clear k3 s3 t3
       dsimp only
       go_wp2_with (at_builtin;refine tH (B:=w2.heap.size) rfl (.tmp 67) (.tmp 69) rfl a0 HA0.out k HAL.out.1.symm rfl ((HO3.out.kp (Kp.af _ _)).kp (Kp.af _ _)) _ 1 u rfl (HX3.out _ _) (by have:=HAL.out;omega) ?_;intro w6 o1 b1 _;have O1:=lH o1;have K6:Hid (Kp w2 w6):=(gal (gal (hK.out.tr K3.out) _) _).trans b1;clear o1 b1)
       go_roundw
       case rel=>exact⟨k+1,acc++[u],rfl,O1.out,by go_num,(by show k+1≤l.length;omega),(by show _=k+1;rw[List.length_append,hal.out];rfl),hT2.out,(fun t ht=>by
        rcases List.mem_append.1 ht with ht|ht
        ·exact hN6.out t ht
        ·rw[List.mem_singleton.1 ht];exact HU.out),K6.out⟩
       case measure=>simp[intOf];omega
      ·have HV:Hid (r=([],(k:Int),er)):=by
        show _=_
        rw[←hT.out,SA (u:=u) (by rw[←HGS.out];exact hnd) he,hal.out]
       have e1:(er !=0)=true:=by simpa using he
       clear hnd hR8 hng hT
       go_wp2_with fail
       refine(Hid.out HND).mono ?_;rintro e3 w3 ⟨A3,c3,B3,d3,rfl,s3,t3,k3⟩
       have K3:=lH ((K1.out.tr KV.out).tr k3.out)
       clear k3 s3 t3
       dsimp only
       go_wp2
       go_ret3
       exact qM.none_ HV.out (K3.out.tr (Kp.af _ _))
   ·have hj':¬(k:Int)<(l.length:Int):=by omega
    have HV:Hid (r=(acc,-1,0)):=by show _=_;rw[←hT.out,List.drop_eq_nil_of_le (by omega)];rfl
    have HRR:Hid (RdT wo (some a0) acc):=by rw[HA0.out];exact hO.out.rd.all
    go_wp2
    go_ret3
    exact qM.some_ HV.out hal.out.symm HRR.out ⟨by rw[hal.out];exact hk.out,by have:=S0.out;omega⟩ (K1.out.tr KW.out)
 ·rw[if_neg he]at hv
  have HV:=lH hv
  have e1:(ser !=0)=true:=by simpa using he
  clear h hS hsh hv hI hR hk1 hk2 hkr hi hp hc1 hc2 hl
  go_enter Tryz.func13,Tryz.ntmps13
  go_wp2_with fail
  rw[←HW1.out]
  refine(Hid.out HC).mono ?_;rintro e0 w2 ⟨AS,cS,rfl,_,_,k2⟩
  have K2:=lH (K1.out.tr k2)
  clear k2
  dsimp only
  go_wp2
  go_ret3
  exact qM.none_ HV.out K2.out
end Go.Proofs.YtdfknefcgijhmaaGreat.Ez
