import Derived.Deep.RegionHeld3
import Derived.Deep.CutRange
import Derived.Test.YtdfknefcgijhmaaGreatGdAw
import Derived.Test.YtdfknefcgijhmaaGreatGdTT
import Derived.Test.YtdfknefcgijhmaaGreatGdMWT
import Derived.Test.YtdfknefcgijhmaaGreatGdMLWT
import Derived.Test.YtdfknefcgijhmaaGreatTk
import Derived.Test.YtdfknefcgijhmaaGreatGdM
import Derived.BigQuiet
set_option maxHeartbeats 16000000
set_option maxRecDepth 100000
set_option linter.unusedVariables false
set_option linter.unusedSimpArgs false
namespace Go.Proofs.YtdfknefcgijhmaaGreat
open Go.RowKit Go.Proofs.ShM Go.Proofs.cF Go.Proofs.GrM Go.Proofs.InM Go.Proofs.ImM Go.Proofs.EvM
theorem tT{R C:Nat}(h2:R≤4)(h4:C≤4):dV (fq R C):=by
 refine⟨by simp[fq],fun t ht=>?_⟩
 simp only[fq,List.mem_cons,List.not_mem_nil,or_false]at ht
 rcases ht with rfl|rfl|rfl|rfl<;>refine⟨by simp,by simp,?_,?_,?_⟩<;>intro x hx<;>simp at hx<;>omega
theorem zn{R K N:Nat}(hN:N=R*K)(h:N≤16):IntKind.i64.wrap ((R:Int)*(K:Int))=(N:Int):=by
 have e:(R:Int)*(K:Int)=(N:Int):=by rw[hN];push_cast;rfl
 rw[e,IntKind.wrap_i64]
 omega
theorem uK(C:GdC)(a0 a1:Int)(A2 A3:Option Addr)(n2 n3 c2 c3 R K N:Nat)(w:World)(e0:1+a0%4=(R:Int))(e1:1+a1%4=(K:Int))(hR:R≤4)(hK:K≤4)(hN:N=R*K)(g0:0≤a0)(h0:a0≤255)(g1:0≤a1)(h1:a1≤255)(l2:n2≤9223372036854775807)(l3:n3≤9223372036854775807)(h:n2≠N∨n3≠K):
  Calls Tryz.prog 5 #[.int .u8 a0, .int .u8 a1, .slice A2 n2 c2, .slice A3 n3 c3] w fun e w'=>e= .returned (.bool true)∧Kp w w':=by
 have HA:=lH (fun W=>cR C W)
 have Si:N≤16:=by rw[hN];have:=Nat.mul_le_mul hR hK;omega
 have q:IntKind.i64.wrap ((R:Int)*(K:Int))=(N:Int):=zn hN Si
 clear C hN
 by_cases e2:n2=N
 ·subst e2
  have q3:((n3:Int) !=(K:Int))=true:=by rw[bne_iff_ne];omega
  clear h
  go_enter Tryz.func5,Tryz.ntmps5
  go_wp2_with fail
  refine(HA.out _).mono ?_;rintro e w1 ⟨rfl,k1⟩
  have K1:=lH k1
  clear k1
  go_wp2
  go_ret
  exact⟨rfl,K1.out⟩
 ·have q2:((n2:Int) !=(N:Int))=true:=by rw[bne_iff_ne];omega
  clear h e2
  go_enter Tryz.func5,Tryz.ntmps5
  go_wp2_with fail
  refine(HA.out _).mono ?_;rintro e w1 ⟨rfl,k1⟩
  have K1:=lH k1
  clear k1
  go_wp2
  go_ret
  exact⟨rfl,K1.out⟩
def IC(l:List Int)(i:Nat):Prop:= -1073741824≤l.getD i 0∧l.getD i 0≤1073741824
theorem PJ{l:List Int}(h:∀i,i<l.length→IC l i):∀y∈l,-1073741824≤y∧y≤1073741824:=fun y hy=>by
 obtain⟨i,hi⟩:=List.mem_iff_getElem?.1 hy
 have:=h i (List.getElem?_eq_some_iff.1 hi).1
 unfold IC at this
 rw[List.getD_eq_getElem?_getD,hi]at this
 exact this
theorem yJ(C:GdC)(a0 a1:Int)(A2 A3:Option Addr)(c2 c3 R K N:Nat)(ws xs:List Int)(w:World)(e0:1+a0%4=(R:Int))(e1:1+a1%4=(K:Int))(hR1:1≤R)(hR:R≤4)(hK1:1≤K)(hK:K≤4)(hN:N=R*K)(g0:0≤a0)(h0:a0≤255)(g1:0≤a1)(h1:a1≤255)
  (R2:Rd w A2 ws)(R3:Rd w A3 xs)(hw:ws.length=N)(hx:xs.length=K)(L2:N≤c2∧c2≤9223372036854775807)(L3:K≤c3∧c3≤9223372036854775807):
  Calls Tryz.prog 5 #[.int .u8 a0, .int .u8 a1, .slice A2 N c2, .slice A3 K c3] w fun e w'=>e= .returned (.bool true)∧Kp w w':=by
 have HC:=lH C
 have HA:=lH (fun W=>cR C W)
 have HR2:=lH R2
 have HR3:=lH R3
 have HW:=lH hw
 have HX:=lH hx
 have HL:=lH (And.intro L2 L3)
 have HN:=lH hN
 have Si:N≤16:=by rw[hN];have:=Nat.mul_le_mul hR hK;omega
 have q:IntKind.i64.wrap ((R:Int)*(K:Int))=(N:Int):=zn hN Si
 clear C R2 R3 hw hx L2 L3 hN
 go_enter Tryz.func5,Tryz.ntmps5
 go_wp2_with fail
 refine(HA.out _).mono ?_;rintro e w1 ⟨rfl,k1⟩
 have K1:=lH k1
 clear k1
 go_wp2
 go_loopw [12] (fun i wx=>∃k:Nat,i= .int .i64 (k:Int)∧Hid (k≤N)∧Hid (∀i,i<k→IC ws i)∧Hid (Kp w1 wx)) (fun i _=>N-(intOf i).toNat)
 case atStart=>exact⟨0,rfl,Nat.zero_le _,(fun i hi=>absurd hi (Nat.not_lt_zero i)),Kp.refl _⟩
 case round=>
  obtain⟨k,rfl,hk,hok,hK2⟩:=hrel
  have KW:=lH (K1.out.tr hK2.out)
  by_cases hj:k<N
  ·have hj':(k:Int)<(N:Int):=by omega
   obtain⟨ad,a,rfl,hlt,ha,hca⟩:=(HR2.out.kp KW.out).at_ (k:=k) (by rw[HW.out];exact hj)
   have HEA:Hid (ws.getD k 0=a):=by show _=_;rw[List.getD_eq_getElem?_getD,ha];rfl
   clear ha
   by_cases b2:a< -1073741824
   ·have e2:decide (a< -1073741824)=true:=decide_eq_true b2
    clear b2
    go_wp2
    go_ret
    exact⟨rfl,KW.out⟩
   ·have e2:decide (a< -1073741824)=false:=decide_eq_false b2
    by_cases b3:1073741824<a
    ·have e3:decide (1073741824<a)=true:=decide_eq_true b3
     clear b2 b3
     go_wp2
     go_ret
     exact⟨rfl,KW.out⟩
    ·have e3:decide (1073741824<a)=false:=decide_eq_false b3
     have MP:Hid (∀i,i<k+1→IC ws i):=fun i hi=>by
      rcases Nat.lt_succ_iff_lt_or_eq.1 hi with hi|rfl
      ·exact hok.out i hi
      ·unfold IC;rw[HEA.out];omega
     clear b2 b3
     go_wp2
     go_roundw
     case rel=>exact⟨k+1,by go_num,(by show k+1≤N;omega),MP.out,hK2.out⟩
     case measure=>simp[intOf];omega
  ·have hj':¬(k:Int)<(N:Int):=by omega
   have HB:Hid (∀y∈ws,-1073741824≤y∧y≤1073741824):=PJ fun i hi=>hok.out i (by rw[HW.out]at hi;omega)
   clear hk hok hj
   go_wp2
   go_loopw [13] (fun i wx=>∃k:Nat,i= .int .i64 (k:Int)∧Hid (k≤K)∧Hid (∀i,i<k→IC xs i)∧Hid (Kp w wx)) (fun i _=>K-(intOf i).toNat)
   case atStart=>exact⟨0,rfl,Nat.zero_le _,(fun i hi=>absurd hi (Nat.not_lt_zero i)),KW.out⟩
   case round=>
    rename_i wo _
    obtain⟨k2,rfl,hk,hok,hK3⟩:=hrel
    by_cases hj:k2<K
    ·have hj2:(k2:Int)<(K:Int):=by omega
     obtain⟨ad,a,rfl,hlt,ha,hca⟩:=(HR3.out.kp hK3.out).at_ (k:=k2) (by rw[HX.out];exact hj)
     have HEA:Hid (xs.getD k2 0=a):=by show _=_;rw[List.getD_eq_getElem?_getD,ha];rfl
     clear ha
     by_cases b2:a< -1073741824
     ·have e2:decide (a< -1073741824)=true:=decide_eq_true b2
      clear b2
      go_wp2
      go_ret
      exact⟨rfl,hK3.out⟩
     ·have e2:decide (a< -1073741824)=false:=decide_eq_false b2
      by_cases b3:1073741824<a
      ·have e3:decide (1073741824<a)=true:=decide_eq_true b3
       clear b2 b3
       go_wp2
       go_ret
       exact⟨rfl,hK3.out⟩
      ·have e3:decide (1073741824<a)=false:=decide_eq_false b3
       have MP:Hid (∀i,i<k2+1→IC xs i):=fun i hi=>by
        rcases Nat.lt_succ_iff_lt_or_eq.1 hi with hi|rfl
        ·exact hok.out i hi
        ·unfold IC;rw[HEA.out];omega
       clear b2 b3
       go_wp2
       go_roundw
       case rel=>exact⟨k2+1,by go_num,(by show k2+1≤K;omega),MP.out,hK3.out⟩
       case measure=>simp[intOf];omega
    ·have hj2:¬(k2:Int)<(K:Int):=by omega
     have HB3:Hid (∀y∈xs,-1073741824≤y∧y≤1073741824):=PJ fun i hi=>hok.out i (by rw[HX.out]at hi;omega)
     clear hk hok hj
     have KW3:=hK3
     clear hK3 hK2 KW
     obtain⟨g,z,cc,hg1,hg2,hg3,hg4,hg5⟩:=uP (R:=R) (C:=K) (w:=ws) (x:=xs) hR1 hR hK1 hK (by rw[HW.out,HN.out]) HX.out HB.out HB3.out
     have HG:=lH (And.intro hg1 (And.intro hg2 (And.intro hg3 (And.intro hg4 hg5))))
     have HSG:Hid (dV (fq R K)):=tT hR hK
     have wj:∀l:List Int,(∀y∈l,-1073741824≤y∧y≤1073741824)→N64 l:=fun l h y hy=>by have:=h y hy;omega
     have HTX:Hid (SmT ([(K:Int),1],xs)):=⟨by simp,by show xs.length≤100;rw[HX.out];omega,(fun y hy=>by simp at hy;omega),wj _ HB3.out⟩
     have HTW:Hid (xh [([(R:Int),(K:Int)],ws)]):=⟨by simp,fun t ht=>by
      rw[List.mem_singleton.1 ht]
      exact⟨by simp,by show ws.length≤100;rw[HW.out];omega,(fun y hy=>by simp at hy;omega),wj _ HB.out⟩⟩
     obtain⟨b,hbs⟩:=eX (wr.heap.size)
     have HBS:=lH hbs
     obtain⟨V0,hV0⟩:=eX (wr.alloc (.cells #[.int .i64 (K:Int), .int .i64 1] 3))
     obtain⟨V1,hV1⟩:=eX (V0.alloc (.cells #[.int .i64 0, .int .i64 (R:Int), .int .i64 (K:Int)] 3))
     obtain⟨V2,hV2⟩:=eX (V1.alloc (.cells #[.int .i64 1, .int .i64 0] 3))
     obtain⟨V3,hV3⟩:=eX (V2.alloc (.cells #[.int .i64 2] 3))
     obtain⟨V4,hV4⟩:=eX (V3.alloc (.cells #[.int .i64 0] 3))
     obtain⟨V5,hV5⟩:=eX (V4.alloc (.cells #[.int .i64 1, .slice none 0 0, .slice (some ⟨b,0,none⟩) 2 2, .int .i64 2, .slice none 0 0, .slice (some ⟨b+1,0,none⟩) 3 3, .int .i64 30, .slice (some ⟨b+1+1,0,none⟩) 2 2, .slice none 0 0, .int .i64 50, .slice (some ⟨b+1+1+1,0,none⟩) 1 1, .slice (some ⟨b+1+1+1+1,0,none⟩) 1 1] 37))
     obtain⟨V6,hV6⟩:=eX (V5.alloc (.cells #[.int .i64 (K:Int), .int .i64 1] 3))
     obtain⟨V7,hV7⟩:=eX (V6.alloc (.cells #[.int .i64 (R:Int), .int .i64 (K:Int)] 3))
     have s0:V0.heap.size=b+1:=by rw[hV0,hbs];simp
     have s1:V1.heap.size=b+1+1:=by rw[hV1,←s0];simp
     have s2:V2.heap.size=b+1+1+1:=by rw[hV2,←s1];simp
     have s3:V3.heap.size=b+1+1+1+1:=by rw[hV3,←s2];simp
     have s4:V4.heap.size=b+1+1+1+1+1:=by rw[hV4,←s3];simp
     have s5:V5.heap.size=b+1+1+1+1+1+1:=by rw[hV5,←s4];simp
     have s6:V6.heap.size=b+1+1+1+1+1+1+1:=by rw[hV6,←s5];simp
     have s7:V7.heap.size=b+1+1+1+1+1+1+1+1:=by rw[hV7,←s6];simp
     have j0:Kp wr V0:=by rw[hV0];exact Kp.af _ _
     have j1:Kp V0 V1:=by rw[hV1];exact Kp.af _ _
     have j2:Kp V1 V2:=by rw[hV2];exact Kp.af _ _
     have j3:Kp V2 V3:=by rw[hV3];exact Kp.af _ _
     have j4:Kp V3 V4:=by rw[hV4];exact Kp.af _ _
     have j5:Kp V4 V5:=by rw[hV5];exact Kp.af _ _
     have j6:Kp V5 V6:=by rw[hV6];exact Kp.af _ _
     have j7:Kp V6 V7:=by rw[hV7];exact Kp.af _ _
     have x0:Rd V0 (some ⟨b,0,none⟩) [(K:Int),1]:=by rw[hV0,hbs];exact Rd.two wr (K:Int) 1 _
     have x1:Rd V1 (some ⟨b+1,0,none⟩) [0,(R:Int),(K:Int)]:=by rw[hV1,←s0];exact Rd.lit V0 [0,(R:Int),(K:Int)] (by simp) _
     have x2:Rd V2 (some ⟨b+1+1,0,none⟩) [1,0]:=by rw[hV2,←s1];exact Rd.two V1 1 0 _
     have x3:Rd V3 (some ⟨b+1+1+1,0,none⟩) [2]:=by rw[hV3,←s2];exact Rd.one V2 2 _
     have x4:Rd V4 (some ⟨b+1+1+1+1,0,none⟩) [0]:=by rw[hV4,←s3];exact Rd.one V3 0 _
     have x6:Rd V6 (some ⟨b+1+1+1+1+1+1,0,none⟩) [(K:Int),1]:=by rw[hV6,←s5];exact Rd.two V5 (K:Int) 1 _
     have x7:Rd V7 (some ⟨b+1+1+1+1+1+1+1,0,none⟩) [(R:Int),(K:Int)]:=by rw[hV7,←s6];exact Rd.two V6 (R:Int) (K:Int) _
     have k04:Kp V0 V4:=((j1.tr j2).tr j3).tr j4
     have N5:RdG V5 (some ⟨b+1+1+1+1+1,0,none⟩) (fq R K):=by
      have a4:=fM.cons (jO (op:=50) (c:=1) (d:=1) (x3.kp j4) x4 (by decide) (by decide) (by decide) (by decide)) (fM.bU _ (fun _=>True))
      have a3:=fM.cons (jO (op:=30) (c:=2) (d:=0) (x2.kp (j3.tr j4)) (Rd.nil _ none) (by decide) (by decide) (by decide) (by decide)) a4
      have a2:=fM.cons (jO (op:=2) (c:=0) (d:=3) (Rd.nil _ none) (x1.kp ((j2.tr j3).tr j4)) (by decide) (by decide) (by simp) (by decide)) a3
      have a1:=fM.cons (jO (op:=1) (c:=0) (d:=2) (Rd.nil _ none) (x0.kp k04) (by decide) (by decide) (by simp) (by decide)) a2
      have h:=RdN.lit a1 (by simp) 37
      rw[hV5,←s4]
      exact h
     have k57:Kp V5 V7:=j6.tr j7
     have k07:Kp wr V7:=((j0.tr k04).tr j5).tr k57
     have RX:TRc V7 (some ⟨b+1+1+1+1+1+1,0,none⟩) 2 A3 c3 ([(K:Int),1],xs):=⟨⟨x6.kp j7,HR3.out.kp (KW3.out.tr k07)⟩,⟨by simp,by simp⟩,by show xs.length≤c3∧_;rw[HX.out];exact HL.out.2⟩
     have RW:TRc V7 (some ⟨b+1+1+1+1+1+1+1,0,none⟩) 2 A2 c2 ([(R:Int),(K:Int)],ws):=⟨⟨x7,HR2.out.kp (KW3.out.tr k07)⟩,⟨by simp,by simp⟩,by show ws.length≤c2∧_;rw[HW.out];exact HL.out.1⟩
     have P6:RdT (V7.alloc (.cells #[.slice (some ⟨b+1+1+1+1+1+1+1,0,none⟩) 2 2, .slice A2 N c2] 31)) (some ⟨b+1+1+1+1+1+1+1+1,0,none⟩) [([(R:Int),(K:Int)],ws)]:=by
      have h:=Au RW 31
      rw[s7,show(([(R:Int),(K:Int)],ws):T).2.length=N from HW.out]at h
      exact h
     have HN5:Hid (RdG (V7.alloc (.cells #[.slice (some ⟨b+1+1+1+1+1+1+1,0,none⟩) 2 2, .slice A2 N c2] 31)) (some ⟨b+1+1+1+1+1,0,none⟩) (fq R K)):=(N5.kp k57).kp (Kp.af _ _)
     have HRX:Hid (TRc (V7.alloc (.cells #[.slice (some ⟨b+1+1+1+1+1+1+1,0,none⟩) 2 2, .slice A2 N c2] 31)) (some ⟨b+1+1+1+1+1+1,0,none⟩) 2 A3 c3 ([(K:Int),1],xs)):=RX.kp (Kp.af _ _)
     have HP6:=lH P6
     have K6:Hid (Kp w (V7.alloc (.cells #[.slice (some ⟨b+1+1+1+1+1+1+1,0,none⟩) 2 2, .slice A2 N c2] 31))):=gal (KW3.out.tr k07) _
     have HV:Hid (V7=_):=hV7.trans (by rw[hV6,hV5,hV4,hV3,hV2,hV1,hV0,hbs])
     have qn:((N:Int) !=(N:Int))=false:=by simp
     clear hV0 hV1 hV2 hV3 hV4 hV5 hV6 hV7 s0 s1 s2 s3 s4 s5 s6 s7 j0 j1 j2 j3 j4 j5 j6 j7 x0 x1 x2 x3 x4 x6 x7 k04 N5 k57 k07 RX RW P6 hg1 hg2 hg3 hg4 hg5 wj hbs
     go_wp2_with fail
     rw[←HV.out,←HBS.out]
     refine(HC.out.Lv _ _ _ _ 4 4 2 K 2 c3 1 1 (fq R K) ([(K:Int),1],xs) [([(R:Int),(K:Int)],ws)] g cc (-1) 0 8 _ HN5.out (by simp[fq]) (by simp) HSG.out rfl HRX.out HTX.out rfl HX.out.symm HP6.out (by simp) (by simp) HTW.out rfl HG.out.1 HG.out.2.1).mono ?_;rintro e w3 ⟨A4,c4,rfl,b3,l3,k3⟩
     have K4:=lH (K6.out.tr k3)
     obtain⟨t0,ht0⟩:∃t0,g[0]?=some t0:=⟨_,List.getElem?_eq_getElem (by have:=HG.out.2.1;omega)⟩
     have hte:t0=([(R:Int),(K:Int)],z):=by
      have:=HG.out.2.2.1
      rw[List.getD_eq_getElem?_getD,ht0]at this
      exact this
     subst hte
     obtain⟨ad,P,c,Q,d,rfl,hlt,g1',g2,g3⟩:=cx b3.out (k:=0) ht0
     have G3:=lH g3
     have hzl:z.length=N:=by rw[HG.out.2.2.2.1,HN.out]
     replace g2:w3.cell? ⟨ad.block,ad.off+1,none⟩=some (.slice Q z.length d):=g2
     rw[hzl]at g2
     have HZL:=lH hzl
     have HG2:Hid (∀V,Kp w3 V→V.cell? ⟨ad.block,ad.off+1,none⟩=some (.slice Q N d)):=fun V k=>(k.cell (p:=⟨ad.block,ad.off+1,none⟩) hlt).trans g2
     clear k3 g1' g3 ht0 hzl
     go_wp2
     go_loopw [19] (fun i wx=>∃k:Nat,i= .int .i64 (k:Int)∧Hid (k≤N)∧Hid (Kp w3 wx)) (fun i _=>N-(intOf i).toNat)
     case atStart=>exact⟨0,rfl,Nat.zero_le _,Kp.refl _⟩
     case round=>
      obtain⟨k4,rfl,hk4,hK5⟩:=hrel
      by_cases hj4:k4<N
      ·have Vr:(k4:Int)<(N:Int):=by omega
       have hkk:k4%K<K:=Nat.mod_lt _ (by omega)
       have hm4:(k4:Int)%(K:Int)=((k4%K:Nat):Int):=by push_cast;rfl
       obtain⟨az,v,rfl,Vk,hvz,hcz⟩:=(G3.out.r.d.kp hK5.out).at_ (k:=k4) (by show k4<z.length;rw[HZL.out];exact hj4)
       obtain⟨ax,u,rfl,hltx,hux,hcx⟩:=(HR3.out.kp (K4.out.tr hK5.out)).at_ (k:=k4%K) (by rw[HX.out];exact hkk)
       have huv:v=u:=by
        have e:=HG.out.2.2.2.2 (k4/K) (k4%K) (Nat.div_lt_of_lt_mul (by rw[Nat.mul_comm,←HN.out];exact hj4)) hkk
        rw[Nat.mul_comm,Nat.div_add_mod]at e
        rw[List.getD_eq_getElem?_getD,List.getD_eq_getElem?_getD,show z[k4]?=some v from hvz,hux]at e
        exact e
       subst huv
       have g5:=HG2.out _ hK5.out
       obtain⟨j4,hj5⟩:=eX (k4%K)
       rw[←hj5]at hm4 hcx hkk
       have qv:(v !=v)=false:=by simp
       clear hvz hux hj5 Vk hltx
       go_wp2
       go_quiet (fail)
       go_wp2
       go_roundw
       case rel=>exact⟨k4+1,by go_num,(by show k4+1≤N;omega),hK5.out.tr (Kp.aI _ _)⟩
       case measure=>simp[intOf];omega
      ·have Vr:¬(k4:Int)<(N:Int):=by omega
       go_wp2
       go_ret
       exact⟨rfl,K4.out.tr hK5.out⟩
theorem Jj(C:GdC)(a0 a1:Int)(A2 A3:Option Addr)(c2 c3:Nat)(ws xs:List Int)(w:World)(g0:0≤a0)(h0:a0≤255)(g1:0≤a1)(h1:a1≤255)(R2:Rd w A2 ws)(R3:Rd w A3 xs)(L2:ws.length≤c2∧c2≤9223372036854775807)(L3:xs.length≤c3∧c3≤9223372036854775807):
  Calls Tryz.prog 5 #[.int .u8 a0, .int .u8 a1, .slice A2 ws.length c2, .slice A3 xs.length c3] w fun e w'=>e= .returned (.bool true)∧Kp w w':=by
 obtain⟨R,e0⟩:∃R:Nat,1+a0%4=(R:Int):=⟨(1+a0%4).toNat,by omega⟩
 obtain⟨K,e1⟩:∃K:Nat,1+a1%4=(K:Int):=⟨(1+a1%4).toNat,by omega⟩
 by_cases h:ws.length≠R*K∨xs.length≠K
 ·exact uK C a0 a1 A2 A3 ws.length xs.length c2 c3 R K (R*K) w e0 e1 (by omega) (by omega) rfl g0 h0 g1 h1 (by omega) (by omega) h
 ·have hw:ws.length=R*K:=by omega
  have hx:xs.length=K:=by omega
  rw[hw,hx]
  exact yJ C a0 a1 A2 A3 c2 c3 R K (R*K) ws xs w e0 e1 (by omega) (by omega) (by omega) (by omega) rfl g0 h0 g1 h1 R2 R3 hw hx (by omega) (by omega)
end Go.Proofs.YtdfknefcgijhmaaGreat
