import Derived.Test.YtdfknefcgijhmaaGreatGdMWT
import Derived.Test.YtdfknefcgijhmaaGreatGdMW
import Derived.Test.YtdfknefcgijhmaaGreatGdMLWT
import Derived.Test.YtdfknefcgijhmaaGreatGdMLW
import Derived.Test.YtdfknefcgijhmaaGreatTk
import Derived.Test.YtdfknefcgijhmaaGreatGdAw
import Derived.Deep.CutRange
import Derived.Deep.RegionHeld3
set_option maxHeartbeats 16000000
set_option maxRecDepth 100000
set_option linter.unusedVariables false
set_option linter.unusedSimpArgs false
namespace Go.Proofs.YtdfknefcgijhmaaGreat
open Go.RowKit Go.Proofs.ShM Go.Proofs.cF Go.Proofs.GrM Go.Proofs.InM Go.Proofs.ImM Go.Proofs.EvM
theorem JE{w:World}{P Q:Option Addr}{t:T}{c d:Nat}(h:TRc w P c Q d t):Vt w (fun _=>True) (.slice P t.1.length c, .slice Q t.2.length d) t:=⟨P,c,Q,d,rfl,h.r,fun _ _ _=>trivial,fun _ _ _=>trivial,h.c1,h.c2⟩
theorem iO.L7{w:World}{X:Nat→Prop}{p:V2}{t:T}{vs:List V2}{ts:List T}(h:Vt w X p t)(g:iO w X vs ts):iO w X (p::vs) (t::ts):=
 ⟨by rw[List.length_cons,List.length_cons,g.len],fun j q u h1 h2=>by
  cases j with
  |zero=>
   have e1:p=q:=by simpa using h1
   have e2:t=u:=by simpa using h2
   subst e1 e2
   exact h
  |succ j=>exact g.at_ j q u (by simpa using h1) (by simpa using h2)⟩
theorem Kh{w:World}{vs:List V2}{ts:List T}(h:iO w (fun _=>True) vs ts)(hl:ts.length≤1000)(ty:TypeId):RdT (w.alloc (.cells (flat vs).toArray ty)) (some ⟨w.heap.size,0,none⟩) ts:=
 ⟨by omega,vs,h.mono (Kp.af _ _) (fun _ _ _=>trivial),fun _=>⟨_,rfl,by simp,fun j u hu=>by
  rw[Go.WideShapes.add_plain,Nat.zero_add,World.cell?_alloc_at _ ty _ j rfl]
  simpa using hu⟩⟩
def prL(w x:List Int):List Int:=(w.zip x).map fun q=>(dX q.1 q.2).1
theorem IK{w x:List Int}(h:x.length=w.length):(prL w x).length=w.length:=by unfold prL;simp;omega
theorem NT{w x:List Int}{i:Nat}(h:x.length=w.length)(hi:i<w.length):(prL w x).getD i 0=(dX (w.getD i 0) (x.getD i 0)).1:=by
 unfold prL
 have h1:w[i]?=some (w.getD i 0):=by rw[List.getD_eq_getElem?_getD,List.getElem?_eq_getElem hi];rfl
 have h2:x[i]?=some (x.getD i 0):=by rw[List.getD_eq_getElem?_getD,List.getElem?_eq_getElem (by omega)];rfl
 have e:(w.zip x)[i]?=some (w.getD i 0,x.getD i 0):=List.getElem?_zip_eq_some.2 ⟨h1,h2⟩
 rw[List.getD_eq_getElem?_getD,List.getElem?_map,e]
 rfl
def okP(w x:List Int)(i:Nat):Prop:=(dX (w.getD i 0) (x.getD i 0)).2=0∧(-1099511627776≤w.getD i 0∧w.getD i 0≤1099511627776)∧(-1099511627776≤x.getD i 0∧x.getD i 0≤1099511627776)
theorem Ou{x y:Int}(hx: -1099511627776≤x∧x≤1099511627776)(hy: -1099511627776≤y∧y≤1099511627776):∃p,dX x y=(p,0)∧ -281474976710656≤p∧p≤281474976710656:=by
 have e1:(x.natAbs*y.natAbs:Nat)≤1099511627776*1099511627776:=Nat.mul_le_mul (by omega) (by omega)
 have e2:(x*y).natAbs=x.natAbs*y.natAbs:=Int.natAbs_mul x y
 refine⟨x*y/4294967296,?_,by omega,by omega⟩
 unfold dX
 exact cO (by omega) (by omega)
theorem vJ{w x:List Int}(h:x.length=w.length){i:Nat}(hi:i<w.length)(ho:okP w x i):dX (w.getD i 0) (x.getD i 0)=((prL w x).getD i 0,0)∧ -281474976710656≤(prL w x).getD i 0∧(prL w x).getD i 0≤281474976710656:=by
 obtain⟨p,e,b1,b2⟩:=Ou ho.2.1 ho.2.2
 rw[NT h hi,e]
 exact⟨rfl,b1,b2⟩
theorem vo{l:List Int}{k:Nat}(hk:k<l.length):(l.take (k+1)).sum=(l.take k).sum+l.getD k 0:=by
 rw[List.take_add_one,List.getElem?_eq_getElem hk,List.sum_append,List.getD_eq_getElem?_getD,List.getElem?_eq_getElem hk]
 simp
theorem qZ{l:List Int}:∀k:Nat,k≤l.length→(∀i,i<k→ -281474976710656≤l.getD i 0∧l.getD i 0≤281474976710656)→ -(281474976710656*(k:Int))≤(l.take k).sum∧(l.take k).sum≤281474976710656*(k:Int)
 |0,_,_=>by simp
 |k+1,hk,h=>by
  have i:=qZ k (by omega) fun j hj=>h j (by omega)
  have b:=h k (Nat.lt_succ_self k)
  rw[vo (by omega)]
  omega
theorem tQ{m:Nat}(h1:1≤m)(h2:m≤16):dV (eW m):=by
 refine⟨by simp[eW],fun t ht=>?_⟩
 simp only[eW,List.mem_cons,List.not_mem_nil,or_false]at ht
 rcases ht with rfl|rfl|rfl|rfl<;>refine⟨by simp,by simp,?_,?_,?_⟩<;>intro x hx<;>simp at hx<;>omega
theorem yI(C:GdC)(A0 A1:Option Addr)(n0 n1 c0 c1:Nat)(w:World)(h1:n0≤9223372036854775807)(h2:n1≤9223372036854775807)(h:n0=0∨16<n0∨n1≠n0):
  Calls Tryz.prog 4 #[.slice A0 n0 c0, .slice A1 n1 c1] w fun e w'=>e= .returned (.bool true)∧Kp w w':=by
 have HA:=lH (fun W=>cR C W)
 clear C
 by_cases e0:n0=0
 ·subst e0
  clear h
  go_enter Tryz.func4,Tryz.ntmps4
  go_wp2_with fail
  refine(HA.out _).mono ?_;rintro e w1 ⟨rfl,k1⟩
  have K1:=lH k1
  clear k1
  go_wp2
  go_ret
  exact⟨rfl,K1.out⟩
 ·have q0:((n0:Int)==0)=false:=by rw[beq_eq_false_iff_ne];omega
  by_cases e1:16<n0
  ·have q1:(16:Int)<(n0:Int):=by omega
   clear h e0
   go_enter Tryz.func4,Tryz.ntmps4
   go_wp2_with fail
   refine(HA.out _).mono ?_;rintro e w1 ⟨rfl,k1⟩
   have K1:=lH k1
   clear k1
   go_wp2
   go_ret
   exact⟨rfl,K1.out⟩
  ·have q1:¬(16:Int)<(n0:Int):=by omega
   have q2:((n1:Int) !=(n0:Int))=true:=by rw[bne_iff_ne];omega
   clear h e0 e1
   go_enter Tryz.func4,Tryz.ntmps4
   go_wp2_with fail
   refine(HA.out _).mono ?_;rintro e w1 ⟨rfl,k1⟩
   have K1:=lH k1
   clear k1
   go_wp2
   go_ret
   exact⟨rfl,K1.out⟩
theorem CJ(C:GdC)(A0 A1:Option Addr)(m c0 c1:Nat)(ws xs:List Int)(w:World)(R0:Rd w A0 ws)(R1:Rd w A1 xs)(I0:bN ws)(I1:bN xs)(hm:ws.length=m)(hx:xs.length=m)(h1:1≤m)(h2:m≤16)(L0:m≤c0∧c0≤9223372036854775807)(L1:m≤c1∧c1≤9223372036854775807):
  Calls Tryz.prog 4 #[.slice A0 m c0, .slice A1 m c1] w fun e w'=>e= .returned (.bool true)∧Kp w w':=by
 have HC:=lH C
 have HA:=lH (fun W=>cR C W)
 have HR0:=lH R0
 have HR1:=lH R1
 have HI0:=lH I0
 have HI1:=lH I1
 have HM:=lH hm
 have HX:=lH hx
 have HL:=lH (And.intro L0 L1)
 have q0:((m:Int)==0)=false:=by rw[beq_eq_false_iff_ne];omega
 have q1:¬(16:Int)<(m:Int):=by omega
 clear C R0 R1 I0 I1 hm hx L0 L1
 go_enter Tryz.func4,Tryz.ntmps4
 go_wp2_with fail
 refine(HA.out _).mono ?_;rintro e w1 ⟨rfl,k1⟩
 have K1:=lH k1
 clear k1
 go_wp2
 go_loopw [6,7] (fun s i wx=>∃k:Nat,i= .int .i64 (k:Int)∧s= .int .i64 (((prL ws xs).take k).sum)∧Hid (k≤m)∧Hid (∀i,i<k→okP ws xs i)∧Hid (Kp w1 wx)) (fun _ i _=>m-(intOf i).toNat)
 case atStart=>exact⟨0,rfl,rfl,Nat.zero_le _,(fun i hi=>absurd hi (Nat.not_lt_zero i)),Kp.refl _⟩
 case round=>
  obtain⟨k,rfl,rfl,hk,hok,hK⟩:=hrel
  obtain⟨s,hs⟩:=eX (((prL ws xs).take k).sum)
  rw[←hs]
  have HS:=lH hs
  clear hs
  by_cases hj:k<m
  ·have hj':(k:Int)<(m:Int):=by omega
   have KW:=lH (K1.out.tr hK.out)
   obtain⟨ad,a,rfl,hlt,ha,hca⟩:=(HR0.out.kp KW.out).at_ (k:=k) (by rw[HM.out];exact hj)
   obtain⟨ae,b,rfl,Jg,hb,hcb⟩:=(HR1.out.kp KW.out).at_ (k:=k) (by rw[HX.out];exact hj)
   have ea:ws.getD k 0=a:=by rw[List.getD_eq_getElem?_getD,ha];rfl
   have eb:xs.getD k 0=b:=by rw[List.getD_eq_getElem?_getD,hb];rfl
   obtain⟨p,err,hpe⟩:∃p err,dX a b=(p,err):=⟨_,_,rfl⟩
   have HML:=lH (fun W=>HC.out.mul a b p err W (HI0.out a (List.mem_of_getElem? ha)) (HI1.out b (List.mem_of_getElem? hb)) hpe)
   have HCL:Hid (∀V,Kp wr V→V.cell? (ad.add k)=some (.int .i64 a)∧V.cell? (ae.add k)=some (.int .i64 b)):=fun V kV=>⟨(kV.cell (by rw[ah];exact hlt)).trans hca,(kV.cell (by rw[ah];exact Jg)).trans hcb⟩
   have HEA:=lH (And.intro ea (And.intro eb hpe))
   have hdr:=lH (Kp.aI wr 1)
   have p1:=HCL.out wr.drew hdr.out
   obtain⟨p1,p2⟩:=p1
   clear ha hb hca hcb ea eb hpe
   go_wp2_with fail
   go_cut [8,9]from 33 to 84 (fun v8 v9 wx=>v8= .int .i64 p∧v9= .int .i64 err∧Hid (Kp wr wx))
   case first=>
    go_region_held3 (fun V=>V.cell? (ad.add k)=some (.int .i64 a)∧V.cell? (ae.add k)=some (.int .i64 b)) (first|exact⟨p1,p2⟩|exact⟨q3,q4⟩)
     (first
     |(go_at_call 11;refine(HML.out _).mono ?_;rintro e w4 ⟨rfl,K5⟩;have K6:=lH (hdr.out.tr K5);have q3:=(HCL.out _ K6.out).1;have q4:=(HCL.out _ K6.out).2))
    all_goals
     go_wp2
     go_meet
     exact⟨rfl,rfl,K6.out⟩
   case rest=>
    obtain⟨rfl,rfl,hKc⟩:=hcut
    obtain⟨p1,p2⟩:=HCL.out wc hKc.out
    by_cases b1:err=0
    ·subst b1
     by_cases b2:a< -1099511627776
     ·have e2:decide (a< -1099511627776)=true:=decide_eq_true b2
      clear b2
      go_wp2
      go_ret
      exact⟨rfl,K1.out.tr (hK.out.tr hKc.out)⟩
     ·have e2:decide (a< -1099511627776)=false:=decide_eq_false b2
      by_cases b3:1099511627776<a
      ·have e3:decide (1099511627776<a)=true:=decide_eq_true b3
       clear b2 b3
       go_wp2
       go_ret
       exact⟨rfl,K1.out.tr (hK.out.tr hKc.out)⟩
      ·have e3:decide (1099511627776<a)=false:=decide_eq_false b3
       by_cases b4:b< -1099511627776
       ·have e4:decide (b< -1099511627776)=true:=decide_eq_true b4
        clear b2 b3 b4
        go_wp2
        go_ret
        exact⟨rfl,K1.out.tr (hK.out.tr hKc.out)⟩
       ·have e4:decide (b< -1099511627776)=false:=decide_eq_false b4
        by_cases b5:1099511627776<b
        ·have e5:decide (1099511627776<b)=true:=decide_eq_true b5
         clear b2 b3 b4 b5
         go_wp2
         go_ret
         exact⟨rfl,K1.out.tr (hK.out.tr hKc.out)⟩
        ·have e5:decide (1099511627776<b)=false:=decide_eq_false b5
         have TP:okP ws xs k:=by
          unfold okP
          rw[HEA.out.1,HEA.out.2.1,HEA.out.2.2]
          exact⟨rfl,⟨by omega,by omega⟩,⟨by omega,by omega⟩⟩
         have MP:Hid (∀i,i<k+1→okP ws xs i):=fun i hi=>by
          rcases Nat.lt_succ_iff_lt_or_eq.1 hi with hi|rfl
          ·exact hok.out i hi
          ·exact TP
         have hpl:(prL ws xs).length=m:=by rw[IK (by rw[HX.out,HM.out]),HM.out]
         have hp:(prL ws xs).getD k 0=p:=by
          rw[NT (by rw[HX.out,HM.out]) (by rw[HM.out];exact hj),HEA.out.1,HEA.out.2.1,HEA.out.2.2]
         have MO:=vo (l:=prL ws xs) (k:=k) (by omega)
         have hb:=qZ (l:=prL ws xs) (k+1) (by omega) fun i hi=>by
          have:=MP.out i hi
          exact(vJ (by rw[HX.out,HM.out]) (by rw[HM.out];omega) this).2
         rw[hp,←HS.out]at MO
         obtain⟨s2,hs2⟩:=eX (((prL ws xs).take (k+1)).sum)
         rw[←hs2]at MO hb
         have q5:IntKind.i64.wrap (s+p)=s2:=by rw[←MO,IntKind.wrap_i64];omega
         have HS2:=lH hs2
         clear b2 b3 b4 b5 TP hpl hp MO hb hs2
         go_wp2
         go_roundw
         case rel=>exact⟨k+1,by go_num,by rw[HS2.out],(by show k+1≤m;omega),MP.out,hK.out.tr hKc.out⟩
         case measure=>simp[intOf];omega
    ·have e1:(err !=0)=true:=by simpa using b1
     clear b1
     go_wp2
     go_ret
     exact⟨rfl,K1.out.tr (hK.out.tr hKc.out)⟩
  ·have hj':¬(k:Int)<(m:Int):=by omega
   have hkm:k=m:=by have:=hk.out;omega
   subst hkm
   have KW:=lH (K1.out.tr hK.out)
   have hpl:(prL ws xs).length=k:=by rw[IK (by rw[HX.out,HM.out]),HM.out]
   have hall:=fun i (hi:i<k)=>vJ (w:=ws) (x:=xs) (i:=i) (by rw[HX.out,HM.out]) (by rw[HM.out];exact hi) (hok.out i hi)
   have hgr:=yK (m:=k) (w:=ws) (x:=xs) (p:=prL ws xs) h1 h2 HM.out HX.out hpl HI0.out HI1.out (fun i hi=>(hall i hi).1) (fun y hy=>by
    obtain⟨i,hi⟩:=List.mem_iff_getElem?.1 hy
    have hil:=(List.getElem?_eq_some_iff.1 hi).1
    have:=(hall i (by omega)).2
    rw[List.getD_eq_getElem?_getD,hi]at this
    have this: -281474976710656≤y∧y≤281474976710656:=this
    omega)
   obtain⟨g,hg1,hg2,hg3⟩:=hgr
   have hss:(prL ws xs).sum=s:=by rw[HS.out,List.take_of_length_le (by omega)]
   rw[hss]at hg1
   have HG:=lH (And.intro hg1 (And.intro hg2 hg3))
   have HSG:Hid (dV (eW k)):=tQ h1 h2
   have RY:∀y:Int,y=(k:Int)→ -9223372036854775808≤y∧y≤9223372036854775807:=fun y hy=>by omega
   have HTX:Hid (SmT ([(k:Int)],xs)):=⟨by simp,by show xs.length≤100;rw[HX.out];omega,(fun y hy=>RY y (List.mem_singleton.1 hy)),HI1.out⟩
   have HTW:Hid (xh [eT,eT,([(k:Int)],ws)]):=⟨by simp,fun t ht=>by
    simp at ht
    rcases ht with rfl|rfl
    ·exact mC
    ·exact⟨by simp,by show ws.length≤100;rw[HM.out];omega,(fun y hy=>RY y (List.mem_singleton.1 hy)),HI0.out⟩⟩
   obtain⟨b,hbs⟩:=eX (wr.heap.size)
   have HBS:=lH hbs
   obtain⟨V0,hV0⟩:=eX (wr.alloc (.cells #[.int .i64 (k:Int)] 3))
   obtain⟨V1,hV1⟩:=eX (V0.alloc (.cells #[.int .i64 2, .int .i64 (k:Int)] 3))
   obtain⟨V2,hV2⟩:=eX (V1.alloc (.cells #[.int .i64 1, .int .i64 0] 3))
   obtain⟨V3,hV3⟩:=eX (V2.alloc (.cells #[.int .i64 2] 3))
   obtain⟨V4,hV4⟩:=eX (V3.alloc (.cells #[.int .i64 0] 3))
   obtain⟨V5,hV5⟩:=eX (V4.alloc (.cells #[.int .i64 1, .slice none 0 0, .slice (some ⟨b,0,none⟩) 1 1, .int .i64 2, .slice none 0 0, .slice (some ⟨b+1,0,none⟩) 2 2, .int .i64 12, .slice (some ⟨b+1+1,0,none⟩) 2 2, .slice none 0 0, .int .i64 50, .slice (some ⟨b+1+1+1,0,none⟩) 1 1, .slice (some ⟨b+1+1+1+1,0,none⟩) 1 1] 37))
   have s0:V0.heap.size=b+1:=by rw[hV0,hbs];simp
   have s1:V1.heap.size=b+1+1:=by rw[hV1,←s0];simp
   have s2:V2.heap.size=b+1+1+1:=by rw[hV2,←s1];simp
   have s3:V3.heap.size=b+1+1+1+1:=by rw[hV3,←s2];simp
   have s4:V4.heap.size=b+1+1+1+1+1:=by rw[hV4,←s3];simp
   have s5:V5.heap.size=b+1+1+1+1+1+1:=by rw[hV5,←s4];simp
   have j0:Kp wr V0:=by rw[hV0];exact Kp.af _ _
   have j1:Kp V0 V1:=by rw[hV1];exact Kp.af _ _
   have j2:Kp V1 V2:=by rw[hV2];exact Kp.af _ _
   have j3:Kp V2 V3:=by rw[hV3];exact Kp.af _ _
   have j4:Kp V3 V4:=by rw[hV4];exact Kp.af _ _
   have j5:Kp V4 V5:=by rw[hV5];exact Kp.af _ _
   have x0:Rd V0 (some ⟨b,0,none⟩) [(k:Int)]:=by rw[hV0,hbs];exact Rd.one wr (k:Int) _
   have x1:Rd V1 (some ⟨b+1,0,none⟩) [2,(k:Int)]:=by rw[hV1,←s0];exact Rd.two V0 2 (k:Int) _
   have x2:Rd V2 (some ⟨b+1+1,0,none⟩) [1,0]:=by rw[hV2,←s1];exact Rd.two V1 1 0 _
   have x3:Rd V3 (some ⟨b+1+1+1,0,none⟩) [2]:=by rw[hV3,←s2];exact Rd.one V2 2 _
   have x4:Rd V4 (some ⟨b+1+1+1+1,0,none⟩) [0]:=by rw[hV4,←s3];exact Rd.one V3 0 _
   have k04:Kp V0 V4:=((j1.tr j2).tr j3).tr j4
   have N5:RdG V5 (some ⟨b+1+1+1+1+1,0,none⟩) (eW k):=by
    have a4:=fM.cons (jO (op:=50) (c:=1) (d:=1) (x3.kp j4) x4 (by decide) (by decide) (by decide) (by decide)) (fM.bU _ (fun _=>True))
    have a3:=fM.cons (jO (op:=12) (c:=2) (d:=0) (x2.kp (j3.tr j4)) (Rd.nil _ none) (by decide) (by decide) (by decide) (by decide)) a4
    have a2:=fM.cons (jO (op:=2) (c:=0) (d:=2) (Rd.nil _ none) (x1.kp ((j2.tr j3).tr j4)) (by decide) (by decide) (by simp) (by decide)) a3
    have a1:=fM.cons (jO (op:=1) (c:=0) (d:=1) (Rd.nil _ none) (x0.kp k04) (by decide) (by decide) (by simp) (by decide)) a2
    have h:=RdN.lit a1 (by simp) 37
    rw[hV5,←s4]
    exact h
   have k05:Kp wr V5:=(j0.tr k04).tr j5
   have RX:TRc V5 (some ⟨b,0,none⟩) 1 A1 c1 ([(k:Int)],xs):=⟨⟨x0.kp (k04.tr j5),HR1.out.kp (KW.out.tr k05)⟩,⟨by simp,by simp⟩,by show xs.length≤c1∧_;rw[HX.out];exact HL.out.2⟩
   have RW:TRc V5 (some ⟨b,0,none⟩) 1 A0 c0 ([(k:Int)],ws):=⟨⟨x0.kp (k04.tr j5),HR0.out.kp (KW.out.tr k05)⟩,⟨by simp,by simp⟩,by show ws.length≤c0∧_;rw[HM.out];exact HL.out.1⟩
   have P6:RdT (V5.alloc (.cells #[.slice none 0 0, .slice none 0 0, .slice none 0 0, .slice none 0 0, .slice (some ⟨b,0,none⟩) 1 1, .slice A0 k c0] 31)) (some ⟨b+1+1+1+1+1+1,0,none⟩) [eT,eT,([(k:Int)],ws)]:=by
    have h:=Kh (iO.L7 (JE (mr V5)) (iO.L7 (JE (mr V5)) (iO.L7 (JE RW) (iO.bU V5 (fun _=>True))))) (by simp) 31
    rw[s5,show(([(k:Int)],ws):T).2.length=k from HM.out]at h
    exact h
   have HN5:Hid (RdG (V5.alloc (.cells #[.slice none 0 0, .slice none 0 0, .slice none 0 0, .slice none 0 0, .slice (some ⟨b,0,none⟩) 1 1, .slice A0 k c0] 31)) (some ⟨b+1+1+1+1+1,0,none⟩) (eW k)):=N5.kp (Kp.af _ _)
   have HRX:Hid (TRc (V5.alloc (.cells #[.slice none 0 0, .slice none 0 0, .slice none 0 0, .slice none 0 0, .slice (some ⟨b,0,none⟩) 1 1, .slice A0 k c0] 31)) (some ⟨b,0,none⟩) 1 A1 c1 ([(k:Int)],xs)):=RX.kp (Kp.af _ _)
   have HP6:=lH P6
   have K6:Hid (Kp w (V5.alloc (.cells #[.slice none 0 0, .slice none 0 0, .slice none 0 0, .slice none 0 0, .slice (some ⟨b,0,none⟩) 1 1, .slice A0 k c0] 31))):=gal (KW.out.tr k05) _
   have HV:Hid (V5=_):=hV5.trans (by rw[hV4,hV3,hV2,hV1,hV0,hbs])
   clear hV0 hV1 hV2 hV3 hV4 hV5 s0 s1 s2 s3 s4 s5 j0 j1 j2 j3 j4 j5 x0 x1 x2 x3 x4 k04 N5 k05 RX RW P6 hg1 hg2 hg3 hss hpl hall RY hbs
   go_wp2_with fail
   rw[←HV.out,←HBS.out]
   refine(HC.out.Lv _ _ _ _ 4 4 1 k 1 c1 3 3 (eW k) ([(k:Int)],xs) [eT,eT,([(k:Int)],ws)] g s (-1) 0 8 _ HN5.out (by simp[eW]) (by simp) HSG.out rfl HRX.out HTX.out rfl HX.out.symm HP6.out (by simp) (by simp) HTW.out rfl HG.out.1 HG.out.2.1).mono ?_;rintro e w3 ⟨A3,c3,rfl,b3,l3,k3⟩
   have K:=lH (K6.out.tr k3)
   have RX3:=lH (HR1.out.kp K.out)
   obtain⟨t0,ht0⟩:∃t0,g[2]?=some t0:=⟨_,List.getElem?_eq_getElem (by have:=HG.out.2.1;omega)⟩
   have hte:t0=([(k:Int)],xs):=by
    have:=HG.out.2.2
    rw[List.getD_eq_getElem?_getD,ht0]at this
    exact this
   subst hte
   obtain⟨ad,P,c,Q,d,rfl,hlt,g1,g2,g3⟩:=cx b3.out (k:=2) ht0
   have G3:=lH g3
   have ea:ad.add (2*2)=⟨ad.block,ad.off+4,none⟩:=by unfold Addr.add;simp
   rw[ea]at g1 g2
   replace g2:w3.cell? ⟨ad.block,ad.off+4+1,none⟩=some (.slice Q xs.length d):=g2
   rw[HX.out]at g2
   clear k3 g1 g3 ht0 ea
   go_wp2_with fail
   refine(Af xs xs G3.out.r.d RX3.out HX.out.symm HX.out.symm (r:=true) (by simp)).mono ?_;rintro e w5 ⟨rfl,k5⟩
   have K:=lH (K.out.tr k5)
   clear k5 g2
   go_wp2
   go_ret
   exact⟨rfl,K.out⟩
theorem Ls(C:GdC)(A0 A1:Option Addr)(c0 c1:Nat)(ws xs:List Int)(w:World)(R0:Rd w A0 ws)(R1:Rd w A1 xs)(I0:bN ws)(I1:bN xs)(L0:ws.length≤c0∧c0≤9223372036854775807)(L1:xs.length≤c1∧c1≤9223372036854775807):
  Calls Tryz.prog 4 #[.slice A0 ws.length c0, .slice A1 xs.length c1] w fun e w'=>e= .returned (.bool true)∧Kp w w':=by
 by_cases h:ws.length=0∨16<ws.length∨xs.length≠ws.length
 ·exact yI C A0 A1 ws.length xs.length c0 c1 w (by omega) (by omega) h
 ·have hx:xs.length=ws.length:=by omega
  rw[hx]
  exact CJ C A0 A1 ws.length c0 c1 ws xs w R0 R1 I0 I1 rfl hx (by omega) (by omega) L0 (by omega)
end Go.Proofs.YtdfknefcgijhmaaGreat
