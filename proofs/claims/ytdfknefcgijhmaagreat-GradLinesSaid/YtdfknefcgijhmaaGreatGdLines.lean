import Derived.Test.YtdfknefcgijhmaaGreatGdMLWT
import Derived.Test.YtdfknefcgijhmaaGreatGdMLW
import Derived.Test.YtdfknefcgijhmaaGreatGdML
import Derived.Test.YtdfknefcgijhmaaGreatGdMLN
import Derived.Test.YtdfknefcgijhmaaGreatTk
import Derived.Test.YtdfknefcgijhmaaGreatGdAw
import Derived.Test.YtdfknefcgijhmaaGreatGdLine
set_option maxHeartbeats 16000000
set_option maxRecDepth 100000
set_option linter.unusedVariables false
set_option linter.unusedSimpArgs false
namespace Go.Proofs.YtdfknefcgijhmaaGreat
open Go.RowKit Go.Proofs.ShM Go.Proofs.cF Go.Proofs.GrM Go.Proofs.InM Go.Proofs.ImM Go.Proofs.EvM
theorem oz(C:GdC)(a0 a1 a2:Int)(w:World)(g0:0≤a0)(h0:a0≤255)(b1 b2 b3 b4:Bool)(e1:decide (a1< -1125899906842624)=b1)(e2:decide (1125899906842624<a1)=b2)(e3:decide (a2< -1125899906842624)=b3)(e4:decide (1125899906842624<a2)=b4)(hb:(b1||b2||b3||b4)=true):
  Calls Tryz.prog 3 #[.int .u8 a0, .int .i64 a1, .int .i64 a2] w fun e w'=>e= .returned (.bool true)∧Kp w w':=by
 have HA:=lH (fun W=>cR C W)
 clear C
 have fin:∀(c1 c2 c3 c4:Bool),decide (a1< -1125899906842624)=c1→decide (1125899906842624<a1)=c2→decide (a2< -1125899906842624)=c3→decide (1125899906842624<a2)=c4→(c1||c2||c3||c4)=true→
   Calls Tryz.prog 3 #[.int .u8 a0, .int .i64 a1, .int .i64 a2] w fun e w'=>e= .returned (.bool true)∧Kp w w':=by
  clear e1 e2 e3 e4 hb
  intro c1 c2 c3 c4 e1 e2 e3 e4 hb
  cases c1 with
  |true=>
   clear e2 e3 e4 hb
   go_enter Tryz.func3,Tryz.ntmps3
   go_wp2_with fail
   refine(HA.out _).mono ?_;rintro e w1 ⟨rfl,k1⟩
   have K1:=lH k1
   clear k1
   go_wp2
   go_ret
   exact⟨rfl,K1.out⟩
  |false=>
   cases c2 with
   |true=>
    clear e3 e4 hb
    go_enter Tryz.func3,Tryz.ntmps3
    go_wp2_with fail
    refine(HA.out _).mono ?_;rintro e w1 ⟨rfl,k1⟩
    have K1:=lH k1
    clear k1
    go_wp2
    go_ret
    exact⟨rfl,K1.out⟩
   |false=>
    cases c3 with
    |true=>
     clear e4 hb
     go_enter Tryz.func3,Tryz.ntmps3
     go_wp2_with fail
     refine(HA.out _).mono ?_;rintro e w1 ⟨rfl,k1⟩
     have K1:=lH k1
     clear k1
     go_wp2
     go_ret
     exact⟨rfl,K1.out⟩
    |false=>
     obtain rfl:c4=true:=by simpa using hb
     clear hb
     go_enter Tryz.func3,Tryz.ntmps3
     go_wp2_with fail
     refine(HA.out _).mono ?_;rintro e w1 ⟨rfl,k1⟩
     have K1:=lH k1
     clear k1
     go_wp2
     go_ret
     exact⟨rfl,K1.out⟩
 exact fin b1 b2 b3 b4 e1 e2 e3 e4 hb
theorem xB(k:Nat)(n:Int)(hk:k≤20)(hn: -9223372036854775808≤n∧n≤9223372036854775807):dV (cK k n):=by
 refine⟨by rw[EvM.bk];omega,fun t ht=>?_⟩
 unfold cK at ht
 rcases List.mem_cons.1 ht with rfl|ht
 ·refine⟨by decide,by decide,?_,?_,?_⟩<;>intro x hx<;>simp at hx<;>omega
 ·rcases List.mem_cons.1 ht with rfl|ht
  ·refine⟨by simp,by simp,?_,?_,?_⟩<;>intro x hx<;>simp at hx<;>omega
  ·obtain⟨j,hj,rfl⟩:=List.mem_map.1 ht
   have hj':=List.mem_range.1 hj
   refine⟨by simp[lC],by simp[lC],?_,?_,?_⟩<;>intro x hx<;>simp[lC]at hx<;>omega
theorem CO(C:GdC)(a0 a1 a2:Int)(w:World)(g0:0≤a0)(h0:a0≤255)(hw: -1125899906842624≤a1∧a1≤1125899906842624)(hn: -1125899906842624≤a2∧a2≤1125899906842624):
  Calls Tryz.prog 3 #[.int .u8 a0, .int .i64 a1, .int .i64 a2] w fun e w'=>e= .returned (.bool true)∧Kp w w':=by
 have HC:=lH C
 have HA:=lH (fun W=>cR C W)
 obtain⟨k,hk⟩:∃k:Nat,a0%20=(k:Int):=⟨(a0%20).toNat,by omega⟩
 have WJ:k≤19:=by omega
 obtain⟨g,hg1,hg2,hg3⟩:=yL hw hn eT k (by omega)
 have hm:=IX hw (j:=(k:Int)) (by omega) (by omega)
 obtain⟨m,hm0⟩:=eX ((k:Int)*a1)
 rw[←hm0]at hm hg1
 obtain⟨s,hs0⟩:=eX (m+a2)
 have hs: -9223372036854775808≤s∧s≤9223372036854775807:=by omega
 rw[←hs0]at hg1
 have q1:IntKind.i64.wrap ((k:Int)*a1)=m:=by rw[←hm0,IntKind.wrap_i64];omega
 have q2:IntKind.i64.wrap (m+a2)=s:=by rw[←hs0,IntKind.wrap_i64];omega
 obtain⟨o,ho⟩:=eX ((k:Int)*4294967296)
 have q3:IntKind.i64.wrap ((k:Int)*4294967296)=o:=by rw[ho,IntKind.wrap_i64];omega
 rw[←ho]at hg3
 have e1:decide (a1< -1125899906842624)=false:=by simp;omega
 have e2:decide (1125899906842624<a1)=false:=by simp;omega
 have e3:decide (a2< -1125899906842624)=false:=by simp;omega
 have e4:decide (1125899906842624<a2)=false:=by simp;omega
 have q0:a0%20=(k:Int):=hk
 have HS:Hid (dV (cK k a2)):=xB k a2 (by omega) (by omega)
 have HT:Hid (SmT ([],[a1])):=⟨by simp,by simp,(fun _ h=>by cases h),fun x hx=>by simp at hx;omega⟩
 have HTs:Hid (xh [([],[a1])]):=⟨by simp,fun t ht=>by rw[List.mem_singleton.1 ht];exact HT.out⟩
 have HL:=lH (fun W=>cg k a2 W (by omega))
 have HG:=lH (And.intro hg1 (And.intro hg2 hg3))
 clear C hm hm0 hs0 hs ho hk hg1 hg2 hg3 hw hn
 go_enter Tryz.func3,Tryz.ntmps3
 go_wp2_with fail
 refine(HA.out _).mono ?_;rintro e w1 ⟨rfl,k1⟩
 have K1:=lH k1
 clear k1
 go_wp2_with fail
 refine(HL.out _).mono ?_;rintro e w2 ⟨A2,c2,rfl,n2,l2,k2⟩
 have K2:=lH (K1.out.tr k2.out)
 clear k2
 go_wp2_with fail
 have R5:TRc (w2.alloc (.cells #[.int .i64 a1] 3)) none 0 (some ⟨w2.heap.size,0,none⟩) 1 ([],[a1]):=⟨⟨Rd.nil _ _,Rd.one w2 a1 _⟩,⟨by simp,by simp⟩,⟨by simp,by simp⟩⟩
 have P6:Hid (RdT ((w2.alloc (.cells #[.int .i64 a1] 3)).alloc (.cells #[.slice none 0 0, .slice (some ⟨w2.heap.size,0,none⟩) 1 1] 31)) (some ⟨w2.heap.size+1,0,none⟩) [([],[a1])]):=by
  have h:=Au R5 31
  rw[World.size_alloc]at h
  exact h
 have N6:=lH ((n2.out.af (.cells #[.int .i64 a1] 3)).af (.cells #[.slice none 0 0, .slice (some ⟨w2.heap.size,0,none⟩) 1 1] 31))
 refine(HC.out.Lv A2 none none _ c2 (k+2) 0 0 0 0 1 1 (cK k a2) eT [([],[a1])] g s (-1) 0 8 _ N6.out (by have:=l2.out;rw[EvM.bk];omega) l2.out.2 HS.out (EvM.bk k a2).symm (mr _) mC rfl rfl P6.out (by simp) (by simp) HTs.out rfl HG.out.1 HG.out.2.1).mono ?_;rintro e w3 ⟨A3,c3,rfl,b3,l3,k3⟩
 have K:=lH (K2.out.tr ((gal (Kp.af w2 (.cells #[.int .i64 a1] 3)) (.cells #[.slice none 0 0, .slice (some ⟨w2.heap.size,0,none⟩) 1 1] 31)).tr k3))
 obtain⟨t0,ht0⟩:∃t0,g[0]?=some t0:=⟨_,List.getElem?_eq_getElem (by have:=HG.out.2.1;omega)⟩
 have hte:t0=([],[o]):=by
  have:=HG.out.2.2
  rw[List.getD_eq_getElem?_getD,ht0]at this
  exact this
 subst hte
 obtain⟨ad,P,c,Q,d,rfl,hlt,g1,g2,g3⟩:=cx b3.out (k:=0) ht0
 have G3:=lH g3
 replace g2:w3.cell? ⟨ad.block,ad.off+1,none⟩=some (.slice Q 1 d):=g2
 have QD:Hid (Rd (w3.alloc (.cells #[.int .i64 o] 3)) Q [o]):=G3.out.r.d.af _
 have ND:Hid (Rd (w3.alloc (.cells #[.int .i64 o] 3)) (some ⟨w3.heap.size,0,none⟩) [o]):=Rd.one w3 _ _
 clear k3 g1 g3 R5 ht0
 go_wp2_with fail
 refine(Af [o] [o] QD.out ND.out rfl rfl (r:=true) (by simp)).mono ?_;rintro e w5 ⟨rfl,k5⟩
 have K:=lH (K.out.tr ((Kp.af w3 (.cells #[.int .i64 o] 3)).tr k5))
 clear k5 g2
 go_wp2
 go_ret
 exact⟨rfl,K.out⟩
theorem Lw(C:GdC)(a0 a1 a2:Int)(w:World)(g0:0≤a0)(h0:a0≤255):
  Calls Tryz.prog 3 #[.int .u8 a0, .int .i64 a1, .int .i64 a2] w fun e w'=>e= .returned (.bool true)∧Kp w w':=by
 by_cases hw: -1125899906842624≤a1∧a1≤1125899906842624
 ·by_cases hn: -1125899906842624≤a2∧a2≤1125899906842624
  ·exact CO C a0 a1 a2 w g0 h0 hw hn
  ·refine oz C a0 a1 a2 w g0 h0 _ _ _ _ rfl rfl rfl rfl ?_
   rw[Bool.or_eq_true,Bool.or_eq_true,Bool.or_eq_true]
   by_cases h:a2< -1125899906842624
   ·exact .inl (.inr (decide_eq_true h))
   ·exact .inr (decide_eq_true (by omega))
 ·refine oz C a0 a1 a2 w g0 h0 _ _ _ _ rfl rfl rfl rfl ?_
  rw[Bool.or_eq_true,Bool.or_eq_true,Bool.or_eq_true]
  by_cases h:a1< -1125899906842624
  ·exact .inl (.inl (.inl (decide_eq_true h)))
  ·exact .inl (.inl (.inr (decide_eq_true (by omega))))
end Go.Proofs.YtdfknefcgijhmaaGreat
