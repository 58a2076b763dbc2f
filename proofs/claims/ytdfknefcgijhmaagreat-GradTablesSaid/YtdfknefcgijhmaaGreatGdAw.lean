import Derived.Test.YtdfknefcgijhmaaGreatTk
import Derived.Test.YtdfknefcgijhmaaGreatGdC
set_option maxHeartbeats 16000000
set_option maxRecDepth 100000
set_option linter.unusedVariables false
set_option linter.unusedSimpArgs false
namespace Go.Proofs.YtdfknefcgijhmaaGreat
open Go.RowKit Go.Proofs.ShM Go.Proofs.cF Go.Proofs.GrM Go.Proofs.InM Go.Proofs.ImM Go.Proofs.EvM
def LG:List Nd:=[(2,[],[1]),(12,[0,0],[])]
def T3:T:=([],[12884901888])
def VG:List T:=[eT,([],[25769803776]),eT,eT,eT,eT,eT,eT]
def LI:List Nd:=[(1,[],[2])]
def T12:T:=([2],[1,2])
theorem cR(C:GdC)(w:World):Calls Tryz.prog 7 #[] w fun e w'=>e= .returned (.bool true)∧Kp w w':=by
 have HC:=lH C
 have hsm:dV LG:=by
  refine⟨by decide,fun t ht=>?_⟩
  simp only[LG,List.mem_cons,List.not_mem_nil,or_false]at ht
  rcases ht with rfl|rfl<;>refine⟨by decide,by decide,?_,?_,?_⟩<;>intro x hx<;>simp at hx<;>omega
 have hsi:dV LI:=by
  refine⟨by decide,fun t ht=>?_⟩
  simp only[LI,List.mem_cons,List.not_mem_nil,or_false]at ht
  subst ht
  refine⟨by decide,by decide,?_,?_,?_⟩<;>intro x hx<;>simp at hx<;>omega
 have h3:SmT T3:=⟨by decide,by decide,(fun _ h=>by cases h),fun x hx=>by simp[T3]at hx;omega⟩
 have h12:SmT T12:=⟨by decide,by decide,(fun x hx=>by simp[T12]at hx;omega),fun x hx=>by simp[T12]at hx;omega⟩
 have hps:xh [eT,T3]:=⟨by decide,fun t ht=>by simp at ht;rcases ht with rfl|rfl;exact mC;exact h3⟩
 have v1:jE LG eT [eT,T3]=(VG,38654705664,-1,0):=by decide+kernel
 have v2:jE [] eT [eT,T3]=([],0,-1,100):=by decide+kernel
 have v3:jE LI T12 []=([],0,0,150):=by decide+kernel
 have HV:=lH (And.intro v1 (And.intro v2 v3))
 have HS:=lH (And.intro hsm (And.intro hsi (And.intro hps h12)))
 obtain⟨W5,hW5⟩:=eX (((w.alloc (.cells #[.int .i64 1] 3)).alloc (.cells #[.int .i64 0, .int .i64 0] 3)).alloc (.cells #[.int .i64 2, .slice none 0 0, .slice (some ⟨w.heap.size,0,none⟩) 1 1, .int .i64 12, .slice (some ⟨w.heap.size+1,0,none⟩) 2 2, .slice none 0 0] 37))
 have HW5:=lH hW5
 have hK5:Kp w W5:=by rw[hW5];exact gal (gal (Kp.af _ _) _) _
 have r1:Rd (w.alloc (.cells #[.int .i64 1] 3)) (some ⟨w.heap.size,0,none⟩) [1]:=Rd.one w 1 _
 have r2:Rd ((w.alloc (.cells #[.int .i64 1] 3)).alloc (.cells #[.int .i64 0, .int .i64 0] 3)) (some ⟨w.heap.size+1,0,none⟩) [0,0]:=by
  have h:=Rd.two (w.alloc (.cells #[.int .i64 1] 3)) 0 0 3
  rwa [World.size_alloc]at h
 have hL0:RdG W5 (some ⟨w.heap.size+1+1,0,none⟩) LG:=by
  have a2:=fM.cons (jO (op:=12) (c:=2) (d:=0) r2 (Rd.nil _ none) (by decide) (by decide) (by decide) (by decide)) (fM.bU _ (fun _=>True))
  have a1:=fM.cons (jO (op:=2) (c:=0) (d:=1) (Rd.nil _ none) (r1.af (.cells #[.int .i64 0, .int .i64 0] 3)) (by decide) (by decide) (by decide) (by decide)) a2
  have h:=RdN.lit a1 (by decide) 37
  rw[World.size_alloc,World.size_alloc]at h
  rw[hW5]
  exact h
 obtain⟨B,hB⟩:=eX (W5.heap.size)
 have hB5:w.heap.size+1+1+1=B:=by rw[hB,hW5];simp
 have HB5:=lH hB5
 have r5:TRc (W5.alloc (.cells #[.int .i64 12884901888] 3)) none 0 (some ⟨B,0,none⟩) 1 T3:=by
  rw[hB]
  exact⟨⟨Rd.nil _ _,Rd.one W5 12884901888 _⟩,⟨by decide,by decide⟩,⟨by decide,by decide⟩⟩
 obtain⟨W6,hW6⟩:=eX ((W5.alloc (.cells #[.int .i64 12884901888] 3)).alloc (.cells #[.slice none 0 0, .slice none 0 0, .slice none 0 0, .slice (some ⟨B,0,none⟩) 1 1] 31))
 have HW6:=lH hW6
 have Sj:Kp W5 W6:=by rw[hW6];exact gal (Kp.af _ _) _
 have P6:Hid (RdT W6 (some ⟨B+1,0,none⟩) [eT,T3]):=by
  have h:=Aq (t:=eT) (u:=T3) (P:=none) (Q:=none) (a:=0) (b:=0) ⟨⟨Rd.nil _ _,Rd.nil _ _⟩,⟨by decide,by decide⟩,⟨by decide,by decide⟩⟩ r5 31
  rw[World.size_alloc,←hB]at h
  show RdT _ _ _
  rw[hW6]
  exact h
 have L6:Hid (RdG W6 (some ⟨w.heap.size+1+1,0,none⟩) LG):=hL0.kp Sj
 have K6:Hid (Kp w W6):=hK5.tr Sj
 clear C hsm hsi h3 h12 hps v1 v2 v3 hK5 r1 r2 hL0 r5 Sj hB hW6 hW5
 go_enter Tryz.func7,Tryz.ntmps7
 go_upto_region 3 with fail
 rw[←HW5.out,←HW6.out]
 go_wp2_with fail
 refine(HC.out.Lv _ none none (some ⟨B+1,0,none⟩) 2 2 0 0 0 0 2 2 LG eT [eT,T3] VG 38654705664 (-1) 0 8 _ L6.out (by decide) (by decide) HS.out.1 rfl (mr _) mC rfl rfl P6.out (by decide) (by decide) HS.out.2.2.1 rfl HV.out.1 rfl).mono ?_;rintro e w1 ⟨A1,c1,rfl,b1,l1,k1⟩
 have K:=lH (K6.out.tr k1)
 have P6:=lH (P6.out.kp k1)
 clear k1
 go_wp2_with fail
 refine(HC.out.Lv none none none (some ⟨B+1,0,none⟩) 0 0 0 0 0 0 2 2 [] eT [eT,T3] [] 0 (-1) 100 0 _ (RdN.bU _ _ _) (by decide) (by decide) xw rfl (mr _) mC rfl rfl P6.out (by decide) (by decide) HS.out.2.2.1 rfl HV.out.2.1 rfl).mono ?_;rintro e w2 ⟨A2,c2,rfl,b2,l2,k2⟩
 have K:=lH (K.out.tr k2)
 have b1:=lH (b1.out.kp k2)
 clear k2
 obtain⟨W9,hW9⟩:=eX ((((w2.alloc (.cells #[.int .i64 2] 3)).alloc (.cells #[.int .i64 1, .slice none 0 0, .slice (some ⟨w2.heap.size,0,none⟩) 1 1] 37)).alloc (.cells #[.int .i64 2] 3)).alloc (.cells #[.int .i64 1, .int .i64 2] 3))
 have HW9:=lH hW9
 have K29:Hid (Kp w2 W9):=by show Kp _ _;rw[hW9];exact gal (gal (gal (Kp.af _ _) _) _) _
 have L9:Hid (RdG W9 (some ⟨w2.heap.size+1,0,none⟩) LI):=by
  have a1:=fM.cons (jO (op:=1) (c:=0) (d:=1) (Rd.nil _ none) (Rd.one w2 2 3) (by decide) (by decide) (by decide) (by decide)) (fM.bU _ (fun _=>True))
  have h:=RdN.lit a1 (by decide) 37
  rw[World.size_alloc]at h
  show RdG _ _ _
  rw[hW9]
  exact(h.kp (Kp.af _ _)).kp (Kp.af _ _)
 have R9:Hid (TRc W9 (some ⟨w2.heap.size+1+1,0,none⟩) 1 (some ⟨w2.heap.size+1+1+1,0,none⟩) 2 T12):=by
  have x1:=Rd.one ((w2.alloc (.cells #[.int .i64 2] 3)).alloc (.cells #[.int .i64 1, .slice none 0 0, .slice (some ⟨w2.heap.size,0,none⟩) 1 1] 37)) 2 3
  have x2:=Rd.two (((w2.alloc (.cells #[.int .i64 2] 3)).alloc (.cells #[.int .i64 1, .slice none 0 0, .slice (some ⟨w2.heap.size,0,none⟩) 1 1] 37)).alloc (.cells #[.int .i64 2] 3)) 1 2 3
  simp only[World.size_alloc]at x1 x2
  show TRc _ _ _ _ _ _
  rw[hW9]
  exact⟨⟨x1.af _,x2⟩,⟨by decide,by decide⟩,⟨by decide,by decide⟩⟩
 clear hW9
 go_wp2_with fail
 rw[←HW9.out]
 refine(HC.out.Lv _ _ _ none 1 1 1 2 1 2 0 0 LI T12 [] [] 0 0 150 0 _ L9.out (by decide) (by decide) HS.out.2.1 rfl R9.out HS.out.2.2.2 rfl rfl (RdX.bU _ _ _) (by decide) (by decide) Ew rfl HV.out.2.2 rfl).mono ?_;rintro e w3 ⟨A3,c3,rfl,b3,l3,k3⟩
 have K:=lH (K.out.tr (K29.out.tr k3))
 have b1:=lH (b1.out.kp (K29.out.tr k3))
 clear k3
 obtain⟨ad,P,c,Q,d,rfl,hlt,g1,g2,g3⟩:=cx b1.out (k:=1) (t:=([],[25769803776])) rfl
 have G3:=lH g3
 have ea:ad.add (1*2)=⟨ad.block,ad.off+2,none⟩:=by unfold Addr.add;simp
 rw[ea]at g1 g2
 replace g2:w3.cell? ⟨ad.block,ad.off+2+1,none⟩=some (.slice Q 1 d):=g2
 obtain⟨ad',P',c',Q',d',e',hlt',g4,g5,g6⟩:=cx b1.out (k:=0) (t:=eT) rfl
 injection e' with e'
 subst e'
 replace g5:w3.cell? ⟨ad.block,ad.off+1,none⟩=some (.slice Q' 0 d'):=g5
 have QD:Hid (Rd (w3.alloc (.cells #[.int .i64 25769803776] 3)) Q [25769803776]):=G3.out.r.d.af _
 have ND:Hid (Rd (w3.alloc (.cells #[.int .i64 25769803776] 3)) (some ⟨w3.heap.size,0,none⟩) [25769803776]):=Rd.one w3 _ _
 have g5k:Hid (∀V,Kp w3 V→V.cell? ⟨ad.block,ad.off+1,none⟩=some (.slice Q' 0 d')):=fun V k=>(k.cell (p:=⟨ad.block,ad.off+1,none⟩) hlt).trans g5
 clear g1 g3 g4 g6 ea hlt' g5
 go_wp2_with fail
 refine(Af [25769803776] [25769803776] QD.out ND.out rfl rfl (r:=true) (by decide)).mono ?_;rintro e w5 ⟨rfl,k5⟩
 have K45:=lH ((Kp.af w3 (.cells #[.int .i64 25769803776] 3)).tr k5)
 have K:=lH (K.out.tr K45.out)
 have g7:=g5k.out w5 K45.out
 clear k5 g2
 go_wp2
 go_ret
 exact⟨rfl,K.out⟩
end Go.Proofs.YtdfknefcgijhmaaGreat
