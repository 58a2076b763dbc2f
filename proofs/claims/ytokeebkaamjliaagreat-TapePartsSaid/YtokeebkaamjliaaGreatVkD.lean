/- The landed vjp: a middle's, and a greatest number's. -/
import Derived.Test.YtokeebkaamjliaaGreatVkC
set_option maxHeartbeats 16000000
set_option maxRecDepth 100000
set_option linter.unusedVariables false
set_option linter.unusedSimpArgs false
namespace Go.Proofs.YtokeebkaamjliaaGreat.Ez
open RowKit ShM GrM InM ImM cF EvM
theorem yd(s xs:BU)(aj:Int):N64 (cH s xs aj).2.1:=by
 unfold cH;split
 · exact aE
 · split
   · exact aE
   · unfold oI
     refine gN fun x _=>?_
     split
     · exact⟨dG,dG⟩
     · exact⟨dG,dG⟩
section
variable{W:World}{op:Int}{P Q A1 A2 B1 B2 O1 O2 G1 G2:DV}{nP cP d a1 a2 b1 b2 o1 o2 g1 g2:Nat}{nums:BU}{a b o g:T}
theorem Gn(H:Jb W Q A1 A2 B1 B2 O1 O2 G1 G2 d a1 a2 b1 b2 o1 o2 g1 g2 nums a b o g){k:Nat}{y:Int}(hn:nums[0]?=some (k:Int))(hy:a.1[k]?=some y)(h16:1<=y/\y<=16):CJ 153 #[.agg #[.int .i64 op, .slice P nP cP, .slice Q nums.length d, .slice A1 a.1.length a1, .slice A2 a.2.length a2, .slice B1 b.1.length b1, .slice B2 b.2.length b2, .slice O1 o.1.length o1, .slice O2 o.2.length o2, .slice G1 g.1.length g1, .slice G2 g.2.length g2]] W (aG (bE (bg 13 g.1 g.2 [] [4294967296*y]).1 (bg 13 g.1 g.2 [] [4294967296*y]).2.1 (k:Int) y) W):=by
 have HJB:=lH H;have HN:=lH hn;have HY:=lH hy;obtain⟨m,hm⟩:=eX (4294967296*y);rw[<-hm];have hwr:IntKind.i64.wrap (y*4294967296)=m:=by rw[hm,acn];exact IntWalk.i64_in _ oM
 have hmi: -9223372036854775808<=m/\m<=9223372036854775807:=by omega
 have HFU:Hid (∀V,CJ 65 #[.slice none 0 0, .int .i64 m] V (aG ([],[m],0) V)):=fun V=>qy none 0 [] m V (Rd.nil _ _)
 have HN1:bN [m]:=fun x hx=>by rw[abF.1 hx];exact hmi
 have HTW:Hid (∀V C D c d,Kp W V->Rd V C []->Rd V D [m]->CJ 83 #[.int .i64 13, .agg #[.slice G1 g.1.length g1, .slice G2 g.2.length g2], .agg #[.slice C 0 c, .slice D 1 d]] V (aG (bg 13 g.1 g.2 [] [m]) V)):=fun V C D c d kV h1 h2=>
  eZ 13 G1 G2 C D g1 g2 c d g.1 g.2 [] [m] V (H.rg.r.s.kp kV) (H.rg.r.d.kp kV) h1 h2 H.ng HN1
 obtain⟨R,hR⟩:=eX (bg 13 g.1 g.2 [] [m]);rw[<-hR]at HTW⊢;have HD:Hid (∀V C D c d,Rd V C R.1->Rd V D R.2.1->CJ 178 #[.agg #[.slice C R.1.length c, .slice D R.2.1.length d], .int .i64 (k:Int), .int .i64 y] V (aG (bE R.1 R.2.1 (k:Int) y) V)):=fun V C D c d h1 h2=>
  rL C D c d R.1 R.2.1 (k:Int) y V h1 h2
 obtain⟨Q3,hQ⟩:=eX (bE R.1 R.2.1 (k:Int) y);rw[<-hQ]at HD⊢;obtain⟨w1,hw1⟩:=eX ((W.alloc (.cells #[.int .i64 op, .slice P nP cP, .slice Q nums.length d, .slice A1 a.1.length a1, .slice A2 a.2.length a2, .slice B1 b.1.length b1, .slice B2 b.2.length b2, .slice O1 o.1.length o1, .slice O2 o.2.length o2, .slice G1 g.1.length g1, .slice G2 g.2.length g2] 127)).alloc (.cells #[.slice none 0 0, .slice none 0 0] 25));obtain⟨K1,BJ,BO⟩:=jw hw1;have HW:=lH hw1;clear hw1 H hQ hR hm hmi h16 HN1 hn hy;go_enter Tryz.func153,Tryz.ntmps153;go_wp2_with fail;rw[<-HW.out];refine(oh (HJB.out.kp K1.out) HN.out HY.out).mono ?_;rintro e2 w2 ⟨rfl,k2⟩;have K2:=lH (K1.out.tr k2);have J2:=lH (BJ.out.kp k2);have O2:=lH (BO.out.kp k2);clear k2;dsimp only;go_wp2_with fail;refine(HFU.out _).mono ?_;rintro e3 w3 ⟨A',c',D',d',rfl,s3,t3,k3⟩;obtain⟨w4,hw4⟩:=eX (w3.alloc (.cells #[.slice A' 0 c', .slice D' 1 d'] 25));have kk:Kp w3 w4:=by rw[hw4];exact Kp.af _ _
 have F4:Hid (Bk w4 w3.heap.size A' 0 c' D' 1 d'):=by rw[hw4];exact Bk.new rfl
 have K4:=lH ((K2.out.tr k3).tr kk);have J4:=lH (J2.out.kp (k3.tr kk));have O4:=lH (O2.out.kp (k3.tr kk));have HT4:=lH (HTW.out w4 A' D' c' d' K4.out (s3.rd.kp kk) (t3.rd.kp kk));have HW4:=lH hw4;have y9:=J4.out.cell (j:=9) rfl;have y10:=J4.out.cell (j:=10) rfl;have z0:=F4.out.c0;have z1:=F4.out.c1;clear hw4 kk k3 s3 t3 hwr;rw[HW4.out]at y9 y10 z0 z1;dsimp only;go_wp2_with fail;rw[<-HW4.out];refine HT4.out.mono ?_;rintro e5 w5 ⟨A'',c'',D'',d'',rfl,s5,t5,k5⟩;obtain⟨w6,hw6⟩:=eX (w5.alloc (.cells #[.slice A'' R.1.length c'', .slice D'' R.2.1.length d''] 25));have kk:Kp w5 w6:=by rw[hw6];exact Kp.af _ _
 have F6:Hid (Bk w6 w5.heap.size A'' R.1.length c'' D'' R.2.1.length d''):=by rw[hw6];exact Bk.new rfl
 have K6:=lH ((K4.out.tr k5).tr kk);have J6:=lH (J4.out.kp (k5.tr kk));have O6:=lH (O4.out.kp (k5.tr kk));have S6:=lH (s5.kp kk);have T6:=lH (t5.kp kk);have L6:Hid (W.heap.size+1<w5.heap.size):=(O4.out.kp k5).lt;have HW6:=lH hw6;clear hw6 kk k5 s5 t5 y9 y10 z0 z1 K1 BJ BO HW HW4 J2 O2 J4 O4 K2 K4 F4 HT4;have HSS:Hid (∀V,Kp w6 V->SJ V W.heap.size op P nP cP Q A1 A2 B1 B2 O1 O2 G1 G2 d a1 a2 b1 b2 o1 o2 g1 g2 nums a b o g/\V.cell? ⟨w5.heap.size,0,none⟩=some (.slice A'' R.1.length c'')/\V.cell? ⟨w5.heap.size,1,none⟩=some (.slice D'' R.2.1.length d'')):=fun V kV=>⟨lJ (J6.out.kp kV),(F6.out.kp kV).c0,(F6.out.kp kV).c1⟩
 have HST:Hid (∀V u v,Kp w6 V->SJ ((V.setCell ⟨W.heap.size+1,0,none⟩ u).setCell ⟨W.heap.size+1,1,none⟩ v) W.heap.size op P nP cP Q A1 A2 B1 B2 O1 O2 G1 G2 d a1 a2 b1 b2 o1 o2 g1 g2 nums a b o g/\((V.setCell ⟨W.heap.size+1,0,none⟩ u).setCell ⟨W.heap.size+1,1,none⟩ v).cell? ⟨w5.heap.size,0,none⟩=some (.slice A'' R.1.length c'')/\((V.setCell ⟨W.heap.size+1,0,none⟩ u).setCell ⟨W.heap.size+1,1,none⟩ v).cell? ⟨w5.heap.size,1,none⟩=some (.slice D'' R.2.1.length d'')):=fun V u v kV=>by
  have B2:=((J6.out.kp kV).other (p:=⟨W.heap.size+1,0,none⟩) (by show W.heap.size≠W.heap.size+1;omega) u).other (p:=⟨W.heap.size+1,1,none⟩) (by show W.heap.size≠W.heap.size+1;omega) v;have F2:=(F6.out.kp kV).other (b':=W.heap.size+1) (by have:=L6.out;omega) u v;exact⟨lJ B2,F2.c0,F2.c1⟩
 have HC:Hid (∀V,Kp W V->Kp w6 V->CJ 178 #[.agg #[.slice A'' R.1.length c'', .slice D'' R.2.1.length d''], .int .i64 (k:Int), .int .i64 y] V (aG Q3 V)):=fun V _ kV=>HD.out V A'' D'' c'' d'' (S6.out.rd.kp kV) (T6.out.rd.kp kV)
 have BO:=O6;dsimp only;go_wp2_with fail;rw[<-HW6.out];refine aa8 (S:=fun V=>SJ V W.heap.size op P nP cP Q A1 A2 B1 B2 O1 O2 G1 G2 d a1 a2 b1 b2 o1 o2 g1 g2 nums a b o g/\V.cell? ⟨w5.heap.size,0,none⟩=some (.slice A'' R.1.length c'')/\V.cell? ⟨w5.heap.size,1,none⟩=some (.slice D'' R.2.1.length d'')) kM (HSS.out _ (aa3 (Kp.refl _))) (fun qJ=>?_);have X0:Hid (Kp w6 w6.drew):=aa3 (Kp.refl _);generalize w6.drew=V0 at X0 qJ⊢;refine tJ 0 (.agg #[.slice A'' R.1.length c'', .slice D'' R.2.1.length d'']) rfl qJ<|tJ 1 (.agg #[.int .i64 op, .slice P nP cP, .slice Q nums.length d, .slice A1 a.1.length a1, .slice A2 a.2.length a2, .slice B1 b.1.length b1, .slice B2 b.2.length b2, .slice O1 o.1.length o1, .slice O2 o.2.length o2, .slice G1 g.1.length g1, .slice G2 g.2.length g2]) rfl qJ<|tJ 3 (.agg #[.int .i64 op, .slice P nP cP, .slice Q nums.length d, .slice A1 a.1.length a1, .slice A2 a.2.length a2, .slice B1 b.1.length b1, .slice B2 b.2.length b2, .slice O1 o.1.length o1, .slice O2 o.2.length o2, .slice G1 g.1.length g1, .slice G2 g.2.length g2]) rfl qJ ?_;refine rD 2 rfl fun _ hK=>?_
 go_simp;refine(jy (HJB.out.kp (K6.out.tr X0.out)) HN.out).mono ?_;rintro e1 V1 ⟨rfl,k1⟩;dsimp only;have X1:=lH (X0.out.tr k1);refine hK.out _ _ (HSS.out _ X1.out) fun qJ=>?_
 clear hK k1;refine rD 4 rfl fun _ hK=>?_
 go_simp;refine(oh (HJB.out.kp (K6.out.tr X1.out)) HN.out HY.out).mono ?_;rintro e2 V2 ⟨rfl,k2⟩;dsimp only;have X2:=lH (X1.out.tr k2);refine hK.out _ _ (HSS.out _ X2.out) fun qJ=>?_
 clear hK k2;refine rD 5 rfl fun _ hK=>?_
 go_simp;refine(HC.out _ (K6.out.tr X2.out) X2.out).mono ?_;rintro e9 V9 ⟨A3,c3,D3,d3,rfl,s3,t3,k9⟩;dsimp only;have X9:=lH (X2.out.tr k9);have O9:=lH (BO.out.kp X9.out);have S3:=lH (s3.mo (K6.out.tr X2.out).size);have T3:=lH (t3.mo (K6.out.tr X2.out).size);clear k9 s3 t3;refine hK.out _ _ (HSS.out _ X9.out) fun qJ=>?_
 clear hK;refine tJ 6 (.agg #[.slice A3 Q3.1.length c3, .slice D3 Q3.2.1.length d3]) rfl qJ<|tJ 7 (.int .i64 Q3.2.2) rfl qJ ?_;have o0:=O9.out.c0;have o1:=O9.out.c1;have f0:=O9.out.f0 0;have f1:=O9.out.f0 1;have XX:Hid (Kp W ((V9.setCell ⟨W.heap.size+1,0,none⟩ (.slice A3 Q3.1.length c3)).setCell ⟨W.heap.size+1,1,none⟩ (.slice D3 Q3.2.1.length d3))):=((K6.out.tr X9.out).setCell (p:=⟨W.heap.size+1,0,none⟩) (abe _) _).setCell (p:=⟨W.heap.size+1,1,none⟩) (abe _) _;have hS4:=HST.out V9 (.slice A3 Q3.1.length c3) (.slice D3 Q3.2.1.length d3) X9.out;refine rD 8 rfl fun _ hK=>?_
 go_simp;refine hK.out _ _ (hS4) fun qJ=>?_
 clear hK;refine rD 9 rfl fun _ hK=>?_
 go_simp;refine hK.out _ _ (hS4) fun qJ=>?_
 clear hK;refine abp kM ?_ _;clear qJ hS4;go_wp2;refine aaX (v:= .tuple #[.agg #[.slice A3 Q3.1.length c3, .slice D3 Q3.2.1.length d3], .int .i64 Q3.2.2]) (by simp[results,Tryz.results153,go_sem,o0,o1];try rfl) rfl ?_;exact fin S3.out T3.out O9.out (K6.out.tr X9.out) rfl rfl
theorem mS(H:Jb W Q A1 A2 B1 B2 O1 O2 G1 G2 d a1 a2 b1 b2 o1 o2 g1 g2 nums a b o g){k:Nat}{y:Int}(hn:nums[0]?=some (k:Int))(hy:a.1[k]?=some y):CJ 154 #[.agg #[.int .i64 op, .slice P nP cP, .slice Q nums.length d, .slice A1 a.1.length a1, .slice A2 a.2.length a2, .slice B1 b.1.length b1, .slice B2 b.2.length b2, .slice O1 o.1.length o1, .slice O2 o.2.length o2, .slice G1 g.1.length g1, .slice G2 g.2.length g2]] W (aG (bg 12 (bE g.1 g.2 (k:Int) y).1 (bE g.1 g.2 (k:Int) y).2.1 (cH a.1 a.2 (k:Int)).1 (cH a.1 a.2 (k:Int)).2.1) W):=by
 have HJB:=lH H;have HN:=lH hn;have HGR:Hid (∀V,Kp W V->CJ 152 #[.agg #[.int .i64 op, .slice P nP cP, .slice Q nums.length d, .slice A1 a.1.length a1, .slice A2 a.2.length a2, .slice B1 b.1.length b1, .slice B2 b.2.length b2, .slice O1 o.1.length o1, .slice O2 o.2.length o2, .slice G1 g.1.length g1, .slice G2 g.2.length g2]] V (aG (bE g.1 g.2 (k:Int) y) V)):=fun V kV=>BP (H.kp kV) hn hy
 have HFI:Hid (∀V,Kp W V->CJ 179 #[.agg #[.slice A1 a.1.length a1, .slice A2 a.2.length a2], .int .i64 (k:Int)] V (aG (cH a.1 a.2 (k:Int)) V)):=fun V kV=>xW A1 A2 a1 a2 a.1 a.2 (k:Int) V ⟨H.ra.r.s.kp kV,H.ra.c1.1,H.ra.c1.2⟩ (H.ra.r.d.kp kV) H.na
 have N1:bN (bE g.1 g.2 (k:Int) y).2.1:=pZ H.ng _ _;have N2:bN (cH a.1 a.2 (k:Int)).2.1:=yd _ _ _;obtain⟨R,hR⟩:=eX (bE g.1 g.2 (k:Int) y);obtain⟨U,hU⟩:=eX (cH a.1 a.2 (k:Int));rw[<-hR]at HGR N1⊢;rw[<-hU]at HFI N2⊢;have HD:Hid (∀V A' D' c' d' C D c d,Rd V A' R.1->Rd V D' R.2.1->Rd V C U.1->Rd V D U.2.1->CJ 83 #[.int .i64 12, .agg #[.slice A' R.1.length c', .slice D' R.2.1.length d'], .agg #[.slice C U.1.length c, .slice D U.2.1.length d]] V (aG (bg 12 R.1 R.2.1 U.1 U.2.1) V)):=fun V A' D' c' d' C D c d h1 h2 h3 h4=>
  eZ 12 A' D' C D c' d' c d R.1 R.2.1 U.1 U.2.1 V h1 h2 h3 h4 N1 N2
 obtain⟨Q3,hQ⟩:=eX (bg 12 R.1 R.2.1 U.1 U.2.1);rw[<-hQ]at HD⊢;obtain⟨w1,hw1⟩:=eX ((W.alloc (.cells #[.int .i64 op, .slice P nP cP, .slice Q nums.length d, .slice A1 a.1.length a1, .slice A2 a.2.length a2, .slice B1 b.1.length b1, .slice B2 b.2.length b2, .slice O1 o.1.length o1, .slice O2 o.2.length o2, .slice G1 g.1.length g1, .slice G2 g.2.length g2] 127)).alloc (.cells #[.slice none 0 0, .slice none 0 0] 25));obtain⟨K1,BJ,BO⟩:=jw hw1;have HW:=lH hw1;clear hw1 H hQ hR hU N1 N2 hn hy;go_enter Tryz.func154,Tryz.ntmps154;go_wp2_with fail;rw[<-HW.out];refine(HGR.out _ K1.out).mono ?_;rintro e2 w2 ⟨A',c',D',d',rfl,s2,t2,k2⟩;obtain⟨w4,hw4⟩:=eX (w2.alloc (.cells #[.slice A' R.1.length c', .slice D' R.2.1.length d'] 25));have kk:Kp w2 w4:=by rw[hw4];exact Kp.af _ _
 have F4:Hid (Bk w4 w2.heap.size A' R.1.length c' D' R.2.1.length d'):=by rw[hw4];exact Bk.new rfl
 have K4:=lH ((K1.out.tr k2).tr kk);have J4:=lH (BJ.out.kp (k2.tr kk));have O4:=lH (BO.out.kp (k2.tr kk));have S4:=lH (s2.kp kk);have T4:=lH (t2.kp kk);have HW4:=lH hw4;have HSS:Hid (∀V,Kp w4 V->SJ V W.heap.size op P nP cP Q A1 A2 B1 B2 O1 O2 G1 G2 d a1 a2 b1 b2 o1 o2 g1 g2 nums a b o g):=fun V kV=>lJ (J4.out.kp kV)
 clear hw4 kk k2 s2 t2 K1 BJ BO HW;dsimp only;go_wp2_with fail;rw[<-HW4.out]
 go_cut [6,7] (fun v6 v7 wx=>∃b6 C c D d,v6= pX b6 0/\v7= .int .i64 U.2.2/\Hid (Bk wx b6 C U.1.length c D U.2.1.length d)/\Hid (Sl wx C c U.1)/\Hid (Sl wx D d U.2.1)/\Hid (Kp w4 wx))
 case first=>
  refine aa8 (S:=fun V=>SJ V W.heap.size op P nP cP Q A1 A2 B1 B2 O1 O2 G1 G2 d a1 a2 b1 b2 o1 o2 g1 g2 nums a b o g) kM (HSS.out _ (aa3 (Kp.refl _))) (fun qJ=>?_);have X0:Hid (Kp w4 w4.drew):=aa3 (Kp.refl _);generalize w4.drew=V0 at X0 qJ⊢;refine tJ 0 (pX W.heap.size 3) rfl qJ<|tJ 1 (.agg #[.slice A1 a.1.length a1, .slice A2 a.2.length a2]) rfl qJ<|tJ 2 (.agg #[.int .i64 op, .slice P nP cP, .slice Q nums.length d, .slice A1 a.1.length a1, .slice A2 a.2.length a2, .slice B1 b.1.length b1, .slice B2 b.2.length b2, .slice O1 o.1.length o1, .slice O2 o.2.length o2, .slice G1 g.1.length g1, .slice G2 g.2.length g2]) rfl qJ ?_;refine abo (rs:=[3,8]) kM sC ?_;refine aa4 rfl (fun _ hK=>?o3) (aa4 rfl (fun _ hK=>?o8) abl)
  case' o3=>
   go_simp;refine(jy (HJB.out.kp (K4.out.tr X0.out)) HN.out).mono ?_;rintro e5 V1 ⟨rfl,k5⟩;dsimp only;have X1:=lH (X0.out.tr k5);clear k5;refine hK.out _ _ (HSS.out _ X1.out) fun qJ=>?_
   clear hK X0;refine abo (rs:=[4,8]) kM sC ?_;refine aa4 rfl (fun _ hK=>?o34) (aa4 rfl (fun _ hK=>?o38) abl)
   case' o34=>
    go_simp;refine(HFI.out _ (K4.out.tr X1.out)).mono ?_;rintro e6 V2 ⟨C,c,D,d,rfl,s6,t6,k5⟩;dsimp only;have SU:=lH s6;have TU:=lH t6;clear s6 t6;have X2:=lH (X1.out.tr k5);clear k5;refine hK.out _ _ (HSS.out _ X2.out) fun qJ=>?_
    clear hK X1;refine tJ 5 (.tuple #[.agg #[.slice C U.1.length c, .slice D U.2.1.length d], .int .i64 U.2.2]) rfl qJ<|tJ 6 (.agg #[.slice C U.1.length c, .slice D U.2.1.length d]) rfl qJ<|tJ 7 (.int .i64 U.2.2) rfl qJ ?_;refine rD 8 rfl fun _ hK=>?_
    go_simp;have B6:Hid (Bk (V2.alloc (.cells #[.slice none 0 0, .slice none 0 0] 25)) V2.heap.size none 0 0 none 0 0):=Bk.new rfl;have X3:Hid (Kp w4 (V2.alloc (.cells #[.slice none 0 0, .slice none 0 0] 25))):=X2.out.tr (Kp.af _ _);have L6:Hid (w4.heap.size<=V2.heap.size):=X2.out.size;replace SU:=lH (SU.out.kp (Kp.af V2 (.cells #[.slice none 0 0, .slice none 0 0] 25)));replace TU:=lH (TU.out.kp (Kp.af V2 (.cells #[.slice none 0 0, .slice none 0 0] 25)));generalize V2.alloc (.cells #[.slice none 0 0, .slice none 0 0] 25)=V3 at X3 B6 SU TU⊢;generalize V2.heap.size=b6 at B6 L6⊢;refine hK.out _ _ (HSS.out _ X3.out) fun qJ=>?_
    clear hK X2
   case' o38=>
    go_simp;have B6:Hid (Bk (V1.alloc (.cells #[.slice none 0 0, .slice none 0 0] 25)) V1.heap.size none 0 0 none 0 0):=Bk.new rfl;have X2:Hid (Kp w4 (V1.alloc (.cells #[.slice none 0 0, .slice none 0 0] 25))):=X1.out.tr (Kp.af _ _);have L6:Hid (w4.heap.size<=V1.heap.size):=X1.out.size;generalize V1.alloc (.cells #[.slice none 0 0, .slice none 0 0] 25)=V2 at X2 B6⊢;generalize V1.heap.size=b6 at B6 L6⊢;refine hK.out _ _ (HSS.out _ X2.out) fun qJ=>?_
    clear hK X1;refine rD 4 rfl fun _ hK=>?_
    go_simp;refine(HFI.out _ (K4.out.tr X2.out)).mono ?_;rintro e6 V3 ⟨C,c,D,d,rfl,s6,t6,k5⟩;dsimp only;have SU:=lH s6;have TU:=lH t6;clear s6 t6;have X3:=lH (X2.out.tr k5);replace B6:=lH (B6.out.kp k5);clear k5;refine hK.out _ _ (HSS.out _ X3.out) fun qJ=>?_
    clear hK X2;refine tJ 5 (.tuple #[.agg #[.slice C U.1.length c, .slice D U.2.1.length d], .int .i64 U.2.2]) rfl qJ<|tJ 6 (.agg #[.slice C U.1.length c, .slice D U.2.1.length d]) rfl qJ<|tJ 7 (.int .i64 U.2.2) rfl qJ ?_
  case' o8=>
   go_simp;have B6:Hid (Bk (V0.alloc (.cells #[.slice none 0 0, .slice none 0 0] 25)) V0.heap.size none 0 0 none 0 0):=Bk.new rfl;have X1:Hid (Kp w4 (V0.alloc (.cells #[.slice none 0 0, .slice none 0 0] 25))):=X0.out.tr (Kp.af _ _);have L6:Hid (w4.heap.size<=V0.heap.size):=X0.out.size;generalize V0.alloc (.cells #[.slice none 0 0, .slice none 0 0] 25)=V1 at X1 B6⊢;generalize V0.heap.size=b6 at B6 L6⊢;refine hK.out _ _ (HSS.out _ X1.out) fun qJ=>?_
   clear hK X0;refine rD 3 rfl fun _ hK=>?_
   go_simp;refine(jy (HJB.out.kp (K4.out.tr X1.out)) HN.out).mono ?_;rintro e5 V2 ⟨rfl,k5⟩;dsimp only;have X2:=lH (X1.out.tr k5);replace B6:=lH (B6.out.kp k5);clear k5;refine hK.out _ _ (HSS.out _ X2.out) fun qJ=>?_
   clear hK X1;refine rD 4 rfl fun _ hK=>?_
   go_simp;refine(HFI.out _ (K4.out.tr X2.out)).mono ?_;rintro e6 V3 ⟨C,c,D,d,rfl,s6,t6,k5⟩;dsimp only;have SU:=lH s6;have TU:=lH t6;clear s6 t6;have X3:=lH (X2.out.tr k5);replace B6:=lH (B6.out.kp k5);clear k5;refine hK.out _ _ (HSS.out _ X3.out) fun qJ=>?_
   clear hK X2;refine tJ 5 (.tuple #[.agg #[.slice C U.1.length c, .slice D U.2.1.length d], .int .i64 U.2.2]) rfl qJ<|tJ 6 (.agg #[.slice C U.1.length c, .slice D U.2.1.length d]) rfl qJ<|tJ 7 (.int .i64 U.2.2) rfl qJ ?_
  all_goals
   have o0:=B6.out.c0;have o1:=B6.out.c1;have f0:=B6.out.f0 0;have f1:=B6.out.f0 1;have X4:Hid (Kp w4 ((V3.setCell ⟨b6,0,none⟩ (.slice C U.1.length c)).setCell ⟨b6,1,none⟩ (.slice D U.2.1.length d))):=(X3.out.setCell (p:=⟨b6,0,none⟩) L6.out _).setCell (p:=⟨b6,1,none⟩) L6.out _;refine rD 9 rfl fun _ hK=>?_
   go_simp;refine hK.out _ _ (HSS.out _ X4.out) fun qJ=>?_
   clear hK;refine rD 10 rfl fun _ hK=>?_
   go_simp;refine hK.out _ _ (HSS.out _ X4.out) fun qJ=>?_
   clear hK;refine abp kM ?_ _;go_wp2;go_meet;exact⟨b6,C,c,D,d,rfl,rfl,B6.out.put,SU.out.past B6.out _ _,TU.out.past B6.out _ _,X4.out⟩
 case rest=>
 obtain⟨b6,C,c,D,d,rfl,rfl,B6,SU,TU,XC⟩:=hcut;have HC:=lH (HD.out wc A' D' c' d' C D c d (S4.out.rd.kp XC.out) (T4.out.rd.kp XC.out) SU.out.rd TU.out.rd);have F5:=lH (F4.out.kp XC.out);have O5:=lH (O4.out.kp XC.out);have K5:=lH (K4.out.tr XC.out);have y0:=F5.out.c0;have y1:=F5.out.c1;have y2:=B6.out.c0;have y3:=B6.out.c1;go_wp2_with fail;refine HC.out.mono ?_;rintro e7 w7 ⟨A3,c3,D3,d3,rfl,s3,t3,k7⟩;have K7:=lH (K5.out.tr k7);have O7:=lH (O5.out.kp k7);have S3:=lH (s3.mo K5.out.size);have T3:=lH (t3.mo K5.out.size);clear k7 s3 t3 y0 y1 y2 y3;dsimp only;have o0:=O7.out.c0;have o1:=O7.out.c1;have f0:=O7.out.f0 0;have f1:=O7.out.f0 1;go_wp2;refine aaX (v:= .tuple #[.agg #[.slice A3 Q3.1.length c3, .slice D3 Q3.2.1.length d3], .int .i64 Q3.2.2]) (by simp[results,Tryz.results154,go_sem,o0,o1];try rfl) rfl ?_;exact fin S3.out T3.out O7.out K7.out rfl rfl
