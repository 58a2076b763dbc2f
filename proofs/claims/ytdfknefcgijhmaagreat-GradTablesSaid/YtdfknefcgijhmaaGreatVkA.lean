/- The landed vjp: a job's calls. -/
import Derived.Test.YtdfknefcgijhmaaGreatTk
import Derived.Test.YtdfknefcgijhmaaGreatEvZb
import Derived.Test.YtdfknefcgijhmaaGreatVjM
set_option maxHeartbeats 16000000
set_option maxRecDepth 100000
set_option linter.unusedVariables false
set_option linter.unusedSimpArgs false
namespace Go.Proofs.YtdfknefcgijhmaaGreat.Ez
open Go.RowKit Go.Proofs.ShM Go.Proofs.GrM Go.Proofs.InM Go.Proofs.ImM Go.Proofs.cF Go.Proofs.EvM
structure Jb(W:World)(Q A1 A2 B1 B2 O1 O2 G1 G2:Option Addr)(d a1 a2 b1 b2 o1 o2 g1 g2:Nat)(nums:List Int)(a b o g:T):Prop where
 rn:Rd W Q nums
 ra:TRc W A1 a1 A2 a2 a
 rb:TRc W B1 b1 B2 b2 b
 ro:TRc W O1 o1 O2 o2 o
 rg:TRc W G1 g1 G2 g2 g
 na:bN a.2
 nb:bN b.2
 no:bN o.2
 ng:bN g.2
section
variable{W:World}{op:Int}{P Q A1 A2 B1 B2 O1 O2 G1 G2:Option Addr}{nP cP d a1 a2 b1 b2 o1 o2 g1 g2:Nat}{nums:List Int}{a b o g:T}
theorem Jb.kp{W':World}(h:Jb W Q A1 A2 B1 B2 O1 O2 G1 G2 d a1 a2 b1 b2 o1 o2 g1 g2 nums a b o g)(k:Kp W W'):Jb W' Q A1 A2 B1 B2 O1 O2 G1 G2 d a1 a2 b1 b2 o1 o2 g1 g2 nums a b o g:=
 ⟨h.rn.kp k,h.ra.kp k,h.rb.kp k,h.ro.kp k,h.rg.kp k,h.na,h.nb,h.no,h.ng⟩
theorem jw{w1:World}{cs:Array Value}(h:w1=(W.alloc (.cells cs 98)).alloc (.cells #[.slice none 0 0, .slice none 0 0] 31)):
  Hid (Kp W w1)∧Hid (Bx w1 W.heap.size cs.toList 98)∧Hid (Bk w1 (W.heap.size+1) none 0 0 none 0 0):=by
 subst h
 exact⟨(Kp.af _ _).tr (Kp.af _ _),(Bx.new (cs:=cs.toList) rfl).kp (Kp.af _ _),Bk.new (by rw[World.size_alloc])⟩
theorem fin{r:Tn}{w:World}{x y:Nat}{A B:Option Addr}{c d:Nat}(S:Sl w A c r.1)(T:Sl w B d r.2.1)(O:Bk w (W.heap.size+1) none 0 0 none 0 0)(K:Kp W w)(hx:x=r.1.length)(hy:y=r.2.1.length):
  aG r W (.returned (.tuple #[.agg #[.slice A x c, .slice B y d], .int .i64 r.2.2])) ((w.setCell ⟨W.heap.size+1,0,none⟩ (.slice A x c)).setCell ⟨W.heap.size+1,1,none⟩ (.slice B y d)):=by
 subst hx hy
 exact⟨A,c,B,d,rfl,S.past O _ _,T.past O _ _,(K.setCell (p:=⟨W.heap.size+1,0,none⟩) (Nat.le_succ _) _).setCell (p:=⟨W.heap.size+1,1,none⟩) (Nat.le_succ _) _⟩
theorem QG{r:Tn}{w:World}{err:Int}(hr:r=([],[],err))(O:Bk w (W.heap.size+1) none 0 0 none 0 0)(K:Kp W w):
  aG r W (.returned (.tuple #[.agg #[.slice none 0 0, .slice none 0 0], .int .i64 err])) ((w.setCell ⟨W.heap.size+1,0,none⟩ (.slice none 0 0)).setCell ⟨W.heap.size+1,1,none⟩ (.slice none 0 0)):=by
 subst hr
 exact fin (r:=([],[],err)) (Sl.bU _) (Sl.bU _) O K rfl rfl
theorem BM(H:Jb W Q A1 A2 B1 B2 O1 O2 G1 G2 d a1 a2 b1 b2 o1 o2 g1 g2 nums a b o g):Calls Tryz.prog 93 #[.agg #[.int .i64 op, .slice P nP cP, .slice Q nums.length d, .slice A1 a.1.length a1, .slice A2 a.2.length a2, .slice B1 b.1.length b1, .slice B2 b.2.length b2, .slice O1 o.1.length o1, .slice O2 o.2.length o2, .slice G1 g.1.length g1, .slice G2 g.2.length g2]] W (aG ((g.1,g.2,0)) W):=by
 have HS:Hid (∀V,Kp W V→Sl V G1 g1 g.1∧Sl V G2 g2 g.2):=fun V kV=>⟨Sl.of (H.rg.r.s.kp kV) H.rg.c1,Sl.of (H.rg.r.d.kp kV) H.rg.c2⟩
 clear H
 go_enter Tryz.func93,Tryz.ntmps93
 go_wp2
 refine bodyPost_ret (v:= .tuple #[.agg #[.slice G1 g.1.length g1, .slice G2 g.2.length g2], .int .i64 0]) (by simp[results,Tryz.results93,go_sem];try rfl) rfl ?_
 have kk:Kp W ((W.alloc (.cells #[.int .i64 op, .slice P nP cP, .slice Q nums.length d, .slice A1 a.1.length a1, .slice A2 a.2.length a2, .slice B1 b.1.length b1, .slice B2 b.2.length b2, .slice O1 o.1.length o1, .slice O2 o.2.length o2, .slice G1 g.1.length g1, .slice G2 g.2.length g2] 98)).alloc (.cells #[.slice G1 g.1.length g1, .slice G2 g.2.length g2] 31)):=(Kp.af _ _).tr (Kp.af _ _)
 exact⟨G1,g1,G2,g2,rfl,(HS.out _ kk).1,(HS.out _ kk).2,kk⟩
theorem om(H:Jb W Q A1 A2 B1 B2 O1 O2 G1 G2 d a1 a2 b1 b2 o1 o2 g1 g2 nums a b o g):Calls Tryz.prog 94 #[.agg #[.int .i64 op, .slice P nP cP, .slice Q nums.length d, .slice A1 a.1.length a1, .slice A2 a.2.length a2, .slice B1 b.1.length b1, .slice B2 b.2.length b2, .slice O1 o.1.length o1, .slice O2 o.2.length o2, .slice G1 g.1.length g1, .slice G2 g.2.length g2]] W (aG (dS 20 g.1 g.2) W):=by
 have HC:Hid (∀V,Kp W V→Calls Tryz.prog 59 #[.int .i64 20, .agg #[.slice G1 g.1.length g1, .slice G2 g.2.length g2]] V (aG (dS 20 g.1 g.2) V)):=fun V kV=>uh 20 G1 G2 g1 g2 g.1 g.2 V (H.rg.r.s.kp kV) (H.rg.r.d.kp kV) H.ng
 obtain⟨Q3,hQ⟩:=eX (dS 20 g.1 g.2)
 rw[←hQ]at HC⊢
 obtain⟨w1,hw1⟩:=eX ((W.alloc (.cells #[.int .i64 op, .slice P nP cP, .slice Q nums.length d, .slice A1 a.1.length a1, .slice A2 a.2.length a2, .slice B1 b.1.length b1, .slice B2 b.2.length b2, .slice O1 o.1.length o1, .slice O2 o.2.length o2, .slice G1 g.1.length g1, .slice G2 g.2.length g2] 98)).alloc (.cells #[.slice none 0 0, .slice none 0 0] 31))
 obtain⟨K1,BJ,BO⟩:=jw hw1
 have HW:=lH hw1
 have xg0:=BJ.out.cell (j:=9) rfl
 have xg1:=BJ.out.cell (j:=10) rfl
 clear hw1 H hQ
 go_enter Tryz.func94,Tryz.ntmps94
 go_wp2_with fail
 rw[←HW.out]
 refine(HC.out _ K1.out).mono ?_;rintro e2 w2 ⟨A3,c3,D3,d3,rfl,s3,t3,k2⟩
 have K2:=lH (K1.out.tr k2)
 have O2:=lH (BO.out.kp k2)
 have S3:=lH s3;have T3:=lH t3
 clear k2 s3 t3 xg0 xg1
 dsimp only
 have o0:=O2.out.c0
 have o1:=O2.out.c1
 have f0:=O2.out.f0 0
 have f1:=O2.out.f0 1
 go_wp2
 refine bodyPost_ret (v:= .tuple #[.agg #[.slice A3 Q3.1.length c3, .slice D3 Q3.2.1.length d3], .int .i64 Q3.2.2]) (by simp[results,Tryz.results94,go_sem,o0,o1];try rfl) rfl ?_
 exact fin S3.out T3.out O2.out K2.out rfl rfl
theorem Gl(H:Jb W Q A1 A2 B1 B2 O1 O2 G1 G2 d a1 a2 b1 b2 o1 o2 g1 g2 nums a b o g):Calls Tryz.prog 95 #[.agg #[.int .i64 op, .slice P nP cP, .slice Q nums.length d, .slice A1 a.1.length a1, .slice A2 a.2.length a2, .slice B1 b.1.length b1, .slice B2 b.2.length b2, .slice O1 o.1.length o1, .slice O2 o.2.length o2, .slice G1 g.1.length g1, .slice G2 g.2.length g2]] W (aG (bg 12 g.1 g.2 b.1 b.2) W):=by
 have HC:Hid (∀V,Kp W V→Calls Tryz.prog 41 #[.int .i64 12, .agg #[.slice G1 g.1.length g1, .slice G2 g.2.length g2], .agg #[.slice B1 b.1.length b1, .slice B2 b.2.length b2]] V (aG (bg 12 g.1 g.2 b.1 b.2) V)):=fun V kV=>eZ 12 G1 G2 B1 B2 g1 g2 b1 b2 g.1 g.2 b.1 b.2 V (H.rg.r.s.kp kV) (H.rg.r.d.kp kV) (H.rb.r.s.kp kV) (H.rb.r.d.kp kV) H.ng H.nb
 obtain⟨Q3,hQ⟩:=eX (bg 12 g.1 g.2 b.1 b.2)
 rw[←hQ]at HC⊢
 obtain⟨w1,hw1⟩:=eX ((W.alloc (.cells #[.int .i64 op, .slice P nP cP, .slice Q nums.length d, .slice A1 a.1.length a1, .slice A2 a.2.length a2, .slice B1 b.1.length b1, .slice B2 b.2.length b2, .slice O1 o.1.length o1, .slice O2 o.2.length o2, .slice G1 g.1.length g1, .slice G2 g.2.length g2] 98)).alloc (.cells #[.slice none 0 0, .slice none 0 0] 31))
 obtain⟨K1,BJ,BO⟩:=jw hw1
 have HW:=lH hw1
 have xg0:=BJ.out.cell (j:=9) rfl
 have xg1:=BJ.out.cell (j:=10) rfl
 have xb0:=BJ.out.cell (j:=5) rfl
 have xb1:=BJ.out.cell (j:=6) rfl
 clear hw1 H hQ
 go_enter Tryz.func95,Tryz.ntmps95
 go_wp2_with fail
 rw[←HW.out]
 refine(HC.out _ K1.out).mono ?_;rintro e2 w2 ⟨A3,c3,D3,d3,rfl,s3,t3,k2⟩
 have K2:=lH (K1.out.tr k2)
 have O2:=lH (BO.out.kp k2)
 have S3:=lH s3;have T3:=lH t3
 clear k2 s3 t3 xg0 xg1 xb0 xb1
 dsimp only
 have o0:=O2.out.c0
 have o1:=O2.out.c1
 have f0:=O2.out.f0 0
 have f1:=O2.out.f0 1
 go_wp2
 refine bodyPost_ret (v:= .tuple #[.agg #[.slice A3 Q3.1.length c3, .slice D3 Q3.2.1.length d3], .int .i64 Q3.2.2]) (by simp[results,Tryz.results95,go_sem,o0,o1];try rfl) rfl ?_
 exact fin S3.out T3.out O2.out K2.out rfl rfl
theorem Gm(H:Jb W Q A1 A2 B1 B2 O1 O2 G1 G2 d a1 a2 b1 b2 o1 o2 g1 g2 nums a b o g):Calls Tryz.prog 96 #[.agg #[.int .i64 op, .slice P nP cP, .slice Q nums.length d, .slice A1 a.1.length a1, .slice A2 a.2.length a2, .slice B1 b.1.length b1, .slice B2 b.2.length b2, .slice O1 o.1.length o1, .slice O2 o.2.length o2, .slice G1 g.1.length g1, .slice G2 g.2.length g2]] W (aG (bg 12 g.1 g.2 a.1 a.2) W):=by
 have HC:Hid (∀V,Kp W V→Calls Tryz.prog 41 #[.int .i64 12, .agg #[.slice G1 g.1.length g1, .slice G2 g.2.length g2], .agg #[.slice A1 a.1.length a1, .slice A2 a.2.length a2]] V (aG (bg 12 g.1 g.2 a.1 a.2) V)):=fun V kV=>eZ 12 G1 G2 A1 A2 g1 g2 a1 a2 g.1 g.2 a.1 a.2 V (H.rg.r.s.kp kV) (H.rg.r.d.kp kV) (H.ra.r.s.kp kV) (H.ra.r.d.kp kV) H.ng H.na
 obtain⟨Q3,hQ⟩:=eX (bg 12 g.1 g.2 a.1 a.2)
 rw[←hQ]at HC⊢
 obtain⟨w1,hw1⟩:=eX ((W.alloc (.cells #[.int .i64 op, .slice P nP cP, .slice Q nums.length d, .slice A1 a.1.length a1, .slice A2 a.2.length a2, .slice B1 b.1.length b1, .slice B2 b.2.length b2, .slice O1 o.1.length o1, .slice O2 o.2.length o2, .slice G1 g.1.length g1, .slice G2 g.2.length g2] 98)).alloc (.cells #[.slice none 0 0, .slice none 0 0] 31))
 obtain⟨K1,BJ,BO⟩:=jw hw1
 have HW:=lH hw1
 have xg0:=BJ.out.cell (j:=9) rfl
 have xg1:=BJ.out.cell (j:=10) rfl
 have xa0:=BJ.out.cell (j:=3) rfl
 have xa1:=BJ.out.cell (j:=4) rfl
 clear hw1 H hQ
 go_enter Tryz.func96,Tryz.ntmps96
 go_wp2_with fail
 rw[←HW.out]
 refine(HC.out _ K1.out).mono ?_;rintro e2 w2 ⟨A3,c3,D3,d3,rfl,s3,t3,k2⟩
 have K2:=lH (K1.out.tr k2)
 have O2:=lH (BO.out.kp k2)
 have S3:=lH s3;have T3:=lH t3
 clear k2 s3 t3 xg0 xg1 xa0 xa1
 dsimp only
 have o0:=O2.out.c0
 have o1:=O2.out.c1
 have f0:=O2.out.f0 0
 have f1:=O2.out.f0 1
 go_wp2
 refine bodyPost_ret (v:= .tuple #[.agg #[.slice A3 Q3.1.length c3, .slice D3 Q3.2.1.length d3], .int .i64 Q3.2.2]) (by simp[results,Tryz.results96,go_sem,o0,o1];try rfl) rfl ?_
 exact fin S3.out T3.out O2.out K2.out rfl rfl
theorem Rt(H:Jb W Q A1 A2 B1 B2 O1 O2 G1 G2 d a1 a2 b1 b2 o1 o2 g1 g2 nums a b o g):Calls Tryz.prog 97 #[.agg #[.int .i64 op, .slice P nP cP, .slice Q nums.length d, .slice A1 a.1.length a1, .slice A2 a.2.length a2, .slice B1 b.1.length b1, .slice B2 b.2.length b2, .slice O1 o.1.length o1, .slice O2 o.2.length o2, .slice G1 g.1.length g1, .slice G2 g.2.length g2]] W (aG (bg 13 g.1 g.2 b.1 b.2) W):=by
 have HC:Hid (∀V,Kp W V→Calls Tryz.prog 41 #[.int .i64 13, .agg #[.slice G1 g.1.length g1, .slice G2 g.2.length g2], .agg #[.slice B1 b.1.length b1, .slice B2 b.2.length b2]] V (aG (bg 13 g.1 g.2 b.1 b.2) V)):=fun V kV=>eZ 13 G1 G2 B1 B2 g1 g2 b1 b2 g.1 g.2 b.1 b.2 V (H.rg.r.s.kp kV) (H.rg.r.d.kp kV) (H.rb.r.s.kp kV) (H.rb.r.d.kp kV) H.ng H.nb
 obtain⟨Q3,hQ⟩:=eX (bg 13 g.1 g.2 b.1 b.2)
 rw[←hQ]at HC⊢
 obtain⟨w1,hw1⟩:=eX ((W.alloc (.cells #[.int .i64 op, .slice P nP cP, .slice Q nums.length d, .slice A1 a.1.length a1, .slice A2 a.2.length a2, .slice B1 b.1.length b1, .slice B2 b.2.length b2, .slice O1 o.1.length o1, .slice O2 o.2.length o2, .slice G1 g.1.length g1, .slice G2 g.2.length g2] 98)).alloc (.cells #[.slice none 0 0, .slice none 0 0] 31))
 obtain⟨K1,BJ,BO⟩:=jw hw1
 have HW:=lH hw1
 have xg0:=BJ.out.cell (j:=9) rfl
 have xg1:=BJ.out.cell (j:=10) rfl
 have xb0:=BJ.out.cell (j:=5) rfl
 have xb1:=BJ.out.cell (j:=6) rfl
 clear hw1 H hQ
 go_enter Tryz.func97,Tryz.ntmps97
 go_wp2_with fail
 rw[←HW.out]
 refine(HC.out _ K1.out).mono ?_;rintro e2 w2 ⟨A3,c3,D3,d3,rfl,s3,t3,k2⟩
 have K2:=lH (K1.out.tr k2)
 have O2:=lH (BO.out.kp k2)
 have S3:=lH s3;have T3:=lH t3
 clear k2 s3 t3 xg0 xg1 xb0 xb1
 dsimp only
 have o0:=O2.out.c0
 have o1:=O2.out.c1
 have f0:=O2.out.f0 0
 have f1:=O2.out.f0 1
 go_wp2
 refine bodyPost_ret (v:= .tuple #[.agg #[.slice A3 Q3.1.length c3, .slice D3 Q3.2.1.length d3], .int .i64 Q3.2.2]) (by simp[results,Tryz.results97,go_sem,o0,o1];try rfl) rfl ?_
 exact fin S3.out T3.out O2.out K2.out rfl rfl
theorem Oy(H:Jb W Q A1 A2 B1 B2 O1 O2 G1 G2 d a1 a2 b1 b2 o1 o2 g1 g2 nums a b o g):Calls Tryz.prog 102 #[.agg #[.int .i64 op, .slice P nP cP, .slice Q nums.length d, .slice A1 a.1.length a1, .slice A2 a.2.length a2, .slice B1 b.1.length b1, .slice B2 b.2.length b2, .slice O1 o.1.length o1, .slice O2 o.2.length o2, .slice G1 g.1.length g1, .slice G2 g.2.length g2]] W (aG (fL g.1 g.2 b.1 b.2) W):=by
 have HC:Hid (∀V,Kp W V→Calls Tryz.prog 159 #[.agg #[.slice G1 g.1.length g1, .slice G2 g.2.length g2], .agg #[.slice B1 b.1.length b1, .slice B2 b.2.length b2]] V (aG (fL g.1 g.2 b.1 b.2) V)):=fun V kV=>AH G1 G2 B1 B2 g1 g2 b1 b2 g.1 g.2 b.1 b.2 V (H.rg.r.s.kp kV) (H.rg.r.d.kp kV) (H.rb.r.s.kp kV) (H.rb.r.d.kp kV) H.ng H.nb
 obtain⟨Q3,hQ⟩:=eX (fL g.1 g.2 b.1 b.2)
 rw[←hQ]at HC⊢
 obtain⟨w1,hw1⟩:=eX ((W.alloc (.cells #[.int .i64 op, .slice P nP cP, .slice Q nums.length d, .slice A1 a.1.length a1, .slice A2 a.2.length a2, .slice B1 b.1.length b1, .slice B2 b.2.length b2, .slice O1 o.1.length o1, .slice O2 o.2.length o2, .slice G1 g.1.length g1, .slice G2 g.2.length g2] 98)).alloc (.cells #[.slice none 0 0, .slice none 0 0] 31))
 obtain⟨K1,BJ,BO⟩:=jw hw1
 have HW:=lH hw1
 have xg0:=BJ.out.cell (j:=9) rfl
 have xg1:=BJ.out.cell (j:=10) rfl
 have xb0:=BJ.out.cell (j:=5) rfl
 have xb1:=BJ.out.cell (j:=6) rfl
 clear hw1 H hQ
 go_enter Tryz.func102,Tryz.ntmps102
 go_wp2_with fail
 rw[←HW.out]
 refine(HC.out _ K1.out).mono ?_;rintro e2 w2 ⟨A3,c3,D3,d3,rfl,s3,t3,k2⟩
 have K2:=lH (K1.out.tr k2)
 have O2:=lH (BO.out.kp k2)
 have S3:=lH s3;have T3:=lH t3
 clear k2 s3 t3 xg0 xg1 xb0 xb1
 dsimp only
 have o0:=O2.out.c0
 have o1:=O2.out.c1
 have f0:=O2.out.f0 0
 have f1:=O2.out.f0 1
 go_wp2
 refine bodyPost_ret (v:= .tuple #[.agg #[.slice A3 Q3.1.length c3, .slice D3 Q3.2.1.length d3], .int .i64 Q3.2.2]) (by simp[results,Tryz.results102,go_sem,o0,o1];try rfl) rfl ?_
 exact fin S3.out T3.out O2.out K2.out rfl rfl
theorem KY(H:Jb W Q A1 A2 B1 B2 O1 O2 G1 G2 d a1 a2 b1 b2 o1 o2 g1 g2 nums a b o g):Calls Tryz.prog 103 #[.agg #[.int .i64 op, .slice P nP cP, .slice Q nums.length d, .slice A1 a.1.length a1, .slice A2 a.2.length a2, .slice B1 b.1.length b1, .slice B2 b.2.length b2, .slice O1 o.1.length o1, .slice O2 o.2.length o2, .slice G1 g.1.length g1, .slice G2 g.2.length g2]] W (aG (di a.1 a.2 g.1 g.2) W):=by
 have HC:Hid (∀V,Kp W V→Calls Tryz.prog 160 #[.agg #[.slice A1 a.1.length a1, .slice A2 a.2.length a2], .agg #[.slice G1 g.1.length g1, .slice G2 g.2.length g2]] V (aG (di a.1 a.2 g.1 g.2) V)):=fun V kV=>xS A1 A2 G1 G2 a1 a2 g1 g2 a.1 a.2 g.1 g.2 V (H.ra.r.s.kp kV) (H.ra.r.d.kp kV) (H.rg.r.s.kp kV) (H.rg.r.d.kp kV) H.na H.ng
 obtain⟨Q3,hQ⟩:=eX (di a.1 a.2 g.1 g.2)
 rw[←hQ]at HC⊢
 obtain⟨w1,hw1⟩:=eX ((W.alloc (.cells #[.int .i64 op, .slice P nP cP, .slice Q nums.length d, .slice A1 a.1.length a1, .slice A2 a.2.length a2, .slice B1 b.1.length b1, .slice B2 b.2.length b2, .slice O1 o.1.length o1, .slice O2 o.2.length o2, .slice G1 g.1.length g1, .slice G2 g.2.length g2] 98)).alloc (.cells #[.slice none 0 0, .slice none 0 0] 31))
 obtain⟨K1,BJ,BO⟩:=jw hw1
 have HW:=lH hw1
 have xa0:=BJ.out.cell (j:=3) rfl
 have xa1:=BJ.out.cell (j:=4) rfl
 have xg0:=BJ.out.cell (j:=9) rfl
 have xg1:=BJ.out.cell (j:=10) rfl
 clear hw1 H hQ
 go_enter Tryz.func103,Tryz.ntmps103
 go_wp2_with fail
 rw[←HW.out]
 refine(HC.out _ K1.out).mono ?_;rintro e2 w2 ⟨A3,c3,D3,d3,rfl,s3,t3,k2⟩
 have K2:=lH (K1.out.tr k2)
 have O2:=lH (BO.out.kp k2)
 have S3:=lH s3;have T3:=lH t3
 clear k2 s3 t3 xa0 xa1 xg0 xg1
 dsimp only
 have o0:=O2.out.c0
 have o1:=O2.out.c1
 have f0:=O2.out.f0 0
 have f1:=O2.out.f0 1
 go_wp2
 refine bodyPost_ret (v:= .tuple #[.agg #[.slice A3 Q3.1.length c3, .slice D3 Q3.2.1.length d3], .int .i64 Q3.2.2]) (by simp[results,Tryz.results103,go_sem,o0,o1];try rfl) rfl ?_
 exact fin S3.out T3.out O2.out K2.out rfl rfl
theorem yq(H:Jb W Q A1 A2 B1 B2 O1 O2 G1 G2 d a1 a2 b1 b2 o1 o2 g1 g2 nums a b o g):Calls Tryz.prog 104 #[.agg #[.int .i64 op, .slice P nP cP, .slice Q nums.length d, .slice A1 a.1.length a1, .slice A2 a.2.length a2, .slice B1 b.1.length b1, .slice B2 b.2.length b2, .slice O1 o.1.length o1, .slice O2 o.2.length o2, .slice G1 g.1.length g1, .slice G2 g.2.length g2]] W (aG (aJ g.1 g.2 a.1) W):=by
 have HC:Hid (∀V,Kp W V→Calls Tryz.prog 69 #[.agg #[.slice G1 g.1.length g1, .slice G2 g.2.length g2], .slice A1 a.1.length a1] V (aG (aJ g.1 g.2 a.1) V)):=fun V kV=>kZ G1 G2 A1 g1 g2 a1 g.1 g.2 a.1 V (H.rg.r.s.kp kV) (H.rg.r.d.kp kV) (H.ra.r.s.kp kV)
 obtain⟨Q3,hQ⟩:=eX (aJ g.1 g.2 a.1)
 rw[←hQ]at HC⊢
 obtain⟨w1,hw1⟩:=eX ((W.alloc (.cells #[.int .i64 op, .slice P nP cP, .slice Q nums.length d, .slice A1 a.1.length a1, .slice A2 a.2.length a2, .slice B1 b.1.length b1, .slice B2 b.2.length b2, .slice O1 o.1.length o1, .slice O2 o.2.length o2, .slice G1 g.1.length g1, .slice G2 g.2.length g2] 98)).alloc (.cells #[.slice none 0 0, .slice none 0 0] 31))
 obtain⟨K1,BJ,BO⟩:=jw hw1
 have HW:=lH hw1
 have xg0:=BJ.out.cell (j:=9) rfl
 have xg1:=BJ.out.cell (j:=10) rfl
 have xa0:=BJ.out.cell (j:=3) rfl
 have xa1:=BJ.out.cell (j:=4) rfl
 clear hw1 H hQ
 go_enter Tryz.func104,Tryz.ntmps104
 go_wp2_with fail
 rw[←HW.out]
 refine(HC.out _ K1.out).mono ?_;rintro e2 w2 ⟨A3,c3,D3,d3,rfl,s3,t3,k2⟩
 have K2:=lH (K1.out.tr k2)
 have O2:=lH (BO.out.kp k2)
 have S3:=lH s3;have T3:=lH t3
 clear k2 s3 t3 xg0 xg1 xa0 xa1
 dsimp only
 have o0:=O2.out.c0
 have o1:=O2.out.c1
 have f0:=O2.out.f0 0
 have f1:=O2.out.f0 1
 go_wp2
 refine bodyPost_ret (v:= .tuple #[.agg #[.slice A3 Q3.1.length c3, .slice D3 Q3.2.1.length d3], .int .i64 Q3.2.2]) (by simp[results,Tryz.results104,go_sem,o0,o1];try rfl) rfl ?_
 exact fin S3.out T3.out O2.out K2.out rfl rfl
theorem Gk(H:Jb W Q A1 A2 B1 B2 O1 O2 G1 G2 d a1 a2 b1 b2 o1 o2 g1 g2 nums a b o g):Calls Tryz.prog 105 #[.agg #[.int .i64 op, .slice P nP cP, .slice Q nums.length d, .slice A1 a.1.length a1, .slice A2 a.2.length a2, .slice B1 b.1.length b1, .slice B2 b.2.length b2, .slice O1 o.1.length o1, .slice O2 o.2.length o2, .slice G1 g.1.length g1, .slice G2 g.2.length g2]] W (aG (bF g.1 g.2) W):=by
 have HC:Hid (∀V,Kp W V→Calls Tryz.prog 71 #[.agg #[.slice G1 g.1.length g1, .slice G2 g.2.length g2]] V (aG (bF g.1 g.2) V)):=fun V kV=>jg G1 G2 g1 g2 g.1 g.2 V (H.rg.r.s.kp kV) (H.rg.r.d.kp kV)
 obtain⟨Q3,hQ⟩:=eX (bF g.1 g.2)
 rw[←hQ]at HC⊢
 obtain⟨w1,hw1⟩:=eX ((W.alloc (.cells #[.int .i64 op, .slice P nP cP, .slice Q nums.length d, .slice A1 a.1.length a1, .slice A2 a.2.length a2, .slice B1 b.1.length b1, .slice B2 b.2.length b2, .slice O1 o.1.length o1, .slice O2 o.2.length o2, .slice G1 g.1.length g1, .slice G2 g.2.length g2] 98)).alloc (.cells #[.slice none 0 0, .slice none 0 0] 31))
 obtain⟨K1,BJ,BO⟩:=jw hw1
 have HW:=lH hw1
 have xg0:=BJ.out.cell (j:=9) rfl
 have xg1:=BJ.out.cell (j:=10) rfl
 clear hw1 H hQ
 go_enter Tryz.func105,Tryz.ntmps105
 go_wp2_with fail
 rw[←HW.out]
 refine(HC.out _ K1.out).mono ?_;rintro e2 w2 ⟨A3,c3,D3,d3,rfl,s3,t3,k2⟩
 have K2:=lH (K1.out.tr k2)
 have O2:=lH (BO.out.kp k2)
 have S3:=lH s3;have T3:=lH t3
 clear k2 s3 t3 xg0 xg1
 dsimp only
 have o0:=O2.out.c0
 have o1:=O2.out.c1
 have f0:=O2.out.f0 0
 have f1:=O2.out.f0 1
 go_wp2
 refine bodyPost_ret (v:= .tuple #[.agg #[.slice A3 Q3.1.length c3, .slice D3 Q3.2.1.length d3], .int .i64 Q3.2.2]) (by simp[results,Tryz.results105,go_sem,o0,o1];try rfl) rfl ?_
 exact fin S3.out T3.out O2.out K2.out rfl rfl
theorem qh(H:Jb W Q A1 A2 B1 B2 O1 O2 G1 G2 d a1 a2 b1 b2 o1 o2 g1 g2 nums a b o g):Calls Tryz.prog 101 #[.agg #[.int .i64 op, .slice P nP cP, .slice Q nums.length d, .slice A1 a.1.length a1, .slice A2 a.2.length a2, .slice B1 b.1.length b1, .slice B2 b.2.length b2, .slice O1 o.1.length o1, .slice O2 o.2.length o2, .slice G1 g.1.length g1, .slice G2 g.2.length g2]] W (aG (fY 13 g (bg 10 o.1 o.2 o.1 o.2)) W):=by
 have HC:Hid (∀V,Kp W V→Calls Tryz.prog 41 #[.int .i64 10, .agg #[.slice O1 o.1.length o1, .slice O2 o.2.length o2], .agg #[.slice O1 o.1.length o1, .slice O2 o.2.length o2]] V (aG (bg 10 o.1 o.2 o.1 o.2) V)):=fun V kV=>eZ 10 O1 O2 O1 O2 o1 o2 o1 o2 o.1 o.2 o.1 o.2 V (H.ro.r.s.kp kV) (H.ro.r.d.kp kV) (H.ro.r.s.kp kV) (H.ro.r.d.kp kV) H.no H.no
 have HN:bN (bg 10 o.1 o.2 o.1 o.2).2.1:=gM _ _ _ _ _
 obtain⟨R,hR⟩:=eX (bg 10 o.1 o.2 o.1 o.2)
 rw[←hR]at HC HN⊢
 have HD:Hid (∀V C D c d,Kp W V→Rd V C R.1→Rd V D R.2.1→Calls Tryz.prog 41 #[.int .i64 13, .agg #[.slice G1 g.1.length g1, .slice G2 g.2.length g2], .agg #[.slice C R.1.length c, .slice D R.2.1.length d]] V (aG (bg 13 g.1 g.2 R.1 R.2.1) V)):=fun V C D c d kV h1 h2=>
  eZ 13 G1 G2 C D g1 g2 c d g.1 g.2 R.1 R.2.1 V (H.rg.r.s.kp kV) (H.rg.r.d.kp kV) h1 h2 H.ng HN
 obtain⟨w1,hw1⟩:=eX ((W.alloc (.cells #[.int .i64 op, .slice P nP cP, .slice Q nums.length d, .slice A1 a.1.length a1, .slice A2 a.2.length a2, .slice B1 b.1.length b1, .slice B2 b.2.length b2, .slice O1 o.1.length o1, .slice O2 o.2.length o2, .slice G1 g.1.length g1, .slice G2 g.2.length g2] 98)).alloc (.cells #[.slice none 0 0, .slice none 0 0] 31))
 obtain⟨K1,BJ,BO⟩:=jw hw1
 have HW:=lH hw1
 have xg0:=BJ.out.cell (j:=9) rfl
 have xg1:=BJ.out.cell (j:=10) rfl
 have xo0:=BJ.out.cell (j:=7) rfl
 have xo1:=BJ.out.cell (j:=8) rfl
 by_cases h0:R.2.2=0
 ·have hv:fY 13 g R=bg 13 g.1 g.2 R.1 R.2.1:=if_pos h0
  rw[hv]
  obtain⟨Q3,hQ⟩:=eX (bg 13 g.1 g.2 R.1 R.2.1)
  rw[←hQ]at HD⊢
  have H0:=lH h0
  clear hw1 H hQ hR hv h0 HN
  go_enter Tryz.func101,Tryz.ntmps101
  go_wp2_with fail
  rw[←HW.out]
  refine(HC.out _ K1.out).mono ?_;rintro e2 w2 ⟨A2',c2',D2',d2',rfl,s2,t2,k2⟩
  rw[H0.out]
  obtain⟨w3,hw3⟩:=eX (w2.alloc (.cells #[.slice A2' R.1.length c2', .slice D2' R.2.1.length d2'] 31))
  have kk:Kp w2 w3:=by rw[hw3];exact Kp.af _ _
  have F3:Hid (Bk w3 w2.heap.size A2' R.1.length c2' D2' R.2.1.length d2'):=by rw[hw3];exact Bk.new rfl
  have K3:=lH ((K1.out.tr k2).tr kk)
  have k3:=k2.tr kk
  have J3:=lH (BJ.out.kp k3)
  have O3:=lH (BO.out.kp k3)
  have HD3:=lH (HD.out w3 A2' D2' c2' d2' K3.out (s2.rd.kp kk) (t2.rd.kp kk))
  have HW3:=lH hw3
  have y9:=J3.out.cell (j:=9) rfl
  have y10:=J3.out.cell (j:=10) rfl
  have z0:=F3.out.c0
  have z1:=F3.out.c1
  clear hw3 kk k3 k2 s2 t2 xg0 xg1 xo0 xo1
  rw[HW3.out]at y9 y10 z0 z1
  dsimp only
  go_wp2_with fail
  rw[←HW3.out]
  refine HD3.out.mono ?_;rintro e4 w4 ⟨A3,c3,D3,d3,rfl,s3,t3,k4⟩
  have K4:=lH (K3.out.tr k4)
  have O4:=lH (O3.out.kp k4)
  have S3:=lH s3;have T3:=lH t3
  clear k4 s3 t3 y9 y10 z0 z1
  dsimp only
  have o0:=O4.out.c0
  have o1:=O4.out.c1
  have f0:=O4.out.f0 0
  have f1:=O4.out.f0 1
  go_wp2
  refine bodyPost_ret (v:= .tuple #[.agg #[.slice A3 Q3.1.length c3, .slice D3 Q3.2.1.length d3], .int .i64 Q3.2.2]) (by simp[results,Tryz.results101,go_sem,o0,o1];try rfl) rfl ?_
  exact fin S3.out T3.out O4.out K4.out rfl rfl
 ·have hv:fY 13 g R=([],[],R.2.2):=if_neg h0
  have HV:=lH hv
  have H0:(R.2.2 !=0)=true:=by simpa using h0
  clear hw1 H hR hv h0 HN
  go_enter Tryz.func101,Tryz.ntmps101
  go_wp2_with fail
  rw[←HW.out]
  refine(HC.out _ K1.out).mono ?_;rintro e2 w2 ⟨A2',c2',D2',d2',rfl,s2,t2,k2⟩
  obtain⟨w3,hw3⟩:=eX (w2.alloc (.cells #[.slice A2' R.1.length c2', .slice D2' R.2.1.length d2'] 31))
  have kk:Kp w2 w3:=by rw[hw3];exact Kp.af _ _
  have K3:=lH ((K1.out.tr k2).tr kk)
  have O3:=lH (BO.out.kp (k2.tr kk))
  have HW3:=lH hw3
  clear hw3 kk k2 s2 t2 xg0 xg1 xo0 xo1
  have o0:=O3.out.c0
  have o1:=O3.out.c1
  have f0:=O3.out.f0 0
  have f1:=O3.out.f0 1
  rw[HW3.out]at o0 o1 f0 f1
  dsimp only
  go_wp2
  rw[←HW3.out]at o0 o1⊢
  refine bodyPost_ret (v:= .tuple #[.agg #[.slice none 0 0, .slice none 0 0], .int .i64 R.2.2]) (by simp[results,Tryz.results101,go_sem,o0,o1];try rfl) rfl ?_
  exact QG HV.out O3.out K3.out
theorem yt(H:Jb W Q A1 A2 B1 B2 O1 O2 G1 G2 d a1 a2 b1 b2 o1 o2 g1 g2 nums a b o g):Calls Tryz.prog 98 #[.agg #[.int .i64 op, .slice P nP cP, .slice Q nums.length d, .slice A1 a.1.length a1, .slice A2 a.2.length a2, .slice B1 b.1.length b1, .slice B2 b.2.length b2, .slice O1 o.1.length o1, .slice O2 o.2.length o2, .slice G1 g.1.length g1, .slice G2 g.2.length g2]] W (aG (DN 20 (xg 13 (bg 12 g.1 g.2 o.1 o.2) b)) W):=by
 have HC:Hid (∀V,Kp W V→Calls Tryz.prog 41 #[.int .i64 12, .agg #[.slice G1 g.1.length g1, .slice G2 g.2.length g2], .agg #[.slice O1 o.1.length o1, .slice O2 o.2.length o2]] V (aG (bg 12 g.1 g.2 o.1 o.2) V)):=fun V kV=>eZ 12 G1 G2 O1 O2 g1 g2 o1 o2 g.1 g.2 o.1 o.2 V (H.rg.r.s.kp kV) (H.rg.r.d.kp kV) (H.ro.r.s.kp kV) (H.ro.r.d.kp kV) H.ng H.no
 have HN:bN (bg 12 g.1 g.2 o.1 o.2).2.1:=gM _ _ _ _ _
 obtain⟨R,hR⟩:=eX (bg 12 g.1 g.2 o.1 o.2)
 rw[←hR]at HC HN⊢
 have HD:Hid (∀V C D c d,Kp W V→Rd V C R.1→Rd V D R.2.1→Calls Tryz.prog 41 #[.int .i64 13, .agg #[.slice C R.1.length c, .slice D R.2.1.length d], .agg #[.slice B1 b.1.length b1, .slice B2 b.2.length b2]] V (aG (bg 13 R.1 R.2.1 b.1 b.2) V)):=fun V C D c d kV h1 h2=>
  eZ 13 C D B1 B2 c d b1 b2 R.1 R.2.1 b.1 b.2 V h1 h2 (H.rb.r.s.kp kV) (H.rb.r.d.kp kV) HN H.nb
 have HN2:bN (bg 13 R.1 R.2.1 b.1 b.2).2.1:=gM _ _ _ _ _
 have HR2:xg 13 R b=if R.2.2=0 then bg 13 R.1 R.2.1 b.1 b.2 else([],[],R.2.2):=rfl
 obtain⟨U,hU⟩:=eX (bg 13 R.1 R.2.1 b.1 b.2)
 rw[←hU]at HD HN2 HR2
 have HE:Hid (∀V C D c d,Rd V C U.1→Rd V D U.2.1→Calls Tryz.prog 59 #[.int .i64 20, .agg #[.slice C U.1.length c, .slice D U.2.1.length d]] V (aG (dS 20 U.1 U.2.1) V)):=fun V C D c d h1 h2=>uh 20 C D c d U.1 U.2.1 V h1 h2 HN2
 obtain⟨Q3,hQ⟩:=eX (dS 20 U.1 U.2.1)
 rw[←hQ]at HE
 have HV:Hid (DN 20 (xg 13 R b)=if R.2.2=0 then(if U.2.2=0 then Q3 else([],[],U.2.2))else([],[],R.2.2)):=by
  show _=_
  rw[HR2]
  unfold DN
  by_cases h0:R.2.2=0
  · rw[if_pos h0,if_pos h0,hQ]
  · rw[if_neg h0,if_neg h0,if_neg h0]
 rw[HV.out]
 obtain⟨w1,hw1⟩:=eX ((W.alloc (.cells #[.int .i64 op, .slice P nP cP, .slice Q nums.length d, .slice A1 a.1.length a1, .slice A2 a.2.length a2, .slice B1 b.1.length b1, .slice B2 b.2.length b2, .slice O1 o.1.length o1, .slice O2 o.2.length o2, .slice G1 g.1.length g1, .slice G2 g.2.length g2] 98)).alloc (.cells #[.slice none 0 0, .slice none 0 0] 31))
 obtain⟨K1,BJ,BO⟩:=jw hw1
 have HW:=lH hw1
 have xg0:=BJ.out.cell (j:=9) rfl
 have xg1:=BJ.out.cell (j:=10) rfl
 have xo0:=BJ.out.cell (j:=7) rfl
 have xo1:=BJ.out.cell (j:=8) rfl
 have xb0:=BJ.out.cell (j:=5) rfl
 have xb1:=BJ.out.cell (j:=6) rfl
 clear hw1 H hQ hR hU HN HN2 HR2 HV
 by_cases h0:R.2.2=0
 ·rw[if_pos h0]
  have H0:=lH h0
  by_cases h2:U.2.2=0
  ·rw[if_pos h2]
   have H2:=lH h2
   clear h0 h2
   go_enter Tryz.func98,Tryz.ntmps98
   go_wp2_with fail
   rw[←HW.out]
   refine(HC.out _ K1.out).mono ?_;rintro e2 w2 ⟨A2',c2',D2',d2',rfl,s2,t2,k2⟩
   obtain⟨w3,hw3⟩:=eX (w2.alloc (.cells #[.slice A2' R.1.length c2', .slice D2' R.2.1.length d2'] 31))
   have kk:Kp w2 w3:=by rw[hw3];exact Kp.af _ _
   have F3:Hid (Bk w3 w2.heap.size A2' R.1.length c2' D2' R.2.1.length d2'):=by rw[hw3];exact Bk.new rfl
   have K3:=lH ((K1.out.tr k2).tr kk)
   have J3:=lH (BJ.out.kp (k2.tr kk))
   have O3:=lH (BO.out.kp (k2.tr kk))
   have HW3:=lH hw3
   rw[H0.out]
   have HD3:=lH (HD.out w3 A2' D2' c2' d2' K3.out (s2.rd.kp kk) (t2.rd.kp kk))
   have y5:=J3.out.cell (j:=5) rfl
   have y6:=J3.out.cell (j:=6) rfl
   have z0:=F3.out.c0
   have z1:=F3.out.c1
   clear hw3 kk k2 s2 t2 xg0 xg1 xo0 xo1 xb0 xb1
   rw[HW3.out]at y5 y6 z0 z1
   dsimp only
   go_wp2_with fail
   rw[←HW3.out]
   refine HD3.out.mono ?_;rintro e4 w4 ⟨A4',c4',D4',d4',rfl,s4,t4,k4⟩
   obtain⟨w5,hw5⟩:=eX (w4.alloc (.cells #[.slice A4' U.1.length c4', .slice D4' U.2.1.length d4'] 31))
   have kk:Kp w4 w5:=by rw[hw5];exact Kp.af _ _
   have F5:Hid (Bk w5 w4.heap.size A4' U.1.length c4' D4' U.2.1.length d4'):=by rw[hw5];exact Bk.new rfl
   have K5:=lH ((K3.out.tr k4).tr kk)
   have O5:=lH (O3.out.kp (k4.tr kk))
   have HW5:=lH hw5
   rw[H2.out]
   have y4:=lH (HE.out w5 A4' D4' c4' d4' (s4.kp kk).rd (t4.kp kk).rd)
   clear hw5 kk k4 s4 t4 y5 y6 z0 z1
   have z0:=F5.out.c0
   have z1:=F5.out.c1
   rw[HW5.out]at z0 z1
   dsimp only
   go_wp2_with fail
   rw[←HW5.out]
   refine y4.out.mono ?_;rintro e6 w6 ⟨A3,c3,D3,d3,rfl,s3,t3,k6⟩
   have K6:=lH (K5.out.tr k6)
   have O6:=lH (O5.out.kp k6)
   have S3:=lH s3;have T3:=lH t3
   clear k6 s3 t3 z0 z1
   dsimp only
   have o0:=O6.out.c0
   have o1:=O6.out.c1
   have f0:=O6.out.f0 0
   have f1:=O6.out.f0 1
   go_wp2
   refine bodyPost_ret (v:= .tuple #[.agg #[.slice A3 Q3.1.length c3, .slice D3 Q3.2.1.length d3], .int .i64 Q3.2.2]) (by simp[results,Tryz.results98,go_sem,o0,o1];try rfl) rfl ?_
   exact fin S3.out T3.out O6.out K6.out rfl rfl
  ·rw[if_neg h2]
   have H2:(U.2.2 !=0)=true:=by simpa using h2
   clear h0 h2
   go_enter Tryz.func98,Tryz.ntmps98
   go_wp2_with fail
   rw[←HW.out]
   refine(HC.out _ K1.out).mono ?_;rintro e2 w2 ⟨A2',c2',D2',d2',rfl,s2,t2,k2⟩
   obtain⟨w3,hw3⟩:=eX (w2.alloc (.cells #[.slice A2' R.1.length c2', .slice D2' R.2.1.length d2'] 31))
   have kk:Kp w2 w3:=by rw[hw3];exact Kp.af _ _
   have F3:Hid (Bk w3 w2.heap.size A2' R.1.length c2' D2' R.2.1.length d2'):=by rw[hw3];exact Bk.new rfl
   have K3:=lH ((K1.out.tr k2).tr kk)
   have J3:=lH (BJ.out.kp (k2.tr kk))
   have O3:=lH (BO.out.kp (k2.tr kk))
   have HW3:=lH hw3
   rw[H0.out]
   have HD3:=lH (HD.out w3 A2' D2' c2' d2' K3.out (s2.rd.kp kk) (t2.rd.kp kk))
   have y5:=J3.out.cell (j:=5) rfl
   have y6:=J3.out.cell (j:=6) rfl
   have z0:=F3.out.c0
   have z1:=F3.out.c1
   clear hw3 kk k2 s2 t2 xg0 xg1 xo0 xo1 xb0 xb1
   rw[HW3.out]at y5 y6 z0 z1
   dsimp only
   go_wp2_with fail
   rw[←HW3.out]
   refine HD3.out.mono ?_;rintro e4 w4 ⟨A4',c4',D4',d4',rfl,s4,t4,k4⟩
   obtain⟨w5,hw5⟩:=eX (w4.alloc (.cells #[.slice A4' U.1.length c4', .slice D4' U.2.1.length d4'] 31))
   have kk:Kp w4 w5:=by rw[hw5];exact Kp.af _ _
   have F5:Hid (Bk w5 w4.heap.size A4' U.1.length c4' D4' U.2.1.length d4'):=by rw[hw5];exact Bk.new rfl
   have K5:=lH ((K3.out.tr k4).tr kk)
   have O5:=lH (O3.out.kp (k4.tr kk))
   have HW5:=lH hw5
   clear hw5 kk k4 s4 t4 y5 y6 z0 z1
   have o0:=O5.out.c0
   have o1:=O5.out.c1
   have f0:=O5.out.f0 0
   have f1:=O5.out.f0 1
   rw[HW5.out]at o0 o1 f0 f1
   dsimp only
   go_wp2
   rw[←HW5.out]at o0 o1⊢
   refine bodyPost_ret (v:= .tuple #[.agg #[.slice none 0 0, .slice none 0 0], .int .i64 U.2.2]) (by simp[results,Tryz.results98,go_sem,o0,o1];try rfl) rfl ?_
   exact QG rfl O5.out K5.out
 ·rw[if_neg h0]
  have H0:(R.2.2 !=0)=true:=by simpa using h0
  clear h0
  go_enter Tryz.func98,Tryz.ntmps98
  go_wp2_with fail
  rw[←HW.out]
  refine(HC.out _ K1.out).mono ?_;rintro e2 w2 ⟨A2',c2',D2',d2',rfl,s2,t2,k2⟩
  obtain⟨w3,hw3⟩:=eX (w2.alloc (.cells #[.slice A2' R.1.length c2', .slice D2' R.2.1.length d2'] 31))
  have kk:Kp w2 w3:=by rw[hw3];exact Kp.af _ _
  have F3:Hid (Bk w3 w2.heap.size A2' R.1.length c2' D2' R.2.1.length d2'):=by rw[hw3];exact Bk.new rfl
  have K3:=lH ((K1.out.tr k2).tr kk)
  have J3:=lH (BJ.out.kp (k2.tr kk))
  have O3:=lH (BO.out.kp (k2.tr kk))
  have HW3:=lH hw3
  clear hw3 kk k2 s2 t2 xg0 xg1 xo0 xo1 xb0 xb1
  have o0:=O3.out.c0
  have o1:=O3.out.c1
  have f0:=O3.out.f0 0
  have f1:=O3.out.f0 1
  rw[HW3.out]at o0 o1 f0 f1
  dsimp only
  go_wp2
  rw[←HW3.out]at o0 o1⊢
  refine bodyPost_ret (v:= .tuple #[.agg #[.slice none 0 0, .slice none 0 0], .int .i64 R.2.2]) (by simp[results,Tryz.results98,go_sem,o0,o1];try rfl) rfl ?_
  exact QG rfl O3.out K3.out
end
end Go.Proofs.YtdfknefcgijhmaaGreat.Ez
