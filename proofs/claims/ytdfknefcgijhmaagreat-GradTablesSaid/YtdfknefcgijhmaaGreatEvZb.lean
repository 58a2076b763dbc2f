import Derived.Test.YtdfknefcgijhmaaGreatTk
import Derived.Test.YtdfknefcgijhmaaGreatEvZa
import Derived.Test.YtdfknefcgijhmaaGreatEvC
import Derived.Test.YtdfknefcgijhmaaGreatEvN
set_option maxHeartbeats 16000000
set_option maxRecDepth 100000
set_option linter.unusedVariables false
set_option linter.unusedSimpArgs false
namespace Go.Proofs.YtdfknefcgijhmaaGreat.Ez
open Go.RowKit Go.Proofs.ShM Go.Proofs.GrM Go.Proofs.InM Go.Proofs.ImM Go.Proofs.cF Go.Proofs.EvM
structure Ej(W:World)(bj bn ba bb:Nat)(op:Int)(Q A1 A2 B1 B2 I1 I2 R S:Option Addr)(d a1 a2 b1 b2 i1 i2 rc sc:Nat)(nums:List Int)(a b inp:T)(ps:List T)(s:List Int):Prop where
 j0:W.cell? ⟨bj,0,none⟩=some (.int .i64 op)
 j7:W.cell? ⟨bj,7,none⟩=some (.slice I1 inp.1.length i1)
 j8:W.cell? ⟨bj,8,none⟩=some (.slice I2 inp.2.length i2)
 j9:W.cell? ⟨bj,9,none⟩=some (.slice R ps.length rc)
 j10:W.cell? ⟨bj,10,none⟩=some (.slice S s.length sc)
 n0:W.cell? ⟨bn,0,none⟩=some (.slice Q nums.length d)
 p0:W.cell? ⟨ba,0,none⟩=some (.slice A1 a.1.length a1)
 p1:W.cell? ⟨ba,1,none⟩=some (.slice A2 a.2.length a2)
 q0:W.cell? ⟨bb,0,none⟩=some (.slice B1 b.1.length b1)
 q1:W.cell? ⟨bb,1,none⟩=some (.slice B2 b.2.length b2)
 rn:Rd W Q nums
 ra:TRc W A1 a1 A2 a2 a
 rb:TRc W B1 b1 B2 b2 b
 ri:TRc W I1 i1 I2 i2 inp
 rp:RdT W R ps
 rs:Sl W S sc s
 na:bN a.2
 nb:bN b.2
section
variable{W:World}{bj bn ba bb:Nat}{op:Int}{Q A1 A2 B1 B2 I1 I2 R S:Option Addr}{d a1 a2 b1 b2 i1 i2 rc sc:Nat}{nums:List Int}{a b inp:T}{ps:List T}{s:List Int}
theorem Pr(op:Int)(s xs t ys:List Int):(bg op s xs t ys).2.2≠0→(bg op s xs t ys).1=[]∧(bg op s xs t ys).2.1=[]:=fun h=>by rw[tN op s xs t ys h];exact⟨rfl,rfl⟩
theorem Pu(op:Int)(s xs:List Int):(dS op s xs).2.2≠0→(dS op s xs).1=[]∧(dS op s xs).2.1=[]:=fun h=>by rw[ug op s xs h];exact⟨rfl,rfl⟩
theorem LR(s:List Int)(n:Int):(dm s n).2.2≠0→(dm s n).1=[]∧(dm s n).2.1=[]:=by
 unfold dm
 split
 ·exact fun h=>absurd rfl h
 ·exact fun _=>⟨rfl,rfl⟩
theorem Px(s xs t ys:List Int):(gu s xs t ys).2.2≠0→(gu s xs t ys).1=[]∧(gu s xs t ys).2.1=[]:=by
 unfold gu
 split
 ·exact fun _=>⟨rfl,rfl⟩
 ·split
  ·exact fun _=>⟨rfl,rfl⟩
  ·split
   ·exact fun h=>absurd rfl h
   ·exact fun _=>⟨rfl,rfl⟩
theorem yQ(s xs g:List Int):(aJ s xs g).2.2≠0→(aJ s xs g).1=[]∧(aJ s xs g).2.1=[]:=by
 unfold aJ
 split
 ·exact fun _=>⟨rfl,rfl⟩
 ·split
  ·exact fun h=>absurd rfl h
  ·exact fun _=>⟨rfl,rfl⟩
theorem LN(s xs:List Int):(bF s xs).2.2≠0→(bF s xs).1=[]∧(bF s xs).2.1=[]:=by
 unfold bF
 split
 ·exact fun _=>⟨rfl,rfl⟩
 ·exact fun h=>absurd rfl h
theorem Hi(s xs:List Int)(x y z:Int):(aS s xs x y z).2.2≠0→(aS s xs x y z).1=[]∧(aS s xs x y z).2.1=[]:=by
 unfold aS
 split
 ·exact fun _=>⟨rfl,rfl⟩
 ·split
  ·exact fun _=>⟨rfl,rfl⟩
  ·exact fun h=>absurd rfl h
theorem LQ(s xs t ys:List Int)(x:Int):(eE s xs t ys x).2.2≠0→(eE s xs t ys x).1=[]∧(eE s xs t ys x).2.1=[]:=by
 unfold eE
 split
 ·exact fun _=>⟨rfl,rfl⟩
 ·split
  ·exact fun _=>⟨rfl,rfl⟩
  ·exact fun h=>absurd rfl h
theorem Jk(f:Int→Int→Int×Int)(x0:Int)(s xs:List Int)(x:Int):(gZ f x0 s xs x).2.2≠0→(gZ f x0 s xs x).1=[]∧(gZ f x0 s xs x).2.1=[]:=by
 unfold gZ
 split
 ·exact fun _=>⟨rfl,rfl⟩
 ·split
  ·exact fun _=>⟨rfl,rfl⟩
  ·split
   ·exact fun h=>absurd rfl h
   ·exact fun _=>⟨rfl,rfl⟩
theorem Pt(s xs:List Int)(x:Int):(iM s xs x).2.2≠0→(iM s xs x).1=[]∧(iM s xs x).2.1=[]:=Jk _ _ s xs x
theorem Pw(s xs:List Int)(x:Int):(uE s xs x).2.2≠0→(uE s xs x).1=[]∧(uE s xs x).2.1=[]:=Jk _ _ s xs x
theorem LO(s xs:List Int)(x:Int):(fK s xs x).2.2≠0→(fK s xs x).1=[]∧(fK s xs x).2.1=[]:=by
 unfold fK
 split
 ·exact fun h=>absurd rfl h
 ·exact fun _=>⟨rfl,rfl⟩
theorem FE(H:Ej W bj bn ba bb op Q A1 A2 B1 B2 I1 I2 R S d a1 a2 b1 b2 i1 i2 rc sc nums a b inp ps s):Calls Tryz.prog 57 #[.pointer (some ⟨bj,0,none⟩), .pointer (some ⟨ba,0,none⟩)] W (bH (tnE (dS op a.1 a.2)) W):=by
 have xj0:W.cell? ⟨bj,0,none⟩=some (.int .i64 op):=H.j0
 have xp0:W.cell? ⟨ba,0,none⟩=some (.slice A1 a.1.length a1):=H.p0
 have xp1:W.cell? ⟨ba,1,none⟩=some (.slice A2 a.2.length a2):=H.p1
 have lba:ba<W.heap.size:=Iz.dZ H.p0
 have lbj:bj<W.heap.size:=Iz.dZ H.j0
 have HC:Hid (∀V,Kp W V→Calls Tryz.prog 59 #[.int .i64 op, .agg #[.slice A1 a.1.length a1, .slice A2 a.2.length a2]] V (aG (dS op a.1 a.2) V)):=fun V kV=>uh op A1 A2 a1 a2 a.1 a.2 V (H.ra.r.s.kp kV) (H.ra.r.d.kp kV) H.na
 have HE:=lH (Pu op a.1 a.2)
 obtain⟨Q3,hQ⟩:=eX (dS op a.1 a.2)
 rw[←hQ]at HC HE⊢
 have F0:Hid (Bx (W.alloc (.cells #[.slice none 0 0, .slice none 0 0, .int .i64 0] 91)) W.heap.size [.slice none 0 0, .slice none 0 0, .int .i64 0] 91):=Bx.new rfl
 have K0:Hid (Kp W (W.alloc (.cells #[.slice none 0 0, .slice none 0 0, .int .i64 0] 91))):=Kp.af _ _
 clear H hQ
 go_enter Tryz.func57,Tryz.ntmps57
 go_wp2_with fail
 refine(HC.out _ K0.out).mono ?_;rintro e1 w1 ⟨A3,c3,B3,d3,rfl,s3,t3,k1⟩
 have K1:=lH (K0.out.tr k1)
 have F1:=lH (F0.out.kp k1)
 have S4:=lH s3;have T4:=lH t3
 clear k1 s3 t3 xj0 xp0 xp1
 dsimp only
 go_wp2_with fail
 refine(gU _ _ _ _ _ _ _ _).mono ?_;rintro e2 w2 ⟨rfl,k2⟩
 have K2:=lH (K1.out.tr k2)
 have F2:=lH (F1.out.kp k2)
 have S5:=lH (S4.out.kp k2);have T5:=lH (T4.out.kp k2)
 clear k2
 have o0:=F2.out.cell (j:=0) rfl
 have o1:=F2.out.cell (j:=1) rfl
 have o2:=F2.out.cell (j:=2) rfl
 have f0:=F2.out.frz 0
 have f1:=F2.out.frz 1
 have f2:=F2.out.frz 2
 go_wp2
 refine bodyPost_ret (v:= .agg #[.slice A3 Q3.1.length c3, .slice B3 Q3.2.1.length d3, .int .i64 Q3.2.2]) (by simp[results,Tryz.results57,go_sem,o0,o1,o2];try rfl) rfl ?_
 exact bH.box (aN _ _ _) (aN _ _ _) rfl rfl rfl HE.out (Nat.le_refl _) F2.out S5.out T5.out K2.out
theorem D7(H:Ej W bj bn ba bb op Q A1 A2 B1 B2 I1 I2 R S d a1 a2 b1 b2 i1 i2 rc sc nums a b inp ps s):Calls Tryz.prog 60 #[.pointer (some ⟨bj,0,none⟩), .pointer (some ⟨ba,0,none⟩), .pointer (some ⟨bb,0,none⟩)] W (bH (tnE (bg op a.1 a.2 b.1 b.2)) W):=by
 have xj0:W.cell? ⟨bj,0,none⟩=some (.int .i64 op):=H.j0
 have xp0:W.cell? ⟨ba,0,none⟩=some (.slice A1 a.1.length a1):=H.p0
 have xp1:W.cell? ⟨ba,1,none⟩=some (.slice A2 a.2.length a2):=H.p1
 have xq0:W.cell? ⟨bb,0,none⟩=some (.slice B1 b.1.length b1):=H.q0
 have xq1:W.cell? ⟨bb,1,none⟩=some (.slice B2 b.2.length b2):=H.q1
 have lba:ba<W.heap.size:=Iz.dZ H.p0
 have lbb:bb<W.heap.size:=Iz.dZ H.q0
 have lbj:bj<W.heap.size:=Iz.dZ H.j0
 have HC:Hid (∀V,Kp W V→Calls Tryz.prog 41 #[.int .i64 op, .agg #[.slice A1 a.1.length a1, .slice A2 a.2.length a2], .agg #[.slice B1 b.1.length b1, .slice B2 b.2.length b2]] V (aG (bg op a.1 a.2 b.1 b.2) V)):=fun V kV=>eZ op A1 A2 B1 B2 a1 a2 b1 b2 a.1 a.2 b.1 b.2 V (H.ra.r.s.kp kV) (H.ra.r.d.kp kV) (H.rb.r.s.kp kV) (H.rb.r.d.kp kV) H.na H.nb
 have HE:=lH (Pr op a.1 a.2 b.1 b.2)
 obtain⟨Q3,hQ⟩:=eX (bg op a.1 a.2 b.1 b.2)
 rw[←hQ]at HC HE⊢
 have F0:Hid (Bx (W.alloc (.cells #[.slice none 0 0, .slice none 0 0, .int .i64 0] 91)) W.heap.size [.slice none 0 0, .slice none 0 0, .int .i64 0] 91):=Bx.new rfl
 have K0:Hid (Kp W (W.alloc (.cells #[.slice none 0 0, .slice none 0 0, .int .i64 0] 91))):=Kp.af _ _
 clear H hQ
 go_enter Tryz.func60,Tryz.ntmps60
 go_wp2_with fail
 refine(HC.out _ K0.out).mono ?_;rintro e1 w1 ⟨A3,c3,B3,d3,rfl,s3,t3,k1⟩
 have K1:=lH (K0.out.tr k1)
 have F1:=lH (F0.out.kp k1)
 have S4:=lH s3;have T4:=lH t3
 clear k1 s3 t3 xj0 xp0 xp1 xq0 xq1
 dsimp only
 go_wp2_with fail
 refine(gU _ _ _ _ _ _ _ _).mono ?_;rintro e2 w2 ⟨rfl,k2⟩
 have K2:=lH (K1.out.tr k2)
 have F2:=lH (F1.out.kp k2)
 have S5:=lH (S4.out.kp k2);have T5:=lH (T4.out.kp k2)
 clear k2
 have o0:=F2.out.cell (j:=0) rfl
 have o1:=F2.out.cell (j:=1) rfl
 have o2:=F2.out.cell (j:=2) rfl
 have f0:=F2.out.frz 0
 have f1:=F2.out.frz 1
 have f2:=F2.out.frz 2
 go_wp2
 refine bodyPost_ret (v:= .agg #[.slice A3 Q3.1.length c3, .slice B3 Q3.2.1.length d3, .int .i64 Q3.2.2]) (by simp[results,Tryz.results60,go_sem,o0,o1,o2];try rfl) rfl ?_
 exact bH.box (aN _ _ _) (aN _ _ _) rfl rfl rfl HE.out (Nat.le_refl _) F2.out S5.out T5.out K2.out
theorem Rq(H:Ej W bj bn ba bb op Q A1 A2 B1 B2 I1 I2 R S d a1 a2 b1 b2 i1 i2 rc sc nums a b inp ps s):Calls Tryz.prog 66 #[.pointer (some ⟨ba,0,none⟩), .pointer (some ⟨bb,0,none⟩)] W (bH (tnE (gu a.1 a.2 b.1 b.2)) W):=by
 have xp0:W.cell? ⟨ba,0,none⟩=some (.slice A1 a.1.length a1):=H.p0
 have xp1:W.cell? ⟨ba,1,none⟩=some (.slice A2 a.2.length a2):=H.p1
 have xq0:W.cell? ⟨bb,0,none⟩=some (.slice B1 b.1.length b1):=H.q0
 have xq1:W.cell? ⟨bb,1,none⟩=some (.slice B2 b.2.length b2):=H.q1
 have lba:ba<W.heap.size:=Iz.dZ H.p0
 have lbb:bb<W.heap.size:=Iz.dZ H.q0
 have HC:Hid (∀V,Kp W V→Calls Tryz.prog 67 #[.agg #[.slice A1 a.1.length a1, .slice A2 a.2.length a2], .agg #[.slice B1 b.1.length b1, .slice B2 b.2.length b2]] V (aG (gu a.1 a.2 b.1 b.2) V)):=fun V kV=>pL A1 A2 B1 B2 a1 a2 b1 b2 a.1 a.2 b.1 b.2 V (H.ra.r.s.kp kV) (H.ra.r.d.kp kV) (H.rb.r.s.kp kV) (H.rb.r.d.kp kV) H.na H.nb
 have HE:=lH (Px a.1 a.2 b.1 b.2)
 obtain⟨Q3,hQ⟩:=eX (gu a.1 a.2 b.1 b.2)
 rw[←hQ]at HC HE⊢
 have F0:Hid (Bx (W.alloc (.cells #[.slice none 0 0, .slice none 0 0, .int .i64 0] 91)) W.heap.size [.slice none 0 0, .slice none 0 0, .int .i64 0] 91):=Bx.new rfl
 have K0:Hid (Kp W (W.alloc (.cells #[.slice none 0 0, .slice none 0 0, .int .i64 0] 91))):=Kp.af _ _
 clear H hQ
 go_enter Tryz.func66,Tryz.ntmps66
 go_wp2_with fail
 refine(HC.out _ K0.out).mono ?_;rintro e1 w1 ⟨A3,c3,B3,d3,rfl,s3,t3,k1⟩
 have K1:=lH (K0.out.tr k1)
 have F1:=lH (F0.out.kp k1)
 have S4:=lH s3;have T4:=lH t3
 clear k1 s3 t3 xp0 xp1 xq0 xq1
 dsimp only
 go_wp2_with fail
 refine(gU _ _ _ _ _ _ _ _).mono ?_;rintro e2 w2 ⟨rfl,k2⟩
 have K2:=lH (K1.out.tr k2)
 have F2:=lH (F1.out.kp k2)
 have S5:=lH (S4.out.kp k2);have T5:=lH (T4.out.kp k2)
 clear k2
 have o0:=F2.out.cell (j:=0) rfl
 have o1:=F2.out.cell (j:=1) rfl
 have o2:=F2.out.cell (j:=2) rfl
 have f0:=F2.out.frz 0
 have f1:=F2.out.frz 1
 have f2:=F2.out.frz 2
 go_wp2
 refine bodyPost_ret (v:= .agg #[.slice A3 Q3.1.length c3, .slice B3 Q3.2.1.length d3, .int .i64 Q3.2.2]) (by simp[results,Tryz.results66,go_sem,o0,o1,o2];try rfl) rfl ?_
 exact bH.box (aN _ _ _) (aN _ _ _) rfl rfl rfl HE.out (Nat.le_refl _) F2.out S5.out T5.out K2.out
theorem Pn(H:Ej W bj bn ba bb op Q A1 A2 B1 B2 I1 I2 R S d a1 a2 b1 b2 i1 i2 rc sc nums a b inp ps s):Calls Tryz.prog 68 #[.pointer (some ⟨ba,0,none⟩), .pointer (some ⟨bn,0,none⟩)] W (bH (tnE (aJ a.1 a.2 nums)) W):=by
 have xp0:W.cell? ⟨ba,0,none⟩=some (.slice A1 a.1.length a1):=H.p0
 have xp1:W.cell? ⟨ba,1,none⟩=some (.slice A2 a.2.length a2):=H.p1
 have xn0:W.cell? ⟨bn,0,none⟩=some (.slice Q nums.length d):=H.n0
 have lba:ba<W.heap.size:=Iz.dZ H.p0
 have lbn:bn<W.heap.size:=Iz.dZ H.n0
 have HC:Hid (∀V,Kp W V→Calls Tryz.prog 69 #[.agg #[.slice A1 a.1.length a1, .slice A2 a.2.length a2], .slice Q nums.length d] V (aG (aJ a.1 a.2 nums) V)):=fun V kV=>kZ A1 A2 Q a1 a2 d a.1 a.2 nums V (H.ra.r.s.kp kV) (H.ra.r.d.kp kV) (H.rn.kp kV)
 have HE:=lH (yQ a.1 a.2 nums)
 obtain⟨Q3,hQ⟩:=eX (aJ a.1 a.2 nums)
 rw[←hQ]at HC HE⊢
 have F0:Hid (Bx (W.alloc (.cells #[.slice none 0 0, .slice none 0 0, .int .i64 0] 91)) W.heap.size [.slice none 0 0, .slice none 0 0, .int .i64 0] 91):=Bx.new rfl
 have K0:Hid (Kp W (W.alloc (.cells #[.slice none 0 0, .slice none 0 0, .int .i64 0] 91))):=Kp.af _ _
 clear H hQ
 go_enter Tryz.func68,Tryz.ntmps68
 go_wp2_with fail
 refine(HC.out _ K0.out).mono ?_;rintro e1 w1 ⟨A3,c3,B3,d3,rfl,s3,t3,k1⟩
 have K1:=lH (K0.out.tr k1)
 have F1:=lH (F0.out.kp k1)
 have S4:=lH s3;have T4:=lH t3
 clear k1 s3 t3 xp0 xp1 xn0
 dsimp only
 go_wp2_with fail
 refine(gU _ _ _ _ _ _ _ _).mono ?_;rintro e2 w2 ⟨rfl,k2⟩
 have K2:=lH (K1.out.tr k2)
 have F2:=lH (F1.out.kp k2)
 have S5:=lH (S4.out.kp k2);have T5:=lH (T4.out.kp k2)
 clear k2
 have o0:=F2.out.cell (j:=0) rfl
 have o1:=F2.out.cell (j:=1) rfl
 have o2:=F2.out.cell (j:=2) rfl
 have f0:=F2.out.frz 0
 have f1:=F2.out.frz 1
 have f2:=F2.out.frz 2
 go_wp2
 refine bodyPost_ret (v:= .agg #[.slice A3 Q3.1.length c3, .slice B3 Q3.2.1.length d3, .int .i64 Q3.2.2]) (by simp[results,Tryz.results68,go_sem,o0,o1,o2];try rfl) rfl ?_
 exact bH.box (aN _ _ _) (aN _ _ _) rfl rfl rfl HE.out (Nat.le_refl _) F2.out S5.out T5.out K2.out
theorem Nh(H:Ej W bj bn ba bb op Q A1 A2 B1 B2 I1 I2 R S d a1 a2 b1 b2 i1 i2 rc sc nums a b inp ps s):Calls Tryz.prog 70 #[.pointer (some ⟨ba,0,none⟩)] W (bH (tnE (bF a.1 a.2)) W):=by
 have xp0:W.cell? ⟨ba,0,none⟩=some (.slice A1 a.1.length a1):=H.p0
 have xp1:W.cell? ⟨ba,1,none⟩=some (.slice A2 a.2.length a2):=H.p1
 have lba:ba<W.heap.size:=Iz.dZ H.p0
 have HC:Hid (∀V,Kp W V→Calls Tryz.prog 71 #[.agg #[.slice A1 a.1.length a1, .slice A2 a.2.length a2]] V (aG (bF a.1 a.2) V)):=fun V kV=>jg A1 A2 a1 a2 a.1 a.2 V (H.ra.r.s.kp kV) (H.ra.r.d.kp kV)
 have HE:=lH (LN a.1 a.2)
 obtain⟨Q3,hQ⟩:=eX (bF a.1 a.2)
 rw[←hQ]at HC HE⊢
 have F0:Hid (Bx (W.alloc (.cells #[.slice none 0 0, .slice none 0 0, .int .i64 0] 91)) W.heap.size [.slice none 0 0, .slice none 0 0, .int .i64 0] 91):=Bx.new rfl
 have K0:Hid (Kp W (W.alloc (.cells #[.slice none 0 0, .slice none 0 0, .int .i64 0] 91))):=Kp.af _ _
 clear H hQ
 go_enter Tryz.func70,Tryz.ntmps70
 go_wp2_with fail
 refine(HC.out _ K0.out).mono ?_;rintro e1 w1 ⟨A3,c3,B3,d3,rfl,s3,t3,k1⟩
 have K1:=lH (K0.out.tr k1)
 have F1:=lH (F0.out.kp k1)
 have S4:=lH s3;have T4:=lH t3
 clear k1 s3 t3 xp0 xp1
 dsimp only
 go_wp2_with fail
 refine(gU _ _ _ _ _ _ _ _).mono ?_;rintro e2 w2 ⟨rfl,k2⟩
 have K2:=lH (K1.out.tr k2)
 have F2:=lH (F1.out.kp k2)
 have S5:=lH (S4.out.kp k2);have T5:=lH (T4.out.kp k2)
 clear k2
 have o0:=F2.out.cell (j:=0) rfl
 have o1:=F2.out.cell (j:=1) rfl
 have o2:=F2.out.cell (j:=2) rfl
 have f0:=F2.out.frz 0
 have f1:=F2.out.frz 1
 have f2:=F2.out.frz 2
 go_wp2
 refine bodyPost_ret (v:= .agg #[.slice A3 Q3.1.length c3, .slice B3 Q3.2.1.length d3, .int .i64 Q3.2.2]) (by simp[results,Tryz.results70,go_sem,o0,o1,o2];try rfl) rfl ?_
 exact bH.box (aN _ _ _) (aN _ _ _) rfl rfl rfl HE.out (Nat.le_refl _) F2.out S5.out T5.out K2.out
theorem N0(H:Ej W bj bn ba bb op Q A1 A2 B1 B2 I1 I2 R S d a1 a2 b1 b2 i1 i2 rc sc nums a b inp ps s)(h1:nums.length=3):Calls Tryz.prog 72 #[.pointer (some ⟨ba,0,none⟩), .pointer (some ⟨bn,0,none⟩)] W (bH (tnE (aS a.1 a.2 (nums.getD 0 0) (nums.getD 1 0) (nums.getD 2 0))) W):=by
 obtain⟨x,y,z,rfl⟩:=Iz.nO h1
 obtain⟨aq,rfl,hlt,hc⟩:=H.rn.2 (by simp)
 have y0:W.cell? aq=some (.int .i64 x):=by simpa [Addr.add]using hc 0 x rfl
 have y1:W.cell? ⟨aq.block,aq.off+1,none⟩=some (.int .i64 y):=hc 1 y rfl
 have y2:W.cell? ⟨aq.block,aq.off+2,none⟩=some (.int .i64 z):=hc 2 z rfl
 have xn0:W.cell? ⟨bn,0,none⟩=some (.slice (some aq) 3 d):=H.n0
 have xp0:=H.p0
 have xp1:=H.p1
 obtain⟨Q3,hQ⟩:=eX (aS a.1 a.2 x y z)
 have HC:Hid (∀V,Kp W V→Calls Tryz.prog 73 #[.agg #[.slice A1 a.1.length a1, .slice A2 a.2.length a2], .int .i64 x, .int .i64 y, .int .i64 z] V (aG Q3 V)):=fun V kV=>by rw[hQ];exact jX A1 A2 a1 a2 a.1 a.2 x y z V (H.ra.r.s.kp kV) (H.ra.r.d.kp kV)
 have HE:Hid (Q3.2.2≠0→Q3.1=[]∧Q3.2.1=[]):=by show _;rw[hQ];exact Hi a.1 a.2 x y z
 have HG:Hid (bH (tnE (aS a.1 a.2 (([x,y,z]:List Int).getD 0 0) (([x,y,z]:List Int).getD 1 0) (([x,y,z]:List Int).getD 2 0))) W=bH (tnE Q3) W):=by rw[hQ];rfl
 rw[HG.out]
 have HSS:Hid (∀V,Kp W V→V.cell? ⟨ba,0,none⟩=some (.slice A1 a.1.length a1)∧V.cell? ⟨ba,1,none⟩=some (.slice A2 a.2.length a2)∧V.cell? ⟨bn,0,none⟩=some (.slice (some aq) 3 d)∧V.cell? aq=some (.int .i64 x)∧V.cell? ⟨aq.block,aq.off+1,none⟩=some (.int .i64 y)∧V.cell? ⟨aq.block,aq.off+2,none⟩=some (.int .i64 z)):=fun V kV=>⟨Iz.ay xp0 kV,Iz.ay xp1 kV,Iz.ay xn0 kV,Iz.ay y0 kV,Iz.ay y1 kV,Iz.ay y2 kV⟩
 have F0:Hid (Bx (W.alloc (.cells #[.slice none 0 0, .slice none 0 0, .int .i64 0] 91)) W.heap.size [.slice none 0 0, .slice none 0 0, .int .i64 0] 91):=Bx.new rfl
 have K0:Hid (Kp W (W.alloc (.cells #[.slice none 0 0, .slice none 0 0, .int .i64 0] 91))):=Kp.af _ _
 clear H hQ hc h1 hlt xp0 xp1 xn0 y0 y1 y2
 obtain⟨W0,hW0⟩:=eX ((W.alloc (.cells #[.slice none 0 0, .slice none 0 0, .int .i64 0] 91)))
 rw[←hW0]at F0 K0
 have HW:=lH hW0
 have K4:Hid (Kp W0 W0.drew):=Below.drew (Kp.refl W0)
 have hS0:=HSS.out _ K0.out
 clear hW0
 go_enter Tryz.func72,Tryz.ntmps72
 go_wp2_with fail
 rw[←HW.out]
 refine wp_region_held_drew (S:=fun V=>V.cell? ⟨ba,0,none⟩=some (.slice A1 a.1.length a1)∧V.cell? ⟨ba,1,none⟩=some (.slice A2 a.2.length a2)∧V.cell? ⟨bn,0,none⟩=some (.slice (some aq) 3 d)∧V.cell? aq=some (.int .i64 x)∧V.cell? ⟨aq.block,aq.off+1,none⟩=some (.int .i64 y)∧V.cell? ⟨aq.block,aq.off+2,none⟩=some (.int .i64 z)) (by kernel_rfl) (HSS.out _ (Below.drew K0.out)) (fun hHeld=>?_)
 have hdr:Hid (Kp W W0.drew):=Below.drew K0.out
 have FB:=lH (F0.out.kp K4.out)
 generalize W0.drew=V0 at hdr hHeld FB⊢
 refine tK 0 (.agg #[.slice A1 a.1.length a1, .slice A2 a.2.length a2]) rfl hHeld<|tK 1 (.slice (some aq) 3 d) rfl hHeld<|tK 2 (.pointer (some aq)) rfl hHeld<|tK 3 (.int .i64 x) rfl hHeld<|tK 4 (.slice (some aq) 3 d) rfl hHeld<|tK 5 (.pointer (some ⟨aq.block,aq.off+1,none⟩)) rfl hHeld<|tK 6 (.int .i64 y) rfl hHeld<|tK 7 (.slice (some aq) 3 d) rfl hHeld<|tK 8 (.pointer (some ⟨aq.block,aq.off+2,none⟩)) rfl hHeld<|tK 9 (.int .i64 z) rfl hHeld ?_
 refine rD 10 rfl fun K9_ hK=>?_
 go_simp
 refine(HC.out _ hdr.out).mono ?_;rintro e1 w1 ⟨A3,c3,B3,d3,rfl,s3,t3,k1⟩
 dsimp only
 have K1:=lH (hdr.out.tr k1)
 have F1:=lH (FB.out.kp k1)
 have S4:=lH s3;have T4:=lH t3
 have hS1:=HSS.out _ K1.out
 clear k1 s3 t3
 refine hK.out _ _ (hS1) fun hHeld=>?_
 clear hK
 refine tK 11 (.agg #[.slice A3 Q3.1.length c3, .slice B3 Q3.2.1.length d3]) rfl hHeld<|tK 12 (.int .i64 Q3.2.2) rfl hHeld ?_
 refine rD 13 rfl fun K9_ hK=>?_
 go_simp
 refine(gU _ _ _ _ _ _ _ _).mono ?_;rintro e2 w2 ⟨rfl,k2⟩
 dsimp only
 have K2:=lH (K1.out.tr k2)
 have F2:=lH (F1.out.kp k2)
 have S5:=lH (S4.out.kp k2);have T5:=lH (T4.out.kp k2)
 have hS2:=HSS.out _ K2.out
 clear k2
 refine hK.out _ _ (hS2) fun hHeld=>?_
 clear hK
 have o0:=F2.out.cell (j:=0) rfl
 have o1:=F2.out.cell (j:=1) rfl
 have o2:=F2.out.cell (j:=2) rfl
 have f0:=F2.out.frz 0
 have f1:=F2.out.frz 1
 have f2:=F2.out.frz 2
 have hS3:=HSS.out _ (((K2.out.setCell (p:=⟨W.heap.size,0,none⟩) (Nat.le_refl _) (.slice A3 Q3.1.length c3)).setCell (p:=⟨W.heap.size,1,none⟩) (Nat.le_refl _) (.slice B3 Q3.2.1.length d3)).setCell (p:=⟨W.heap.size,2,none⟩) (Nat.le_refl _) (.int .i64 Q3.2.2))
 refine rD 14 rfl fun K9_ hK=>?_
 go_simp
 refine hK.out _ _ (hS3) fun hHeld=>?_
 clear hK
 refine wpAnyH_done (by kernel_rfl) ?_ _
 clear hHeld hS1 hS2 hS3 HSS
 go_wp2
 refine bodyPost_ret (v:= .agg #[.slice A3 Q3.1.length c3, .slice B3 Q3.2.1.length d3, .int .i64 Q3.2.2]) (by simp[results,Tryz.results72,go_sem,o0,o1,o2];try rfl) rfl ?_
 exact bH.box (aN _ _ _) (aN _ _ _) rfl rfl rfl HE.out (Nat.le_refl _) F2.out S5.out T5.out K2.out
theorem Pj(H:Ej W bj bn ba bb op Q A1 A2 B1 B2 I1 I2 R S d a1 a2 b1 b2 i1 i2 rc sc nums a b inp ps s)(h1:nums.length=1):Calls Tryz.prog 74 #[.pointer (some ⟨ba,0,none⟩), .pointer (some ⟨bb,0,none⟩), .pointer (some ⟨bn,0,none⟩)] W (bH (tnE (eE a.1 a.2 b.1 b.2 (nums.getD 0 0))) W):=by
 obtain⟨x,rfl⟩:=Iz.gK h1
 obtain⟨aq,rfl,hlt,hc⟩:=H.rn.2 (by simp)
 have y0:W.cell? aq=some (.int .i64 x):=by simpa [Addr.add]using hc 0 x rfl
 have xn0:W.cell? ⟨bn,0,none⟩=some (.slice (some aq) 1 d):=H.n0
 have xp0:=H.p0
 have xp1:=H.p1
 have xq0:=H.q0
 have xq1:=H.q1
 obtain⟨Q3,hQ⟩:=eX (eE a.1 a.2 b.1 b.2 x)
 have HC:Hid (∀V,Kp W V→Calls Tryz.prog 75 #[.agg #[.slice A1 a.1.length a1, .slice A2 a.2.length a2], .agg #[.slice B1 b.1.length b1, .slice B2 b.2.length b2], .int .i64 x] V (aG Q3 V)):=fun V kV=>by rw[hQ];exact AP A1 A2 B1 B2 a1 a2 b1 b2 a.1 a.2 b.1 b.2 x V (H.ra.r.s.kp kV) (H.ra.r.d.kp kV) (H.rb.r.s.kp kV) (H.rb.r.d.kp kV)
 have HE:Hid (Q3.2.2≠0→Q3.1=[]∧Q3.2.1=[]):=by show _;rw[hQ];exact LQ a.1 a.2 b.1 b.2 x
 have HG:Hid (bH (tnE (eE a.1 a.2 b.1 b.2 (([x]:List Int).getD 0 0))) W=bH (tnE Q3) W):=by rw[hQ];rfl
 rw[HG.out]
 have HSS:Hid (∀V,Kp W V→V.cell? ⟨ba,0,none⟩=some (.slice A1 a.1.length a1)∧V.cell? ⟨ba,1,none⟩=some (.slice A2 a.2.length a2)∧V.cell? ⟨bb,0,none⟩=some (.slice B1 b.1.length b1)∧V.cell? ⟨bb,1,none⟩=some (.slice B2 b.2.length b2)∧V.cell? ⟨bn,0,none⟩=some (.slice (some aq) 1 d)∧V.cell? aq=some (.int .i64 x)):=fun V kV=>⟨Iz.ay xp0 kV,Iz.ay xp1 kV,Iz.ay xq0 kV,Iz.ay xq1 kV,Iz.ay xn0 kV,Iz.ay y0 kV⟩
 have F0:Hid (Bx (W.alloc (.cells #[.slice none 0 0, .slice none 0 0, .int .i64 0] 91)) W.heap.size [.slice none 0 0, .slice none 0 0, .int .i64 0] 91):=Bx.new rfl
 have K0:Hid (Kp W (W.alloc (.cells #[.slice none 0 0, .slice none 0 0, .int .i64 0] 91))):=Kp.af _ _
 clear H hQ hc h1 hlt xp0 xp1 xq0 xq1 xn0 y0
 obtain⟨W0,hW0⟩:=eX ((W.alloc (.cells #[.slice none 0 0, .slice none 0 0, .int .i64 0] 91)))
 rw[←hW0]at F0 K0
 have HW:=lH hW0
 have K4:Hid (Kp W0 W0.drew):=Below.drew (Kp.refl W0)
 have hS0:=HSS.out _ K0.out
 clear hW0
 go_enter Tryz.func74,Tryz.ntmps74
 go_wp2_with fail
 rw[←HW.out]
 refine wp_region_held_drew (S:=fun V=>V.cell? ⟨ba,0,none⟩=some (.slice A1 a.1.length a1)∧V.cell? ⟨ba,1,none⟩=some (.slice A2 a.2.length a2)∧V.cell? ⟨bb,0,none⟩=some (.slice B1 b.1.length b1)∧V.cell? ⟨bb,1,none⟩=some (.slice B2 b.2.length b2)∧V.cell? ⟨bn,0,none⟩=some (.slice (some aq) 1 d)∧V.cell? aq=some (.int .i64 x)) (by kernel_rfl) (HSS.out _ (Below.drew K0.out)) (fun hHeld=>?_)
 have hdr:Hid (Kp W W0.drew):=Below.drew K0.out
 have FB:=lH (F0.out.kp K4.out)
 generalize W0.drew=V0 at hdr hHeld FB⊢
 refine tK 0 (.agg #[.slice A1 a.1.length a1, .slice A2 a.2.length a2]) rfl hHeld<|tK 1 (.agg #[.slice B1 b.1.length b1, .slice B2 b.2.length b2]) rfl hHeld<|tK 2 (.slice (some aq) 1 d) rfl hHeld<|tK 3 (.pointer (some aq)) rfl hHeld<|tK 4 (.int .i64 x) rfl hHeld ?_
 refine rD 5 rfl fun K9_ hK=>?_
 go_simp
 refine(HC.out _ hdr.out).mono ?_;rintro e1 w1 ⟨A3,c3,B3,d3,rfl,s3,t3,k1⟩
 dsimp only
 have K1:=lH (hdr.out.tr k1)
 have F1:=lH (FB.out.kp k1)
 have S4:=lH s3;have T4:=lH t3
 have hS1:=HSS.out _ K1.out
 clear k1 s3 t3
 refine hK.out _ _ (hS1) fun hHeld=>?_
 clear hK
 refine tK 6 (.agg #[.slice A3 Q3.1.length c3, .slice B3 Q3.2.1.length d3]) rfl hHeld<|tK 7 (.int .i64 Q3.2.2) rfl hHeld ?_
 refine rD 8 rfl fun K9_ hK=>?_
 go_simp
 refine(gU _ _ _ _ _ _ _ _).mono ?_;rintro e2 w2 ⟨rfl,k2⟩
 dsimp only
 have K2:=lH (K1.out.tr k2)
 have F2:=lH (F1.out.kp k2)
 have S5:=lH (S4.out.kp k2);have T5:=lH (T4.out.kp k2)
 have hS2:=HSS.out _ K2.out
 clear k2
 refine hK.out _ _ (hS2) fun hHeld=>?_
 clear hK
 have o0:=F2.out.cell (j:=0) rfl
 have o1:=F2.out.cell (j:=1) rfl
 have o2:=F2.out.cell (j:=2) rfl
 have f0:=F2.out.frz 0
 have f1:=F2.out.frz 1
 have f2:=F2.out.frz 2
 have hS3:=HSS.out _ (((K2.out.setCell (p:=⟨W.heap.size,0,none⟩) (Nat.le_refl _) (.slice A3 Q3.1.length c3)).setCell (p:=⟨W.heap.size,1,none⟩) (Nat.le_refl _) (.slice B3 Q3.2.1.length d3)).setCell (p:=⟨W.heap.size,2,none⟩) (Nat.le_refl _) (.int .i64 Q3.2.2))
 refine rD 9 rfl fun K9_ hK=>?_
 go_simp
 refine hK.out _ _ (hS3) fun hHeld=>?_
 clear hK
 refine wpAnyH_done (by kernel_rfl) ?_ _
 clear hHeld hS1 hS2 hS3 HSS
 go_wp2
 refine bodyPost_ret (v:= .agg #[.slice A3 Q3.1.length c3, .slice B3 Q3.2.1.length d3, .int .i64 Q3.2.2]) (by simp[results,Tryz.results74,go_sem,o0,o1,o2];try rfl) rfl ?_
 exact bH.box (aN _ _ _) (aN _ _ _) rfl rfl rfl HE.out (Nat.le_refl _) F2.out S5.out T5.out K2.out
theorem QX(H:Ej W bj bn ba bb op Q A1 A2 B1 B2 I1 I2 R S d a1 a2 b1 b2 i1 i2 rc sc nums a b inp ps s)(h1:nums.length=1):Calls Tryz.prog 76 #[.pointer (some ⟨ba,0,none⟩), .pointer (some ⟨bn,0,none⟩)] W (bH (tnE (iM a.1 a.2 (nums.getD 0 0))) W):=by
 obtain⟨x,rfl⟩:=Iz.gK h1
 obtain⟨aq,rfl,hlt,hc⟩:=H.rn.2 (by simp)
 have y0:W.cell? aq=some (.int .i64 x):=by simpa [Addr.add]using hc 0 x rfl
 have xn0:W.cell? ⟨bn,0,none⟩=some (.slice (some aq) 1 d):=H.n0
 have xp0:=H.p0
 have xp1:=H.p1
 obtain⟨Q3,hQ⟩:=eX (iM a.1 a.2 x)
 have HC:Hid (∀V,Kp W V→Calls Tryz.prog 77 #[.agg #[.slice A1 a.1.length a1, .slice A2 a.2.length a2], .int .i64 x] V (aG Q3 V)):=fun V kV=>by rw[hQ];exact(vI A1 A2 a1 a2 a.1 a.2 x V ⟨H.ra.r.s.kp kV,H.ra.c1.1,H.ra.c1.2⟩ (H.ra.r.d.kp kV) H.na).mono fun _ _ r=>r.weak
 have HE:Hid (Q3.2.2≠0→Q3.1=[]∧Q3.2.1=[]):=by show _;rw[hQ];exact Pt a.1 a.2 x
 have HG:Hid (bH (tnE (iM a.1 a.2 (([x]:List Int).getD 0 0))) W=bH (tnE Q3) W):=by rw[hQ];rfl
 rw[HG.out]
 have HSS:Hid (∀V,Kp W V→V.cell? ⟨ba,0,none⟩=some (.slice A1 a.1.length a1)∧V.cell? ⟨ba,1,none⟩=some (.slice A2 a.2.length a2)∧V.cell? ⟨bn,0,none⟩=some (.slice (some aq) 1 d)∧V.cell? aq=some (.int .i64 x)):=fun V kV=>⟨Iz.ay xp0 kV,Iz.ay xp1 kV,Iz.ay xn0 kV,Iz.ay y0 kV⟩
 have F0:Hid (Bx (W.alloc (.cells #[.slice none 0 0, .slice none 0 0, .int .i64 0] 91)) W.heap.size [.slice none 0 0, .slice none 0 0, .int .i64 0] 91):=Bx.new rfl
 have K0:Hid (Kp W (W.alloc (.cells #[.slice none 0 0, .slice none 0 0, .int .i64 0] 91))):=Kp.af _ _
 clear H hQ hc h1 hlt xp0 xp1 xn0 y0
 obtain⟨W0,hW0⟩:=eX ((W.alloc (.cells #[.slice none 0 0, .slice none 0 0, .int .i64 0] 91)))
 rw[←hW0]at F0 K0
 have HW:=lH hW0
 have K4:Hid (Kp W0 W0.drew):=Below.drew (Kp.refl W0)
 have hS0:=HSS.out _ K0.out
 clear hW0
 go_enter Tryz.func76,Tryz.ntmps76
 go_wp2_with fail
 rw[←HW.out]
 refine wp_region_held_drew (S:=fun V=>V.cell? ⟨ba,0,none⟩=some (.slice A1 a.1.length a1)∧V.cell? ⟨ba,1,none⟩=some (.slice A2 a.2.length a2)∧V.cell? ⟨bn,0,none⟩=some (.slice (some aq) 1 d)∧V.cell? aq=some (.int .i64 x)) (by kernel_rfl) (HSS.out _ (Below.drew K0.out)) (fun hHeld=>?_)
 have hdr:Hid (Kp W W0.drew):=Below.drew K0.out
 have FB:=lH (F0.out.kp K4.out)
 generalize W0.drew=V0 at hdr hHeld FB⊢
 refine tK 0 (.agg #[.slice A1 a.1.length a1, .slice A2 a.2.length a2]) rfl hHeld<|tK 1 (.slice (some aq) 1 d) rfl hHeld<|tK 2 (.pointer (some aq)) rfl hHeld<|tK 3 (.int .i64 x) rfl hHeld ?_
 refine rD 4 rfl fun K9_ hK=>?_
 go_simp
 refine(HC.out _ hdr.out).mono ?_;rintro e1 w1 ⟨A3,c3,B3,d3,rfl,s3,t3,k1⟩
 dsimp only
 have K1:=lH (hdr.out.tr k1)
 have F1:=lH (FB.out.kp k1)
 have S4:=lH s3;have T4:=lH t3
 have hS1:=HSS.out _ K1.out
 clear k1 s3 t3
 refine hK.out _ _ (hS1) fun hHeld=>?_
 clear hK
 refine tK 5 (.agg #[.slice A3 Q3.1.length c3, .slice B3 Q3.2.1.length d3]) rfl hHeld<|tK 6 (.int .i64 Q3.2.2) rfl hHeld ?_
 refine rD 7 rfl fun K9_ hK=>?_
 go_simp
 refine(gU _ _ _ _ _ _ _ _).mono ?_;rintro e2 w2 ⟨rfl,k2⟩
 dsimp only
 have K2:=lH (K1.out.tr k2)
 have F2:=lH (F1.out.kp k2)
 have S5:=lH (S4.out.kp k2);have T5:=lH (T4.out.kp k2)
 have hS2:=HSS.out _ K2.out
 clear k2
 refine hK.out _ _ (hS2) fun hHeld=>?_
 clear hK
 have o0:=F2.out.cell (j:=0) rfl
 have o1:=F2.out.cell (j:=1) rfl
 have o2:=F2.out.cell (j:=2) rfl
 have f0:=F2.out.frz 0
 have f1:=F2.out.frz 1
 have f2:=F2.out.frz 2
 have hS3:=HSS.out _ (((K2.out.setCell (p:=⟨W.heap.size,0,none⟩) (Nat.le_refl _) (.slice A3 Q3.1.length c3)).setCell (p:=⟨W.heap.size,1,none⟩) (Nat.le_refl _) (.slice B3 Q3.2.1.length d3)).setCell (p:=⟨W.heap.size,2,none⟩) (Nat.le_refl _) (.int .i64 Q3.2.2))
 refine rD 8 rfl fun K9_ hK=>?_
 go_simp
 refine hK.out _ _ (hS3) fun hHeld=>?_
 clear hK
 refine wpAnyH_done (by kernel_rfl) ?_ _
 clear hHeld hS1 hS2 hS3 HSS
 go_wp2
 refine bodyPost_ret (v:= .agg #[.slice A3 Q3.1.length c3, .slice B3 Q3.2.1.length d3, .int .i64 Q3.2.2]) (by simp[results,Tryz.results76,go_sem,o0,o1,o2];try rfl) rfl ?_
 exact bH.box (aN _ _ _) (aN _ _ _) rfl rfl rfl HE.out (Nat.le_refl _) F2.out S5.out T5.out K2.out
theorem Ow(H:Ej W bj bn ba bb op Q A1 A2 B1 B2 I1 I2 R S d a1 a2 b1 b2 i1 i2 rc sc nums a b inp ps s)(h1:nums.length=1):Calls Tryz.prog 78 #[.pointer (some ⟨ba,0,none⟩), .pointer (some ⟨bn,0,none⟩)] W (bH (tnE (fK a.1 a.2 (nums.getD 0 0))) W):=by
 obtain⟨x,rfl⟩:=Iz.gK h1
 obtain⟨aq,rfl,hlt,hc⟩:=H.rn.2 (by simp)
 have y0:W.cell? aq=some (.int .i64 x):=by simpa [Addr.add]using hc 0 x rfl
 have xn0:W.cell? ⟨bn,0,none⟩=some (.slice (some aq) 1 d):=H.n0
 have xp0:=H.p0
 have xp1:=H.p1
 obtain⟨Q3,hQ⟩:=eX (fK a.1 a.2 x)
 have HC:Hid (∀V,Kp W V→Calls Tryz.prog 79 #[.agg #[.slice A1 a.1.length a1, .slice A2 a.2.length a2], .int .i64 x] V (aG Q3 V)):=fun V kV=>by rw[hQ];exact AG A1 A2 a1 a2 a.1 a.2 x V ⟨H.ra.r.s.kp kV,H.ra.c1.1,H.ra.c1.2⟩ (H.ra.r.d.kp kV) H.na
 have HE:Hid (Q3.2.2≠0→Q3.1=[]∧Q3.2.1=[]):=by show _;rw[hQ];exact LO a.1 a.2 x
 have HG:Hid (bH (tnE (fK a.1 a.2 (([x]:List Int).getD 0 0))) W=bH (tnE Q3) W):=by rw[hQ];rfl
 rw[HG.out]
 have HSS:Hid (∀V,Kp W V→V.cell? ⟨ba,0,none⟩=some (.slice A1 a.1.length a1)∧V.cell? ⟨ba,1,none⟩=some (.slice A2 a.2.length a2)∧V.cell? ⟨bn,0,none⟩=some (.slice (some aq) 1 d)∧V.cell? aq=some (.int .i64 x)):=fun V kV=>⟨Iz.ay xp0 kV,Iz.ay xp1 kV,Iz.ay xn0 kV,Iz.ay y0 kV⟩
 have F0:Hid (Bx (W.alloc (.cells #[.slice none 0 0, .slice none 0 0, .int .i64 0] 91)) W.heap.size [.slice none 0 0, .slice none 0 0, .int .i64 0] 91):=Bx.new rfl
 have K0:Hid (Kp W (W.alloc (.cells #[.slice none 0 0, .slice none 0 0, .int .i64 0] 91))):=Kp.af _ _
 clear H hQ hc h1 hlt xp0 xp1 xn0 y0
 obtain⟨W0,hW0⟩:=eX ((W.alloc (.cells #[.slice none 0 0, .slice none 0 0, .int .i64 0] 91)))
 rw[←hW0]at F0 K0
 have HW:=lH hW0
 have K4:Hid (Kp W0 W0.drew):=Below.drew (Kp.refl W0)
 have hS0:=HSS.out _ K0.out
 clear hW0
 go_enter Tryz.func78,Tryz.ntmps78
 go_wp2_with fail
 rw[←HW.out]
 refine wp_region_held_drew (S:=fun V=>V.cell? ⟨ba,0,none⟩=some (.slice A1 a.1.length a1)∧V.cell? ⟨ba,1,none⟩=some (.slice A2 a.2.length a2)∧V.cell? ⟨bn,0,none⟩=some (.slice (some aq) 1 d)∧V.cell? aq=some (.int .i64 x)) (by kernel_rfl) (HSS.out _ (Below.drew K0.out)) (fun hHeld=>?_)
 have hdr:Hid (Kp W W0.drew):=Below.drew K0.out
 have FB:=lH (F0.out.kp K4.out)
 generalize W0.drew=V0 at hdr hHeld FB⊢
 refine tK 0 (.agg #[.slice A1 a.1.length a1, .slice A2 a.2.length a2]) rfl hHeld<|tK 1 (.slice (some aq) 1 d) rfl hHeld<|tK 2 (.pointer (some aq)) rfl hHeld<|tK 3 (.int .i64 x) rfl hHeld ?_
 refine rD 4 rfl fun K9_ hK=>?_
 go_simp
 refine(HC.out _ hdr.out).mono ?_;rintro e1 w1 ⟨A3,c3,B3,d3,rfl,s3,t3,k1⟩
 dsimp only
 have K1:=lH (hdr.out.tr k1)
 have F1:=lH (FB.out.kp k1)
 have S4:=lH s3;have T4:=lH t3
 have hS1:=HSS.out _ K1.out
 clear k1 s3 t3
 refine hK.out _ _ (hS1) fun hHeld=>?_
 clear hK
 refine tK 5 (.agg #[.slice A3 Q3.1.length c3, .slice B3 Q3.2.1.length d3]) rfl hHeld<|tK 6 (.int .i64 Q3.2.2) rfl hHeld ?_
 refine rD 7 rfl fun K9_ hK=>?_
 go_simp
 refine(gU _ _ _ _ _ _ _ _).mono ?_;rintro e2 w2 ⟨rfl,k2⟩
 dsimp only
 have K2:=lH (K1.out.tr k2)
 have F2:=lH (F1.out.kp k2)
 have S5:=lH (S4.out.kp k2);have T5:=lH (T4.out.kp k2)
 have hS2:=HSS.out _ K2.out
 clear k2
 refine hK.out _ _ (hS2) fun hHeld=>?_
 clear hK
 have o0:=F2.out.cell (j:=0) rfl
 have o1:=F2.out.cell (j:=1) rfl
 have o2:=F2.out.cell (j:=2) rfl
 have f0:=F2.out.frz 0
 have f1:=F2.out.frz 1
 have f2:=F2.out.frz 2
 have hS3:=HSS.out _ (((K2.out.setCell (p:=⟨W.heap.size,0,none⟩) (Nat.le_refl _) (.slice A3 Q3.1.length c3)).setCell (p:=⟨W.heap.size,1,none⟩) (Nat.le_refl _) (.slice B3 Q3.2.1.length d3)).setCell (p:=⟨W.heap.size,2,none⟩) (Nat.le_refl _) (.int .i64 Q3.2.2))
 refine rD 8 rfl fun K9_ hK=>?_
 go_simp
 refine hK.out _ _ (hS3) fun hHeld=>?_
 clear hK
 refine wpAnyH_done (by kernel_rfl) ?_ _
 clear hHeld hS1 hS2 hS3 HSS
 go_wp2
 refine bodyPost_ret (v:= .agg #[.slice A3 Q3.1.length c3, .slice B3 Q3.2.1.length d3, .int .i64 Q3.2.2]) (by simp[results,Tryz.results78,go_sem,o0,o1,o2];try rfl) rfl ?_
 exact bH.box (aN _ _ _) (aN _ _ _) rfl rfl rfl HE.out (Nat.le_refl _) F2.out S5.out T5.out K2.out
theorem Rp(H:Ej W bj bn ba bb op Q A1 A2 B1 B2 I1 I2 R S d a1 a2 b1 b2 i1 i2 rc sc nums a b inp ps s)(h1:nums.length=1):Calls Tryz.prog 80 #[.pointer (some ⟨ba,0,none⟩), .pointer (some ⟨bn,0,none⟩)] W (bH (tnE (uE a.1 a.2 (nums.getD 0 0))) W):=by
 obtain⟨x,rfl⟩:=Iz.gK h1
 obtain⟨aq,rfl,hlt,hc⟩:=H.rn.2 (by simp)
 have y0:W.cell? aq=some (.int .i64 x):=by simpa [Addr.add]using hc 0 x rfl
 have xn0:W.cell? ⟨bn,0,none⟩=some (.slice (some aq) 1 d):=H.n0
 have xp0:=H.p0
 have xp1:=H.p1
 obtain⟨Q3,hQ⟩:=eX (uE a.1 a.2 x)
 have HC:Hid (∀V,Kp W V→Calls Tryz.prog 81 #[.agg #[.slice A1 a.1.length a1, .slice A2 a.2.length a2], .int .i64 x] V (aG Q3 V)):=fun V kV=>by rw[hQ];exact(pK A1 A2 a1 a2 a.1 a.2 x V ⟨H.ra.r.s.kp kV,H.ra.c1.1,H.ra.c1.2⟩ (H.ra.r.d.kp kV) H.na).mono fun _ _ r=>r.weak
 have HE:Hid (Q3.2.2≠0→Q3.1=[]∧Q3.2.1=[]):=by show _;rw[hQ];exact Pw a.1 a.2 x
 have HG:Hid (bH (tnE (uE a.1 a.2 (([x]:List Int).getD 0 0))) W=bH (tnE Q3) W):=by rw[hQ];rfl
 rw[HG.out]
 have HSS:Hid (∀V,Kp W V→V.cell? ⟨ba,0,none⟩=some (.slice A1 a.1.length a1)∧V.cell? ⟨ba,1,none⟩=some (.slice A2 a.2.length a2)∧V.cell? ⟨bn,0,none⟩=some (.slice (some aq) 1 d)∧V.cell? aq=some (.int .i64 x)):=fun V kV=>⟨Iz.ay xp0 kV,Iz.ay xp1 kV,Iz.ay xn0 kV,Iz.ay y0 kV⟩
 have F0:Hid (Bx (W.alloc (.cells #[.slice none 0 0, .slice none 0 0, .int .i64 0] 91)) W.heap.size [.slice none 0 0, .slice none 0 0, .int .i64 0] 91):=Bx.new rfl
 have K0:Hid (Kp W (W.alloc (.cells #[.slice none 0 0, .slice none 0 0, .int .i64 0] 91))):=Kp.af _ _
 clear H hQ hc h1 hlt xp0 xp1 xn0 y0
 obtain⟨W0,hW0⟩:=eX ((W.alloc (.cells #[.slice none 0 0, .slice none 0 0, .int .i64 0] 91)))
 rw[←hW0]at F0 K0
 have HW:=lH hW0
 have K4:Hid (Kp W0 W0.drew):=Below.drew (Kp.refl W0)
 have hS0:=HSS.out _ K0.out
 clear hW0
 go_enter Tryz.func80,Tryz.ntmps80
 go_wp2_with fail
 rw[←HW.out]
 refine wp_region_held_drew (S:=fun V=>V.cell? ⟨ba,0,none⟩=some (.slice A1 a.1.length a1)∧V.cell? ⟨ba,1,none⟩=some (.slice A2 a.2.length a2)∧V.cell? ⟨bn,0,none⟩=some (.slice (some aq) 1 d)∧V.cell? aq=some (.int .i64 x)) (by kernel_rfl) (HSS.out _ (Below.drew K0.out)) (fun hHeld=>?_)
 have hdr:Hid (Kp W W0.drew):=Below.drew K0.out
 have FB:=lH (F0.out.kp K4.out)
 generalize W0.drew=V0 at hdr hHeld FB⊢
 refine tK 0 (.agg #[.slice A1 a.1.length a1, .slice A2 a.2.length a2]) rfl hHeld<|tK 1 (.slice (some aq) 1 d) rfl hHeld<|tK 2 (.pointer (some aq)) rfl hHeld<|tK 3 (.int .i64 x) rfl hHeld ?_
 refine rD 4 rfl fun K9_ hK=>?_
 go_simp
 refine(HC.out _ hdr.out).mono ?_;rintro e1 w1 ⟨A3,c3,B3,d3,rfl,s3,t3,k1⟩
 dsimp only
 have K1:=lH (hdr.out.tr k1)
 have F1:=lH (FB.out.kp k1)
 have S4:=lH s3;have T4:=lH t3
 have hS1:=HSS.out _ K1.out
 clear k1 s3 t3
 refine hK.out _ _ (hS1) fun hHeld=>?_
 clear hK
 refine tK 5 (.agg #[.slice A3 Q3.1.length c3, .slice B3 Q3.2.1.length d3]) rfl hHeld<|tK 6 (.int .i64 Q3.2.2) rfl hHeld ?_
 refine rD 7 rfl fun K9_ hK=>?_
 go_simp
 refine(gU _ _ _ _ _ _ _ _).mono ?_;rintro e2 w2 ⟨rfl,k2⟩
 dsimp only
 have K2:=lH (K1.out.tr k2)
 have F2:=lH (F1.out.kp k2)
 have S5:=lH (S4.out.kp k2);have T5:=lH (T4.out.kp k2)
 have hS2:=HSS.out _ K2.out
 clear k2
 refine hK.out _ _ (hS2) fun hHeld=>?_
 clear hK
 have o0:=F2.out.cell (j:=0) rfl
 have o1:=F2.out.cell (j:=1) rfl
 have o2:=F2.out.cell (j:=2) rfl
 have f0:=F2.out.frz 0
 have f1:=F2.out.frz 1
 have f2:=F2.out.frz 2
 have hS3:=HSS.out _ (((K2.out.setCell (p:=⟨W.heap.size,0,none⟩) (Nat.le_refl _) (.slice A3 Q3.1.length c3)).setCell (p:=⟨W.heap.size,1,none⟩) (Nat.le_refl _) (.slice B3 Q3.2.1.length d3)).setCell (p:=⟨W.heap.size,2,none⟩) (Nat.le_refl _) (.int .i64 Q3.2.2))
 refine rD 8 rfl fun K9_ hK=>?_
 go_simp
 refine hK.out _ _ (hS3) fun hHeld=>?_
 clear hK
 refine wpAnyH_done (by kernel_rfl) ?_ _
 clear hHeld hS1 hS2 hS3 HSS
 go_wp2
 refine bodyPost_ret (v:= .agg #[.slice A3 Q3.1.length c3, .slice B3 Q3.2.1.length d3, .int .i64 Q3.2.2]) (by simp[results,Tryz.results80,go_sem,o0,o1,o2];try rfl) rfl ?_
 exact bH.box (aN _ _ _) (aN _ _ _) rfl rfl rfl HE.out (Nat.le_refl _) F2.out S5.out T5.out K2.out
end
end Go.Proofs.YtdfknefcgijhmaaGreat.Ez
