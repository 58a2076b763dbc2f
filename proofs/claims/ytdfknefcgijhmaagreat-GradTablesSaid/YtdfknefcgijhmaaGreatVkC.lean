/- The landed vjp: calls that ask for a side. -/
import Derived.Test.YtdfknefcgijhmaaGreatTk
import Derived.Test.YtdfknefcgijhmaaGreatVkA
set_option maxHeartbeats 16000000
set_option maxRecDepth 100000
set_option linter.unusedVariables false
set_option linter.unusedSimpArgs false
namespace Go.Proofs.YtdfknefcgijhmaaGreat.Ez
open Go.RowKit Go.Proofs.ShM Go.Proofs.GrM Go.Proofs.InM Go.Proofs.ImM Go.Proofs.cF Go.Proofs.EvM
def SJ(V:World)(bj:Nat)(op:Int)(P:Option Addr)(nP cP:Nat)(Q A1 A2 B1 B2 O1 O2 G1 G2:Option Addr)(d a1 a2 b1 b2 o1 o2 g1 g2:Nat)(nums:List Int)(a b o g:T):Prop:=V.cell? ⟨bj,0,none⟩=some (.int .i64 op)∧V.cell? ⟨bj,1,none⟩=some (.slice P nP cP)∧V.cell? ⟨bj,2,none⟩=some (.slice Q nums.length d)∧V.cell? ⟨bj,3,none⟩=some (.slice A1 a.1.length a1)∧V.cell? ⟨bj,4,none⟩=some (.slice A2 a.2.length a2)∧V.cell? ⟨bj,5,none⟩=some (.slice B1 b.1.length b1)∧V.cell? ⟨bj,6,none⟩=some (.slice B2 b.2.length b2)∧V.cell? ⟨bj,7,none⟩=some (.slice O1 o.1.length o1)∧V.cell? ⟨bj,8,none⟩=some (.slice O2 o.2.length o2)∧V.cell? ⟨bj,9,none⟩=some (.slice G1 g.1.length g1)∧V.cell? ⟨bj,10,none⟩=some (.slice G2 g.2.length g2)
theorem lJ{V:World}{bj:Nat}{op:Int}{P:Option Addr}{nP cP:Nat}{Q A1 A2 B1 B2 O1 O2 G1 G2:Option Addr}{d a1 a2 b1 b2 o1 o2 g1 g2:Nat}{nums:List Int}{a b o g:T}(h:Bx V bj [.int .i64 op, .slice P nP cP, .slice Q nums.length d, .slice A1 a.1.length a1, .slice A2 a.2.length a2, .slice B1 b.1.length b1, .slice B2 b.2.length b2, .slice O1 o.1.length o1, .slice O2 o.2.length o2, .slice G1 g.1.length g1, .slice G2 g.2.length g2] 98):SJ V bj op P nP cP Q A1 A2 B1 B2 O1 O2 G1 G2 d a1 a2 b1 b2 o1 o2 g1 g2 nums a b o g:=by
 unfold SJ
 exact⟨h.cell (j:=0) rfl,h.cell (j:=1) rfl,h.cell (j:=2) rfl,h.cell (j:=3) rfl,h.cell (j:=4) rfl,h.cell (j:=5) rfl,h.cell (j:=6) rfl,h.cell (j:=7) rfl,h.cell (j:=8) rfl,h.cell (j:=9) rfl,h.cell (j:=10) rfl⟩
theorem tJ{P:Program}{md:Region.Mode}{ops:Array Oper}{Q:Exit→Act→World→Prop}{S:World→Prop}{fuel:Nat}{listed:Array Bool}{a:Act}{w:World}{oi:Oper}(i:Nat)(v:Value)(hi:ops[i]?=some oi)(hS:S w)(h:wpAnyH P md ops Q S fuel (listed.setIfInBounds i true) (a.put oi.dst v) w)
  (hs:Region.noSelect ops=true:=by kernel_rfl)(hf:Region.free md ops listed i=true:=by kernel_rfl)(hr:(Region.ready md ops listed).contains i=true:=by kernel_rfl)
  (hw:Region.wanted oi (yielded ops a.tmps)=true:=by kernel_rfl)(hQ:∀c a w,Q (.panic c) (a.put oi.dst v) w→Q (.panic c) a w:=by exact fun _ _ _ h=>h)
  (hy:∀w,S w→(execOp a.eval oi).run P w= .ok (.value v) w:=by intro V hSV;simp only[SJ]at hSV;go_simp):wpAnyH P md ops Q S (fuel+1) listed a w:=tK i v hi hS h hs hf hr hw hQ hy
section
variable{W:World}{op:Int}{P Q A1 A2 B1 B2 O1 O2 G1 G2:Option Addr}{nP cP d a1 a2 b1 b2 o1 o2 g1 g2:Nat}{nums:List Int}{a b o g:T}
theorem jy(H:Jb W Q A1 A2 B1 B2 O1 O2 G1 G2 d a1 a2 b1 b2 o1 o2 g1 g2 nums a b o g){k:Nat}(hn:nums[0]?=some (k:Int)):Calls Tryz.prog 162 #[.agg #[.int .i64 op, .slice P nP cP, .slice Q nums.length d, .slice A1 a.1.length a1, .slice A2 a.2.length a2, .slice B1 b.1.length b1, .slice B2 b.2.length b2, .slice O1 o.1.length o1, .slice O2 o.2.length o2, .slice G1 g.1.length g1, .slice G2 g.2.length g2]] W (fun e w=>e= .returned (.int .i64 (k:Int))∧Kp W w):=by
 have hpos:0<nums.length:=(List.getElem?_eq_some_iff.1 hn).1
 obtain⟨aq,rfl,hlt,hc⟩:=H.rn.2 hpos
 have y0:W.cell? aq=some (.int .i64 (k:Int)):=by simpa [Addr.add]using hc 0 _ hn
 have z0:=Iz.ay y0 (Kp.af W (.cells #[.int .i64 op, .slice P nP cP, .slice (some aq) nums.length d, .slice A1 a.1.length a1, .slice A2 a.2.length a2, .slice B1 b.1.length b1, .slice B2 b.2.length b2, .slice O1 o.1.length o1, .slice O2 o.2.length o2, .slice G1 g.1.length g1, .slice G2 g.2.length g2] 98))
 clear H hc y0 hn hlt
 go_enter Tryz.func162,Tryz.ntmps162
 go_wp2
 refine bodyPost_ret (v:= .int .i64 (k:Int)) (by simp[results,Tryz.results162,go_sem];try rfl) rfl ?_
 exact⟨rfl,Kp.af _ _⟩
theorem oh(H:Jb W Q A1 A2 B1 B2 O1 O2 G1 G2 d a1 a2 b1 b2 o1 o2 g1 g2 nums a b o g){k:Nat}{y:Int}(hn:nums[0]?=some (k:Int))(hy:a.1[k]?=some y):Calls Tryz.prog 163 #[.agg #[.int .i64 op, .slice P nP cP, .slice Q nums.length d, .slice A1 a.1.length a1, .slice A2 a.2.length a2, .slice B1 b.1.length b1, .slice B2 b.2.length b2, .slice O1 o.1.length o1, .slice O2 o.2.length o2, .slice G1 g.1.length g1, .slice G2 g.2.length g2]] W (fun e w=>e= .returned (.int .i64 y)∧Kp W w):=by
 have hpos:k<a.1.length:=(List.getElem?_eq_some_iff.1 hy).1
 have hk1:(k:Int)<(a.1.length:Int):=by omega
 have hk0:(0:Int)≤(k:Int):=by omega
 obtain⟨ad,e,hlt,hc⟩:=H.ra.r.s.2 (by omega)
 subst e
 have y0:W.cell? (ad.add k)=some (.int .i64 y):=hc k _ hy
 have HAX:Hid (∀V,Kp W V→Calls Tryz.prog 162 #[.agg #[.int .i64 op, .slice P nP cP, .slice Q nums.length d, .slice (some ad) a.1.length a1, .slice A2 a.2.length a2, .slice B1 b.1.length b1, .slice B2 b.2.length b2, .slice O1 o.1.length o1, .slice O2 o.2.length o2, .slice G1 g.1.length g1, .slice G2 g.2.length g2]] V (fun e w=>e= .returned (.int .i64 (k:Int))∧Kp V w)):=fun V kV=>jy (H.kp kV) hn
 obtain⟨w1,hw1⟩:=eX (W.alloc (.cells #[.int .i64 op, .slice P nP cP, .slice Q nums.length d, .slice (some ad) a.1.length a1, .slice A2 a.2.length a2, .slice B1 b.1.length b1, .slice B2 b.2.length b2, .slice O1 o.1.length o1, .slice O2 o.2.length o2, .slice G1 g.1.length g1, .slice G2 g.2.length g2] 98))
 have K1:Hid (Kp W w1):=by rw[hw1];exact Kp.af _ _
 have BJ:Hid (Bx w1 W.heap.size (#[.int .i64 op, .slice P nP cP, .slice Q nums.length d, .slice (some ad) a.1.length a1, .slice A2 a.2.length a2, .slice B1 b.1.length b1, .slice B2 b.2.length b2, .slice O1 o.1.length o1, .slice O2 o.2.length o2, .slice G1 g.1.length g1, .slice G2 g.2.length g2]:Array Value).toList 98):=by rw[hw1];exact Bx.new rfl
 have z0:=lH (Iz.ay y0 K1.out)
 have HSS:Hid (∀V,Kp w1 V→SJ V W.heap.size op P nP cP Q (some ad) A2 B1 B2 O1 O2 G1 G2 d a1 a2 b1 b2 o1 o2 g1 g2 nums a b o g∧V.cell? (ad.add k)=some (.int .i64 y)):=fun V kV=>⟨lJ (BJ.out.kp kV),Iz.ay z0.out kV⟩
 have HW:=lH hw1
 clear hw1 H hc y0 hn hlt hy
 go_enter Tryz.func163,Tryz.ntmps163
 go_wp2_with fail
 rw[←HW.out]
 refine wp_region_held_drew (S:=fun V=>SJ V W.heap.size op P nP cP Q (some ad) A2 B1 B2 O1 O2 G1 G2 d a1 a2 b1 b2 o1 o2 g1 g2 nums a b o g∧V.cell? (ad.add k)=some (.int .i64 y)) (by kernel_rfl) (HSS.out _ (Below.drew (Kp.refl _))) (fun hHeld=>?_)
 have X0:Hid (Kp w1 w1.drew):=Below.drew (Kp.refl _)
 generalize w1.drew=V0 at X0 hHeld⊢
 refine tJ 0 (.pointer (some ⟨W.heap.size,3,none⟩)) rfl hHeld<|tJ 1 (.pointer (some ⟨W.heap.size,3,none⟩)) rfl hHeld<|tJ 2 (.slice (some ad) a.1.length a1) rfl hHeld<|tJ 3 (.agg #[.int .i64 op, .slice P nP cP, .slice Q nums.length d, .slice (some ad) a.1.length a1, .slice A2 a.2.length a2, .slice B1 b.1.length b1, .slice B2 b.2.length b2, .slice O1 o.1.length o1, .slice O2 o.2.length o2, .slice G1 g.1.length g1, .slice G2 g.2.length g2]) rfl hHeld ?_
 refine rD 4 rfl fun K9_ hK=>?_
 go_simp
 refine(HAX.out _ (K1.out.tr X0.out)).mono ?_;rintro e5 V1 ⟨rfl,k5⟩
 dsimp only
 have X1:=lH (X0.out.tr k5)
 refine hK.out _ _ (HSS.out _ X1.out) fun hHeld=>?_
 clear hK k5
 refine tJ 5 (.pointer (some (ad.add k))) rfl hHeld<|tJ 6 (.int .i64 y) rfl hHeld ?_
 refine rD 7 rfl fun K9_ hK=>?_
 go_simp
 refine hK.out _ _ (HSS.out _ X1.out) fun hHeld=>?_
 clear hK
 refine wpAnyH_done (by kernel_rfl) ?_ _
 clear hHeld
 go_wp2
 refine bodyPost_ret (v:= .int .i64 y) (by simp[results,Tryz.results163,go_sem];try rfl) rfl ?_
 exact⟨rfl,K1.out.tr X1.out⟩
theorem BP(H:Jb W Q A1 A2 B1 B2 O1 O2 G1 G2 d a1 a2 b1 b2 o1 o2 g1 g2 nums a b o g){k:Nat}{y:Int}(hn:nums[0]?=some (k:Int))(hy:a.1[k]?=some y):Calls Tryz.prog 109 #[.agg #[.int .i64 op, .slice P nP cP, .slice Q nums.length d, .slice A1 a.1.length a1, .slice A2 a.2.length a2, .slice B1 b.1.length b1, .slice B2 b.2.length b2, .slice O1 o.1.length o1, .slice O2 o.2.length o2, .slice G1 g.1.length g1, .slice G2 g.2.length g2]] W (aG (bE g.1 g.2 (k:Int) y) W):=by
 have HJB:=lH H
 have HN:=lH hn
 have HY:=lH hy
 have HC:Hid (∀V,Kp W V→Calls Tryz.prog 164 #[.agg #[.slice G1 g.1.length g1, .slice G2 g.2.length g2], .int .i64 (k:Int), .int .i64 y] V (aG (bE g.1 g.2 (k:Int) y) V)):=fun V kV=>rL G1 G2 g1 g2 g.1 g.2 (k:Int) y V (H.rg.r.s.kp kV) (H.rg.r.d.kp kV)
 obtain⟨Q3,hQ⟩:=eX (bE g.1 g.2 (k:Int) y)
 rw[←hQ]at HC⊢
 obtain⟨w1,hw1⟩:=eX ((W.alloc (.cells #[.int .i64 op, .slice P nP cP, .slice Q nums.length d, .slice A1 a.1.length a1, .slice A2 a.2.length a2, .slice B1 b.1.length b1, .slice B2 b.2.length b2, .slice O1 o.1.length o1, .slice O2 o.2.length o2, .slice G1 g.1.length g1, .slice G2 g.2.length g2] 98)).alloc (.cells #[.slice none 0 0, .slice none 0 0] 31))
 obtain⟨K1,BJ,BO⟩:=jw hw1
 have HSS:Hid (∀V,Kp w1 V→SJ V W.heap.size op P nP cP Q A1 A2 B1 B2 O1 O2 G1 G2 d a1 a2 b1 b2 o1 o2 g1 g2 nums a b o g):=fun V kV=>lJ (BJ.out.kp kV)
 have HST:Hid (∀V u v,Kp w1 V→SJ ((V.setCell ⟨W.heap.size+1,0,none⟩ u).setCell ⟨W.heap.size+1,1,none⟩ v) W.heap.size op P nP cP Q A1 A2 B1 B2 O1 O2 G1 G2 d a1 a2 b1 b2 o1 o2 g1 g2 nums a b o g):=fun V u v kV=>by
  have B2:=((BJ.out.kp kV).other (p:=⟨W.heap.size+1,0,none⟩) (by show W.heap.size≠W.heap.size+1;omega) u).other (p:=⟨W.heap.size+1,1,none⟩) (by show W.heap.size≠W.heap.size+1;omega) v
  have K2:=((K1.out.tr kV).setCell (p:=⟨W.heap.size+1,0,none⟩) (Nat.le_succ _) u).setCell (p:=⟨W.heap.size+1,1,none⟩) (Nat.le_succ _) v
  exact lJ B2
 have HW:=lH hw1
 clear hw1 H hQ hn hy
 go_enter Tryz.func109,Tryz.ntmps109
 go_wp2_with fail
 rw[←HW.out]
 refine wp_region_held_drew (S:=fun V=>SJ V W.heap.size op P nP cP Q A1 A2 B1 B2 O1 O2 G1 G2 d a1 a2 b1 b2 o1 o2 g1 g2 nums a b o g) (by kernel_rfl) (HSS.out _ (Below.drew (Kp.refl _))) (fun hHeld=>?_)
 have X0:Hid (Kp w1 w1.drew):=Below.drew (Kp.refl _)
 generalize w1.drew=V0 at X0 hHeld⊢
 refine tJ 0 (.pointer (some ⟨W.heap.size,9,none⟩)) rfl hHeld<|tJ 1 (.agg #[.slice G1 g.1.length g1, .slice G2 g.2.length g2]) rfl hHeld<|tJ 2 (.agg #[.int .i64 op, .slice P nP cP, .slice Q nums.length d, .slice A1 a.1.length a1, .slice A2 a.2.length a2, .slice B1 b.1.length b1, .slice B2 b.2.length b2, .slice O1 o.1.length o1, .slice O2 o.2.length o2, .slice G1 g.1.length g1, .slice G2 g.2.length g2]) rfl hHeld<|tJ 4 (.agg #[.int .i64 op, .slice P nP cP, .slice Q nums.length d, .slice A1 a.1.length a1, .slice A2 a.2.length a2, .slice B1 b.1.length b1, .slice B2 b.2.length b2, .slice O1 o.1.length o1, .slice O2 o.2.length o2, .slice G1 g.1.length g1, .slice G2 g.2.length g2]) rfl hHeld ?_
 refine rD 3 rfl fun K9_ hK=>?_
 go_simp
 refine(jy (HJB.out.kp (K1.out.tr X0.out)) HN.out).mono ?_;rintro e1 V1 ⟨rfl,k1⟩
 dsimp only
 have X1:=lH (X0.out.tr k1)
 refine hK.out _ _ (HSS.out _ X1.out) fun hHeld=>?_
 clear hK k1
 refine rD 5 rfl fun K9_ hK=>?_
 go_simp
 refine(oh (HJB.out.kp (K1.out.tr X1.out)) HN.out HY.out).mono ?_;rintro e2 V2 ⟨rfl,k2⟩
 dsimp only
 have X2:=lH (X1.out.tr k2)
 refine hK.out _ _ (HSS.out _ X2.out) fun hHeld=>?_
 clear hK k2
 refine rD 6 rfl fun K9_ hK=>?_
 go_simp
 refine(HC.out _ (K1.out.tr X2.out)).mono ?_;rintro e9 V9 ⟨A3,c3,D3,d3,rfl,s3,t3,k9⟩
 dsimp only
 have X9:=lH (X2.out.tr k9)
 have O9:=lH (BO.out.kp X9.out)
 have S3:=lH s3;have T3:=lH t3
 clear k9 s3 t3
 refine hK.out _ _ (HSS.out _ X9.out) fun hHeld=>?_
 clear hK
 refine tJ 7 (.agg #[.slice A3 Q3.1.length c3, .slice D3 Q3.2.1.length d3]) rfl hHeld<|tJ 8 (.int .i64 Q3.2.2) rfl hHeld ?_
 have o0:=O9.out.c0
 have o1:=O9.out.c1
 have f0:=O9.out.f0 0
 have f1:=O9.out.f0 1
 have XX:Hid (Kp W ((V9.setCell ⟨W.heap.size+1,0,none⟩ (.slice A3 Q3.1.length c3)).setCell ⟨W.heap.size+1,1,none⟩ (.slice D3 Q3.2.1.length d3))):=((K1.out.tr X9.out).setCell (p:=⟨W.heap.size+1,0,none⟩) (Nat.le_succ _) _).setCell (p:=⟨W.heap.size+1,1,none⟩) (Nat.le_succ _) _
 have hS4:=HST.out V9 (.slice A3 Q3.1.length c3) (.slice D3 Q3.2.1.length d3) X9.out
 refine rD 9 rfl fun K9_ hK=>?_
 go_simp
 refine hK.out _ _ (hS4) fun hHeld=>?_
 clear hK
 refine rD 10 rfl fun K9_ hK=>?_
 go_simp
 refine hK.out _ _ (hS4) fun hHeld=>?_
 clear hK
 refine wpAnyH_done (by kernel_rfl) ?_ _
 clear hHeld hS4
 go_wp2
 refine bodyPost_ret (v:= .tuple #[.agg #[.slice A3 Q3.1.length c3, .slice D3 Q3.2.1.length d3], .int .i64 Q3.2.2]) (by simp[results,Tryz.results109,go_sem,o0,o1];try rfl) rfl ?_
 exact fin S3.out T3.out O9.out (K1.out.tr X9.out) rfl rfl
theorem KZ(H:Jb W Q A1 A2 B1 B2 O1 O2 G1 G2 d a1 a2 b1 b2 o1 o2 g1 g2 nums a b o g){k:Nat}{y:Int}(hn:nums[0]?=some (k:Int))(hy:a.1[k]?=some y):Calls Tryz.prog 107 #[.agg #[.int .i64 op, .slice P nP cP, .slice Q nums.length d, .slice A1 a.1.length a1, .slice A2 a.2.length a2, .slice B1 b.1.length b1, .slice B2 b.2.length b2, .slice O1 o.1.length o1, .slice O2 o.2.length o2, .slice G1 g.1.length g1, .slice G2 g.2.length g2]] W (aG (aS g.1 g.2 (k:Int) 0 y) W):=by
 have HJB:=lH H
 have HN:=lH hn
 have HY:=lH hy
 have HC:Hid (∀V,Kp W V→Calls Tryz.prog 73 #[.agg #[.slice G1 g.1.length g1, .slice G2 g.2.length g2], .int .i64 (k:Int), .int .i64 0, .int .i64 y] V (aG (aS g.1 g.2 (k:Int) 0 y) V)):=fun V kV=>jX G1 G2 g1 g2 g.1 g.2 (k:Int) 0 y V (H.rg.r.s.kp kV) (H.rg.r.d.kp kV)
 obtain⟨Q3,hQ⟩:=eX (aS g.1 g.2 (k:Int) 0 y)
 rw[←hQ]at HC⊢
 obtain⟨w1,hw1⟩:=eX ((W.alloc (.cells #[.int .i64 op, .slice P nP cP, .slice Q nums.length d, .slice A1 a.1.length a1, .slice A2 a.2.length a2, .slice B1 b.1.length b1, .slice B2 b.2.length b2, .slice O1 o.1.length o1, .slice O2 o.2.length o2, .slice G1 g.1.length g1, .slice G2 g.2.length g2] 98)).alloc (.cells #[.slice none 0 0, .slice none 0 0] 31))
 obtain⟨K1,BJ,BO⟩:=jw hw1
 have HSS:Hid (∀V,Kp w1 V→SJ V W.heap.size op P nP cP Q A1 A2 B1 B2 O1 O2 G1 G2 d a1 a2 b1 b2 o1 o2 g1 g2 nums a b o g):=fun V kV=>lJ (BJ.out.kp kV)
 have HST:Hid (∀V u v,Kp w1 V→SJ ((V.setCell ⟨W.heap.size+1,0,none⟩ u).setCell ⟨W.heap.size+1,1,none⟩ v) W.heap.size op P nP cP Q A1 A2 B1 B2 O1 O2 G1 G2 d a1 a2 b1 b2 o1 o2 g1 g2 nums a b o g):=fun V u v kV=>by
  have B2:=((BJ.out.kp kV).other (p:=⟨W.heap.size+1,0,none⟩) (by show W.heap.size≠W.heap.size+1;omega) u).other (p:=⟨W.heap.size+1,1,none⟩) (by show W.heap.size≠W.heap.size+1;omega) v
  have K2:=((K1.out.tr kV).setCell (p:=⟨W.heap.size+1,0,none⟩) (Nat.le_succ _) u).setCell (p:=⟨W.heap.size+1,1,none⟩) (Nat.le_succ _) v
  exact lJ B2
 have HW:=lH hw1
 clear hw1 H hQ hn hy
 go_enter Tryz.func107,Tryz.ntmps107
 go_wp2_with fail
 rw[←HW.out]
 refine wp_region_held_drew (S:=fun V=>SJ V W.heap.size op P nP cP Q A1 A2 B1 B2 O1 O2 G1 G2 d a1 a2 b1 b2 o1 o2 g1 g2 nums a b o g) (by kernel_rfl) (HSS.out _ (Below.drew (Kp.refl _))) (fun hHeld=>?_)
 have X0:Hid (Kp w1 w1.drew):=Below.drew (Kp.refl _)
 generalize w1.drew=V0 at X0 hHeld⊢
 refine tJ 0 (.pointer (some ⟨W.heap.size,9,none⟩)) rfl hHeld<|tJ 1 (.agg #[.slice G1 g.1.length g1, .slice G2 g.2.length g2]) rfl hHeld<|tJ 2 (.agg #[.int .i64 op, .slice P nP cP, .slice Q nums.length d, .slice A1 a.1.length a1, .slice A2 a.2.length a2, .slice B1 b.1.length b1, .slice B2 b.2.length b2, .slice O1 o.1.length o1, .slice O2 o.2.length o2, .slice G1 g.1.length g1, .slice G2 g.2.length g2]) rfl hHeld<|tJ 4 (.agg #[.int .i64 op, .slice P nP cP, .slice Q nums.length d, .slice A1 a.1.length a1, .slice A2 a.2.length a2, .slice B1 b.1.length b1, .slice B2 b.2.length b2, .slice O1 o.1.length o1, .slice O2 o.2.length o2, .slice G1 g.1.length g1, .slice G2 g.2.length g2]) rfl hHeld ?_
 refine rD 3 rfl fun K9_ hK=>?_
 go_simp
 refine(jy (HJB.out.kp (K1.out.tr X0.out)) HN.out).mono ?_;rintro e1 V1 ⟨rfl,k1⟩
 dsimp only
 have X1:=lH (X0.out.tr k1)
 refine hK.out _ _ (HSS.out _ X1.out) fun hHeld=>?_
 clear hK k1
 refine rD 5 rfl fun K9_ hK=>?_
 go_simp
 refine(oh (HJB.out.kp (K1.out.tr X1.out)) HN.out HY.out).mono ?_;rintro e2 V2 ⟨rfl,k2⟩
 dsimp only
 have X2:=lH (X1.out.tr k2)
 refine hK.out _ _ (HSS.out _ X2.out) fun hHeld=>?_
 clear hK k2
 refine rD 6 rfl fun K9_ hK=>?_
 go_simp
 refine(HC.out _ (K1.out.tr X2.out)).mono ?_;rintro e9 V9 ⟨A3,c3,D3,d3,rfl,s3,t3,k9⟩
 dsimp only
 have X9:=lH (X2.out.tr k9)
 have O9:=lH (BO.out.kp X9.out)
 have S3:=lH s3;have T3:=lH t3
 clear k9 s3 t3
 refine hK.out _ _ (HSS.out _ X9.out) fun hHeld=>?_
 clear hK
 refine tJ 7 (.agg #[.slice A3 Q3.1.length c3, .slice D3 Q3.2.1.length d3]) rfl hHeld<|tJ 8 (.int .i64 Q3.2.2) rfl hHeld ?_
 have o0:=O9.out.c0
 have o1:=O9.out.c1
 have f0:=O9.out.f0 0
 have f1:=O9.out.f0 1
 have XX:Hid (Kp W ((V9.setCell ⟨W.heap.size+1,0,none⟩ (.slice A3 Q3.1.length c3)).setCell ⟨W.heap.size+1,1,none⟩ (.slice D3 Q3.2.1.length d3))):=((K1.out.tr X9.out).setCell (p:=⟨W.heap.size+1,0,none⟩) (Nat.le_succ _) _).setCell (p:=⟨W.heap.size+1,1,none⟩) (Nat.le_succ _) _
 have hS4:=HST.out V9 (.slice A3 Q3.1.length c3) (.slice D3 Q3.2.1.length d3) X9.out
 refine rD 9 rfl fun K9_ hK=>?_
 go_simp
 refine hK.out _ _ (hS4) fun hHeld=>?_
 clear hK
 refine rD 10 rfl fun K9_ hK=>?_
 go_simp
 refine hK.out _ _ (hS4) fun hHeld=>?_
 clear hK
 refine wpAnyH_done (by kernel_rfl) ?_ _
 clear hHeld hS4
 go_wp2
 refine bodyPost_ret (v:= .tuple #[.agg #[.slice A3 Q3.1.length c3, .slice D3 Q3.2.1.length d3], .int .i64 Q3.2.2]) (by simp[results,Tryz.results107,go_sem,o0,o1];try rfl) rfl ?_
 exact fin S3.out T3.out O9.out (K1.out.tr X9.out) rfl rfl
theorem Gp(H:Jb W Q A1 A2 B1 B2 O1 O2 G1 G2 d a1 a2 b1 b2 o1 o2 g1 g2 nums a b o g){k:Nat}{y:Int}(hn:nums[0]?=some (k:Int))(hy:a.1[k]?=some y){z:Int}(hz:g.1[k]?=some z):Calls Tryz.prog 108 #[.agg #[.int .i64 op, .slice P nP cP, .slice Q nums.length d, .slice A1 a.1.length a1, .slice A2 a.2.length a2, .slice B1 b.1.length b1, .slice B2 b.2.length b2, .slice O1 o.1.length o1, .slice O2 o.2.length o2, .slice G1 g.1.length g1, .slice G2 g.2.length g2]] W (aG (aS g.1 g.2 (k:Int) y z) W):=by
 have hpos:k<g.1.length:=(List.getElem?_eq_some_iff.1 hz).1
 have hk1:(k:Int)<(g.1.length:Int):=by omega
 have hk0:(0:Int)≤(k:Int):=by omega
 obtain⟨ag,e,hlt,hc⟩:=H.rg.r.s.2 (by omega)
 subst e
 have y0:Hid (W.cell? (ag.add k)=some (.int .i64 z)):=hc k _ hz
 clear hc hlt hz
 have HJB:=lH H
 have HN:=lH hn
 have HY:=lH hy
 have HC:Hid (∀V,Kp W V→Calls Tryz.prog 73 #[.agg #[.slice (some ag) g.1.length g1, .slice G2 g.2.length g2], .int .i64 (k:Int), .int .i64 y, .int .i64 z] V (aG (aS g.1 g.2 (k:Int) y z) V)):=fun V kV=>jX (some ag) G2 g1 g2 g.1 g.2 (k:Int) y z V (H.rg.r.s.kp kV) (H.rg.r.d.kp kV)
 obtain⟨Q3,hQ⟩:=eX (aS g.1 g.2 (k:Int) y z)
 rw[←hQ]at HC⊢
 obtain⟨w1,hw1⟩:=eX ((W.alloc (.cells #[.int .i64 op, .slice P nP cP, .slice Q nums.length d, .slice A1 a.1.length a1, .slice A2 a.2.length a2, .slice B1 b.1.length b1, .slice B2 b.2.length b2, .slice O1 o.1.length o1, .slice O2 o.2.length o2, .slice (some ag) g.1.length g1, .slice G2 g.2.length g2] 98)).alloc (.cells #[.slice none 0 0, .slice none 0 0] 31))
 obtain⟨K1,BJ,BO⟩:=jw hw1
 have HSS:Hid (∀V,Kp w1 V→SJ V W.heap.size op P nP cP Q A1 A2 B1 B2 O1 O2 (some ag) G2 d a1 a2 b1 b2 o1 o2 g1 g2 nums a b o g∧V.cell? (ag.add k)=some (.int .i64 z)):=fun V kV=>⟨lJ (BJ.out.kp kV),Iz.ay y0.out (K1.out.tr kV)⟩
 have HST:Hid (∀V u v,Kp w1 V→SJ ((V.setCell ⟨W.heap.size+1,0,none⟩ u).setCell ⟨W.heap.size+1,1,none⟩ v) W.heap.size op P nP cP Q A1 A2 B1 B2 O1 O2 (some ag) G2 d a1 a2 b1 b2 o1 o2 g1 g2 nums a b o g∧((V.setCell ⟨W.heap.size+1,0,none⟩ u).setCell ⟨W.heap.size+1,1,none⟩ v).cell? (ag.add k)=some (.int .i64 z)):=fun V u v kV=>by
  have B2:=((BJ.out.kp kV).other (p:=⟨W.heap.size+1,0,none⟩) (by show W.heap.size≠W.heap.size+1;omega) u).other (p:=⟨W.heap.size+1,1,none⟩) (by show W.heap.size≠W.heap.size+1;omega) v
  have K2:=((K1.out.tr kV).setCell (p:=⟨W.heap.size+1,0,none⟩) (Nat.le_succ _) u).setCell (p:=⟨W.heap.size+1,1,none⟩) (Nat.le_succ _) v
  exact⟨lJ B2,Iz.ay y0.out K2⟩
 have HW:=lH hw1
 clear hw1 H hQ hn hy
 go_enter Tryz.func108,Tryz.ntmps108
 go_wp2_with fail
 rw[←HW.out]
 refine wp_region_held_drew (S:=fun V=>SJ V W.heap.size op P nP cP Q A1 A2 B1 B2 O1 O2 (some ag) G2 d a1 a2 b1 b2 o1 o2 g1 g2 nums a b o g∧V.cell? (ag.add k)=some (.int .i64 z)) (by kernel_rfl) (HSS.out _ (Below.drew (Kp.refl _))) (fun hHeld=>?_)
 have X0:Hid (Kp w1 w1.drew):=Below.drew (Kp.refl _)
 generalize w1.drew=V0 at X0 hHeld⊢
 refine tJ 0 (.pointer (some ⟨W.heap.size,9,none⟩)) rfl hHeld<|tJ 1 (.agg #[.slice (some ag) g.1.length g1, .slice G2 g.2.length g2]) rfl hHeld<|tJ 2 (.agg #[.int .i64 op, .slice P nP cP, .slice Q nums.length d, .slice A1 a.1.length a1, .slice A2 a.2.length a2, .slice B1 b.1.length b1, .slice B2 b.2.length b2, .slice O1 o.1.length o1, .slice O2 o.2.length o2, .slice (some ag) g.1.length g1, .slice G2 g.2.length g2]) rfl hHeld<|tJ 4 (.agg #[.int .i64 op, .slice P nP cP, .slice Q nums.length d, .slice A1 a.1.length a1, .slice A2 a.2.length a2, .slice B1 b.1.length b1, .slice B2 b.2.length b2, .slice O1 o.1.length o1, .slice O2 o.2.length o2, .slice (some ag) g.1.length g1, .slice G2 g.2.length g2]) rfl hHeld<|tJ 6 (.pointer (some ⟨W.heap.size,9,none⟩)) rfl hHeld<|tJ 7 (.pointer (some ⟨W.heap.size,9,none⟩)) rfl hHeld<|tJ 8 (.slice (some ag) g.1.length g1) rfl hHeld<|tJ 9 (.agg #[.int .i64 op, .slice P nP cP, .slice Q nums.length d, .slice A1 a.1.length a1, .slice A2 a.2.length a2, .slice B1 b.1.length b1, .slice B2 b.2.length b2, .slice O1 o.1.length o1, .slice O2 o.2.length o2, .slice (some ag) g.1.length g1, .slice G2 g.2.length g2]) rfl hHeld ?_
 refine rD 3 rfl fun K9_ hK=>?_
 go_simp
 refine(jy (HJB.out.kp (K1.out.tr X0.out)) HN.out).mono ?_;rintro e1 V1 ⟨rfl,k1⟩
 dsimp only
 have X1:=lH (X0.out.tr k1)
 refine hK.out _ _ (HSS.out _ X1.out) fun hHeld=>?_
 clear hK k1
 refine rD 5 rfl fun K9_ hK=>?_
 go_simp
 refine(oh (HJB.out.kp (K1.out.tr X1.out)) HN.out HY.out).mono ?_;rintro e2 V2 ⟨rfl,k2⟩
 dsimp only
 have X2:=lH (X1.out.tr k2)
 refine hK.out _ _ (HSS.out _ X2.out) fun hHeld=>?_
 clear hK k2
 refine rD 10 rfl fun K9_ hK=>?_
 go_simp
 refine(jy (HJB.out.kp (K1.out.tr X2.out)) HN.out).mono ?_;rintro e3 V3 ⟨rfl,k3⟩
 dsimp only
 have X3:=lH (X2.out.tr k3)
 refine hK.out _ _ (HSS.out _ X3.out) fun hHeld=>?_
 clear hK k3
 refine tJ 11 (.pointer (some (ag.add k))) rfl hHeld<|tJ 12 (.int .i64 z) rfl hHeld ?_
 refine rD 13 rfl fun K9_ hK=>?_
 go_simp
 refine(HC.out _ (K1.out.tr X3.out)).mono ?_;rintro e9 V9 ⟨A3,c3,D3,d3,rfl,s3,t3,k9⟩
 dsimp only
 have X9:=lH (X3.out.tr k9)
 have O9:=lH (BO.out.kp X9.out)
 have S3:=lH s3;have T3:=lH t3
 clear k9 s3 t3
 refine hK.out _ _ (HSS.out _ X9.out) fun hHeld=>?_
 clear hK
 refine tJ 14 (.agg #[.slice A3 Q3.1.length c3, .slice D3 Q3.2.1.length d3]) rfl hHeld<|tJ 15 (.int .i64 Q3.2.2) rfl hHeld ?_
 have o0:=O9.out.c0
 have o1:=O9.out.c1
 have f0:=O9.out.f0 0
 have f1:=O9.out.f0 1
 have XX:Hid (Kp W ((V9.setCell ⟨W.heap.size+1,0,none⟩ (.slice A3 Q3.1.length c3)).setCell ⟨W.heap.size+1,1,none⟩ (.slice D3 Q3.2.1.length d3))):=((K1.out.tr X9.out).setCell (p:=⟨W.heap.size+1,0,none⟩) (Nat.le_succ _) _).setCell (p:=⟨W.heap.size+1,1,none⟩) (Nat.le_succ _) _
 have hS4:=HST.out V9 (.slice A3 Q3.1.length c3) (.slice D3 Q3.2.1.length d3) X9.out
 refine rD 16 rfl fun K9_ hK=>?_
 go_simp
 refine hK.out _ _ (hS4) fun hHeld=>?_
 clear hK
 refine rD 17 rfl fun K9_ hK=>?_
 go_simp
 refine hK.out _ _ (hS4) fun hHeld=>?_
 clear hK
 refine wpAnyH_done (by kernel_rfl) ?_ _
 clear hHeld hS4
 go_wp2
 refine bodyPost_ret (v:= .tuple #[.agg #[.slice A3 Q3.1.length c3, .slice D3 Q3.2.1.length d3], .int .i64 Q3.2.2]) (by simp[results,Tryz.results108,go_sem,o0,o1];try rfl) rfl ?_
 exact fin S3.out T3.out O9.out (K1.out.tr X9.out) rfl rfl
theorem Gq(H:Jb W Q A1 A2 B1 B2 O1 O2 G1 G2 d a1 a2 b1 b2 o1 o2 g1 g2 nums a b o g){k:Nat}{y:Int}(hn:nums[0]?=some (k:Int))(hy:a.1[k]?=some y){z:Int}(hz:nums[1]?=some z):Calls Tryz.prog 106 #[.agg #[.int .i64 op, .slice P nP cP, .slice Q nums.length d, .slice A1 a.1.length a1, .slice A2 a.2.length a2, .slice B1 b.1.length b1, .slice B2 b.2.length b2, .slice O1 o.1.length o1, .slice O2 o.2.length o2, .slice G1 g.1.length g1, .slice G2 g.2.length g2]] W (aG (lS g.1 g.2 (k:Int) z y) W):=by
 have hpos:1<nums.length:=(List.getElem?_eq_some_iff.1 hz).1
 have hk1:(1:Int)<(nums.length:Int):=by omega
 obtain⟨aq,e,hlt,hc⟩:=H.rn.2 (by omega)
 subst e
 have y0:Hid (W.cell? ⟨aq.block,aq.off+1,none⟩=some (.int .i64 z)):=hc 1 _ hz
 clear hc hlt hz
 have HJB:=lH H
 have HN:=lH hn
 have HY:=lH hy
 have HC:Hid (∀V,Kp W V→Calls Tryz.prog 161 #[.agg #[.slice G1 g.1.length g1, .slice G2 g.2.length g2], .int .i64 (k:Int), .int .i64 z, .int .i64 y] V (aG (lS g.1 g.2 (k:Int) z y) V)):=fun V kV=>Fu G1 G2 g1 g2 g.1 g.2 (k:Int) z y V (H.rg.r.s.kp kV) (H.rg.r.d.kp kV)
 obtain⟨Q3,hQ⟩:=eX (lS g.1 g.2 (k:Int) z y)
 rw[←hQ]at HC⊢
 obtain⟨w1,hw1⟩:=eX ((W.alloc (.cells #[.int .i64 op, .slice P nP cP, .slice (some aq) nums.length d, .slice A1 a.1.length a1, .slice A2 a.2.length a2, .slice B1 b.1.length b1, .slice B2 b.2.length b2, .slice O1 o.1.length o1, .slice O2 o.2.length o2, .slice G1 g.1.length g1, .slice G2 g.2.length g2] 98)).alloc (.cells #[.slice none 0 0, .slice none 0 0] 31))
 obtain⟨K1,BJ,BO⟩:=jw hw1
 have HSS:Hid (∀V,Kp w1 V→SJ V W.heap.size op P nP cP (some aq) A1 A2 B1 B2 O1 O2 G1 G2 d a1 a2 b1 b2 o1 o2 g1 g2 nums a b o g∧V.cell? ⟨aq.block,aq.off+1,none⟩=some (.int .i64 z)):=fun V kV=>⟨lJ (BJ.out.kp kV),Iz.ay y0.out (K1.out.tr kV)⟩
 have HST:Hid (∀V u v,Kp w1 V→SJ ((V.setCell ⟨W.heap.size+1,0,none⟩ u).setCell ⟨W.heap.size+1,1,none⟩ v) W.heap.size op P nP cP (some aq) A1 A2 B1 B2 O1 O2 G1 G2 d a1 a2 b1 b2 o1 o2 g1 g2 nums a b o g∧((V.setCell ⟨W.heap.size+1,0,none⟩ u).setCell ⟨W.heap.size+1,1,none⟩ v).cell? ⟨aq.block,aq.off+1,none⟩=some (.int .i64 z)):=fun V u v kV=>by
  have B2:=((BJ.out.kp kV).other (p:=⟨W.heap.size+1,0,none⟩) (by show W.heap.size≠W.heap.size+1;omega) u).other (p:=⟨W.heap.size+1,1,none⟩) (by show W.heap.size≠W.heap.size+1;omega) v
  have K2:=((K1.out.tr kV).setCell (p:=⟨W.heap.size+1,0,none⟩) (Nat.le_succ _) u).setCell (p:=⟨W.heap.size+1,1,none⟩) (Nat.le_succ _) v
  exact⟨lJ B2,Iz.ay y0.out K2⟩
 have HW:=lH hw1
 clear hw1 H hQ hn hy
 go_enter Tryz.func106,Tryz.ntmps106
 go_wp2_with fail
 rw[←HW.out]
 refine wp_region_held_drew (S:=fun V=>SJ V W.heap.size op P nP cP (some aq) A1 A2 B1 B2 O1 O2 G1 G2 d a1 a2 b1 b2 o1 o2 g1 g2 nums a b o g∧V.cell? ⟨aq.block,aq.off+1,none⟩=some (.int .i64 z)) (by kernel_rfl) (HSS.out _ (Below.drew (Kp.refl _))) (fun hHeld=>?_)
 have X0:Hid (Kp w1 w1.drew):=Below.drew (Kp.refl _)
 generalize w1.drew=V0 at X0 hHeld⊢
 refine tJ 0 (.pointer (some ⟨W.heap.size,9,none⟩)) rfl hHeld<|tJ 1 (.agg #[.slice G1 g.1.length g1, .slice G2 g.2.length g2]) rfl hHeld<|tJ 2 (.agg #[.int .i64 op, .slice P nP cP, .slice (some aq) nums.length d, .slice A1 a.1.length a1, .slice A2 a.2.length a2, .slice B1 b.1.length b1, .slice B2 b.2.length b2, .slice O1 o.1.length o1, .slice O2 o.2.length o2, .slice G1 g.1.length g1, .slice G2 g.2.length g2]) rfl hHeld<|tJ 4 (.pointer (some ⟨W.heap.size,0,none⟩)) rfl hHeld<|tJ 5 (.pointer (some ⟨W.heap.size,2,none⟩)) rfl hHeld<|tJ 6 (.slice (some aq) nums.length d) rfl hHeld<|tJ 7 (.pointer (some ⟨aq.block,aq.off+1,none⟩)) rfl hHeld<|tJ 8 (.int .i64 z) rfl hHeld<|tJ 9 (.agg #[.int .i64 op, .slice P nP cP, .slice (some aq) nums.length d, .slice A1 a.1.length a1, .slice A2 a.2.length a2, .slice B1 b.1.length b1, .slice B2 b.2.length b2, .slice O1 o.1.length o1, .slice O2 o.2.length o2, .slice G1 g.1.length g1, .slice G2 g.2.length g2]) rfl hHeld ?_
 refine rD 3 rfl fun K9_ hK=>?_
 go_simp
 refine(jy (HJB.out.kp (K1.out.tr X0.out)) HN.out).mono ?_;rintro e1 V1 ⟨rfl,k1⟩
 dsimp only
 have X1:=lH (X0.out.tr k1)
 refine hK.out _ _ (HSS.out _ X1.out) fun hHeld=>?_
 clear hK k1
 refine rD 10 rfl fun K9_ hK=>?_
 go_simp
 refine(oh (HJB.out.kp (K1.out.tr X1.out)) HN.out HY.out).mono ?_;rintro e2 V2 ⟨rfl,k2⟩
 dsimp only
 have X2:=lH (X1.out.tr k2)
 refine hK.out _ _ (HSS.out _ X2.out) fun hHeld=>?_
 clear hK k2
 refine rD 11 rfl fun K9_ hK=>?_
 go_simp
 refine(HC.out _ (K1.out.tr X2.out)).mono ?_;rintro e9 V9 ⟨A3,c3,D3,d3,rfl,s3,t3,k9⟩
 dsimp only
 have X9:=lH (X2.out.tr k9)
 have O9:=lH (BO.out.kp X9.out)
 have S3:=lH s3;have T3:=lH t3
 clear k9 s3 t3
 refine hK.out _ _ (HSS.out _ X9.out) fun hHeld=>?_
 clear hK
 refine tJ 12 (.agg #[.slice A3 Q3.1.length c3, .slice D3 Q3.2.1.length d3]) rfl hHeld<|tJ 13 (.int .i64 Q3.2.2) rfl hHeld ?_
 have o0:=O9.out.c0
 have o1:=O9.out.c1
 have f0:=O9.out.f0 0
 have f1:=O9.out.f0 1
 have XX:Hid (Kp W ((V9.setCell ⟨W.heap.size+1,0,none⟩ (.slice A3 Q3.1.length c3)).setCell ⟨W.heap.size+1,1,none⟩ (.slice D3 Q3.2.1.length d3))):=((K1.out.tr X9.out).setCell (p:=⟨W.heap.size+1,0,none⟩) (Nat.le_succ _) _).setCell (p:=⟨W.heap.size+1,1,none⟩) (Nat.le_succ _) _
 have hS4:=HST.out V9 (.slice A3 Q3.1.length c3) (.slice D3 Q3.2.1.length d3) X9.out
 refine rD 14 rfl fun K9_ hK=>?_
 go_simp
 refine hK.out _ _ (hS4) fun hHeld=>?_
 clear hK
 refine rD 15 rfl fun K9_ hK=>?_
 go_simp
 refine hK.out _ _ (hS4) fun hHeld=>?_
 clear hK
 refine wpAnyH_done (by kernel_rfl) ?_ _
 clear hHeld hS4
 go_wp2
 refine bodyPost_ret (v:= .tuple #[.agg #[.slice A3 Q3.1.length c3, .slice D3 Q3.2.1.length d3], .int .i64 Q3.2.2]) (by simp[results,Tryz.results106,go_sem,o0,o1];try rfl) rfl ?_
 exact fin S3.out T3.out O9.out (K1.out.tr X9.out) rfl rfl
end
end Go.Proofs.YtdfknefcgijhmaaGreat.Ez
