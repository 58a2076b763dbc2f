/- The landed vjp: closures over a job. -/
import Derived.Test.YtdfknefcgijhmaaGreatTk
import Derived.Test.YtdfknefcgijhmaaGreatVkB
import Derived.Test.YtdfknefcgijhmaaGreatVkD
set_option maxHeartbeats 16000000
set_option maxRecDepth 100000
set_option linter.unusedVariables false
set_option linter.unusedSimpArgs false
namespace Go.Proofs.YtdfknefcgijhmaaGreat.Ez
open Go.RowKit Go.Proofs.ShM Go.Proofs.GrM Go.Proofs.InM Go.Proofs.ImM Go.Proofs.cF Go.Proofs.EvM
def Kc(W W':World):Prop:=∀(k:Nat) (c:Array Value) (t:TypeId) (f:Nat×Nat),W.heap[k]?=some (.cells c t f)→W'.heap[k]?=some (.cells c t f)
theorem Kc.kp{W W':World}(h:Kp W W'):Kc W W':=fun k c t f e=>(h.block k (Array.getElem?_eq_some_iff.1 e).1).trans e
theorem Kc.tr{W V U:World}(h:Kc W V)(k:Kc V U):Kc W U:=fun j c t f e=>k j c t f (h j c t f e)
theorem St{r:Tn}{W w:World}{x y p:Nat}{A B:Option Addr}{c d:Nat}(hp:W.heap.size≤p)(S:Sl w A c r.1)(T:Sl w B d r.2.1)(O:Bk w p none 0 0 none 0 0)(K:Kp W w)(hx:x=r.1.length)(hy:y=r.2.1.length):
  aG r W (.returned (.tuple #[.agg #[.slice A x c, .slice B y d], .int .i64 r.2.2])) ((w.setCell ⟨p,0,none⟩ (.slice A x c)).setCell ⟨p,1,none⟩ (.slice B y d)):=by
 subst hx hy
 exact⟨A,c,B,d,rfl,S.past O _ _,T.past O _ _,(K.setCell (p:=⟨p,0,none⟩) hp _).setCell (p:=⟨p,1,none⟩) hp _⟩
def Ru(W0 V:World)(v:Value)(C:Prop)(r:Tn):Prop:=
 ∃f L,v= .func (.func f) #[] L∧(∀args W,(callFunc f args).run Tryz.prog W= .ok (.enter f args) W)∧∀V',C→Kp W0 V'→Kc V V'→Calls Tryz.prog f L V' (aG r V')
theorem Ru.kc{W0 V V':World}{v:Value}{C:Prop}{r:Tn}(h:Ru W0 V v C r)(k:Kc V V'):Ru W0 V' v C r:=by
 obtain⟨f,L,e,hc,h⟩:=h
 exact⟨f,L,e,hc,fun U c k0 k1=>h U c k0 (k.tr k1)⟩
section
variable{W:World}{op:Int}{P Q A1 A2 B1 B2 O1 O2 G1 G2:Option Addr}{nP cP d a1 a2 b1 b2 o1 o2 g1 g2:Nat}{nums:List Int}{a b o g:T}
theorem JI{m bc bj:Nat}{q:Tn}(hcf:∀args W,(callFunc m args).run Tryz.prog W= .ok (.enter m args) W)(hc:Ez.Bx W bc [.func (.func m) #[] #[]] 139)(hj:Ez.Bx W bj [.int .i64 op, .slice P nP cP, .slice Q nums.length d, .slice A1 a.1.length a1, .slice A2 a.2.length a2, .slice B1 b.1.length b1, .slice B2 b.2.length b2, .slice O1 o.1.length o1, .slice O2 o.2.length o2, .slice G1 g.1.length g1, .slice G2 g.2.length g2] 98)
  (hm:∀V,Kp W V→Calls Tryz.prog m #[.agg #[.int .i64 op, .slice P nP cP, .slice Q nums.length d, .slice A1 a.1.length a1, .slice A2 a.2.length a2, .slice B1 b.1.length b1, .slice B2 b.2.length b2, .slice O1 o.1.length o1, .slice O2 o.2.length o2, .slice G1 g.1.length g1, .slice G2 g.2.length g2]] V (aG q V)):Calls Tryz.prog 89 #[.pointer (some ⟨bc,0,none⟩), .pointer (some ⟨bj,0,none⟩)] W (aG q W):=by
 have HM:=lH hm
 have BO:Hid (Bk (W.alloc (.cells #[.slice none 0 0, .slice none 0 0] 31)) W.heap.size none 0 0 none 0 0):=Bk.new rfl
 have K1:Hid (Kp W (W.alloc (.cells #[.slice none 0 0, .slice none 0 0] 31))):=Kp.af _ _
 have HJ:=lH (hj.kp K1.out)
 have z0:=(hc.kp K1.out).cell (j:=0) rfl
 have zj0:=HJ.out.cell (j:=0) rfl
 have zj1:=HJ.out.cell (j:=1) rfl
 have zj2:=HJ.out.cell (j:=2) rfl
 have zj3:=HJ.out.cell (j:=3) rfl
 have zj4:=HJ.out.cell (j:=4) rfl
 have zj5:=HJ.out.cell (j:=5) rfl
 have zj6:=HJ.out.cell (j:=6) rfl
 have zj7:=HJ.out.cell (j:=7) rfl
 have zj8:=HJ.out.cell (j:=8) rfl
 have zj9:=HJ.out.cell (j:=9) rfl
 have Qi:=HJ.out.cell (j:=10) rfl
 clear hm hc hj
 go_enter Tryz.func89,Tryz.ntmps89
 go_wp2_with fail
 refine(HM.out _ K1.out).mono ?_;rintro e2 w2 ⟨A3,c3,D3,d3,rfl,s3,t3,k2⟩
 have K2:=lH (K1.out.tr k2)
 have O2:=lH (BO.out.kp k2)
 have S3:=lH s3;have T3:=lH t3
 clear k2 s3 t3 z0 zj0 zj1 zj2 zj3 zj4 zj5 zj6 zj7 zj8 zj9 Qi
 have o0:=O2.out.c0
 have o1:=O2.out.c1
 have f0:=O2.out.f0 0
 have f1:=O2.out.f0 1
 dsimp only
 go_wp2
 refine bodyPost_ret (v:= .tuple #[.agg #[.slice A3 q.1.length c3, .slice D3 q.2.1.length d3], .int .i64 q.2.2]) (by simp[results,Tryz.results89,go_sem,o0,o1];try rfl) rfl ?_
 exact St (Nat.le_refl _) S3.out T3.out O2.out K2.out rfl rfl
theorem CR{m bc bj ba:Nat}{q:Tn}{S D:Option Addr}{cs cd nd:Nat}{s:List Int}(hcf:∀args W,(callFunc m args).run Tryz.prog W= .ok (.enter m args) W)(hc:Ez.Bx W bc [.func (.func m) #[] #[]] 139)(hj:Ez.Bx W bj [.int .i64 op, .slice P nP cP, .slice Q nums.length d, .slice A1 a.1.length a1, .slice A2 a.2.length a2, .slice B1 b.1.length b1, .slice B2 b.2.length b2, .slice O1 o.1.length o1, .slice O2 o.2.length o2, .slice G1 g.1.length g1, .slice G2 g.2.length g2] 98)
  (ha:Bk W ba S s.length cs D nd cd)(hs:Rd W S s)(hi:bN q.2.1)(hm:∀V,Kp W V→Calls Tryz.prog m #[.agg #[.int .i64 op, .slice P nP cP, .slice Q nums.length d, .slice A1 a.1.length a1, .slice A2 a.2.length a2, .slice B1 b.1.length b1, .slice B2 b.2.length b2, .slice O1 o.1.length o1, .slice O2 o.2.length o2, .slice G1 g.1.length g1, .slice G2 g.2.length g2]] V (aG q V)):
  Calls Tryz.prog 91 #[.pointer (some ⟨bc,0,none⟩), .pointer (some ⟨bj,0,none⟩), .pointer (some ⟨ba,0,none⟩)] W (aG (cG q s) W):=by
 have HM:=lH hm
 have HF:Hid (∀V C E c e,Kp W V→Rd V C q.1→Rd V E q.2.1→Calls Tryz.prog 92 #[.agg #[.slice C q.1.length c, .slice E q.2.1.length e], .slice S s.length cs] V (aG (dw q.1 q.2.1 s) V)):=fun V C E c e kV h1 h2=>G5 C E S c e cs q.1 q.2.1 s V h1 h2 (hs.kp kV) hi
 have BO:Hid (Bk (W.alloc (.cells #[.slice none 0 0, .slice none 0 0] 31)) W.heap.size none 0 0 none 0 0):=Bk.new rfl
 have K1:Hid (Kp W (W.alloc (.cells #[.slice none 0 0, .slice none 0 0] 31))):=Kp.af _ _
 have HJ:=lH (hj.kp K1.out)
 have HA:=lH (ha.kp K1.out)
 have z0:=(hc.kp K1.out).cell (j:=0) rfl
 have zj0:=HJ.out.cell (j:=0) rfl
 have zj1:=HJ.out.cell (j:=1) rfl
 have zj2:=HJ.out.cell (j:=2) rfl
 have zj3:=HJ.out.cell (j:=3) rfl
 have zj4:=HJ.out.cell (j:=4) rfl
 have zj5:=HJ.out.cell (j:=5) rfl
 have zj6:=HJ.out.cell (j:=6) rfl
 have zj7:=HJ.out.cell (j:=7) rfl
 have zj8:=HJ.out.cell (j:=8) rfl
 have zj9:=HJ.out.cell (j:=9) rfl
 have Qi:=HJ.out.cell (j:=10) rfl
 clear hm hc hj ha hs hi
 by_cases h0:q.2.2=0
 ·have hv:cG q s=dw q.1 q.2.1 s:=if_pos h0
  rw[hv]
  obtain⟨Q3,hQ⟩:=eX (dw q.1 q.2.1 s)
  rw[←hQ]at HF⊢
  have H0:=lH h0
  clear hv hQ h0
  go_enter Tryz.func91,Tryz.ntmps91
  go_wp2_with fail
  refine(HM.out _ K1.out).mono ?_;rintro e2 w2 ⟨A2',c2',D2',d2',rfl,s2,t2,k2⟩
  obtain⟨w3,hw3⟩:=eX (w2.alloc (.cells #[.slice A2' q.1.length c2', .slice D2' q.2.1.length d2'] 31))
  have kk:Kp w2 w3:=by rw[hw3];exact Kp.af _ _
  have F3:Hid (Bk w3 w2.heap.size A2' q.1.length c2' D2' q.2.1.length d2'):=by rw[hw3];exact Bk.new rfl
  have K3:=lH ((K1.out.tr k2).tr kk)
  have O3:=lH (BO.out.kp (k2.tr kk))
  have HA3:=lH (HA.out.kp (k2.tr kk))
  have HW3:=lH hw3
  clear z0 zj0 zj1 zj2 zj3 zj4 zj5 zj6 zj7 zj8 zj9 Qi
  rw[H0.out]
  have HF3:=lH (HF.out w3 A2' D2' c2' d2' K3.out (s2.rd.kp kk) (t2.rd.kp kk))
  have y0:=HA3.out.c0
  have y1:=F3.out.c0
  have y2:=F3.out.c1
  clear hw3 kk k2 s2 t2
  rw[HW3.out]at y0 y1 y2
  dsimp only
  go_wp2_with fail
  rw[←HW3.out]
  refine HF3.out.mono ?_;rintro e4 w4 ⟨A3,c3,D3,d3,rfl,s3,t3,k4⟩
  have K4:=lH (K3.out.tr k4)
  have O4:=lH (O3.out.kp k4)
  have S3:=lH s3;have T3:=lH t3
  clear k4 s3 t3 y0 y1 y2
  have o0:=O4.out.c0
  have o1:=O4.out.c1
  have f0:=O4.out.f0 0
  have f1:=O4.out.f0 1
  dsimp only
  go_wp2
  refine bodyPost_ret (v:= .tuple #[.agg #[.slice A3 Q3.1.length c3, .slice D3 Q3.2.1.length d3], .int .i64 Q3.2.2]) (by simp[results,Tryz.results91,go_sem,o0,o1];try rfl) rfl ?_
  exact St (Nat.le_refl _) S3.out T3.out O4.out K4.out rfl rfl
 ·have hv:cG q s=([],[],q.2.2):=if_neg h0
  rw[hv]
  have H0:(q.2.2 !=0)=true:=by simpa using h0
  clear hv h0
  go_enter Tryz.func91,Tryz.ntmps91
  go_wp2_with fail
  refine(HM.out _ K1.out).mono ?_;rintro e2 w2 ⟨A2',c2',D2',d2',rfl,s2,t2,k2⟩
  obtain⟨w3,hw3⟩:=eX (w2.alloc (.cells #[.slice A2' q.1.length c2', .slice D2' q.2.1.length d2'] 31))
  have kk:Kp w2 w3:=by rw[hw3];exact Kp.af _ _
  have F3:Hid (Bk w3 w2.heap.size A2' q.1.length c2' D2' q.2.1.length d2'):=by rw[hw3];exact Bk.new rfl
  have K3:=lH ((K1.out.tr k2).tr kk)
  have O3:=lH (BO.out.kp (k2.tr kk))
  have HA3:=lH (HA.out.kp (k2.tr kk))
  have HW3:=lH hw3
  clear z0 zj0 zj1 zj2 zj3 zj4 zj5 zj6 zj7 zj8 zj9 Qi
  clear hw3 kk k2 s2 t2
  have o0:=O3.out.c0
  have o1:=O3.out.c1
  have f0:=O3.out.f0 0
  have f1:=O3.out.f0 1
  rw[HW3.out]at o0 o1 f0 f1
  dsimp only
  go_wp2
  rw[←HW3.out]at o0 o1⊢
  refine bodyPost_ret (v:= .tuple #[.agg #[.slice none 0 0, .slice none 0 0], .int .i64 q.2.2]) (by simp[results,Tryz.results91,go_sem,o0,o1];try rfl) rfl ?_
  exact St (r:=([],[],q.2.2)) (Nat.le_refl _) (Sl.bU _) (Sl.bU _) O3.out K3.out rfl rfl
theorem fN{m bj:Nat}{W0:World}{q:Tn}{C:Prop}(hcf:∀args W,(callFunc m args).run Tryz.prog W= .ok (.enter m args) W)(hj:Ez.Bx W0 bj [.int .i64 op, .slice P nP cP, .slice Q nums.length d, .slice A1 a.1.length a1, .slice A2 a.2.length a2, .slice B1 b.1.length b1, .slice B2 b.2.length b2, .slice O1 o.1.length o1, .slice O2 o.2.length o2, .slice G1 g.1.length g1, .slice G2 g.2.length g2] 98)(hm:C→∀V,Kp W0 V→Calls Tryz.prog m #[.agg #[.int .i64 op, .slice P nP cP, .slice Q nums.length d, .slice A1 a.1.length a1, .slice A2 a.2.length a2, .slice B1 b.1.length b1, .slice B2 b.2.length b2, .slice O1 o.1.length o1, .slice O2 o.2.length o2, .slice G1 g.1.length g1, .slice G2 g.2.length g2]] V (aG q V)):
  Calls Tryz.prog 88 #[.func (.func m) #[] #[], .pointer (some ⟨bj,0,none⟩)] W fun e V=>∃v,e= .returned v∧Ru W0 V v C q∧Kp W V:=by
 have hmf:∀(fn:Fn) (first cap:Array Value) (w:World),(Instr.makeFunc fn first cap).run Tryz.prog w= .ok (.func fn first cap) w:=fun _ _ _ _=>rfl
 have HR:Hid (Ru W0 (W.alloc (.cells #[.func (.func m) #[] #[]] 139)) (.func (.func 89) #[] #[.pointer (some ⟨W.heap.size,0,none⟩), .pointer (some ⟨bj,0,none⟩)]) C q):=
  ⟨89,_,rfl,fun args W=>MuLone.run_callFunc_enter Tryz.func89 (by kernel_rfl) rfl args W,fun V' c kV kg=>JI hcf (kg _ _ _ _ (Ez.Bx.new (cs:=[.func (.func m) #[] #[]]) rfl)) (hj.kp kV) fun U kU=>hm c U (kV.tr kU)⟩
 clear hj hm
 go_enter Tryz.func88,Tryz.ntmps88
 go_wp2
 refine bodyPost_ret (v:= .func (.func 89) #[] #[.pointer (some ⟨W.heap.size,0,none⟩), .pointer (some ⟨bj,0,none⟩)]) (by simp[results,Tryz.results88,go_sem];try rfl) rfl ?_
 exact⟨_,rfl,HR.out,Kp.af _ _⟩
theorem fT{m bj:Nat}{W0:World}{q:Tn}{C:Prop}{S D:Option Addr}{cs cd nd:Nat}{s:List Int}(hcf:∀args W,(callFunc m args).run Tryz.prog W= .ok (.enter m args) W)(hj:Ez.Bx W0 bj [.int .i64 op, .slice P nP cP, .slice Q nums.length d, .slice A1 a.1.length a1, .slice A2 a.2.length a2, .slice B1 b.1.length b1, .slice B2 b.2.length b2, .slice O1 o.1.length o1, .slice O2 o.2.length o2, .slice G1 g.1.length g1, .slice G2 g.2.length g2] 98)(hs:Rd W0 S s)(hi:bN q.2.1)(hm:C→∀V,Kp W0 V→Calls Tryz.prog m #[.agg #[.int .i64 op, .slice P nP cP, .slice Q nums.length d, .slice A1 a.1.length a1, .slice A2 a.2.length a2, .slice B1 b.1.length b1, .slice B2 b.2.length b2, .slice O1 o.1.length o1, .slice O2 o.2.length o2, .slice G1 g.1.length g1, .slice G2 g.2.length g2]] V (aG q V)):
  Calls Tryz.prog 90 #[.func (.func m) #[] #[], .agg #[.slice S s.length cs, .slice D nd cd], .pointer (some ⟨bj,0,none⟩)] W fun e V=>∃v,e= .returned v∧Ru W0 V v C (cG q s)∧Kp W V:=by
 have hmf:∀(fn:Fn) (first cap:Array Value) (w:World),(Instr.makeFunc fn first cap).run Tryz.prog w= .ok (.func fn first cap) w:=fun _ _ _ _=>rfl
 have HR:Hid (Ru W0 ((W.alloc (.cells #[.func (.func m) #[] #[]] 139)).alloc (.cells #[.slice S s.length cs, .slice D nd cd] 31)) (.func (.func 91) #[] #[.pointer (some ⟨W.heap.size,0,none⟩), .pointer (some ⟨bj,0,none⟩), .pointer (some ⟨W.heap.size+1,0,none⟩)]) C (cG q s)):=
  ⟨91,_,rfl,fun args W=>MuLone.run_callFunc_enter Tryz.func91 (by kernel_rfl) rfl args W,fun V' c kV kg=>CR (cs:=cs) (D:=D) (nd:=nd) (cd:=cd) hcf (kg _ _ _ _ ((Ez.Bx.new (cs:=[.func (.func m) #[] #[]]) rfl).kp (Kp.af _ _))) (hj.kp kV)
   (kg _ _ _ _ (Bk.new (by rw[World.size_alloc]))) (hs.kp kV) hi fun U kU=>hm c U (kV.tr kU)⟩
 clear hj hm hs hi
 go_enter Tryz.func90,Tryz.ntmps90
 go_wp2
 refine bodyPost_ret (v:= .func (.func 91) #[] #[.pointer (some ⟨W.heap.size,0,none⟩), .pointer (some ⟨bj,0,none⟩), .pointer (some ⟨W.heap.size+1,0,none⟩)]) (by simp[results,Tryz.results90,go_sem];try rfl) rfl ?_
 exact⟨_,rfl,HR.out,(Kp.af _ _).tr (Kp.af _ _)⟩
end
end Go.Proofs.YtdfknefcgijhmaaGreat.Ez
