/- The landed tape: whether a reel goes on; the next live one; the steps there are. -/
import Derived.Test.YtokeebkaamjliaaGreatEvZi
set_option maxHeartbeats 16000000
set_option maxRecDepth 100000
set_option linter.unusedVariables false
set_option linter.unusedSimpArgs false
namespace Go.Proofs
section
variable{P:Program}{md:Region.Mode}{ops:Array Oper}{Q:Exit->Act->World->Prop}{S:World->Prop}{listed:Array Bool}{a:Act}{w:World}{fuel:Nat}{oi:Oper}
/-- One that stands behind '&&' or '||' and isn't asked for. -/
theorem tU(i:Nat)(hi:ops[i]?=some oi)(hS:S w)(h:wpAnyH P md ops Q S fuel (listed.setIfInBounds i true) (a.put oi.dst undef) w)
    (hs:Region.noSelect ops=true:=by kernel_rfl)(hf:Region.free md ops listed i=true:=by kernel_rfl)(hr:(Region.ready md ops listed).contains i=true:=by kernel_rfl)
    (hw:Region.wanted oi (yielded ops a.tmps)=false:=by kernel_rfl)(hQ:∀c a w,Q (.panic c) (a.put oi.dst undef) w->Q (.panic c) a w:=by exact fun _ _ _ h=>h):wpAnyH P md ops Q S (fuel+1) listed a w:=
  acw hi hs hf hr hQ (Or.inr ⟨hw,rfl⟩) hS h
end
end Go.Proofs
namespace Go.Proofs.YtokeebkaamjliaaGreat.Ez
open RowKit ShM GrM InM ImM EvM
/-- Does it go on? -/
def goB(t:Tpe):Bool:=aK t.l&&(decide (0<=t.at_)&&(decide (t.at_<(t.l.length:Int))&&(if t.phase=1 then decide ((t.vals.length:Int)=t.at_)else if t.phase=2 then decide (t.vals.length=t.l.length)&&(decide (t.hang.length=t.l.length)&&decide (t.fD.length=8))else false)))
section
variable{B b:Nat}{W:World}{G:Value}{P:DV}{e:Nat}{Q:DV}{f:Nat}{R V H D:Value}{t:Tpe}
theorem YQ(W:World):CJ 19 #[] W fun e w'=>e= .returned (.agg #[.nilFunc, .func (.func 28) #[] #[], .func (.func 29) #[] #[]])/\Kp W w':=by
 go_enter Tryz.func19,Tryz.ntmps19;go_wp2;refine aaX (v:= .agg #[.nilFunc, .func (.func 28) #[] #[], .func (.func 29) #[] #[]]) (by simp[results,Tryz.results19,go_sem];try rfl) rfl ?_;refine⟨rfl,?_⟩;exact Kp.af _ _
theorem ZI(l:List Nd):(fW l).length<=l.length:=by
 cases hc:aK l with
 |false=>unfold fW;rw[hc];simp
 |true=>
  rw[<-EvM.Xb hc];unfold upTo;have h1:=List.length_filter_le (fun i=>(fW l).contains i) ((List.range l.length).map fun i:Nat=>(i:Int))
  rwa [abA,abM]at h1
theorem ZR(h:Rl B b W G P e Q f R V H D t)(hsm:dV t.l)(node:Int):
 CJ 39 #[pX b 0, .int .i64 node] W fun e w'=>e= .returned (.int .i64 (tw (fW t.l) node))/\Kp W w':=by
 obtain⟨A,c,rfl,hg,hc1,hc2⟩:=h.ts.g.form;have x0:=h.bx.cell (j:=0) rfl;obtain⟨lv,hlv⟩:=eX (fW t.l);have HL:Hid (CJ 68 #[.slice A t.l.length c] W (Mz lv W)):=Gz.Tz A c _ t.l lv W (hg.mono (Kp.refl _) fun _ _ _=>trivial) hc1 hc2 rfl hlv.symm;have hll:lv.length<=1000:=by rw[hlv];exact ab3 (ZI _) (by have:=hsm.1;omega)
 rw[<-hlv];clear h hg hc1 hc2 hlv;go_enter Tryz.func39,Tryz.ntmps39;go_wp2_with fail;refine HL.out.mono ?_;rintro e1 w1 ⟨A1,c1,rfl,o1,k1⟩;have K1:=lH k1;have HR:=lH o1.sl.rd;clear k1 o1 x0;go_wp2_with fail
 go_loopw [5,15] (fun v i wx=>∃k:Nat,v= .int .i64 ((lv.take k).foldl (fun n x=>if x<node then x else n) (-1))/\i= .int .i64 (k:Int)/\Hid (k<=lv.length)/\Hid (Kp w1 wx)) (fun _ i _=>lv.length-(intOf i).toNat)
 case atStart=>exact⟨0,rfl,rfl,aa6 _,Kp.refl _⟩
 case round=>
  obtain⟨k,rfl,rfl,hk,hK⟩:=hrel;by_cases hj:k<lv.length
  · obtain⟨ad,x,rfl,hlt,hx,hc⟩:=(HR.out.kp hK.out).at_ hj
    have hj':(k:Int)<(lv.length:Int):=by omega
    have hk0:(0:Int)<=(k:Int):=by omega
    have HT:Hid ((lv.take (k+1)).foldl (fun n x=>if x<node then x else n) (-1)=if x<node then x else(lv.take k).foldl (fun n x=>if x<node then x else n) (-1)):=by
     show _=_;rw[cr hx,List.foldl_append];rfl
    generalize (lv.take k).foldl (fun n x=>if x<node then x else n) (-1)=z at HT⊢;clear hx;by_cases hxn:x<node
    · rw[aaW hxn]at HT
      go_wp2;go_roundw
      case rel=>exact⟨k+1,by rw[HT.out],by go_num,(by show k+1<=lv.length;omega),hK.out⟩
      case measure=>simp[intOf];omega
    · rw[aaT hxn]at HT
      go_wp2;go_roundw
      case rel=>exact⟨k+1,by rw[HT.out],by go_num,(by show k+1<=lv.length;omega),hK.out⟩
      case measure=>simp[intOf];omega
  · have hj':¬(k:Int)<(lv.length:Int):=by omega
    have HE:Hid ((lv.take k).foldl (fun n x=>if x<node then x else n) (-1)=tw lv node):=by
     show _=_;rw[abS oM];rfl
    go_wp2;refine aaX (v:= .int .i64 ((lv.take k).foldl (fun n x=>if x<node then x else n) (-1))) (by simp[results,Tryz.results39,go_sem];try rfl) rfl ?_;exact⟨by rw[HE.out],K1.out.tr hK.out⟩
theorem ZL(h:Rl B b W G P e Q f R V H D t)(hc:aK t.l=false):CJ 18 #[pX b 0] W fun e w'=>e= .returned (.bool false)/\Kp W w':=by
 obtain⟨A,c,rfl,hg,hc1,hc2⟩:=h.ts.g.form;have HC:Hid (∀V,Kp W V->CJ 26 #[.slice A t.l.length c] V fun e w'=>e= .returned (.bool false)/\Kp V w'):=fun V kV=>Gz.qH A c _ t.l false V ((hg.mono (Kp.refl _) fun _ _ _=>trivial).kp kV) hc1 hc2 rfl hc
 have HSS:Hid (∀U,Kp W U->U.cell? ⟨b,0,none⟩=some (.slice A t.l.length c)/\U.cell? ⟨b,5,none⟩=some (.int .i64 t.at_)):=fun U kU=>⟨(h.bx.kp kU).cell (j:=0) rfl,(h.bx.kp kU).cell (j:=5) rfl⟩
 have hdr:Hid (Kp W W.drew):=aa3 (Kp.refl _);clear h hg hc hc1 hc2;go_enter Tryz.func18,Tryz.ntmps18;go_wp2_with fail;refine aa8 (S:=(fun U=>U.cell? ⟨b,0,none⟩=some (.slice A t.l.length c)/\U.cell? ⟨b,5,none⟩=some (.int .i64 t.at_))) kM (HSS.out _ hdr.out) (fun qJ=>?_);refine tK 0 (pX b 0) rfl qJ ?_;refine tK 1 (pX b 0) rfl qJ ?_;refine tK 2 (pX b 0) rfl qJ ?_;refine tK 3 (pX b 0) rfl qJ ?_;refine tK 4 (.slice A t.l.length c) rfl qJ ?_;refine rD 5 rfl fun _ hK=>?_
 go_simp;refine(HC.out _ hdr.out).mono ?_;rintro e1 w1 ⟨rfl,k1⟩;have K1:=lH ((hdr.out).tr k1);have hS1:=HSS.out _ K1.out;clear k1;dsimp only;refine hK.out _ _ hS1 fun qJ=>?_
 clear hK;refine tK 6 (.bool true) rfl qJ ?_;refine tK 7 (.bool true) rfl qJ ?_;refine tU 8 rfl qJ ?_;refine tU 9 rfl qJ ?_;refine tU 10 rfl qJ ?_;refine tU 11 rfl qJ ?_;refine tU 12 rfl qJ ?_;refine tU 13 rfl qJ ?_;refine tK 14 (.bool true) rfl qJ ?_;refine tK 15 (.bool true) rfl qJ ?_;refine tU 16 rfl qJ ?_;refine tU 17 rfl qJ ?_;refine tU 18 rfl qJ ?_;refine tU 19 rfl qJ ?_;refine tU 20 rfl qJ ?_;refine tU 21 rfl qJ ?_;refine tU 22 rfl qJ ?_;refine tU 23 rfl qJ ?_;refine tU 24 rfl qJ ?_;refine tU 25 rfl qJ ?_;refine tU 26 rfl qJ ?_;refine tU 27 rfl qJ ?_;refine tK 28 (.bool true) rfl qJ ?_;refine abp kM ?_ _;clear qJ hS1;go_simp;go_wp2;refine aaX (v:= .bool false) (by simp[results,Tryz.results18,go_sem];try rfl) rfl ?_;exact⟨rfl,K1.out⟩
theorem Zr(h:Rl B b W G P e Q f R V H D t)(hc:aK t.l=true)(ha:t.at_<0):CJ 18 #[pX b 0] W fun e w'=>e= .returned (.bool false)/\Kp W w':=by
 obtain⟨A,c,rfl,hg,hc1,hc2⟩:=h.ts.g.form;have HC:Hid (∀V,Kp W V->CJ 26 #[.slice A t.l.length c] V fun e w'=>e= .returned (.bool true)/\Kp V w'):=fun V kV=>Gz.qH A c _ t.l true V ((hg.mono (Kp.refl _) fun _ _ _=>trivial).kp kV) hc1 hc2 rfl hc
 have HSS:Hid (∀U,Kp W U->U.cell? ⟨b,0,none⟩=some (.slice A t.l.length c)/\U.cell? ⟨b,5,none⟩=some (.int .i64 t.at_)):=fun U kU=>⟨(h.bx.kp kU).cell (j:=0) rfl,(h.bx.kp kU).cell (j:=5) rfl⟩
 have hdr:Hid (Kp W W.drew):=aa3 (Kp.refl _);clear h hg hc hc1 hc2;go_enter Tryz.func18,Tryz.ntmps18;go_wp2_with fail;refine aa8 (S:=(fun U=>U.cell? ⟨b,0,none⟩=some (.slice A t.l.length c)/\U.cell? ⟨b,5,none⟩=some (.int .i64 t.at_))) kM (HSS.out _ hdr.out) (fun qJ=>?_);refine tK 0 (pX b 0) rfl qJ ?_;refine tK 1 (pX b 0) rfl qJ ?_;refine tK 2 (pX b 0) rfl qJ ?_;refine tK 3 (pX b 0) rfl qJ ?_;refine tK 4 (.slice A t.l.length c) rfl qJ ?_;refine rD 5 rfl fun _ hK=>?_
 go_simp;refine(HC.out _ hdr.out).mono ?_;rintro e1 w1 ⟨rfl,k1⟩;have K1:=lH ((hdr.out).tr k1);have hS1:=HSS.out _ K1.out;clear k1;dsimp only;refine hK.out _ _ hS1 fun qJ=>?_
 clear hK;refine tK 6 (.bool false) rfl qJ ?_;refine tK 7 (.bool false) rfl qJ ?_;refine tK 8 (pX b 0) rfl qJ ?_;refine tK 9 (pX b 0) rfl qJ ?_;refine tK 10 (pX b 0) rfl qJ ?_;refine tK 11 (pX b 5) rfl qJ ?_;refine tK 12 (.int .i64 t.at_) rfl qJ ?_;refine tK 13 (.bool true) rfl qJ ?_;refine tK 14 (.bool true) rfl qJ ?_;refine tK 15 (.bool true) rfl qJ ?_;refine tU 16 rfl qJ ?_;refine tU 17 rfl qJ ?_;refine tU 18 rfl qJ ?_;refine tU 19 rfl qJ ?_;refine tU 20 rfl qJ ?_;refine tU 21 rfl qJ ?_;refine tU 22 rfl qJ ?_;refine tU 23 rfl qJ ?_;refine tU 24 rfl qJ ?_;refine tU 25 rfl qJ ?_;refine tU 26 rfl qJ ?_;refine tU 27 rfl qJ ?_;refine tK 28 (.bool true) rfl qJ ?_;refine abp kM ?_ _;clear qJ hS1;go_simp;go_wp2;refine aaX (v:= .bool false) (by simp[results,Tryz.results18,go_sem];try rfl) rfl ?_;exact⟨rfl,K1.out⟩
theorem ZM(h:Rl B b W G P e Q f R V H D t)(hc:aK t.l=true)(ha:0<=t.at_):CJ 18 #[pX b 0] W fun e w'=>e= .returned (.bool (decide (t.at_<(t.l.length:Int))&&(if t.phase=1 then decide ((t.vals.length:Int)=t.at_)else if t.phase=2 then decide (t.vals.length=t.l.length)&&(decide (t.hang.length=t.l.length)&&decide (t.fD.length=8))else false)))/\Kp W w':=by
 obtain⟨A0,c00,R',d,V',vc,H',hc',D',dc,hG0,rfl,rfl,rfl,rfl⟩:=h.open_;clear hG0;obtain⟨A,c,rfl,hg,hc1,hc2⟩:=h.ts.g.form;have HC:Hid (∀V,Kp W V->CJ 26 #[.slice A t.l.length c] V fun e w'=>e= .returned (.bool true)/\Kp V w'):=fun V kV=>Gz.qH A c _ t.l true V ((hg.mono (Kp.refl _) fun _ _ _=>trivial).kp kV) hc1 hc2 rfl hc
 have HSS:Hid (∀U,Kp W U->U.cell? ⟨b,0,none⟩=some (.slice A t.l.length c)/\U.cell? ⟨b,5,none⟩=some (.int .i64 t.at_)):=fun U kU=>⟨(h.bx.kp kU).cell (j:=0) rfl,(h.bx.kp kU).cell (j:=5) rfl⟩
 have hdr:Hid (Kp W W.drew):=aa3 (Kp.refl _);have HSX:Hid (∀U,Kp W U->U.cell? ⟨b,4,none⟩=some (.int .i64 t.phase)/\U.cell? ⟨b,5,none⟩=some (.int .i64 t.at_)/\U.cell? ⟨b,6,none⟩=some (.slice V' t.vals.length vc)/\U.cell? ⟨b,7,none⟩=some (.slice H' t.hang.length hc')/\U.cell? ⟨b,8,none⟩=some (.slice D' t.fD.length dc)/\U.cell? ⟨b,0,none⟩=some (.slice A t.l.length c)):=fun U kU=>⟨(h.bx.kp kU).cell (j:=4) rfl,(h.bx.kp kU).cell (j:=5) rfl,(h.bx.kp kU).cell (j:=6) rfl,(h.bx.kp kU).cell (j:=7) rfl,(h.bx.kp kU).cell (j:=8) rfl,(h.bx.kp kU).cell (j:=0) rfl⟩
 clear h hg hc hc1 hc2;go_enter Tryz.func18,Tryz.ntmps18;go_wp2_with fail;refine aa8 (S:=(fun U=>U.cell? ⟨b,0,none⟩=some (.slice A t.l.length c)/\U.cell? ⟨b,5,none⟩=some (.int .i64 t.at_))) kM (HSS.out _ hdr.out) (fun qJ=>?_);refine tK 0 (pX b 0) rfl qJ ?_;refine tK 1 (pX b 0) rfl qJ ?_;refine tK 2 (pX b 0) rfl qJ ?_;refine tK 3 (pX b 0) rfl qJ ?_;refine tK 4 (.slice A t.l.length c) rfl qJ ?_;refine rD 5 rfl fun _ hK=>?_
 go_simp;refine(HC.out _ hdr.out).mono ?_;rintro e1 w1 ⟨rfl,k1⟩;have K1:=lH ((hdr.out).tr k1);have hS1:=HSS.out _ K1.out;clear k1;dsimp only;refine hK.out _ _ hS1 fun qJ=>?_
 clear hK;refine tK 6 (.bool false) rfl qJ ?_;refine tK 7 (.bool false) rfl qJ ?_;refine tK 8 (pX b 0) rfl qJ ?_;refine tK 9 (pX b 0) rfl qJ ?_;refine tK 10 (pX b 0) rfl qJ ?_;refine tK 11 (pX b 5) rfl qJ ?_;refine tK 12 (.int .i64 t.at_) rfl qJ ?_;refine tK 13 (.bool false) rfl qJ ?_;refine tK 14 (.bool false) rfl qJ ?_;refine tK 15 (.bool false) rfl qJ ?_;refine tK 16 (pX b 0) rfl qJ ?_;refine tK 17 (pX b 0) rfl qJ ?_;refine tK 18 (pX b 0) rfl qJ ?_;refine tK 19 (pX b 5) rfl qJ ?_;refine tK 20 (.int .i64 t.at_) rfl qJ ?_;refine tK 21 (pX b 0) rfl qJ ?_;refine tK 22 (pX b 0) rfl qJ ?_;refine tK 23 (pX b 0) rfl qJ ?_;refine tK 24 (pX b 0) rfl qJ ?_;refine tK 25 (.slice A t.l.length c) rfl qJ ?_;refine tK 26 (.int .i64 (t.l.length:Int)) rfl qJ ?_;refine tK 27 (.bool (decide ((t.l.length:Int)<=t.at_))) rfl qJ ?_;refine tK 28 (.bool (decide ((t.l.length:Int)<=t.at_))) rfl qJ ?_;refine abp kM ?_ _;clear qJ hS1;go_simp;by_cases hl:t.at_<(t.l.length:Int)
 · have hl2:¬(t.l.length:Int)<=t.at_:=by omega
   have e0:decide ((t.l.length:Int)<=t.at_)=false:=abQ hl2;have e1:decide (t.at_<(t.l.length:Int))=true:=abJ hl;simp only[e0];obtain⟨c4,c5,c6,c7,c8,c0⟩:=HSX.out _ K1.out;by_cases hp1:t.phase=1
   · rw[hp1]at c4
     go_wp2_with fail;have hd1:=(HSX.out _ (aa3 K1.out)).2;refine aa8 (S:=fun U=>U.cell? ⟨b,5,none⟩=some (.int .i64 t.at_)/\U.cell? ⟨b,6,none⟩=some (.slice V' t.vals.length vc)) kM ⟨hd1.1,hd1.2.1⟩ (fun qJ=>?_);refine tK 0 (pX b 0) rfl qJ ?_;refine tK 1 (pX b 0) rfl qJ<|tK 2 (pX b 0) rfl qJ<|tK 3 (pX b 6) rfl qJ<|tK 4 (.slice V' t.vals.length vc) rfl qJ<|tK 5 (.int .i64 (t.vals.length:Int)) rfl qJ<|tK 6 (pX b 0) rfl qJ<|tK 7 (pX b 0) rfl qJ<|tK 8 (pX b 0) rfl qJ<|tK 9 (pX b 5) rfl qJ<|tK 10 (.int .i64 t.at_) rfl qJ<|tK 11 (.bool (decide ((t.vals.length:Int)=t.at_))) rfl qJ (hy:=fun V hSV=>by go_simp;rfl)<|tK 12 (.bool (decide ((t.vals.length:Int)=t.at_))) rfl qJ ?_;refine abp kM ?_ _;go_simp;go_wp2;refine aaX (v:= .bool (decide ((t.vals.length:Int)=t.at_))) (by simp[results,Tryz.results18,go_sem];try rfl) rfl ?_;exact⟨by first|rfl|(rw[e1,Bool.true_and,aaW hp1])|(rw[aaW hp1]),aa3 K1.out⟩
   · by_cases hp2:t.phase=2
     · rw[hp2]at c4
       by_cases y1:t.vals.length=t.l.length
       · have y1':(t.vals.length:Int)=(t.l.length:Int):=by omega
         by_cases y2:t.hang.length=t.l.length
         · have y2':(t.hang.length:Int)=(t.l.length:Int):=by omega
           by_cases y3:t.fD.length=8
           · have y3':(t.fD.length:Int)=8:=by omega
             go_wp2;refine aaX (v:= .bool true) (by simp[results,Tryz.results18,go_sem];try rfl) rfl ?_;exact⟨by first|rfl|(simp[e1,hp1,hp2,y1,y2,y3];done)|(simp;omega)|omega,K1.out⟩
           · have y3':¬(t.fD.length:Int)=8:=by omega
             go_wp2;refine aaX (v:= .bool false) (by simp[results,Tryz.results18,go_sem,y3'];try first|rfl|exact y3') rfl ?_;exact⟨by first|rfl|(simp[e1,hp1,hp2,y3];done)|(simp;omega)|omega,K1.out⟩
         · have y2':¬(t.hang.length:Int)=(t.l.length:Int):=by omega
           go_wp2;refine aaX (v:= .bool false) (by simp[results,Tryz.results18,go_sem];try rfl) rfl ?_;exact⟨by first|rfl|(simp[e1,hp1,hp2,y2];done)|(simp;omega)|omega,K1.out⟩
       · have y1':¬(t.vals.length:Int)=(t.l.length:Int):=by omega
         go_wp2;refine aaX (v:= .bool false) (by simp[results,Tryz.results18,go_sem];try rfl) rfl ?_;exact⟨by first|rfl|(simp[e1,hp1,hp2,y1];done)|(simp;omega)|omega,K1.out⟩
     · go_wp2
       refine aaX (v:= .bool false) (by simp[results,Tryz.results18,go_sem];try rfl) rfl ?_;exact⟨by first|rfl|(rw[e1,Bool.true_and,aaT hp1,aaT hp2])|(simp[hp1,hp2]),K1.out⟩
 · have hl2:(t.l.length:Int)<=t.at_:=by omega
   have e0:decide ((t.l.length:Int)<=t.at_)=true:=abJ hl2;have e1:decide (t.at_<(t.l.length:Int))=false:=abQ hl;simp only[e0];go_wp2;refine aaX (v:= .bool false) (by simp[results,Tryz.results18,go_sem];try rfl) rfl ?_;exact⟨by first|rfl|(rw[e1,Bool.false_and]),K1.out⟩
theorem Z2(h:Rl B b W G P e Q f R V H D t):CJ 18 #[pX b 0] W fun e w'=>e= .returned (.bool (goB t))/\Kp W w':=by
 unfold goB
 cases hc:aK t.l with
 |false=>exact(ZL h hc).mono fun _ _ h=>by simpa using h
 |true=>
  by_cases ha:0<=t.at_
  · rw[Bool.true_and,abJ ha,Bool.true_and]
    exact ZM h hc ha
  · rw[Bool.true_and,abQ ha,Bool.false_and]
    exact Zr h hc oM
