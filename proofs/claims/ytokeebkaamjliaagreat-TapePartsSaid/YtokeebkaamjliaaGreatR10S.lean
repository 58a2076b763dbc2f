/- The document's layer 10: Same. -/
import Derived.Test.YtokeebkaamjliaaGreatTpC
import Derived.Test.YtokeebkaamjliaaGreatR9B
set_option maxHeartbeats 16000000
set_option maxRecDepth 100000
set_option linter.unusedVariables false
set_option linter.unusedSimpArgs false
namespace Go.Proofs.YtokeebkaamjliaaGreat
open RowKit ShM GrM
set_option linter.unusedVariables false
set_option maxHeartbeats 4000000

theorem Zj{a b:List Nd}{k:Nat}{t u:Nd}(ht:a[k]?=some t)(hu:b[k]?=some u):(a.drop k==b.drop k)=(((t.1==u.1)&&((t.2.1==u.2.1)&&(t.2.2==u.2.2)))&&(a.drop (k+1)==b.drop (k+1))):=by
  obtain⟨h,e⟩:=aaU.1 ht;obtain⟨g,f⟩:=aaU.1 hu;rw[abW h,abW g,e,f];rfl
theorem Rd.drewN{w:World}{A:DV}{xs:BU}(h:Rd w A xs)(k:Nat):Rd (w.drewN k) A xs:=h
theorem Gx{f:FuncId}{args:Array Value}{w:World}{n:Nat}{v:Value}(h:CJ f args (w.drewN n) fun e w'=>e= .returned v/\∃m,w'=(w.drewN n).drewN m):
    CJ f args (w.drewN n) fun e w''=>e= .returned v/\∃m,w''=w.drewN m:=h.mono fun _ _ ⟨he,m,hm⟩=>⟨he,n+m,by rw[hm];exact World.drewN_drewN _ _ _⟩
set_option maxRecDepth 100000 in
theorem YD(A B:DV)(c d:Nat)(a b:List Nd)(w:World)(hA:RdG w A a)(hB:RdG w B b):
    CJ 10 #[.slice A a.length c, .slice B b.length d] w fun e w'=>e= .returned (.bool (a==b))/\∃n,w'=w.drewN n:=by
  have la:=hA.len;have lb:=hB.len;have HRA:=Lib.hid hA;have HRB:=Lib.hid hB;clear hA hB;by_cases hl:a.length=b.length
  · obtain⟨r,hr⟩:∃r,r=(a==b):=⟨_,rfl⟩
    have HR:Hid (r=(a.drop 0==b.drop 0)):=hr;rw[<-hr];obtain⟨n,hn⟩:∃n,n=a.length:=⟨_,rfl⟩
    have hnb:n=b.length:=by omega
    have HN:=Lib.hid (And.intro hn hnb);rw[<-hn,<-hnb];have hln:n<=9223372036854775807:=by omega
    have e0:((n:Int) !=(n:Int))=false:=by simp
    clear hr hl hn hnb la lb;go_enter Tryz.func10,Tryz.ntmps10;go_wp2
    go_loopw [5] (fun i wx=>∃k:Nat,i= .int .i64 (k:Int)/\Hid (k<=n)/\Hid (r=(a.drop k==b.drop k))/\Hid (∃j,wx=w.drewN j)) (fun i _=>n-(intOf i).toNat)
    case atStart=>exact⟨0,rfl,aa6 _,HR.out,0,rfl⟩
    case round=>
      obtain⟨k,rfl,hk,hT,hJ⟩:=hrel;have KW:Hid (Kp w wr):=by
        obtain⟨j,e⟩:=hJ.out;show Kp w wr;rw[e];exact Kp.aI _ _
      have HE:Hid (∀m,∃j,wr.drewN m=w.drewN j):=fun m=>by
        obtain⟨j,e⟩:=hJ.out;exact⟨j+m,by rw[e];exact World.drewN_drewN _ _ _⟩
      have HE2:Hid (∀m k,∃j,(wr.drewN m).drewN k=w.drewN j):=fun m k=>by
        obtain⟨j,e⟩:=HE.out m;exact⟨j+k,by rw[e];exact World.drewN_drewN _ _ _⟩
      by_cases hj:k<n
      · have hj':(k:Int)<(n:Int):=by omega
        obtain⟨ad,t,P,e,Q,f,rfl,hlt,ht,hc0,hc1,hc2,hN,_,_⟩:=(HRA.out.kp KW.out).at_ (show k<a.length by rw[<-HN.out.1];exact hj);obtain⟨ae,u,R,g,S,h,rfl,Jg,hu,hc3,hc4,hc5,hN2,_,_⟩:=(HRB.out.kp KW.out).at_ (show k<b.length by rw[<-HN.out.2];exact hj);have hd:=Zj ht hu;obtain⟨o1,a1,n1⟩:=t;obtain⟨o2,a2,n2⟩:=u;dsimp only at hc0 hc1 hc2 hc3 hc4 hc5 hd hN hN2;have HS1:Hid (∀W,Rd W P a1->Rd W R a2->CJ 11 #[.slice P a1.length e, .slice R a2.length g] W fun e w'=>e= .returned (.bool (a1==a2))/\∃n,w'=W.drewN n):=fun W g1 g2=>EK P R e g a1 a2 W g1 g2
        have HS2:Hid (∀W,Rd W Q n1->Rd W S n2->CJ 11 #[.slice Q n1.length f, .slice S n2.length h] W fun e w'=>e= .returned (.bool (n1==n2))/\∃n,w'=W.drewN n):=fun W g1 g2=>EK Q S f h n1 n2 W g1 g2
        have HNN:=Lib.hid (And.intro hN hN2);obtain⟨x1,hx1⟩:∃x1,x1=(o1 !=o2):=⟨_,rfl⟩
        obtain⟨x2,hx2⟩:∃x2,x2=(a1==a2):=⟨_,rfl⟩
        obtain⟨x3,hx3⟩:∃x3,x3=(n1==n2):=⟨_,rfl⟩
        have Ve:(o1==o2)= !x1:=by rw[hx1];simp[bne]
        rw[<-hx2]at HS1;rw[<-hx3]at HS2;rw[Ve,<-hx2,<-hx3]at hd;have HD:=Lib.hid hd;replace hx1:=hx1.symm;obtain⟨l1,hl1⟩:∃l1,l1=a1.length:=⟨_,rfl⟩
        obtain⟨l2,hl2⟩:∃l2,l2=a2.length:=⟨_,rfl⟩
        obtain⟨l3,hl3⟩:∃l3,l3=n1.length:=⟨_,rfl⟩
        obtain⟨l4,hl4⟩:∃l4,l4=n2.length:=⟨_,rfl⟩
        rw[<-hl1]at hc1 HS1;rw[<-hl2]at hc4 HS1;rw[<-hl3]at hc2 HS2;rw[<-hl4]at hc5 HS2;have HQ2:Hid (∀m n,CJ 11 #[.slice Q l3 f, .slice S l4 h] (wr.drewN (m+n)) fun e w''=>e= .returned (.bool x3)/\∃k,w''=wr.drewN (m+k)):=fun m n=>(HS2.out (wr.drewN (m+n)) (HNN.out.1.rn.drewN _) (HNN.out.2.rn.drewN _)).mono fun _ _ ⟨he,j,hj⟩=>⟨he,n+j,by rw[hj,World.drewN_drewN,Nat.add_assoc]⟩
        clear hd ht hu hN hN2 Ve hx2 hx3 hl1 hl2 hl3 hl4
        cases x2 with
        |false=>
          have HT2:Hid (r=false):=by show r=_;rw[hT.out,HD.out];cases x1<;>simp
          go_wp2_with fail;go_quiet ((go_at_call 11;exact Gx (HS1.out _ (HNN.out.1.ra.drewN _) (HNN.out.2.ra.drewN _))));go_wp2_with fail;go_quiet (fail);go_wp2;go_ret;exact⟨by rw[HT2.out];rfl,HE2.out _ _⟩
        |true=>
          cases x1 with
          |true=>
            have HT2:Hid (r=false):=by show r=_;rw[hT.out,HD.out];simp
            go_wp2_with fail;go_quiet ((go_at_call 11;exact Gx (HS1.out _ (HNN.out.1.ra.drewN _) (HNN.out.2.ra.drewN _))));go_wp2_with fail;go_quiet (fail);go_wp2;go_ret;exact⟨by rw[HT2.out];rfl,HE2.out _ _⟩
          |false=>
            cases x3 with
            |false=>
              have HT2:Hid (r=false):=by show r=_;rw[hT.out,HD.out];simp
              go_wp2_with fail;go_quiet ((go_at_call 11;exact Gx (HS1.out _ (HNN.out.1.ra.drewN _) (HNN.out.2.ra.drewN _))));go_wp2_with fail;go_quiet ((go_at_call 11;exact HQ2.out _ _));go_wp2;go_ret;exact⟨by rw[HT2.out];rfl,HE2.out _ _⟩
            |true=>
              have HT2:Hid (r=(a.drop (k+1)==b.drop (k+1))):=by show r=_;rw[hT.out,HD.out];simp
              go_wp2_with fail;go_quiet ((go_at_call 11;exact Gx (HS1.out _ (HNN.out.1.ra.drewN _) (HNN.out.2.ra.drewN _))));go_wp2_with fail;go_quiet ((go_at_call 11;exact HQ2.out _ _));go_wp2;go_roundw
              case rel=>exact⟨k+1,by go_num,(by show k+1<=n;omega),HT2.out,HE.out _⟩
              case measure=>simp[intOf];omega
      · have hj':¬(k:Int)<(n:Int):=by omega
        have HT2:Hid (r=true):=by show r=_;rw[hT.out,abU (by rw[<-HN.out.1];omega),abU (by rw[<-HN.out.2];omega)];rfl
        go_wp2;go_ret;exact⟨by rw[HT2.out];rfl,hJ.out⟩
  · have hne:((a.length:Int) !=(b.length:Int))=true:=by simp;omega
    have hab:(a==b)=false:=by rw[acq];intro e;exact hl (by rw[e])
    rw[hab];clear hl hab;go_enter Tryz.func10,Tryz.ntmps10;go_wp2;go_ret;exact⟨rfl,0,rfl⟩
end Go.Proofs.YtokeebkaamjliaaGreat
namespace Go.Proofs.YtokeebkaamjliaaGreat
open RowKit ShM cF GrM InM ImM EvM
/-- A box of so many cells. -/
def Bq(W:World)(b:Nat)(cs:List Value)(t:TypeId):Prop:=W.heap[b]?=some (.cells cs.toArray t (0,0))
section
variable{W W':World}{b:Nat}{cs:List Value}{t:TypeId}
theorem Bq.lt(h:Bq W b cs t):b<W.heap.size:=(aa0.1 h).1
theorem Bq.cell(h:Bq W b cs t){j:Nat}{v:Value}(hv:cs[j]?=some v):W.cell? ⟨b,j,none⟩=some v:=by
 simp[World.cell?,show W.heap[b]?=_ from h,hv]
theorem Bq.frz(h:Bq W b cs t)(i:Nat):W.frozen? ⟨b,i,none⟩=false:=by simp[World.frozen?,show W.heap[b]?=_ from h]
theorem Bq.kp(h:Bq W b cs t)(k:Kp W W'):Bq W' b cs t:=(k.block b h.lt).trans h
theorem Bq.new(h:b=W.heap.size):Bq (W.alloc (.cells cs.toArray t)) b cs t:=by
 subst h;show(W.heap.push _)[W.heap.size]?=some _;simp
theorem Zz{p q:Int}(h:Bq W b [.int .i64 p, .int .i64 q] t):Rd W (some ⟨b,0,none⟩) [p,q]:=by
 refine⟨by simp,fun _=>⟨_,rfl,h.lt,fun j u hj=>?_⟩⟩;rw[abh,abw]
 match j with
 |0=>
        have e:p=u:=by simpa using hj
        subst e;exact h.cell (j:=0) rfl
 |1=>
        have e:q=u:=by simpa using hj
        subst e;exact h.cell (j:=1) rfl
 |j+2=>simp at hj
end
theorem YM{W:World}{t:Tpe}{A P Q R V H D:DV}{c e f d vc hc dc:Nat}{A' P' Q' R' V' H' D':DV}{c' e' f' d' vc' hc' dc':Nat}(h1:LI W A c P Q e f R d V vc H hc D dc t)(h2:LI W A' c' P' Q' e' f' R' d' V' vc' H' hc' D' dc' t):
 CJ 9 #[.agg #[.slice A t.l.length c, .slice P t.inp.1.length e, .slice Q t.inp.2.length f, .slice R t.ps.length d, .int .i64 t.phase, .int .i64 t.at_, .slice V t.vals.length vc, .slice H t.hang.length hc, .slice D t.fD.length dc, .int .i64 t.err], .agg #[.slice A' t.l.length c', .slice P' t.inp.1.length e', .slice Q' t.inp.2.length f', .slice R' t.ps.length d', .int .i64 t.phase, .int .i64 t.at_, .slice V' t.vals.length vc', .slice H' t.hang.length hc', .slice D' t.fD.length dc', .int .i64 t.err]] W fun e0 w'=>e0= .returned (.bool true)/\Kp W w':=by
 have H1:=lH h1;have H2:=lH h2;have CG:Hid (∀V,Kp W V->CJ 10 #[.slice A t.l.length c, .slice A' t.l.length c'] V fun e0 w'=>e0= .returned (.bool true)/\Kp V w'):=fun V kV=>(YD A A' c c' t.l t.l V (H1.out.g.kp kV) (H2.out.g.kp kV)).mono fun e0 w' ⟨h,n,hn⟩=>⟨by rw[h];simp,by rw[hn];exact Kp.aI _ _⟩
 have CI:Hid (∀V,Kp W V->CJ 20 #[.agg #[.slice P t.inp.1.length e, .slice Q t.inp.2.length f], .agg #[.slice P' t.inp.1.length e', .slice Q' t.inp.2.length f']] V fun e0 w'=>e0= .returned (.bool true)/\Kp V w'):=fun V kV=>ZF (H1.out.i.r.kp kV) (H2.out.i.r.kp kV) rfl rfl
 have CP:Hid (∀V,Kp W V->CJ 21 #[.slice R t.ps.length d, .slice R' t.ps.length d'] V fun e0 w'=>e0= .returned (.bool true)/\Kp V w'):=fun V kV=>(ow R R' d d' t.ps t.ps V (H1.out.p.kp kV) (H2.out.p.kp kV)).mono fun e0 w' ⟨h,k⟩=>⟨by rw[h];simp,k⟩
 have CV:Hid (∀X,Kp W X->CJ 21 #[.slice V t.vals.length vc, .slice V' t.vals.length vc'] X fun e0 w'=>e0= .returned (.bool true)/\Kp X w'):=fun X kX=>(ow V V' vc vc' t.vals t.vals X (H1.out.v.kp kX) (H2.out.v.kp kX)).mono fun e0 w' ⟨h,k⟩=>⟨by rw[h];simp,k⟩
 have CH:Hid (∀V,Kp W V->CJ 21 #[.slice H t.hang.length hc, .slice H' t.hang.length hc'] V fun e0 w'=>e0= .returned (.bool true)/\Kp V w'):=fun V kV=>(ow H H' hc hc' t.hang t.hang V (H1.out.h.kp kV) (H2.out.h.kp kV)).mono fun e0 w' ⟨h,k⟩=>⟨by rw[h];simp,k⟩
 have CD:Hid (∀V,Kp W V->CJ 21 #[.slice D t.fD.length dc, .slice D' t.fD.length dc'] V fun e0 w'=>e0= .returned (.bool true)/\Kp V w'):=fun V kV=>(ow D D' dc dc' t.fD t.fD V (H1.out.d.kp kV) (H2.out.d.kp kV)).mono fun e0 w' ⟨h,k⟩=>⟨by rw[h];simp,k⟩
 have CS:Hid (∀X B1 B2,Rd X B1 [t.phase,t.at_]->Rd X B2 [t.phase,t.at_]->CJ 11 #[.slice B1 2 2, .slice B2 2 2] X fun e0 w'=>e0= .returned (.bool true)/\Kp X w'):=fun X B1 B2 g1 g2=>(NE [t.phase,t.at_] [t.phase,t.at_] g1 g2 rfl rfl (r:=true) sC).mono fun e0 w' ⟨h,k,hk⟩=>⟨h,by rw[hk];exact Kp.aI _ _⟩
 obtain⟨w1,hw1⟩:=eX ((W.alloc (.cells #[.slice A t.l.length c, .slice P t.inp.1.length e, .slice Q t.inp.2.length f, .slice R t.ps.length d, .int .i64 t.phase, .int .i64 t.at_, .slice V t.vals.length vc, .slice H t.hang.length hc, .slice D t.fD.length dc, .int .i64 t.err] 31)).alloc (.cells #[.slice A' t.l.length c', .slice P' t.inp.1.length e', .slice Q' t.inp.2.length f', .slice R' t.ps.length d', .int .i64 t.phase, .int .i64 t.at_, .slice V' t.vals.length vc', .slice H' t.hang.length hc', .slice D' t.fD.length dc', .int .i64 t.err] 31));have K1:Hid (Kp W w1):=by rw[hw1];exact(Kp.af _ _).tr (Kp.af _ _)
 have B1:Hid (Bq w1 W.heap.size [.slice A t.l.length c, .slice P t.inp.1.length e, .slice Q t.inp.2.length f, .slice R t.ps.length d, .int .i64 t.phase, .int .i64 t.at_, .slice V t.vals.length vc, .slice H t.hang.length hc, .slice D t.fD.length dc, .int .i64 t.err] 31):=by rw[hw1];exact(Bq.new rfl).kp (Kp.af _ _)
 have B2:Hid (Bq w1 (W.heap.size+1) [.slice A' t.l.length c', .slice P' t.inp.1.length e', .slice Q' t.inp.2.length f', .slice R' t.ps.length d', .int .i64 t.phase, .int .i64 t.at_, .slice V' t.vals.length vc', .slice H' t.hang.length hc', .slice D' t.fD.length dc', .int .i64 t.err] 31):=by rw[hw1];exact Bq.new (by rw[aaY])
 have s0:((W.alloc (.cells #[.slice A t.l.length c, .slice P t.inp.1.length e, .slice Q t.inp.2.length f, .slice R t.ps.length d, .int .i64 t.phase, .int .i64 t.at_, .slice V t.vals.length vc, .slice H t.hang.length hc, .slice D t.fD.length dc, .int .i64 t.err] 31)).alloc (.cells #[.slice A' t.l.length c', .slice P' t.inp.1.length e', .slice Q' t.inp.2.length f', .slice R' t.ps.length d', .int .i64 t.phase, .int .i64 t.at_, .slice V' t.vals.length vc', .slice H' t.hang.length hc', .slice D' t.fD.length dc', .int .i64 t.err] 31)).cell? ⟨W.heap.size,0,none⟩=some (.slice A t.l.length c):=by rw[<-hw1];exact B1.out.cell (j:=0) rfl
 have s1:((W.alloc (.cells #[.slice A t.l.length c, .slice P t.inp.1.length e, .slice Q t.inp.2.length f, .slice R t.ps.length d, .int .i64 t.phase, .int .i64 t.at_, .slice V t.vals.length vc, .slice H t.hang.length hc, .slice D t.fD.length dc, .int .i64 t.err] 31)).alloc (.cells #[.slice A' t.l.length c', .slice P' t.inp.1.length e', .slice Q' t.inp.2.length f', .slice R' t.ps.length d', .int .i64 t.phase, .int .i64 t.at_, .slice V' t.vals.length vc', .slice H' t.hang.length hc', .slice D' t.fD.length dc', .int .i64 t.err] 31)).cell? ⟨W.heap.size+1,0,none⟩=some (.slice A' t.l.length c'):=by rw[<-hw1];exact B2.out.cell (j:=0) rfl
 have HW:=lH hw1;have hr:((t.err==t.err):Bool)=true:=by simp
 clear h1 h2 hw1;go_enter Tryz.func9,Tryz.ntmps9;go_wp2_with fail;rw[<-HW.out];refine(CG.out _ (K1.out.tr (Kp.refl w1))).mono ?_;rintro e1 w2 ⟨rfl,k1⟩;have X1:Hid (Kp w1 w2):=Kp.tr (Kp.refl w1) k1;clear k1;have aaR:=(B1.out.kp X1.out).cell (j:=1) rfl;have aaJ:=(B2.out.kp X1.out).cell (j:=1) rfl;have aaQ:=(B1.out.kp X1.out).cell (j:=2) rfl;have aaI:=(B2.out.kp X1.out).cell (j:=2) rfl;dsimp only;go_wp2_with fail;refine(CI.out _ (K1.out.tr (X1.out))).mono ?_;rintro e2 w3 ⟨rfl,k2⟩;have X2:Hid (Kp w1 w3):=Kp.tr (X1.out) k2;clear k2;have aaP:=(B1.out.kp X2.out).cell (j:=6) rfl;have aaH:=(B2.out.kp X2.out).cell (j:=6) rfl;dsimp only;go_wp2_with fail;refine(CV.out _ (K1.out.tr (X2.out))).mono ?_;rintro e3 w4 ⟨rfl,k3⟩;have X3:Hid (Kp w1 w4):=Kp.tr (X2.out) k3;clear k3;have aaO:=(B1.out.kp X3.out).cell (j:=3) rfl;have aaG:=(B2.out.kp X3.out).cell (j:=3) rfl;dsimp only;go_wp2_with fail;refine(CP.out _ (K1.out.tr (X3.out))).mono ?_;rintro e4 w5 ⟨rfl,k4⟩;have X4:Hid (Kp w1 w5):=Kp.tr (X3.out) k4;clear k4;have aaN:=(B1.out.kp X4.out).cell (j:=7) rfl;have aaF:=(B2.out.kp X4.out).cell (j:=7) rfl;dsimp only;go_wp2_with fail;refine(CH.out _ (K1.out.tr (X4.out))).mono ?_;rintro e5 w6 ⟨rfl,k5⟩;have X5:Hid (Kp w1 w6):=Kp.tr (X4.out) k5;clear k5;have aaM:=(B1.out.kp X5.out).cell (j:=8) rfl;have aaE:=(B2.out.kp X5.out).cell (j:=8) rfl;dsimp only;go_wp2_with fail;refine(CD.out _ (K1.out.tr (X5.out))).mono ?_;rintro e6 w7 ⟨rfl,k6⟩;have X6:Hid (Kp w1 w7):=Kp.tr (X5.out) k6;clear k6;have aaL:=(B1.out.kp X6.out).cell (j:=4) rfl;have aaD:=(B2.out.kp X6.out).cell (j:=4) rfl;have aaK:=(B1.out.kp X6.out).cell (j:=5) rfl;have aaC:=(B2.out.kp X6.out).cell (j:=5) rfl;have c7:=(B2.out.kp (X6.out.tr (Kp.af _ (.cells #[.int .i64 t.phase, .int .i64 t.at_] 3)))).cell (j:=4) rfl;have d7:=(B2.out.kp (X6.out.tr (Kp.af _ (.cells #[.int .i64 t.phase, .int .i64 t.at_] 3)))).cell (j:=5) rfl;dsimp only;go_wp2_with fail;have Z1:Hid (Kp w7 ((w7.alloc (.cells #[.int .i64 t.phase, .int .i64 t.at_] 3)).alloc (.cells #[.int .i64 t.phase, .int .i64 t.at_] 3))):=(Kp.af _ _).tr (Kp.af _ _);have R1:Rd ((w7.alloc (.cells #[.int .i64 t.phase, .int .i64 t.at_] 3)).alloc (.cells #[.int .i64 t.phase, .int .i64 t.at_] 3)) (some ⟨w7.heap.size,0,none⟩) [t.phase,t.at_]:=Zz (t:=3) ((Bq.new rfl).kp (Kp.af _ _));have R2:Rd ((w7.alloc (.cells #[.int .i64 t.phase, .int .i64 t.at_] 3)).alloc (.cells #[.int .i64 t.phase, .int .i64 t.at_] 3)) (some ⟨w7.heap.size+1,0,none⟩) [t.phase,t.at_]:=Zz (t:=3) (Bq.new (by rw[aaY]));refine(CS.out _ _ _ R1 R2).mono ?_;rintro e7 w8 ⟨rfl,k7⟩;have X7:Hid (Kp w1 w8):=(X6.out.tr Z1.out).tr k7;clear R1 R2 k7;have a8:=(B1.out.kp X7.out).cell (j:=9) rfl;have b8:=(B2.out.kp X7.out).cell (j:=9) rfl;dsimp only;go_wp2;refine aaX (v:= .bool true) (by simp[results,Tryz.results9,go_sem];try rfl) rfl ?_;exact⟨rfl,K1.out.tr X7.out⟩
/-- A tape's cells. -/
def SB(X:World)(b:Nat)(A:DV)(c:Nat)(P Q:DV)(e f:Nat)(R:DV)(d:Nat)(V:DV)(vc:Nat)(H:DV)(hc:Nat)(D:DV)(dc:Nat)(t:Tpe):Prop:=
 X.cell? ⟨b,0,none⟩=some (.slice A t.l.length c)/\X.cell? ⟨b,1,none⟩=some (.slice P t.inp.1.length e)/\X.cell? ⟨b,2,none⟩=some (.slice Q t.inp.2.length f)/\X.cell? ⟨b,3,none⟩=some (.slice R t.ps.length d)/\X.cell? ⟨b,4,none⟩=some (.int .i64 t.phase)/\X.cell? ⟨b,5,none⟩=some (.int .i64 t.at_)/\X.cell? ⟨b,6,none⟩=some (.slice V t.vals.length vc)/\X.cell? ⟨b,7,none⟩=some (.slice H t.hang.length hc)/\X.cell? ⟨b,8,none⟩=some (.slice D t.fD.length dc)/\X.cell? ⟨b,9,none⟩=some (.int .i64 t.err)
theorem WR{X:World}{b:Nat}{A P Q R V H D:DV}{c e f d vc hc dc:Nat}{t:Tpe}(h:Bq X b [.slice A t.l.length c, .slice P t.inp.1.length e, .slice Q t.inp.2.length f, .slice R t.ps.length d, .int .i64 t.phase, .int .i64 t.at_, .slice V t.vals.length vc, .slice H t.hang.length hc, .slice D t.fD.length dc, .int .i64 t.err] 31):SB X b A c P Q e f R d V vc H hc D dc t:=
 ⟨h.cell (j:=0) rfl,h.cell (j:=1) rfl,h.cell (j:=2) rfl,h.cell (j:=3) rfl,h.cell (j:=4) rfl,h.cell (j:=5) rfl,h.cell (j:=6) rfl,h.cell (j:=7) rfl,h.cell (j:=8) rfl,h.cell (j:=9) rfl⟩
theorem tB{P:Program}{md:Region.Mode}{ops:Array Oper}{Q:Exit->Act->World->Prop}{S:World->Prop}{fuel:Nat}{listed:Array Bool}{a:Act}{w:World}{oi:Oper}(i:Nat)(v:Value)(hi:ops[i]?=some oi)(hS:S w)(h:wpAnyH P md ops Q S fuel (listed.setIfInBounds i true) (a.put oi.dst v) w)
  (hs:Region.noSelect ops=true:=by kernel_rfl)(hf:Region.free md ops listed i=true:=by kernel_rfl)(hr:(Region.ready md ops listed).contains i=true:=by kernel_rfl)
  (hw:Region.wanted oi (yielded ops a.tmps)=true:=by kernel_rfl)(hQ:∀c a w,Q (.panic c) (a.put oi.dst v) w->Q (.panic c) a w:=by exact fun _ _ _ h=>h)
  (hy:∀w,S w->(execOp a.eval oi).run P w= .ok (.value v) w:=by intro V hSV;simp only[SB]at hSV;go_simp):wpAnyH P md ops Q S (fuel+1) listed a w:=tK i v hi hS h hs hf hr hw hQ hy
