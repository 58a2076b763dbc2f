/- The document's layer 9: Same. -/
import Derived.Test.YtokeebkaamjliaaGreatR9A
namespace Go.Proofs.YtokeebkaamjliaaGreat
open RowKit ShM PkM ImM
set_option linter.unusedVariables false
set_option maxRecDepth 100000
set_option maxHeartbeats 4000000

theorem YB(A B C D:DV)(c d g h:Nat)(s xs t ys:BU)(w:World)(hA:Rd w A s)(hB:Rd w B xs)(hC:Rd w C t)(hD:Rd w D ys):
  CJ 20 #[.agg #[.slice A s.length c, .slice B xs.length d], .agg #[.slice C t.length g, .slice D ys.length h]] w fun e w'=>e= .returned (.bool ((s==t)&&(xs==ys)))/\Kp w w':=by
 have l1:=hA.len;have l2:=hB.len;have l3:=hC.len;have l4:=hD.len;have K0:Hid (Kp w ((w.alloc (.cells #[.slice A s.length c, .slice B xs.length d] 25)).alloc (.cells #[.slice C t.length g, .slice D ys.length h] 25))):=(Kp.af _ _).tr (Kp.af _ _);have H1:Hid (∀W,Kp w W->CJ 11 #[.slice A s.length c, .slice C t.length g] W fun e w'=>e= .returned (.bool (s==t))/\∃n,w'=W.drewN n):=fun W k=>EK A C c g s t W (hA.kp k) (hC.kp k)
 have H2:Hid (∀W,Kp w W->CJ 11 #[.slice B xs.length d, .slice D ys.length h] W fun e w'=>e= .returned (.bool (xs==ys))/\∃n,w'=W.drewN n):=fun W k=>EK B D d h xs ys W (hB.kp k) (hD.kp k)
 clear hA hB hC hD
 cases e1:(s==t)with
 |false=>
  rw[e1]at H1;clear e1;go_enter Tryz.func20,Tryz.ntmps20;go_wp2_with fail;refine(aa9 (H1.out _ K0.out)) ?_;rintro e w1 ⟨rfl,n,rfl⟩;go_wp2;go_ret;exact⟨rfl,K0.out.tr (Kp.aI _ _)⟩
 |true=>
  rw[e1]at H1;clear e1;obtain⟨b,hb⟩:=eX ((xs==ys));rw[<-hb]at H2⊢;clear hb;go_enter Tryz.func20,Tryz.ntmps20;go_wp2_with fail;refine(aa9 (H1.out _ K0.out)) ?_;rintro e w1 ⟨rfl,n,rfl⟩;go_wp2_with fail;refine(aa9 (H2.out _ (K0.out.tr (Kp.aI _ _)))) ?_;rintro e w2 ⟨rfl,m,rfl⟩;go_wp2;go_ret;exact⟨by simp,K0.out.tr (Kp.aI _ _)⟩
theorem ZF{W:World}{A B C D:DV}{l k:BU}{a b c d g h:Nat}(r:TR W A l B k)(q:TR W C l D k)(ha:l.length=a)(hb:k.length=b):
  CJ 20 #[.agg #[.slice A a c, .slice B b d], .agg #[.slice C a g, .slice D b h]] W fun e w'=>e= .returned (.bool true)/\Kp W w':=by
 subst ha hb;have hh:=YB A B C D c d g h l k l k W r.s r.d q.s q.d;simpa using hh
theorem Zu{a b:List T}{k:Nat}{t u:T}(ht:a[k]?=some t)(hu:b[k]?=some u):(a.drop k==b.drop k)=(((t.1==u.1)&&(t.2==u.2))&&(a.drop (k+1)==b.drop (k+1))):=by
  obtain⟨h,e⟩:=aaU.1 ht;obtain⟨g,f⟩:=aaU.1 hu;rw[abW h,abW g,e,f];rfl
theorem ZE{w w':World}(h:Kp w.drew w'):Kp w w':=(Kp.aI w 1).tr h
theorem ow(A B:DV)(c d:Nat)(a b:List T)(w:World)(hA:RdT w A a)(hB:RdT w B b):
    CJ 21 #[.slice A a.length c, .slice B b.length d] w fun e w'=>e= .returned (.bool (a==b))/\Kp w w':=by
  have la:=hA.len;have lb:=hB.len;have HRA:=Lib.hid hA;have HRB:=Lib.hid hB;clear hA hB;by_cases hl:a.length=b.length
  · obtain⟨r,hr⟩:∃r,r=(a==b):=⟨_,rfl⟩
    have HR:Hid (r=(a.drop 0==b.drop 0)):=hr;rw[<-hr];have hl':Hid (a.length=b.length):=hl;obtain⟨n,hn⟩:∃n,n=a.length:=⟨_,rfl⟩
    have hnb:n=b.length:=by omega
    have HN:=Lib.hid (And.intro hn hnb);rw[<-hn,<-hnb];have hln:n<=9223372036854775807:=by omega
    clear hr hl hn hnb la lb;go_enter Tryz.func21,Tryz.ntmps21;go_wp2
    go_loopw [5] (fun i wx=>∃k:Nat,i= .int .i64 (k:Int)/\Hid (k<=n)/\Hid (r=(a.drop k==b.drop k))/\Hid (Kp w wx)) (fun i _=>n-(intOf i).toNat)
    case atStart=>exact⟨0,rfl,aa6 _,HR.out,Kp.refl _⟩
    case round=>
      obtain⟨k,rfl,hk,hT,hK⟩:=hrel;by_cases hj:k<n
      · have hj':(k:Int)<(n:Int):=by omega
        obtain⟨ad,t,P,e,Q,f,rfl,hlt,ht,hc1,hc2,hTR⟩:=(HRA.out.kp hK.out).at_ (show k<a.length by rw[<-HN.out.1];exact hj);obtain⟨ae,u,R,g,S,h,rfl,Jg,hu,hc3,hc4,aai⟩:=(HRB.out.kp hK.out).at_ (show k<b.length by rw[<-HN.out.2];exact hj);have hd:=Zu ht hu;obtain⟨W1,hW1⟩:∃W1,W1=wr:=⟨_,rfl⟩
        have HC:Hid (CJ 20 #[.agg #[.slice P t.1.length e, .slice Q t.2.length f], .agg #[.slice R u.1.length g, .slice S u.2.length h]] wr.drew fun e w'=>e= .returned (.bool ((t.1==u.1)&&(t.2==u.2)))/\Kp wr.drew w'):=YB P Q R S e f g h t.1 t.2 u.1 u.2 wr.drew hTR.s hTR.d aai.s aai.d;obtain⟨q,hq⟩:∃q,q=((t.1==u.1)&&(t.2==u.2)):=⟨_,rfl⟩
        rw[<-hq]at HC hd;have HD:=Lib.hid hd;clear hd hq ht hu hW1 hTR aai;have Lo:wr.drew.cell? (ad.add (k*2))=some (.slice P t.1.length e):=hc1;have Pc:wr.drew.cell? ⟨(ad.add (k*2)).block,(ad.add (k*2)).off+1,none⟩=some (.slice Q t.2.length f):=hc2;have aah:wr.drew.cell? (ae.add (k*2))=some (.slice R u.1.length g):=hc3;have aag:wr.drew.cell? ⟨(ae.add (k*2)).block,(ae.add (k*2)).off+1,none⟩=some (.slice S u.2.length h):=hc4;have HQ:Hid (∀V,Kp wr.drew V->V.cell? (ad.add (k*2))=some (.slice P t.1.length e)/\V.cell? ⟨(ad.add (k*2)).block,(ad.add (k*2)).off+1,none⟩=some (.slice Q t.2.length f)/\V.cell? (ae.add (k*2))=some (.slice R u.1.length g)/\V.cell? ⟨(ae.add (k*2)).block,(ae.add (k*2)).off+1,none⟩=some (.slice S u.2.length h)):=fun V kV=>
          ⟨(kV.cell (by rw[ah];exact hlt)).trans Lo,(kV.cell (by rw[ah];exact hlt)).trans Pc,(kV.cell (by rw[ah];exact Jg)).trans aah,(kV.cell (by rw[ah];exact Jg)).trans aag⟩
        go_upto_region 6 with fail
        go_cut [6] (fun v6 wx=>v6= .bool q/\Hid (Kp w wx))
        case first=>
          go_region_held3 (fun V=>V.cell? (ad.add (k*2))=some (.slice P t.1.length e)/\V.cell? ⟨(ad.add (k*2)).block,(ad.add (k*2)).off+1,none⟩=some (.slice Q t.2.length f)/\V.cell? (ae.add (k*2))=some (.slice R u.1.length g)/\V.cell? ⟨(ae.add (k*2)).block,(ae.add (k*2)).off+1,none⟩=some (.slice S u.2.length h)) (first|exact⟨Lo,Pc,aah,aag⟩|exact q1)
            (first|(refine(Hid.out HC).mono ?_;rintro e w5 ⟨rfl,k5⟩;have q1:=HQ.out _ k5;have K5:Hid (Kp w w5):=hK.out.tr (ZE k5);clear k5))
          all_goals
            go_wp2;go_meet;exact⟨rfl,K5.out⟩
        case rest=>
          obtain⟨rfl,hK6⟩:=hcut;clear HQ HC hc1 hc2 hc3 hc4 Lo Pc aah aag
          cases q with
          |true=>
            have HT2:Hid (r=(a.drop (k+1)==b.drop (k+1))):=by show r=_;rw[hT.out,HD.out];rfl
            go_wp2;go_roundw
            case rel=>exact⟨k+1,by go_num,(by show k+1<=n;omega),HT2.out,hK6.out⟩
            case measure=>simp[intOf];omega
          |false=>
            have HT2:Hid (r=false):=by show r=_;rw[hT.out,HD.out];rfl
            go_wp2;go_ret;exact⟨by rw[HT2.out];rfl,hK6.out⟩
      · have hj':¬(k:Int)<(n:Int):=by omega
        have HT2:Hid (r=true):=by show r=_;rw[hT.out,abU (by rw[<-HN.out.1];omega),abU (by rw[<-HN.out.2];omega)];rfl
        go_wp2;go_ret;exact⟨by rw[HT2.out];rfl,hK.out⟩
  · have hne:((a.length:Int) !=(b.length:Int))=true:=by simp;omega
    have hab:(a==b)=false:=by rw[acq];intro e;exact hl (by rw[e])
    rw[hab];clear hl hab;go_enter Tryz.func21,Tryz.ntmps21;go_wp2;go_ret;exact⟨rfl,Kp.refl _⟩
