import Derived.Test.YtokeebkaamjliaaGreatInMex
import Derived.Test.YtokeebkaamjliaaGreatGrZk
set_option maxHeartbeats 16000000
set_option maxRecDepth 100000
set_option linter.unusedVariables false
set_option linter.unusedSimpArgs false
namespace Go.Proofs.YtokeebkaamjliaaGreat.Iz
open RowKit Shelf ShM GrM InM
theorem Own.Rm{w:World}{v:Value}{xs:BU}{b b':Nat}(h:Own b w v xs)(hb:b'<=b):Own b' w v xs:=by
 refine⟨h.1,?_⟩;rcases h.2 with h0|⟨g,cap,cur,e,hg,r⟩
 ·exact .inl h0
 ·exact .inr ⟨g,cap,cur,e,ab3 hb hg,r⟩
theorem cZ.back{r:BU×Int}{w w1:World}{e:Ending}{w':World}(h:cZ r w1 e w')(hk:Kp w w1):cZ r w e w':=by
 obtain⟨A,c,e,o,n,k⟩:=h;exact⟨A,c,e,o,fun ad h1 h2=>ab3 hk.size (n ad h1 h2),hk.tr k⟩
end Go.Proofs.YtokeebkaamjliaaGreat.Iz
namespace Go.Proofs.ShM
end Go.Proofs.ShM
namespace Go.Proofs.YtokeebkaamjliaaGreat.Iz
open RowKit Shelf ShM GrM InM
def SL(B:Nat)(A:DV)(n c:Nat)(xs:BU)(w:World)(e:Ending)(w':World):Prop:=(∃v,e= .returned v)/\Own B w' (.slice A n c) xs.reverse/\Below B w w'
theorem Q8(A:DV)(c B:Nat)(xs:BU)(w:World)(h:Own B w (.slice A xs.length c) xs)(hl:xs.length<=1000):
  CJ 75 #[.slice A xs.length c] w (SL B A xs.length c xs w):=Am A c B xs w h hl
theorem gR(A:DV)(c:Nat)(xs:BU)(w:World)(h:Rd w A xs)(hs:xs.length<=1000000):
  CJ 23 #[.slice A xs.length c] w (Jy xs w):=cv A c xs w h hs
def Q5:Nat->Nat
 |23=>73
 |n=>n
def rot:Nat->Nat
 |0=>0
 |3=>3
 |4=>4
 |22=>23
 |n=>n
def roD:Ren:=⟨Q5,rot,fun g=>g⟩
theorem Cj:Lays2.n23 Tryz.prog roD where
 mixed:=by kernel_rfl
 f23:=Tryz.func73.trans (abP some kM)
 t0:=Tryz.underlying0
 a0:=Tryz.isAgg0
 z0:=Tryz.sizeOf0
 v0:=Tryz.zeroValue0
 t3:=Tryz.underlying3
 a3:=Tryz.isAgg3
 z3:=Tryz.sizeOf3
 v3:=Tryz.zeroValue3
 t4:=Tryz.underlying4
 a4:=Tryz.isAgg4
 z4:=Tryz.sizeOf4
 v4:=Tryz.zeroValue4
 t22:=Tryz.underlying23
 a22:=Tryz.isAgg23
 z22:=Tryz.sizeOf23
 v22:=Tryz.zeroValue23
 i3:=by kernel_rfl
theorem _root_.Go.Proofs.YtokeebkaamjliaaGreat.Own.UJ{B n c:Nat}{A:DV}{xs:BU}{w:World}(h:Own B w (.slice A n c) xs)(hn:0<xs.length):
  ∃g cur,A=some ⟨g,0,none⟩/\n=xs.length/\B<=g/\w.heap[g]?=some (.cells cur 3 (0,0))/\n<=c/\c<=maxLen/\cur.size=c/\cur.toList.take n=xs.map (Value.int .i64):=by
 obtain⟨A',c',e,_⟩:=h.form;injection e with e1 e2 e3;obtain⟨h1,h2⟩:=h;rcases h2 with⟨e,h0⟩|⟨g,cap,cur,e,hb,hh,hnc,hc,hs,ht⟩
 ·omega
 ·injection e with f1 f2 f3
  subst f1 f3;refine⟨g,cur,rfl,e2,hb,hh,oM,hc,by simpa using hs,by simpa [e2]using ht⟩
theorem iz{B g q:Nat}{w:World}(d:Array Int)(hb:B<=g):Below B w (Go.Sort.putRow (Value.int .i64) (Go.Sort.ahead w q) g 0 d) where
 os:=rfl
 tape:=rfl
 output:=rfl
 size:=by rw[Go.Sort.size_putRow];exact aaZ _
 block:=fun k hk=>by
  show(Array.modify _ g _)[k]?=_;rw[Array.getElem?_modify,aaT oM];rfl
theorem Hw(A:DV)(c B k:Nat)(xs:BU)(w:World)(h:Own B w (.slice A xs.length c) xs)(hk:k<xs.length)(hl:xs.length<=1000):
  CJ 73 #[.slice A xs.length c, .int .i64 (k:Int), .int .i64 ((k:Int)+1)] w fun e w'=>e= .returned (.slice A (xs.eraseIdx k).length c)/\Sl w' A c (xs.eraseIdx k)/\Below B w w':=by
 obtain⟨g,cur,rfl,_,hB,hh,h1,h2,h3,h4⟩:=h.UJ oM;have hm:c<=9223372036854775807:=by unfold maxLen at h2;omega
 have hH:Go.Sort.Holds (Value.int .i64) w g 0 xs.toArray:=fun j hj=>by
  have hj':j<xs.length:=by simpa using hj
  rw[abw];refine⟨?_,h.fE j⟩;rw[h.cell_ (u:=xs[j]) (aaV hj')];simp[hj']
 have hd:=Any.slices_Delete_int Cj g 0 c k (k+1) xs w hH h1 hm oM oM;have hel:(xs.eraseIdx k).length=xs.length-1:=List.length_eraseIdx_of_lt hk;refine hd.mono ?_;rintro e w' ⟨rfl,q,rfl⟩;have hlen:(xs.take k++xs.drop (k+1)++List.replicate (k+1-k) (0:Int)).length=xs.length:=by simp;omega
 have hP:=Go.Sort.holds_putRow (Value.int .i64) (Go.Sort.ahead w q) g 0 xs.toArray (xs.take k++xs.drop (k+1)++List.replicate (k+1-k) 0).toArray (Go.Sort.holds_ahead _ w q g 0 _ hH) (by simp only[acd];exact hlen);have hbl:=iz (w:=w) (q:=q) (xs.take k++xs.drop (k+1)++List.replicate (k+1-k) (0:Int)).toArray hB;refine⟨by rw[hel,show k+1-k=1 by omega],⟨⟨by rw[hel];omega,fun hn=>⟨⟨g,0,none⟩,rfl,?_,fun j u hu=>?_⟩⟩,by rw[hel];omega,hm⟩,hbl⟩
 ·rw[Go.Sort.size_putRow];exact(aa0.1 hh).1
 ·have hj:j<xs.length-1:=by rw[<-hel];exact(aaU.1 hu).1
  have:=(hP j (by simp only[acd];rw[hlen];omega)).1;rw[abh,this];congr 2;have e1:xs.eraseIdx k=xs.take k++xs.drop (k+1):=List.eraseIdx_eq_take_drop_succ ..;rw[e1]at hu;have hj2:j<(xs.take k++xs.drop (k+1)).length:=(aaU.1 hu).1;rw[getElem!_pos _ j (by simp only[acd];rw[hlen];omega)];simp only[List.getElem_toArray];rw[List.getElem_append_left hj2];exact(aaU.1 hu).2
theorem D9(A:DV)(c:Nat)(l:BU)(w:World)(h:Rd w A l)(hl:l.length<=1000):
  CJ 58 #[.slice A l.length c] w (Jy l.reverse w):=by
 have HC:=lH (gR A c l w h oM);have HL:Hid (l.length<=1000):=hl;clear h;go_enter Tryz.func58,Tryz.ntmps58;go_wp2_with fail;refine HC.out.mono ?_;rintro e w1 ⟨A1,c1,rfl,o1,k1⟩;have HK:=lH k1;have HR:=lH (Q8 A1 c1 w.heap.size l w1 o1 HL.out);clear k1 o1;go_wp2_with fail;refine HR.out.mono ?_;rintro e w2 ⟨⟨v,rfl⟩,o2,b2⟩;have HO:=lH o2;have HB:=lH b2;clear o2 b2;go_wp2;go_ret;exact Jy.on sC HO.out (HK.out.trans HB.out)
theorem jC(A:DV)(n c:Nat)(l:BU)(x:Int)(w:World)(hn:n=l.length)(hl:l.length<=9223372036854775807):
  CJ 72 #[.slice A n c, .int .i64 x] w fun e w'=>e= .returned (.bool (eG l x))/\w'=w:=by
 obtain⟨r,hr⟩:=eX (eG l x);rw[<-hr];rw[<-hn]at hl;by_cases h1:0<=x
 ·by_cases h2:x<(n:Int)
  ·have hv:r=true:=by rw[hr];exact eV.2 ⟨h1,oM⟩
   subst hv;clear hr hn;go_enter Tryz.func72,Tryz.ntmps72;go_wp2;go_ret;exact⟨by simp[*],rfl⟩
  ·have hv:r=false:=by rw[hr];unfold eG;simp;omega
   subst hv;clear hr hn;go_enter Tryz.func72,Tryz.ntmps72;go_wp2;go_ret;exact⟨by simp[*],rfl⟩
 ·have hv:r=false:=by rw[hr];unfold eG;simp;omega
  subst hv;clear hr hn;go_enter Tryz.func72,Tryz.ntmps72;go_wp2;go_ret;exact⟨by simp[*],rfl⟩
theorem zx(A:DV)(c:Nat)(l:BU)(k:Nat)(n:Int)(w:World)(h:Rd w A l)(hl:l.length<=1000)(hk:k<l.length):
  CJ 76 #[.slice A l.length c, .int .i64 (k:Int), .int .i64 n] w fun e w'=>∃A' c',e= .returned (.slice A' l.length c')/\Own w.heap.size w' (.slice A' l.length c') (l.set k n)/\Kp w w':=by
 have HC:=lH (gR A c l w h oM);have j1:(0:Int)<=(k:Int):=by omega
 have j2:(k:Int)<(l.length:Int):=by omega
 clear h;go_enter Tryz.func76,Tryz.ntmps76;go_wp2_with fail;refine HC.out.mono ?_;rintro e w1 ⟨A1,c1,rfl,o1,k1⟩;obtain⟨g,rfl,hg1,hg2⟩:=o1.Il oM;have HK:=lH k1;have HO:=lH o1;have e1:=HO.out.cell_ (aaV hk);have e2:=HO.out.fE k;clear k1 o1;go_wp2;go_ret;exact⟨_,c1,rfl,HO.out.kY k n,HK.out.setCell (p:=⟨g,k,none⟩) hg1 _⟩
theorem s9(A:DV)(n c B:Nat)(s:BU)(w:World)(hn:n=s.length)(h:Own B w (.slice A n c) s):
  CJ 74 #[.slice A n c] w fun e w'=>(∃A' c',e= .returned (.tuple #[.slice A' (fe s true).1.length c', .int .i64 (fe s true).2])/\Own B w (.slice A' (fe s true).1.length c') (fe s true).1)/\w'=w:=by
 subst hn;have HC:=lH (bQ A c s w h.sl.rd);have HO:=lH h;clear h
 cases ho:okS s with
 |false=>
  rw[ho]at HC;have hv:fe s true=([],20):=by unfold fe;rw[aaT (by simp[ho])]
  rw[hv];clear ho hv;go_enter Tryz.func74,Tryz.ntmps74;go_wp2_with fail;refine HC.out.mono ?_;rintro e w1 ⟨rfl,rfl⟩;go_wp2;go_ret2;exact⟨⟨none,0,rfl,Own.bU _ _⟩,rfl⟩
 |true=>
  rw[ho]at HC;have hv:fe s true=(s,0):=by unfold fe;rw[aaW ⟨rfl,ho⟩]
  rw[hv];clear ho hv;go_enter Tryz.func74,Tryz.ntmps74;go_wp2_with fail;refine HC.out.mono ?_;rintro e w1 ⟨rfl,rfl⟩;go_wp2;go_ret2;exact⟨⟨A,c,rfl,HO.out⟩,rfl⟩
theorem oN{l:BU}{k:Nat}{x:Int}(h:l[k]?=some x):l.getD k 0=x:=by rw[List.getD,h];rfl
def nH(a:BU)(x:Int):Sh:=if eG a x=true then(a.eraseIdx x.toNat,0)else([],20)
theorem zw(A:DV)(n c:Nat)(l:BU)(x:Int)(r:Sh)(w:World)(hn:n=l.length)(h:Rd w A l)(hl:l.length<=1000)(hr:nH l x=r):
  CJ 49 #[.slice A n c, .int .i64 x] w (cZ r w):=by
 subst hn;have HS:=lH (jC A l.length c l x w rfl oM)
 cases ha:eG l x with
 |false=>
  rw[ha]at HS;have hv:r=([],20):=by rw[<-hr];unfold nH;rw[aaT (by simp[ha])]
  subst hv;clear hr ha h;go_enter Tryz.func49,Tryz.ntmps49;go_wp2_with fail;refine HS.out.mono ?_;rintro e w1 ⟨rfl,rfl⟩;go_wp2;go_ret2;exact cZ.nD rfl (Kp.refl _)
 |true=>
  rw[ha]at HS;obtain⟨x0,x1⟩:=eV.1 ha;obtain⟨k,rfl⟩:∃k:Nat,x=(k:Int):=⟨x.toNat,oM⟩
  have hk:k<l.length:=by omega
  have HV:Hid (r=(l.eraseIdx k,0)):=by show r=_;rw[<-hr];unfold nH;rw[aaW ha,aa2]
  have HC:=lH (gR A c l w h oM);have HL:Hid (l.length<=1000):=hl;have hwr:IntKind.i64.wrap ((k:Int)+1)=(k:Int)+1:=IntWalk.i64_in _ oM;clear hr ha h;go_enter Tryz.func49,Tryz.ntmps49;go_wp2_with fail;refine HS.out.mono ?_;rintro e w1 ⟨rfl,rfl⟩;go_wp2_with fail;refine HC.out.mono ?_;rintro e w2 ⟨A2,c2,rfl,o2,k2⟩;have K2:=lH k2;obtain⟨g,rfl,hg1,_⟩:=o2.Il oM;have HG:Hid (w1.heap.size<=g):=hg1;have HD:=lH (Hw _ c2 w1.heap.size k l w2 o2 hk HL.out);clear k2 o2 hg1;go_wp2_with fail;refine HD.out.mono ?_;rintro e w3 ⟨rfl,o3,b3⟩;have HO:=lH o3;have HB:=lH b3;clear o3 b3;go_wp2;go_ret2;rw[HV.out];exact⟨_,c2,rfl,HO.out,fun ad e _=>by injection e with e;subst e;exact HG.out,K2.out.trans HB.out⟩
def Js(a:BU)(x f t:Int):Sh:=if eG a x=true then pP a x f t else([],20)
theorem Ey(A:DV)(n c:Nat)(l:BU)(x f t:Int)(r:Sh)(w:World)(hn:n=l.length)(h:Rd w A l)(hl:l.length<=1000)(h64:W64 l)(hr:Js l x f t=r):
  CJ 60 #[.slice A n c, .int .i64 x, .int .i64 f, .int .i64 t] w (cZ r w):=by
 subst hn;have HS:=lH (jC A l.length c l x w rfl oM)
 cases ha:eG l x with
 |false=>
  rw[ha]at HS;have hv:r=([],20):=by rw[<-hr];unfold Js;rw[aaT (by simp[ha])]
  subst hv;clear hr ha h h64;go_enter Tryz.func60,Tryz.ntmps60;go_wp2_with fail;refine HS.out.mono ?_;rintro e w1 ⟨rfl,rfl⟩;go_wp2;go_ret2;exact cZ.nD rfl (Kp.refl _)
 |true=>
  rw[ha]at HS;obtain⟨x0,x1⟩:=eV.1 ha;obtain⟨k,rfl⟩:∃k:Nat,x=(k:Int):=⟨x.toNat,oM⟩
  have hk:k<l.length:=by omega
  obtain⟨ad,y,rfl,hlt,hy,hc⟩:=h.at_ hk;have hv0:r=pP l k f t:=by rw[<-hr];unfold Js;rw[aaW ha]
  unfold pP at hv0;rw[aa2,oN hy]at hv0;clear hr ha;by_cases f0:f<0
  ·rw[aaT oM]at hv0;subst hv0;clear h h64;go_enter Tryz.func60,Tryz.ntmps60;go_wp2_with fail;refine HS.out.mono ?_;rintro e w1 ⟨rfl,rfl⟩;go_wp2;go_ret2;exact cZ.nD rfl (Kp.refl _)
  ·by_cases f1:t<=f
   ·rw[aaT oM]at hv0;subst hv0;clear h h64;go_enter Tryz.func60,Tryz.ntmps60;go_wp2_with fail;refine HS.out.mono ?_;rintro e w1 ⟨rfl,rfl⟩;go_wp2;go_ret2;exact cZ.nD rfl (Kp.refl _)
   ·by_cases f2:y<t
    ·rw[aaT oM]at hv0;subst hv0;clear h h64;go_enter Tryz.func60,Tryz.ntmps60;go_wp2_with fail;refine HS.out.mono ?_;rintro e w1 ⟨rfl,rfl⟩;go_wp2;go_ret2;exact cZ.nD rfl (Kp.refl _)
    ·rw[aaW oM]at hv0;have Va:=h64 y (aa1 hy);obtain⟨d,hd⟩:=eX (t-f);have hwr:IntKind.i64.wrap (t-f)=d:=by rw[hd];exact IntWalk.i64_in _ oM
     have HW:=lH (zx (some ad) c l k d w h hl hk);have HV:Hid (r=(l.set k d,0)):=by show _=_;rw[hv0,hd]
     clear h h64 hv0 hd hy Va;go_enter Tryz.func60,Tryz.ntmps60;go_wp2_with fail;refine HS.out.mono ?_;rintro e w1 ⟨rfl,rfl⟩;go_wp2_with fail;refine HW.out.mono ?_;rintro e w2 ⟨A2,c2,rfl,o2,k2⟩;have HO:=lH o2;have K2:=lH k2;clear o2 k2;go_wp2;go_ret2;exact cZ.mk_ HV.out sC HO.out K2.out
def yC(a b:BU)(x:Int):Sh:=if eG a x=true then nI a b x else([],20)
theorem Nz{a b:BU}{k:Nat}(hk:k<a.length)(hl:a.length=b.length)(he:a.eraseIdx k=b.eraseIdx k):b.set k (a.getD k 0)=a:=by
 have h1:(b.set k (a.getD k 0)).eraseIdx k=a.eraseIdx k:=by rw[jI,he]
 have h2:(b.set k (a.getD k 0))[k]?=a[k]?:=by rw[abt oM,aaV hk,List.getD,aaV hk];rfl
 apply List.ext_getElem?;intro i;rcases Nat.lt_trichotomy i k with hi|rfl|hi
 ·have:=abP (fun l=>l[i]?) h1;simp only[List.getElem?_eraseIdx,hi,if_true]at this;exact this
 ·exact h2
 ·obtain⟨j,rfl⟩:∃j,i=j+1:=⟨i-1,oM⟩
  have:=abP (fun l=>l[j]?) h1;simp only[List.getElem?_eraseIdx,show¬j<k by omega,if_false]at this;exact this
theorem OB{a b:BU}{k:Nat}(h:¬k<b.length)(hk:k<a.length):yC a b k=([],20):=by
 unfold yC;split
 ·unfold nI;rw[aaT (fun g=>by have:=g.1;omega)]
 ·rfl
theorem Le{a b:BU}{k:Nat}(hk:k<a.length)(h:(b.set k (a.getD k 0)==a)=false):yC a b k=([],20):=by
 unfold yC;split
 ·unfold nI;rw[aaT (fun g=>by
   rw[aa2]at g;rw[Nz hk g.1 g.2,beq_self_eq_true]at h;cases h)]
 ·rfl
theorem OA{a b:BU}{k:Nat}(hk:k<a.length)(h:(b.set k (a.getD k 0)==a)=true):yC a b k=fe (a.set k (a.getD k 0+b.getD k 0)) true:=by
 have e:b.set k (a.getD k 0)=a:=by simpa using h
 have hl:a.length=b.length:=by rw[<-e];simp
 unfold yC;rw[aaW (eV.2 ⟨oM,oM⟩)];unfold nI;rw[aa2,aaW ⟨hl,by
  have:=jI (s:=b) (a:=k) (y:=a.getD k 0);rw[e]at this;exact this⟩]
theorem OC(A B:DV)(n c m d:Nat)(a b:BU)(x:Int)(r:Sh)(w:World)(hn:n=a.length)(hm:m=b.length)(h:Rd w A a)(g:Rd w B b)(ha:okS a=true)(hb:okS b=true)(hr:yC a b x=r):
  CJ 62 #[.slice A n c, .slice B m d, .int .i64 x] w (cZ r w):=by
 subst hn hm;have la:=(aD.1 ha).1;have lb:=(aD.1 hb).1;have HS:=lH (jC A a.length c a x w rfl oM);have HT:=lH (jC B b.length d b x w rfl oM)
 cases hx:eG a x with
 |false=>
  rw[hx]at HS;have hv:r=([],20):=by rw[<-hr];unfold yC;rw[aaT (by simp[hx])]
  subst hv;clear hr hx h g ha hb HT;go_enter Tryz.func62,Tryz.ntmps62;go_wp2_with fail;refine HS.out.mono ?_;rintro e w1 ⟨rfl,rfl⟩;go_wp2;go_ret2;exact cZ.nD rfl (Kp.refl _)
 |true=>
  rw[hx]at HS;obtain⟨x0,x1⟩:=eV.1 hx;obtain⟨k,rfl⟩:∃k:Nat,x=(k:Int):=⟨x.toNat,oM⟩
  have hk:k<a.length:=by omega
  cases hy:eG b (k:Int)with
  |false=>
   rw[hy]at HT;have hkb:¬k<b.length:=fun g=>by
    have:eG b (k:Int)=true:=eV.2 ⟨oM,oM⟩;rw[this]at hy;cases hy
   have hv:r=([],20):=by rw[<-hr];exact OB hkb hk
   subst hv;clear hr hx hy h g ha hb;go_enter Tryz.func62,Tryz.ntmps62;go_wp2_with fail;refine HS.out.mono ?_;rintro e w1 ⟨rfl,rfl⟩;go_wp2_with fail;refine HT.out.mono ?_;rintro e w1 ⟨rfl,rfl⟩;go_wp2;go_ret2;exact cZ.nD rfl (Kp.refl _)
  |true=>
   rw[hy]at HT;have hkb:k<b.length:=by have:=(eV.1 hy).2;omega
   obtain⟨ad,y,rfl,hlt,hya,hc⟩:=h.at_ hk;obtain⟨ae,z,rfl,Jg,hzb,hc2⟩:=g.at_ hkb;have sy:=cN (aD.1 ha).2.1 hya;have sz:=cN (aD.1 hb).2.1 hzb;have HW:=lH (zx (some ae) d b k y w g oM hkb);have k1:(k:Int)<(a.length:Int):=by omega
   have k2:(k:Int)<(b.length:Int):=by omega
   have k0:(0:Int)<=(k:Int):=by omega
   have HA:=lH h;have HB:=lH g;have HCA:Hid (∀V,Kp w V->V.cell? (ad.add k)=some (.int .i64 y)):=fun V kV=>(kV.cell (by rw[ah];exact hlt)).trans hc
   have HCB:Hid (∀V,Kp w V->V.cell? (ae.add k)=some (.int .i64 z)):=fun V kV=>(kV.cell (by rw[ah];exact Jg)).trans hc2
   obtain⟨q,hq⟩:=eX ((b.set k y==a));have HQ:=lH hq;have hl2:Hid (b.length=(b.set k y).length):=by show _=_;simp
   cases q with
   |false=>
    have hv:r=([],20):=by rw[<-hr];exact Le hk (by rw[oN hya];exact hq.symm)
    subst hv;clear hr hx hy h g ha hb hq hc2;go_enter Tryz.func62,Tryz.ntmps62;go_wp2_with fail;refine HS.out.mono ?_;rintro e w1 ⟨rfl,rfl⟩;go_wp2_with fail;refine HT.out.mono ?_;rintro e w1 ⟨rfl,rfl⟩;go_wp2_with fail;refine HW.out.mono ?_;rintro e w2 ⟨A2,c2,rfl,o2,k2'⟩;have K2:=lH k2';have HE0:=eF A2 (some ad) c2 c _ a w2 o2.sl.rd (HA.out.kp k2');rw[abr]at HE0;have HE:=lH HE0;clear HE0;rw[<-HQ.out]at HE;clear k2' o2;go_wp2_with fail;refine HE.out.mono ?_;rintro e w3 ⟨rfl,m3,rfl⟩;have K3:=lH (K2.out.tr (Kp.aI w2 m3));go_wp2;go_ret2;exact cZ.nD rfl K3.out
   |true=>
    have HV:Hid (fe (a.set k (y+z)) true=r):=by
     show _=r;rw[<-hr,OA hk (by rw[oN hya];exact hq.symm),oN hya,oN hzb]
    obtain⟨s,hs⟩:=eX (y+z);have hwr:IntKind.i64.wrap (y+z)=s:=by rw[hs];exact IntWalk.i64_in _ oM
    rw[<-hs]at HV;have HX:Hid (∀V,Kp w V->CJ 76 #[.slice (some ad) a.length c, .int .i64 (k:Int), .int .i64 s] V fun e V'=>∃A' c',e= .returned (.slice A' a.length c')/\Hid (CJ 74 #[.slice A' a.length c'] V' (cZ r w))/\Hid (Kp w V')):=fun V kV=>
     (zx (some ad) c a k s V (h.kp kV) oM hk).mono fun e V' ⟨A',c',e1,o1,k1⟩=>⟨A',c',e1,by
      have hh:=s9 A' a.length c' w.heap.size (a.set k s) V' sC (Own.Rm o1 kV.size);rw[HV.out]at hh;refine hh.mono ?_;rintro e2 w2 ⟨⟨A3,c3,rfl,o3⟩,rfl⟩;exact cZ.mk_ rfl rfl o3 (kV.tr k1),kV.tr k1⟩
    clear hr hx hy h g ha hb hq hc2 hs sy sz;go_enter Tryz.func62,Tryz.ntmps62;go_wp2_with fail;refine HS.out.mono ?_;rintro e w1 ⟨rfl,rfl⟩;go_wp2_with fail;refine HT.out.mono ?_;rintro e w1 ⟨rfl,rfl⟩;go_wp2_with fail;refine HW.out.mono ?_;rintro e w2 ⟨A2,c2,rfl,o2,k2'⟩;have K2:=lH k2';have HE0:=eF A2 (some ad) c2 c _ a w2 o2.sl.rd (HA.out.kp k2');rw[abr]at HE0;have HE:=lH HE0;clear HE0;rw[<-HQ.out]at HE;clear k2' o2;go_wp2_with fail;refine HE.out.mono ?_;rintro e w3 ⟨rfl,m3,rfl⟩;have K3:=lH (K2.out.tr (Kp.aI w2 m3));have p1:=HCA.out _ K3.out;have p2:=HCB.out _ K3.out;have K4:Hid (Kp _ (w2.drewN m3).drew):=aa3 K3.out;go_wp2
    go_region_held3 (fun V=>V.cell? (ad.add k)=some (.int .i64 y)/\V.cell? (ae.add k)=some (.int .i64 z)) (first|exact⟨p1,p2⟩|exact⟨q1,q2⟩|exact⟨q3,q4⟩)
     (first
     |(go_at_call 76;refine(HX.out _ K4.out).mono ?_;rintro e w4 ⟨A4,c4,rfl,HC4,K5⟩;have q1:=HCA.out _ K5.out;have q2:=HCB.out _ K5.out)
     |(go_at_call 74;refine HC4.out.mono ?_;rintro e w5 ⟨A5,c5,rfl,S5,N5,K6⟩;have S6:=lH S5;have N6:=lH N5;have K7:=lH K6;have q3:=HCA.out _ K6;have q4:=HCB.out _ K6;clear S5 N5 K6))
    all_goals
     go_wp2;go_ret2;exact⟨A5,c5,rfl,S6.out,N6.out,K7.out⟩
def uQ(a b:BU):Sh:=if au b=au a then(b,0)else([],20)
theorem xK(A B:DV)(n c m d:Nat)(a b:BU)(r:Sh)(w:World)(hn:n=a.length)(hm:m=b.length)(h:Rd w A a)(g:Rd w B b)(hl:b.length<=1000)(hr:uQ a b=r):
  CJ 56 #[.slice A n c, .slice B m d] w (cZ r w):=by
 subst hn hm;have HA:=lH (bC A c a w h);have HB:=lH (bC B d b w g);have HC:=lH (gR B d b w g oM);obtain⟨p,hp⟩:=eX (au a);obtain⟨q,hq⟩:=eX (au b);unfold uQ at hr;rw[<-hp]at HA hr;rw[<-hq]at HB hr;clear hp hq h g;by_cases hpq:q=p
 ·rw[aaW hpq]at hr;subst hr;have e1:(q !=p)=false:=by simpa using hpq
  clear hpq;go_enter Tryz.func56,Tryz.ntmps56;go_wp2_with fail;refine HB.out.mono ?_;rintro e w1 ⟨rfl,rfl⟩;go_wp2_with fail;refine HA.out.mono ?_;rintro e w1 ⟨rfl,rfl⟩;go_wp2_with fail;refine HC.out.mono ?_;rintro e w2 ⟨A2,c2,rfl,o2,k2⟩;have HO:=lH o2;have K2:=lH k2;clear o2 k2;go_wp2;go_ret2;exact cZ.mk_ rfl rfl HO.out K2.out
 ·rw[aaT hpq]at hr;subst hr;have e1:(q !=p)=true:=by simpa using hpq
  clear hpq;go_enter Tryz.func56,Tryz.ntmps56;go_wp2_with fail;refine HB.out.mono ?_;rintro e w1 ⟨rfl,rfl⟩;go_wp2_with fail;refine HA.out.mono ?_;rintro e w1 ⟨rfl,rfl⟩;go_wp2;go_ret2;exact cZ.nD rfl (Kp.refl _)
theorem vg{a:BU}(h:a.length=2):∃x y,a=[x,y]:=by
 match a,h with
 | [x,y],_=>exact⟨x,y,rfl⟩
theorem AB(A B:DV)(n c m d:Nat)(a b:BU)(r:Sh)(w:World)(hn:n=a.length)(hm:m=b.length)(h:Rd w A a)(g:Rd w B b)(hr:fZ a b=r):
  CJ 54 #[.slice A n c, .slice B m d] w (cZ r w):=by
 have la:=h.len;have lb:=g.len;rw[<-hn]at la;rw[<-hm]at lb;by_cases h1:n=2
 ·have e1:((n:Int) !=2)=false:=by rw[bne_eq_false_iff_eq];omega
  by_cases h2:m=2
  ·have e2:((m:Int) !=2)=false:=by rw[bne_eq_false_iff_eq];omega
   obtain⟨a0,a1,rfl⟩:=vg (hn.symm.trans h1);obtain⟨b0,b1,rfl⟩:=vg (hm.symm.trans h2);obtain⟨ad,rfl,hlt,hc⟩:=h.2 sC;obtain⟨ae,rfl,Jg,hc2⟩:=g.2 sC;have Ud:=hc 0 a0 rfl;have Uc:=hc 1 a1 rfl;have Ub:=hc2 0 b0 rfl;have Ua:=hc2 1 b1 rfl;have q1:w.cell? ⟨ad.block,ad.off+1,none⟩=some (.int .i64 a1):=Uc;have q2:w.cell? ⟨ae.block,ae.off+1,none⟩=some (.int .i64 b1):=Ua;have q3:w.cell? ad=some (.int .i64 a0):=by simpa [Addr.add]using Ud
   have q4:w.cell? ae=some (.int .i64 b0):=by simpa [Addr.add]using Ub
   subst h1 h2;clear hn hm h g hc hc2 Ud Uc Ub Ua e1 e2;have hv:r=if a1=b0 then fe [a0,b1] true else([],20):=by
    rw[<-hr];unfold fZ;simp
   clear hr;by_cases h3:a1=b0
   ·rw[aaW h3]at hv;have e3:(a1 !=b0)=false:=by rw[bne_eq_false_iff_eq];exact h3
    have HC:Hid (∀V,Kp w V->CJ 74 #[.slice (some ⟨V.heap.size,0,none⟩) 2 2] (V.alloc (.cells #[.int .i64 a0, .int .i64 b1] 3)) (cZ r w)):=fun V kV=>by
     have hh:=s9 (some ⟨V.heap.size,0,none⟩) 2 2 w.heap.size [a0,b1] _ rfl (Own.two V a0 b1 kV.size);rw[<-hv]at hh;refine hh.mono ?_;rintro e2 w2 ⟨⟨A3,c3,rfl,o3⟩,rfl⟩;exact cZ.mk_ rfl rfl o3 (kV.tr (Kp.af _ _))
    clear h3 hv;go_enter Tryz.func54,Tryz.ntmps54;go_wp2_with fail;go_quiet (fail);have K4:Hid (Kp w (w.drewN nq).drew):=aa3 (Kp.aI w nq);go_wp2_with fail
    go_region_with (refine(HC.out _ K4.out).mono ?_;rintro e w2 ⟨A2,c2,rfl,S2,N2,K2⟩;have S3:=lH S2;have N3:=lH N2;have K3:=lH K2;clear S2 N2 K2)
    all_goals
     go_wp2;go_ret2;exact⟨A2,c2,rfl,S3.out,N3.out,K3.out⟩
   ·rw[aaT h3]at hv;subst hv;have e3:(a1 !=b0)=true:=by rw[bne_iff_ne];exact h3
    clear h3;go_enter Tryz.func54,Tryz.ntmps54;go_wp2_with fail;go_quiet (fail);go_wp2;go_ret2;exact cZ.nD rfl (Kp.aI _ _)
  ·have e2:((m:Int) !=2)=true:=by rw[bne_iff_ne];omega
   have hv:r=([],20):=by rw[<-hr];unfold fZ;rw[aaT oM]
   subst hv;clear hr hn hm h g h1 h2;go_enter Tryz.func54,Tryz.ntmps54;go_wp2_with fail;go_quiet (fail);go_wp2;go_ret2;exact cZ.nD rfl (Kp.aI _ _)
 ·have e1:((n:Int) !=2)=true:=by rw[bne_iff_ne];omega
  have hv:r=([],20):=by rw[<-hr];unfold fZ;rw[aaT oM]
  subst hv;clear hr hn hm h g h1;go_enter Tryz.func54,Tryz.ntmps54;go_wp2_with fail;go_quiet (fail);go_wp2;go_ret2;exact cZ.nD rfl (Kp.aI _ _)
structure Ev(W:World)(bn ba bb:Nat)(Q A B:DV)(d c e:Nat)(nums a b:BU):Prop where
 vn:W.cell? ⟨bn,0,none⟩=some (.slice Q nums.length d)
 va:W.cell? ⟨ba,0,none⟩=some (.slice A a.length c)
 vb:W.cell? ⟨bb,0,none⟩=some (.slice B b.length e)
 rn:Rd W Q nums
 ra:Rd W A a
 rb:Rd W B b
 dn:nums.length<=d/\d<=9223372036854775807
 oa:okS a=true
 ob:okS b=true
 wn:W64 nums
 ln:nums.length<=100
section
variable{W:World}{bn ba bb d c e:Nat}{Q A B:DV}{nums a b:BU}
theorem Ev.la(h:Ev W bn ba bb Q A B d c e nums a b):a.length<=3:=(aD.1 h.oa).1
theorem Oh{s:BU}(h:okS s=true):W64 s:=fun x hx=>by
 obtain⟨i,hi⟩:=abC.1 hx;have:=cN (aD.1 h).2.1 hi;exact⟨oM,oM⟩
theorem gK{l:BU}(h:l.length=1):∃x,l=[x]:=by
 match l,h with
 | [x],_=>exact⟨x,rfl⟩
theorem dZ{p:Addr}{v:Value}(h:W.cell? p=some v):p.block<W.heap.size:=by
 rcases Nat.lt_or_ge p.block W.heap.size with g|g
 ·exact g
 ·simp[World.cell?,Array.getElem?_eq_none g]at h
theorem ay{W':World}{p:Addr}{v:Value}(h:W.cell? p=some v)(k:Kp W W'):W'.cell? p=some v:=(k.cell (dZ h)).trans h
theorem nO{l:BU}(h:l.length=3):∃x y z,l=[x,y,z]:=by
 match l,h with
 | [x,y,z],_=>exact⟨x,y,z,rfl⟩
theorem l9(H:Ev W bn ba bb Q A B d c e nums a b):CJ 45 #[pX ba 0, pX bb 0] W (cZ (bG a b) W):=by
 have qva:=H.va;have qvb:=H.vb;have HC:=lH (I8 A B c e a b W H.ra H.rb);obtain⟨r,hr⟩:=eX ((bG a b))
 try rw[<-hr]at HC
 rw[<-hr];clear H hr;go_enter Tryz.func45,Tryz.ntmps45;go_wp2_with fail;refine HC.out.mono ?_;rintro e1 w1 ⟨A2,c2,rfl,S2,N2,K2⟩;have S3:=lH S2;have N3:=lH N2;have K3:=lH K2;clear S2 N2 K2;go_wp2;go_ret2;exact⟨A2,c2,rfl,S3.out,N3.out,K3.out⟩
theorem Gg(H:Ev W bn ba bb Q A B d c e nums a b):CJ 53 #[pX ba 0, pX bb 0] W (cZ (fZ a b) W):=by
 have qva:=H.va;have qvb:=H.vb;have HC:=lH (AB A B a.length c b.length e a b _ W rfl rfl H.ra H.rb rfl);obtain⟨r,hr⟩:=eX ((fZ a b))
 try rw[<-hr]at HC
 rw[<-hr];clear H hr;go_enter Tryz.func53,Tryz.ntmps53;go_wp2_with fail;refine HC.out.mono ?_;rintro e1 w1 ⟨A2,c2,rfl,S2,N2,K2⟩;have S3:=lH S2;have N3:=lH N2;have K3:=lH K2;clear S2 N2 K2;go_wp2;go_ret2;exact⟨A2,c2,rfl,S3.out,N3.out,K3.out⟩
theorem Ao(H:Ev W bn ba bb Q A B d c e nums a b):CJ 55 #[pX ba 0, pX bn 0] W (cZ (uQ a nums) W):=by
 have qva:=H.va;have qvn:=H.vn;have HC:=lH (xK A Q a.length c nums.length d a nums _ W rfl rfl H.ra H.rn (by have:=H.ln;omega) rfl);obtain⟨r,hr⟩:=eX ((uQ a nums))
 try rw[<-hr]at HC
 rw[<-hr];clear H hr;go_enter Tryz.func55,Tryz.ntmps55;go_wp2_with fail;refine HC.out.mono ?_;rintro e1 w1 ⟨A2,c2,rfl,S2,N2,K2⟩;have S3:=lH S2;have N3:=lH N2;have K3:=lH K2;clear S2 N2 K2;go_wp2;go_ret2;exact⟨A2,c2,rfl,S3.out,N3.out,K3.out⟩
theorem vz(H:Ev W bn ba bb Q A B d c e nums a b):CJ 47 #[pX ba 0] W (cZ (a,0) W):=by
 have qva:=H.va;have HC:=lH (gR A c a W H.ra (by have:=H.la;omega));obtain⟨r,hr⟩:∃r:Sh,r=(a,0):=⟨_,rfl⟩
 have HR:=lH hr;rw[<-hr];clear H hr;go_enter Tryz.func47,Tryz.ntmps47;go_wp2_with fail;refine HC.out.mono ?_;rintro e1 w1 ⟨A2,c2,rfl,o2,K2⟩;have O3:=lH o2;have K3:=lH K2;clear o2 K2;go_wp2;go_ret2;exact cZ.mk_ HR.out sC (by simpa using O3.out) K3.out
theorem Ng(H:Ev W bn ba bb Q A B d c e nums a b):CJ 57 #[pX ba 0] W (cZ (a.reverse,0) W):=by
 have qva:=H.va;have HC:=lH (D9 A c a W H.ra (by have:=H.la;omega));obtain⟨r,hr⟩:∃r:Sh,r=(a.reverse,0):=⟨_,rfl⟩
 have HR:=lH hr;rw[<-hr];clear H hr;go_enter Tryz.func57,Tryz.ntmps57;go_wp2_with fail;refine HC.out.mono ?_;rintro e1 w1 ⟨A2,c2,rfl,o2,K2⟩;have O3:=lH o2;have K3:=lH K2;clear o2 K2;go_wp2;go_ret2;exact cZ.mk_ HR.out sC (by simpa using O3.out) K3.out
theorem Li(H:Ev W bn ba bb Q A B d c e nums a b):CJ 50 #[pX bn 0] W (cZ (nums,0) W):=by
 have qvn:=H.vn;have HC:=lH (gR Q d nums W H.rn (by have:=H.ln;omega));obtain⟨r,hr⟩:∃r:Sh,r=(nums,0):=⟨_,rfl⟩
 have HR:=lH hr;rw[<-hr];clear H hr;go_enter Tryz.func50,Tryz.ntmps50;go_wp2_with fail;refine HC.out.mono ?_;rintro e1 w1 ⟨A2,c2,rfl,o2,K2⟩;have O3:=lH o2;have K3:=lH K2;clear o2 K2;go_wp2;go_ret2;exact cZ.mk_ HR.out sC (by simpa using O3.out) K3.out
theorem LZ:CJ 52 #[] W (cZ ([],0) W):=by
 go_enter Tryz.func52,Tryz.ntmps52;go_wp2;go_ret2;exact cZ.nD rfl (Kp.refl _)
theorem Kn(H:Ev W bn ba bb Q A B d c e nums a b)(h1:1<=nums.length):CJ 51 #[pX bn 0] W (cZ (nums.drop 1,0) W):=by
 have qvn:=H.vn;have hcut:∀W,(Instr.sliceAt 23 (.slice Q nums.length d) (some (.int .i64 1)) none none).run Tryz.prog W= .ok (.slice (Jt Q d 1) (nums.length-1) (d-1)) W:=fun W=>EP W Q nums.length d 1 h1
 obtain⟨A3,hA3⟩:=eX (Jt Q d 1);obtain⟨c3,hc3⟩:=eX (d-1);obtain⟨n3,hn3⟩:=eX (nums.length-1);obtain⟨s,hs⟩:=eX (nums.drop 1);have HN:Hid (n3=s.length):=by show n3=_;rw[hn3,hs];simp
 have RS:Rd W A3 s:=by rw[hA3,hs];exact H.rn.Jt H.dn.1
 have HC:Hid (CJ 23 #[.slice A3 n3 c3] W (Jy s W)):=by
  rw[HN.out];exact gR A3 c3 s W RS (by rw[hs];have:=H.ln;simp;omega)
 rw[<-hA3,<-hc3,<-hn3]at hcut;rw[<-hs];clear H hA3 hc3 hn3 hs h1 RS;go_enter Tryz.func51,Tryz.ntmps51;go_wp2_with fail;refine HC.out.mono ?_;rintro e1 w1 ⟨A2,c2,rfl,o2,K2⟩;have O3:=lH o2;have K3:=lH K2;clear o2 K2;go_wp2;go_ret2;exact cZ.mk_ rfl rfl O3.out K3.out
theorem jP(H:Ev W bn ba bb Q A B d c e nums a b)(h1:nums.length=1):CJ 48 #[pX ba 0, pX bn 0] W (cZ (nH a (nums.getD 0 0)) W):=by
 obtain⟨x,rfl⟩:=gK h1;obtain⟨aq,rfl,hlt,hc⟩:=H.rn.2 sC;have q0:W.cell? aq=some (.int .i64 x):=by simpa [Addr.add]using hc 0 x rfl
 have qvn:W.cell? ⟨bn,0,none⟩=some (.slice (some aq) 1 d):=H.vn;have qva:=H.va;obtain⟨r,hr⟩:=eX (nH a (([x]:BU).getD 0 0));have HC:Hid (∀V,Kp W V->CJ 49 #[.slice A a.length c, .int .i64 x] V (cZ r W)):=fun V kV=>
  (zw A a.length c a x r V rfl (H.ra.kp kV) (by have:=H.la;omega) hr.symm).mono fun _ _ g=>g.back kV
 have K4:Hid (Kp W W.drew):=aa3 (Kp.refl W);rw[<-hr];clear H hr hc h1;go_enter Tryz.func48,Tryz.ntmps48;go_wp2_with fail
 go_region_with (refine(HC.out _ K4.out).mono ?_;rintro e1 w2 ⟨A2,c2,rfl,S2,N2,K2⟩;have S3:=lH S2;have N3:=lH N2;have K3:=lH K2;clear S2 N2 K2)
 all_goals
  go_wp2;go_ret2;exact⟨A2,c2,rfl,S3.out,N3.out,K3.out⟩
theorem NZ(H:Ev W bn ba bb Q A B d c e nums a b)(h1:nums.length=3):CJ 59 #[pX ba 0, pX bn 0] W (cZ (Js a (nums.getD 0 0) (nums.getD 1 0) (nums.getD 2 0)) W):=by
 obtain⟨x,y,z,rfl⟩:=nO h1;obtain⟨aq,rfl,hlt,hc⟩:=H.rn.2 sC;have q0:W.cell? aq=some (.int .i64 x):=by simpa [Addr.add]using hc 0 x rfl
 have q1:W.cell? ⟨aq.block,aq.off+1,none⟩=some (.int .i64 y):=hc 1 y rfl;have q2:W.cell? ⟨aq.block,aq.off+2,none⟩=some (.int .i64 z):=hc 2 z rfl;have qvn:W.cell? ⟨bn,0,none⟩=some (.slice (some aq) 3 d):=H.vn;have qva:=H.va;obtain⟨r,hr⟩:=eX (Js a (([x,y,z]:BU).getD 0 0) (([x,y,z]:BU).getD 1 0) (([x,y,z]:BU).getD 2 0));have HC:Hid (∀V,Kp W V->CJ 60 #[.slice A a.length c, .int .i64 x, .int .i64 y, .int .i64 z] V (cZ r W)):=fun V kV=>
  (Ey A a.length c a x y z r V rfl (H.ra.kp kV) (by have:=H.la;omega) (Oh H.oa) hr.symm).mono fun _ _ g=>g.back kV
 have HS:Hid (∀V,Kp W V->V.cell? ⟨ba,0,none⟩=some (.slice A a.length c)/\V.cell? ⟨bn,0,none⟩=some (.slice (some aq) 3 d)/\V.cell? aq=some (.int .i64 x)/\V.cell? ⟨aq.block,aq.off+1,none⟩=some (.int .i64 y)/\V.cell? ⟨aq.block,aq.off+2,none⟩=some (.int .i64 z)):=fun V kV=>⟨ay qva kV,ay qvn kV,ay q0 kV,ay q1 kV,ay q2 kV⟩
 have K4:Hid (Kp W W.drew):=aa3 (Kp.refl W);rw[<-hr];clear H hr hc h1;go_enter Tryz.func59,Tryz.ntmps59;go_wp2_with fail
 go_region_held3 (fun V=>V.cell? ⟨ba,0,none⟩=some (.slice A a.length c)/\V.cell? ⟨bn,0,none⟩=some (.slice (some aq) 3 d)/\V.cell? aq=some (.int .i64 x)/\V.cell? ⟨aq.block,aq.off+1,none⟩=some (.int .i64 y)/\V.cell? ⟨aq.block,aq.off+2,none⟩=some (.int .i64 z)) (first|exact⟨qva,qvn,q0,q1,q2⟩|exact qq)
  (first|(go_at_call 60;refine(HC.out _ K4.out).mono ?_;rintro e1 w2 ⟨A2,c2,rfl,S2,N2,K2⟩;have S3:=lH S2;have N3:=lH N2;have K3:=lH K2;have qq:=HS.out _ K2;clear S2 N2 K2))
 all_goals
  go_wp2;go_ret2;exact⟨A2,c2,rfl,S3.out,N3.out,K3.out⟩
theorem Ph(H:Ev W bn ba bb Q A B d c e nums a b)(h1:nums.length=1):CJ 61 #[pX ba 0, pX bb 0, pX bn 0] W (cZ (yC a b (nums.getD 0 0)) W):=by
 obtain⟨x,rfl⟩:=gK h1;obtain⟨aq,rfl,hlt,hc⟩:=H.rn.2 sC;have q0:W.cell? aq=some (.int .i64 x):=by simpa [Addr.add]using hc 0 x rfl
 have qvn:W.cell? ⟨bn,0,none⟩=some (.slice (some aq) 1 d):=H.vn;have qva:=H.va;have qvb:=H.vb;obtain⟨r,hr⟩:=eX (yC a b (([x]:BU).getD 0 0));have HC:Hid (∀V,Kp W V->CJ 62 #[.slice A a.length c, .slice B b.length e, .int .i64 x] V (cZ r W)):=fun V kV=>
  (OC A B a.length c b.length e a b x r V rfl rfl (H.ra.kp kV) (H.rb.kp kV) H.oa H.ob hr.symm).mono fun _ _ g=>g.back kV
 have HS:Hid (∀V,Kp W V->V.cell? ⟨ba,0,none⟩=some (.slice A a.length c)/\V.cell? ⟨bb,0,none⟩=some (.slice B b.length e)/\V.cell? ⟨bn,0,none⟩=some (.slice (some aq) 1 d)/\V.cell? aq=some (.int .i64 x)):=fun V kV=>⟨ay qva kV,ay qvb kV,ay qvn kV,ay q0 kV⟩
 have K4:Hid (Kp W W.drew):=aa3 (Kp.refl W);rw[<-hr];clear H hr hc h1;go_enter Tryz.func61,Tryz.ntmps61;go_wp2_with fail
 go_region_held3 (fun V=>V.cell? ⟨ba,0,none⟩=some (.slice A a.length c)/\V.cell? ⟨bb,0,none⟩=some (.slice B b.length e)/\V.cell? ⟨bn,0,none⟩=some (.slice (some aq) 1 d)/\V.cell? aq=some (.int .i64 x)) (first|exact⟨qva,qvb,qvn,q0⟩|exact qq)
  (first|(go_at_call 62;refine(HC.out _ K4.out).mono ?_;rintro e1 w2 ⟨A2,c2,rfl,S2,N2,K2⟩;have S3:=lH S2;have N3:=lH N2;have K3:=lH K2;have qq:=HS.out _ K2;clear S2 N2 K2))
 all_goals
  go_wp2;go_ret2;exact⟨A2,c2,rfl,S3.out,N3.out,K3.out⟩
end
open Gz
theorem aP{W:World}{g:Nat}{L:List (Int×Value)}{ops:Array Oper}{rest:List Oper}{o:Oper}{a:Act}{Q:Exit->Act->World->Prop}(hg:o.guard=none)(m x v:Operand)
  (hop:o.op=Op.insert 71 m x v)(k:Int)(val:Value)(hm:a.eval m= .map (some g))(hx:a.eval x= .int .i64 k)(hv:a.eval v=val)(h:Md W g L)(hn:atM L k=none)
  (hK:∀W',Md W' g (L++[(k,val)])->(∀B,B<=g->Below B W W')->wpList Tryz.prog ops Q rest (a.put o.dst undef) W'):wpList Tryz.prog ops Q (o::rest) a W:=by
 refine wpList_plain hg fun K' hK'=>?_
 obtain⟨W',hrun,r1,r2⟩:=h.put Tryz.underlying71 Tryz.underlying3 hn val;unfold Oper.wp;simp[execOp,hop,hm,hx,hv,hrun,Result.andThen];exact hK' _ _ (hK W' r1 r2)
theorem Md.Uj{P:Program}{W:World}{g:Nat}{L:List (Int×Value)}{t kt et:TypeId}(h:Md W g L)(ht:P.underlying t=some (.map kt et))(hk:P.underlying kt=some (.int .i64)){k:Int}{v:Value}(hv:atM L k=some v):
  (Instr.lookup t (.map (some g)) (.int .i64 k) false).run P W= .ok v W:=by
 obtain⟨es,c,hb,e⟩:=h;obtain⟨r,q1,q2⟩:=dL (P:=P) (W:=W) hk e k;rw[hv]at q2
 cases r with
 |none=>simp at q2
 |some x=>
  have hx:x.2=v:=by simpa using q2
  subst hx;simp[Instr.lookup,abk ht,abx hb,abH (n:=9999) hk (show MapKept.IsKey (.int .i64) (.int .i64 k)from rfl),q1,Result.andThen]
def ruL(pn pa pb:Value):List (Int×Value):=
 [(1, .func (.func 50) #[] #[pn]),(2, .func (.func 51) #[] #[pn]),(3, .func (.func 52) #[] #[]),(10, .func (.func 45) #[] #[pa,pb]),(11, .func (.func 45) #[] #[pa,pb]),(12, .func (.func 45) #[] #[pa,pb]),(13, .func (.func 45) #[] #[pa,pb]),(20, .func (.func 47) #[] #[pa]),(21, .func (.func 47) #[] #[pa]),(22, .func (.func 47) #[] #[pa]),(23, .func (.func 47) #[] #[pa]),(30, .func (.func 53) #[] #[pa,pb]),(40, .func (.func 55) #[] #[pa,pn]),(41, .func (.func 57) #[] #[pa]),(42, .func (.func 59) #[] #[pa,pn]),(43, .func (.func 61) #[] #[pa,pb,pn]),(50, .func (.func 48) #[] #[pa,pn]),(51, .func (.func 48) #[] #[pa,pn]),(52, .func (.func 48) #[] #[pa,pn])]
def ruI(n:Nat):List (Int×Value):=ruL (pX n 0) (pX (n+1) 0) (pX (n+1+1) 0)
theorem mD(Q A B:DV)(m d n c k e:Nat)(w:World):
  CJ 34 #[.slice Q m d, .slice A n c, .slice B k e] w fun e0 w'=>∃g,e0= .returned (.map (some g))/\Md w' g (ruI w.heap.size)/\Kp w w'/\
   w'.cell? ⟨w.heap.size,0,none⟩=some (.slice Q m d)/\w'.cell? ⟨w.heap.size+1,0,none⟩=some (.slice A n c)/\w'.cell? ⟨w.heap.size+1+1,0,none⟩=some (.slice B k e):=by
 have hmm:= @run_makeMap Tryz.prog;have h0:=Md.new (((w.alloc (.cells #[.slice Q m d] 23)).alloc (.cells #[.slice A n c] 23)).alloc (.cells #[.slice B k e] 23));rw[aaY,aaY,aaY]at h0;have hc3:Hid (Kp w (((w.alloc (.cells #[.slice Q m d] 23)).alloc (.cells #[.slice A n c] 23)).alloc (.cells #[.slice B k e] 23))/\∀W',Kp (((w.alloc (.cells #[.slice Q m d] 23)).alloc (.cells #[.slice A n c] 23)).alloc (.cells #[.slice B k e] 23)) W'->W'.cell? ⟨w.heap.size,0,none⟩=some (.slice Q m d)/\W'.cell? ⟨w.heap.size+1,0,none⟩=some (.slice A n c)/\W'.cell? ⟨w.heap.size+1+1,0,none⟩=some (.slice B k e)):=by
  have a1:=abB (w:=w) #[.slice Q m d] 23 _ 0 rfl;have a2:=abB (w:=w.alloc (.cells #[.slice Q m d] 23)) #[.slice A n c] 23 _ 0 rfl;have a3:=abB (w:=(w.alloc (.cells #[.slice Q m d] 23)).alloc (.cells #[.slice A n c] 23)) #[.slice B k e] 23 _ 0 rfl;rw[aaY]at a2;rw[aaY,aaY]at a3;exact⟨((Kp.af _ _).tr (Kp.af _ _)).tr (Kp.af _ _),fun W' k=>⟨ay (ay (ay a1 (Kp.af _ _)) (Kp.af _ _)) k,ay (ay a2 (Kp.af _ _)) k,ay a3 k⟩⟩
 have hmf:∀(fn:Fn) (first cap:Array Value) (w:World),(Instr.makeFunc fn first cap).run Tryz.prog w= .ok (.func fn first cap) w:=fun _ _ _ _=>rfl
 go_enter Tryz.func34,Tryz.ntmps34;go_wp2_with (first
  |(refine aP (L:=(ruI w.heap.size).take 0) rfl _ _ _ rfl 1 _ rfl rfl rfl h0 rfl ?_;intro w1 h1 b1)
  |(refine aP (L:=(ruI w.heap.size).take 1) rfl _ _ _ rfl 2 _ rfl rfl rfl h1 rfl ?_;intro w2 h2 b2)
  |(refine aP (L:=(ruI w.heap.size).take 2) rfl _ _ _ rfl 3 _ rfl rfl rfl h2 rfl ?_;intro w3 h3 b3)
  |(refine aP (L:=(ruI w.heap.size).take 3) rfl _ _ _ rfl 10 _ rfl rfl rfl h3 rfl ?_;intro w4 h4 b4)
  |(refine aP (L:=(ruI w.heap.size).take 4) rfl _ _ _ rfl 11 _ rfl rfl rfl h4 rfl ?_;intro w5 h5 b5)
  |(refine aP (L:=(ruI w.heap.size).take 5) rfl _ _ _ rfl 12 _ rfl rfl rfl h5 rfl ?_;intro w6 h6 b6)
  |(refine aP (L:=(ruI w.heap.size).take 6) rfl _ _ _ rfl 13 _ rfl rfl rfl h6 rfl ?_;intro w7 h7 b7)
  |(refine aP (L:=(ruI w.heap.size).take 7) rfl _ _ _ rfl 20 _ rfl rfl rfl h7 rfl ?_;intro w8 h8 b8)
  |(refine aP (L:=(ruI w.heap.size).take 8) rfl _ _ _ rfl 21 _ rfl rfl rfl h8 rfl ?_;intro w9 h9 b9)
  |(refine aP (L:=(ruI w.heap.size).take 9) rfl _ _ _ rfl 22 _ rfl rfl rfl h9 rfl ?_;intro w10 h10 b10)
  |(refine aP (L:=(ruI w.heap.size).take 10) rfl _ _ _ rfl 23 _ rfl rfl rfl h10 rfl ?_;intro w11 h11 b11)
  |(refine aP (L:=(ruI w.heap.size).take 11) rfl _ _ _ rfl 30 _ rfl rfl rfl h11 rfl ?_;intro w12 h12 b12)
  |(refine aP (L:=(ruI w.heap.size).take 12) rfl _ _ _ rfl 40 _ rfl rfl rfl h12 rfl ?_;intro w13 h13 b13)
  |(refine aP (L:=(ruI w.heap.size).take 13) rfl _ _ _ rfl 41 _ rfl rfl rfl h13 rfl ?_;intro w14 h14 b14)
  |(refine aP (L:=(ruI w.heap.size).take 14) rfl _ _ _ rfl 42 _ rfl rfl rfl h14 rfl ?_;intro w15 h15 b15)
  |(refine aP (L:=(ruI w.heap.size).take 15) rfl _ _ _ rfl 43 _ rfl rfl rfl h15 rfl ?_;intro w16 h16 b16)
  |(refine aP (L:=(ruI w.heap.size).take 16) rfl _ _ _ rfl 50 _ rfl rfl rfl h16 rfl ?_;intro w17 h17 b17)
  |(refine aP (L:=(ruI w.heap.size).take 17) rfl _ _ _ rfl 51 _ rfl rfl rfl h17 rfl ?_;intro w18 h18 b18)
  |(refine aP (L:=(ruI w.heap.size).take 18) rfl _ _ _ rfl 52 _ rfl rfl rfl h18 rfl ?_;intro w19 h19 b19))
 go_ret;have n0:w.heap.size+1+1+1<=w.heap.size+1+1+1:=aaZ _;have kk:=Below.alloc (abu _ (((w.alloc (.cells #[.slice Q m d] 23)).alloc (.cells #[.slice A n c] 23)).alloc (.cells #[.slice B k e] 23))) (Nat.le_of_eq (by rw[aaY,aaY,aaY])) (.map #[] 0) (B:=w.heap.size+1+1+1);have ka:=((((((((((((((((((kk.trans (b1 _ n0)).trans (b2 _ n0)).trans (b3 _ n0)).trans (b4 _ n0)).trans (b5 _ n0)).trans (b6 _ n0)).trans (b7 _ n0)).trans (b8 _ n0)).trans (b9 _ n0)).trans (b10 _ n0)).trans (b11 _ n0)).trans (b12 _ n0)).trans (b13 _ n0)).trans (b14 _ n0)).trans (b15 _ n0)).trans (b16 _ n0)).trans (b17 _ n0)).trans (b18 _ n0)).trans (b19 _ n0);have kb:Kp (((w.alloc (.cells #[.slice Q m d] 23)).alloc (.cells #[.slice A n c] 23)).alloc (.cells #[.slice B k e] 23)) w19:=by
  show Below _ _ _;rw[aaY,aaY,aaY];exact ka
 exact⟨_,rfl,h19,hc3.out.1.tr kb,hc3.out.2 _ kb⟩
theorem pR{op:Int}(h:0<=ak op):op=1∨op=2∨op=3∨op=10∨op=11∨op=12∨op=13∨op=20∨op=21∨op=22∨op=23∨op=30∨op=40∨op=41∨op=42∨op=43∨op=50∨op=51∨op=52:=by
 unfold ak at h;split at h
 ·omega
 ·split at h
  ·omega
  ·split at h
   ·omega
   ·omega
theorem Cn{nums a b:BU}(hn:aM (40,[],nums)=true):aR 40 nums a b=uQ a nums:=by
 have ho:okS nums=true:=by simpa [aM]using hn
 have e:aR 40 nums a b=fe nums (decide (au nums=au a)):=by simp[aR]
 rw[e];unfold fe uQ;by_cases h:au nums=au a
 ·rw[aaW ⟨by simpa using h,ho⟩,aaW h]
 ·rw[aaT (by simp[h]),aaT h]
theorem GF{nums a b:BU}:aR 42 nums a b=Js a (nums.getD 0 0) (nums.getD 1 0) (nums.getD 2 0):=by
 have e:aR 42 nums a b=if eG a (nums.getD 0 0)=false then([],20)else pP a (nums.getD 0 0) (nums.getD 1 0) (nums.getD 2 0):=by simp[aR,dQ]
 rw[e];unfold Js
 cases eG a (nums.getD 0 0)<;>simp
theorem GD{nums a b:BU}:aR 43 nums a b=yC a b (nums.getD 0 0):=by
 have e:aR 43 nums a b=if eG a (nums.getD 0 0)=false then([],20)else nI a b (nums.getD 0 0):=by simp[aR,dQ]
 rw[e];unfold yC
 cases eG a (nums.getD 0 0)<;>simp
theorem mV{op:Int}{nums a b:BU}(h:op=50∨op=51∨op=52):aR op nums a b=nH a (nums.getD 0 0):=by
 have e:aR op nums a b=if eG a (nums.getD 0 0)=false then([],20)else(a.eraseIdx (nums.getD 0 0).toNat,0):=by
  rcases h with rfl|rfl|rfl<;>simp[aR,dQ]
 rw[e];unfold nH
 cases eG a (nums.getD 0 0)<;>simp
theorem J9{W:World}{bn ba bb d c e:Nat}{Q A B:DV}{nums a b:BU}{op:Int}(H:Ev W bn ba bb Q A B d c e nums a b)(h0:0<=ak op)(hn:aM (op,[],nums)=true):
  ∃f L,atM (ruL (pX bn 0) (pX ba 0) (pX bb 0)) op=some (.func (.func f) #[] L)/\(∀args W,(callFunc f args).run Tryz.prog W= .ok (.enter f args) W)/\CJ f L W (cZ (aR op nums a b) W):=by
 rcases pR h0 with rfl|rfl|rfl|rfl|rfl|rfl|rfl|rfl|rfl|rfl|rfl|rfl|rfl|rfl|rfl|rfl|rfl|rfl|rfl
 ·have e0:aR 1 nums a b=(nums,0):=by simp[aR,dQ]
  rw[e0];exact⟨50,#[pX bn 0],rfl,fun args W=>MuLone.run_callFunc_enter Tryz.func50 kM rfl args W,Li H⟩
 ·have e0:aR 2 nums a b=(nums.drop 1,0):=by simp[aR,dQ]
  have h1:1<=nums.length:=by
   obtain⟨p,s,rfl,_⟩:=vO hn;simp
  rw[e0];exact⟨51,#[pX bn 0],rfl,fun args W=>MuLone.run_callFunc_enter Tryz.func51 kM rfl args W,Kn H h1⟩
 ·have e0:aR 3 nums a b=([],0):=by simp[aR,dQ]
  rw[e0];exact⟨52,#[],rfl,fun args W=>MuLone.run_callFunc_enter Tryz.func52 kM rfl args W,LZ⟩
 ·have e0:aR 10 nums a b=bG a b:=by simp[aR,dQ]
  rw[e0];exact⟨45,#[pX ba 0, pX bb 0],rfl,fun args W=>MuLone.run_callFunc_enter Tryz.func45 kM rfl args W,l9 H⟩
 ·have e0:aR 11 nums a b=bG a b:=by simp[aR,dQ]
  rw[e0];exact⟨45,#[pX ba 0, pX bb 0],rfl,fun args W=>MuLone.run_callFunc_enter Tryz.func45 kM rfl args W,l9 H⟩
 ·have e0:aR 12 nums a b=bG a b:=by simp[aR,dQ]
  rw[e0];exact⟨45,#[pX ba 0, pX bb 0],rfl,fun args W=>MuLone.run_callFunc_enter Tryz.func45 kM rfl args W,l9 H⟩
 ·have e0:aR 13 nums a b=bG a b:=by simp[aR,dQ]
  rw[e0];exact⟨45,#[pX ba 0, pX bb 0],rfl,fun args W=>MuLone.run_callFunc_enter Tryz.func45 kM rfl args W,l9 H⟩
 ·have e0:aR 20 nums a b=(a,0):=by simp[aR,dQ]
  rw[e0];exact⟨47,#[pX ba 0],rfl,fun args W=>MuLone.run_callFunc_enter Tryz.func47 kM rfl args W,vz H⟩
 ·have e0:aR 21 nums a b=(a,0):=by simp[aR,dQ]
  rw[e0];exact⟨47,#[pX ba 0],rfl,fun args W=>MuLone.run_callFunc_enter Tryz.func47 kM rfl args W,vz H⟩
 ·have e0:aR 22 nums a b=(a,0):=by simp[aR,dQ]
  rw[e0];exact⟨47,#[pX ba 0],rfl,fun args W=>MuLone.run_callFunc_enter Tryz.func47 kM rfl args W,vz H⟩
 ·have e0:aR 23 nums a b=(a,0):=by simp[aR,dQ]
  rw[e0];exact⟨47,#[pX ba 0],rfl,fun args W=>MuLone.run_callFunc_enter Tryz.func47 kM rfl args W,vz H⟩
 ·have e0:aR 30 nums a b=fZ a b:=by simp[aR,dQ]
  rw[e0];exact⟨53,#[pX ba 0, pX bb 0],rfl,fun args W=>MuLone.run_callFunc_enter Tryz.func53 kM rfl args W,Gg H⟩
 ·have e0:aR 40 nums a b=uQ a nums:=Cn hn;rw[e0];exact⟨55,#[pX ba 0, pX bn 0],rfl,fun args W=>MuLone.run_callFunc_enter Tryz.func55 kM rfl args W,Ao H⟩
 ·have e0:aR 41 nums a b=(a.reverse,0):=by simp[aR,dQ]
  rw[e0];exact⟨57,#[pX ba 0],rfl,fun args W=>MuLone.run_callFunc_enter Tryz.func57 kM rfl args W,Ng H⟩
 ·have e0:aR 42 nums a b=Js a (nums.getD 0 0) (nums.getD 1 0) (nums.getD 2 0):=GF;rw[e0];exact⟨59,#[pX ba 0, pX bn 0],rfl,fun args W=>MuLone.run_callFunc_enter Tryz.func59 kM rfl args W,NZ H (by simpa [aM]using hn)⟩
 ·have e0:aR 43 nums a b=yC a b (nums.getD 0 0):=GD;rw[e0];exact⟨61,#[pX ba 0, pX bb 0, pX bn 0],rfl,fun args W=>MuLone.run_callFunc_enter Tryz.func61 kM rfl args W,Ph H (by simpa [aM]using hn)⟩
 ·have e0:aR 50 nums a b=nH a (nums.getD 0 0):=mV oM;rw[e0];exact⟨48,#[pX ba 0, pX bn 0],rfl,fun args W=>MuLone.run_callFunc_enter Tryz.func48 kM rfl args W,jP H (by simpa [aM]using hn)⟩
 ·have e0:aR 51 nums a b=nH a (nums.getD 0 0):=mV oM;rw[e0];exact⟨48,#[pX ba 0, pX bn 0],rfl,fun args W=>MuLone.run_callFunc_enter Tryz.func48 kM rfl args W,jP H (by simpa [aM]using hn)⟩
 ·have e0:aR 52 nums a b=nH a (nums.getD 0 0):=mV oM;rw[e0];exact⟨48,#[pX ba 0, pX bn 0],rfl,fun args W=>MuLone.run_callFunc_enter Tryz.func48 kM rfl args W,jP H (by simpa [aM]using hn)⟩
def nK(B:Nat)(X:Nat->Prop)(w:World)(v:Value)(ts:List Nd):Prop:=∃vs,w.ownsRow B 39 3 v ts.length (dx vs)/\fM w (fun k=>X k/\v.ownBlock≠some k) vs ts
section
variable{w w':World}{B:Nat}{X Y:Nat->Prop}{v:Value}{ts us:List Nd}{A:DV}
theorem nK.own(h:nK B X w v ts):fJ B w v ts:=by
 obtain⟨vs,h,hv⟩:=h;exact⟨vs,h,hv.mono (Kp.refl _) fun _ _ x=>x.2⟩
theorem nK.bU(w:World)(B:Nat)(X:Nat->Prop):nK B X w (.slice none 0 0) []:=⟨[],World.ownsRow_nil w B _ 3,fM.bU _ _⟩
theorem nK.kp(h:nK B X w v ts)(k:Kp w w'):nK B X w' v ts:=by
 have hr:=fun k=>h.own.fP (k:=k)
 obtain⟨vs,⟨h1,h2⟩,hv⟩:=h;refine⟨vs,⟨h1,?_⟩,hv.mono k fun _ _ x=>x⟩;rcases h2 with h0|⟨g,cap,cur,rfl,hb,hg,r⟩
 ·exact .inl h0
 ·exact .inr ⟨g,cap,cur,rfl,hb,(k.block g (hr g rfl)).trans hg,r⟩
theorem uL{row:Option Nat}{p:V3}{t:Nd}(hg:w.grownBy w' row)(h:Vn w (fun k=>X k/\row≠some k) p t)(hY:∀k,k<w.heap.size->X k->row≠some k->Y k):Vn w' Y p t:=by
 obtain⟨A,c,B,d,e,c1,c2,d1,d2,r⟩:=h;refine⟨A,c,B,d,e,c1,c2,d1,d2,⟨jD hg r.ra (fun ad h1 h2=>(r.xa ad h1 h2).2),jD hg r.rn (fun ad h1 h2=>(r.xn ad h1 h2).2),fun ad h1 h2=>hY _ ?_ (r.xa ad h1 h2).1 (r.xa ad h1 h2).2,fun ad h1 h2=>hY _ ?_ (r.xn ad h1 h2).1 (r.xn ad h1 h2).2⟩⟩
 ·obtain⟨ad',e',hb,_⟩:=r.ra.2 h2;rw[h1]at e';injection e' with e';subst e';exact hb
 ·obtain⟨ad',e',hb,_⟩:=r.rn.2 h2;rw[h1]at e';injection e' with e';subst e';exact hb
theorem nK.grown{row:Option Nat}(h:nK B X w v ts)(hg:w.grownBy w' row)(hne:∀g,v.ownBlock=some g->row≠some g)(hX:∀k,k<w.heap.size->X k->row≠some k)(hY:∀k,k<w.heap.size->X k->Y k):nK B Y w' v ts:=by
 have hr:=fun k=>h.own.fP (k:=k)
 obtain⟨vs,⟨h1,h2⟩,hv⟩:=h;refine⟨vs,⟨h1,?_⟩,hv.len,fun j p t e1 e2=>?_⟩
 ·rcases h2 with h0|⟨g,cap,cur,rfl,hb,hgk,r⟩
  ·exact .inl h0
  ·exact .inr ⟨g,cap,cur,rfl,hb,(hg.block g (hr g rfl) (fun e=>hne g rfl e.symm)).trans hgk,r⟩
 ·have hm:=(hv.at_ j p t e1 e2).mono (Kp.refl w) (Y:=fun k=>(X k/\v.ownBlock≠some k)/\row≠some k) (fun k hk x=>⟨x,hX k hk x.1⟩);exact uL hg hm (fun k hk x _=>⟨hY k hk x.1,x.2⟩)
theorem ES(ho:nK B X w v ts)(c:Nat)(hr:RdN w (fun k=>X k/\v.ownBlock≠some k) A us)(hus:0<us.length)(hs:ts.length+us.length<=1000000)(hB:B<=w.heap.size)(ty:TypeId):
  ∃zs A' c' w',zs=ts++us/\(Builtin.append_ #[22,22] ty #[v, .slice A us.length c]).run Tryz.prog w= .ok (.slice A' zs.length c') w'/\nK B X w' (.slice A' zs.length c') zs/\Below B w w'/\w.grownBy w' v.ownBlock/\((Value.slice A' zs.length c').ownBlock=v.ownBlock∨(Value.slice A' zs.length c').ownBlock=some w.heap.size):=by
 obtain⟨i,hi,hz,h1,h2⟩:=info_parts ur;have qw:=fun k=>ho.own.from_ (k:=k)
 obtain⟨vs,hown,hv⟩:=ho;obtain⟨_,qs,hq,hh⟩:=hr;obtain⟨ad,rfl,_,hc⟩:=hh hus;obtain⟨v',w',hrun,gX,hg,_,hrow⟩:=run_append_own_at (P:=Tryz.prog) w B 22 ty 39 i _ 3 56 Tryz.underlying22 hi hz h1 h2 rfl oM _ _ _ hown ad us.length c (dx qs) (by rw[iq,hq.len]) hc
  (fun u hu=>by
   unfold dx at hu;rw[List.mem_flatMap]at hu;obtain⟨p,hp,hu⟩:=hu;obtain⟨j,hj⟩:=abC.1 hp;have hjl:j<us.length:=by have:=(aaU.1 hj).1;rw[hq.len]at this;exact this
   obtain⟨P,c1,Q,d1,ep,_⟩:=hq.at_ j p _ hj (aaV hjl);rw[ep]at hu;simp at hu;rcases hu with rfl|rfl|rfl<;>rfl) (by unfold maxLen;omega) oM hB
 have hv2:fM w' (fun k=>X k/\v'.ownBlock≠some k) (vs++qs) (ts++us):=by
  have hY:∀k,k<w.heap.size->X k->v.ownBlock≠some k->X k/\v'.ownBlock≠some k:=by
   intro k hk hX hne;refine⟨hX,?_⟩;rcases hrow with hrow|hrow
   ·rw[hrow];exact hne
   ·rw[hrow];intro e;injection e with e;omega
  have a1:fM w' (fun k=>X k/\v'.ownBlock≠some k) vs ts:=⟨hv.len,fun j p t g1 g2=>uL hg (hv.at_ j p t g1 g2) hY⟩
  have a2:fM w' (fun k=>X k/\v'.ownBlock≠some k) qs us:=⟨hq.len,fun j p t g1 g2=>uL hg (hq.at_ j p t g1 g2) hY⟩
  exact a1.app a2
 have ho2:nK B X w' v' (ts++us):=⟨vs++qs,by rw[abf,iu];exact gX,hv2⟩
 obtain⟨A2,c2,rfl,_⟩:=ho2.own.form;exact⟨ts++us,A2,c2,w',rfl,hrun,ho2,(abu _ _).grown hg hB (fun k hk=>qw k hk),hg,hrow⟩
theorem tF{ops:Array Oper}{rest:List Oper}{o:Oper}{a:Act}{Q:Exit->Act->World->Prop}(hgd:Region.wanted o (yielded ops a.tmps)=true)(s x:Operand)
  (hop:o.op= .call {callee:= .builtin .append,args:= #[s,x],argTypes:= #[22,22]})
  (v:Value)(ts:List Nd)(hs:a.eval s=v)(ho:nK B X w v ts)(A:DV)(c:Nat)(us:List Nd)(n:Nat)(hx:a.eval x= .slice A n c)(hn:n=us.length)(hr:RdN w (fun k=>X k/\v.ownBlock≠some k) A us)(hus:0<us.length)
  (hl:ts.length+us.length<=1000000)(hB:B<=w.heap.size)
  (h:∀zs A' c' w',Hid (zs=ts++us)->nK B X w' (.slice A' zs.length c') zs->Below B w w'->w.grownBy w' v.ownBlock->((Value.slice A' zs.length c').ownBlock=v.ownBlock∨(Value.slice A' zs.length c').ownBlock=some w.heap.size)->wpList Tryz.prog ops Q rest (a.put o.dst (.slice A' zs.length c')) w'):wpList Tryz.prog ops Q (o::rest) a w:=by
 refine BigFrame.wpList_want hgd fun K hK=>?_
 subst hn;obtain⟨zs,A',c',w',e,hrun,h1,h2,h3,h4⟩:=ES ho c hr hus hl hB o.type;unfold Oper.wp execOp;simp only[hop,resolve,invoke,builtin,acX,acW,acr,ab7,abT,ack,hs,hx,hrun];exact hK _ _ (h zs A' c' w' e h1 h2 h3 h4)
theorem EX{xs ys:BU}(ho:Own B w v xs)(c:Nat)(hr:Rd w A ys)(hy:0<ys.length)(hs:xs.length+ys.length<=1000000)(hB:B<=w.heap.size)(ty:TypeId):
  ∃zs A' c' w',zs=xs++ys/\(Builtin.append_ #[23,23] ty #[v, .slice A ys.length c]).run Tryz.prog w= .ok (.slice A' zs.length c') w'/\Own B w' (.slice A' zs.length c') zs/\Below B w w'/\w.grownBy w' v.ownBlock/\((Value.slice A' zs.length c').ownBlock=v.ownBlock∨(Value.slice A' zs.length c').ownBlock=some w.heap.size):=by
 obtain⟨ad,rfl,hlt,hc⟩:=hr.2 hy;obtain⟨i,hi,hz,h1,h2⟩:=info_parts dz;obtain⟨v',w',hrun,hown,hg,_,hrow⟩:=run_append_own_at (P:=Tryz.prog) w B 23 ty 3 i _ 1 8 Tryz.underlying23 hi hz h1 h2 rfl oM _ _ _ ho ad ys.length c (ys.map (Value.int .i64)) sC
  (fun j u hu=>by
   rw[aa7,ab0]at hu;obtain⟨x,hx,rfl⟩:=hu;exact hc j x hx) (fun v hv=>by obtain⟨x,_,rfl⟩:=abN.1 hv;rfl) (by unfold maxLen;omega) oM hB
 have hown':Own B w' v' (xs++ys):=by simpa [Own]using hown
 obtain⟨A2,c2,rfl,_⟩:=hown'.form;refine⟨xs++ys,A2,c2,w',rfl,hrun,hown',(abu _ _).grown hg hB (fun k hk=>ho.from_ hk),hg,hrow⟩
theorem tI{xs ys:BU}{ops:Array Oper}{rest:List Oper}{o:Oper}{a:Act}{Q:Exit->Act->World->Prop}(hgd:Region.wanted o (yielded ops a.tmps)=true)(s x:Operand)
  (hop:o.op= .call {callee:= .builtin .append,args:= #[s,x],argTypes:= #[23,23]})
  (v:Value)(hs:a.eval s=v)(ho:Own B w v xs)(A:DV)(c:Nat)(n:Nat)(hx:a.eval x= .slice A n c)(hn:n=ys.length)(hr:Rd w A ys)(hy:0<ys.length)
  (hl:xs.length+ys.length<=1000000)(hB:B<=w.heap.size)
  (h:∀zs A' c' w',Hid (zs=xs++ys)->Own B w' (.slice A' zs.length c') zs->Below B w w'->w.grownBy w' v.ownBlock->((Value.slice A' zs.length c').ownBlock=v.ownBlock∨(Value.slice A' zs.length c').ownBlock=some w.heap.size)->wpList Tryz.prog ops Q rest (a.put o.dst (.slice A' zs.length c')) w'):wpList Tryz.prog ops Q (o::rest) a w:=by
 refine BigFrame.wpList_want hgd fun K hK=>?_
 subst hn;obtain⟨zs,A',c',w',e,hrun,h1,h2,h3,h4⟩:=EX ho c hr hy hl hB o.type;unfold Oper.wp execOp;simp only[hop,resolve,invoke,builtin,acX,acW,acr,ab7,abT,ack,hs,hx,hrun];exact hK _ _ (h zs A' c' w' e h1 h2 h3 h4)
end
theorem II{w:World}{A:DV}{xs:BU}{p:Addr}(h:Rd w A xs)(hx:∀ad,A=some ad->0<xs.length->ad.block≠p.block)(u:Value):Rd (w.setCell p u) A xs:=
 ⟨h.1,fun hn=>by
  obtain⟨ad,e,hb,hc⟩:=h.2 hn;refine⟨ad,e,by rw[abG];exact hb,fun j x hj=>?_⟩;rw[World.cell?_setCell_other]
  ·exact hc j x hj
  ·intro e';exact hx ad e hn (by rw[e',ah])⟩
theorem Ku{w:World}{B:Nat}{v:Value}{xs:BU}{p:Addr}(h:Own B w v xs)(hp:p.block<B)(u:Value):Own B (w.setCell p u) v xs:=
 h.of_block fun g hg=>by
  have:=h.from_ hg;exact abq _ _ _ g oM
theorem AW{w:World}{B:Nat}{v:Value}{xs:BU}(h:Own B w v xs){g:Nat}(hg:v.ownBlock=some g):B<=g/\g<w.heap.size:=by
 rcases h.2 with⟨rfl,_⟩|⟨g',cap,cur,rfl,hb,hh,_⟩
 ·cases hg
 ·injection hg with hg
  subst hg;exact⟨hb,(aa0.1 hh).1⟩
theorem nK.put{B:Nat}{X:Nat->Prop}{w:World}{v:Value}{ts:List Nd}{p:Addr}(h:nK B X w v ts)(hp:p.block<B)(hX:∀k,X k->B<=k)(u:Value):nK B X (w.setCell p u) v ts:=by
 have hr:=fun k=>h.own.from_ (k:=k)
 obtain⟨vs,⟨h1,h2⟩,hv⟩:=h;refine⟨vs,⟨h1,?_⟩,hv.len,fun j q t e1 e2=>?_⟩
 ·rcases h2 with h0|⟨g,cap,cur,rfl,hb,hgk,r⟩
  ·exact .inl h0
  ·exact .inr ⟨g,cap,cur,rfl,hb,(abq _ _ _ g oM).trans hgk,r⟩
 ·obtain⟨A,c,C,d,e,c1,c2,d1,d2,r⟩:=hv.at_ j q t e1 e2;exact⟨A,c,C,d,e,c1,c2,d1,d2,II r.ra (fun ad g1 g2=>by have:=hX _ (r.xa ad g1 g2).1;omega) u,II r.rn (fun ad g1 g2=>by have:=hX _ (r.xn ad g1 g2).1;omega) u,r.xa,r.xn⟩
def cst:Nd:=(3,[],[0])
def qu(n:Nat):BU:=(List.range n).map fun k:Nat=>(k:Int)
theorem GN(n:Nat):qu (n+1)=qu n++[(n:Int)]:=by unfold qu;rw[acN,abK];rfl
theorem qt(n:Nat):(qu n).length=n:=by unfold qu;simp
theorem Hy(n:Nat):List.replicate (n+1) cst=List.replicate n cst++[cst]:=by rw[List.replicate_succ']
theorem u5{op:Int}{nums:BU}{na:Nat}(h:(na:Int)=ak op):aK (List.replicate na cst++[(op,qu na,nums)])=aM (op,[],nums):=by
 have hle:na<=2:=by have:=gT op;omega
 have hlen:(List.replicate na cst++[(op,qu na,nums)]).length=na+1:=by simp
 have hm:∀i,i<=na->∀m∈(List.replicate na cst++[(op,qu na,nums)]).take i,m=cst:=fun i hi m hm=>by
  rw[List.take_append_of_le_length (by simpa using hi)]at hm;exact acs (List.mem_of_mem_take hm)
 rw[acD,aO];constructor
 ·rintro⟨_,_,h3⟩;have h4:=h3 na (op,qu na,nums) (by rw[abz sC];simp);exact(bh.1 h4).2.2.1
 ·intro hn;refine⟨oM,oM,fun i t ht=>?_⟩;have hi:i<na+1:=by rw[<-hlen];exact(aaU.1 ht).1
  have hlk:∀m∈(List.replicate na cst++[(op,qu na,nums)]).take i,cW m t=true:=fun m hmm=>by
   rw[hm i oM m hmm];unfold cW;rw[aaW];by_cases e:cst.1=t.1
   ·exact .inr (.inl (by show(2:Int)<3;decide))
   ·exact .inl e
  by_cases hin:i<na
  ·rw[aco (by simpa using hin),abV,aaW hin]at ht;injection ht with ht
   subst ht;exact bh.2 ⟨dG,dG,dG,fun a ha=>(by cases ha),hlk⟩
  ·obtain rfl:i=na:=by omega
   rw[abz sC]at ht;simp at ht;subst ht;refine bh.2 ⟨by show 0<=ak op;omega,by show((qu i).length:Int)=_;rw[qt];exact h,hn,fun a ha=>?_,hlk⟩;unfold qu at ha;obtain⟨k,hk,rfl⟩:=abN.1 ha;have:=abZ.1 hk;omega
theorem Ig{gs:List (BU)}{k:Nat}{s:BU}(h:(gs.take k).all okS=true)(hs:gs[k]?=some s)(ho:okS s=true):(gs.take (k+1)).all okS=true:=by
 rw[List.take_add_one,hs,List.all_append,h];simp[ho]
theorem Mr{gs:List (BU)}{k:Nat}{s:BU}(hs:gs[k]?=some s)(ho:okS s=false):gs.all okS=false:=by
 cases e:gs.all okS with
 |false=>rfl
 |true=>
  rw[abn]at e;rw[e s (aa1 hs)]at ho;cases ho
structure Lp(w1:World)(G:Nat)(op:Int)(Q:DV)(m d:Nat)(k:Nat)(L:DV)(cl:Nat)(D:DV)(cd:Nat)(W:World):Prop where
 ol:nK (G+1) (fun b=>(Value.slice D k cd).ownBlock≠some b/\G+1<=b) W (.slice L k cl) (List.replicate k cst)
 od:Own (G+1) W (.slice D k cd) (qu k)
 ob:Nb W G op D k cd Q m d
 on:∀g,(Value.slice L k cl).ownBlock=some g->(Value.slice D k cd).ownBlock≠some g
 ok:Kp w1 W
theorem Nb.Ra{W:World}{b n c m d n' c':Nat}{op:Int}{P Q P':DV}(h:Nb W b op P n c Q m d):Nb (W.setCell ⟨b,1,none⟩ (.slice P' n' c')) b op P' n' c' Q m d:=by
 obtain⟨hlt,hk⟩:=aa0.1 h;show(W.heap.modify b _)[b]?=_;rw[acS (by rw[Array.size_modify];exact hlt),Array.getElem_modify_self,hk];rfl
theorem Nb.tbi{W W':World}{b n c m d:Nat}{op:Int}{P Q:DV}{B:Nat}(h:Nb W b op P n c Q m d)(k:Below B W W')(hb:b<B):Nb W' b op P n c Q m d:=(k.block b hb).trans h
theorem Bw(op:Int)(nums:BU)(P Q A:DV)(n c m d na e:Nat)(gs:List (BU))(r:Bool)(w:World)(hQ:Rd w Q nums)(hA:RdL w A gs)(hm:m=nums.length)(hd:m<=d/\d<=9223372036854775807)(hna:na=gs.length)(he:na<=e/\e<=9223372036854775807)
  (hr:(decide ((na:Int)=ak op)&&(aM (op,[],nums)&&gs.all okS))=r):
  CJ 33 #[.agg #[.int .i64 op, .slice P n c, .slice Q m d], .slice A na e] w fun e w'=>e= .returned (.bool r)/\Kp w w':=by
 obtain⟨v,hv⟩:=eX (ak op);have HAR:=lH (fun W=>Dn op v W hv.symm);have HV:=lH hv;have F0:Hid (Nb (w.alloc (.cells #[.int .i64 op, .slice P n c, .slice Q m d] 39)) w.heap.size op P n c Q m d):=Nb.new rfl;have K0:Hid (Kp w (w.alloc (.cells #[.int .i64 op, .slice P n c, .slice Q m d] 39))):=Kp.af _ _;have x0:=F0.out.c0;by_cases h1:(na:Int)=v
 ·have e1:((na:Int) !=v)=false:=by rw[bne_eq_false_iff_eq];exact h1
  have HRR:Hid ((aM (op,[],nums)&&gs.all okS)=r):=by show _=r;rw[<-hr,<-hv,h1];simp
  have hle:na<=2:=by have:=gT op;omega
  have HAL:=lH (u5 (nums:=nums) (h1.trans hv));have HRA:=lH hA;have HRQ:=lH hQ;have HNA:=lH hna;have HD:=lH hd;have HM:=lH hm;clear hr h1 hv hQ hA hna hd hm;go_enter Tryz.func33,Tryz.ntmps33;go_wp2_with fail;refine(HAR.out _).mono ?_;rintro e0 w1 ⟨rfl,k1⟩;have K1:=lH (K0.out.tr k1);have F1:=lH (F0.out.kp k1);have y0:=F1.out.c0;have y2:=F1.out.c2;clear k1 x0 HAR;go_wp2
  go_loopw [5,22] (fun v i wx=>∃(k:Nat) (L:DV) (cl:Nat) (D:DV) (cd:Nat),v= .slice L k cl/\i= .int .i64 (k:Int)/\Hid (k<=na)/\Hid (Lp w1 w1.heap.size op Q m d k L cl D cd wx)/\Hid ((gs.take k).all okS=true)) (fun _ i _=>na-(intOf i).toNat)
  case atStart=>
   refine⟨0,none,0,none,0,rfl,rfl,aa6 _,?_,(by show(gs.take 0).all okS=true;simp)⟩;exact⟨nK.bU _ _ _,Own.bU _ _,Nb.new rfl,fun g e=>(by cases e),Kp.af _ _⟩
  case round=>
   obtain⟨k,L,cl,D,cd,rfl,rfl,hk,hLp,hall⟩:=hrel;by_cases hj:k<na
   ·have hj':(k:Int)<(na:Int):=by omega
    have KW:=lH (K1.out.tr hLp.out.ok);obtain⟨ad,s,As,cs,rfl,hlt,hs,hc,rs,l1,l2,_⟩:=(HRA.out.kp KW.out).at_ (k:=k) (by rw[<-HNA.out];exact hj);have HCK:=lH (bQ As cs s wr rs);have HS:=lH hs;clear hs rs
    cases ho:okS s with
    |false=>
     rw[ho]at HCK;have hv2:r=false:=by rw[<-HRR.out,Mr HS.out ho,Bool.and_false]
     subst hv2;clear ho;go_wp2_with fail;refine HCK.out.mono ?_;rintro e0 w2 ⟨rfl,rfl⟩;go_wp2;go_ret;exact⟨rfl,KW.out⟩
    |true=>
     rw[ho]at HCK;have Tb:=lH (Ig hall.out HS.out ho);have p1:=hLp.out.ob.c1;have q1:=hLp.out.ob.f0 1;have hGs:Hid (w1.heap.size+1<=wr.heap.size):=hLp.out.ob.lt;have Qy:Hid (k<=2):=by show k<=2;omega
     clear ho;go_wp2_with fail;refine HCK.out.mono ?_;rintro e0 w2 ⟨rfl,rfl⟩;have HX1:Hid (RdN ((wr.alloc (.cells #[.int .i64 0] 3)).alloc (.cells #[.int .i64 3, .slice none 0 0, .slice (some ⟨wr.heap.size,0,none⟩) 1 1] 39)) (fun b=>((Value.slice D k cd).ownBlock≠some b/\w1.heap.size+1<=b)/\(Value.slice L k cl).ownBlock≠some b) (some ⟨wr.heap.size+1,0,none⟩) [cst]):=by
      have h:=RdN.one (w:=wr.alloc (.cells #[.int .i64 0] 3)) (X:=fun b=>((Value.slice D k cd).ownBlock≠some b/\w1.heap.size+1<=b)/\(Value.slice L k cl).ownBlock≠some b) (P:=none) (Q:=some ⟨wr.heap.size,0,none⟩) (t:=cst) (c:=0) (d:=1)
       ⟨Rd.nil _ _,Rd.one wr 0 _,fun ad e1 e2=>(by cases e1),fun ad e1 e2=>by
        injection e1 with e1
        subst e1;exact⟨⟨fun e3=>(by have:=(AW hLp.out.od e3).2;exact Nat.lt_irrefl _ this),hGs.out⟩,fun e3=>Nat.lt_irrefl _ (hLp.out.ol.own.fP e3)⟩⟩ ⟨aaZ _,oM⟩ ⟨aaZ _,oM⟩ 39
      rw[aaY]at h;exact h
     have KA:Hid (Kp wr ((wr.alloc (.cells #[.int .i64 0] 3)).alloc (.cells #[.int .i64 3, .slice none 0 0, .slice (some ⟨wr.heap.size,0,none⟩) 1 1] 39))):=(Kp.af _ _).tr (Kp.af _ _);go_wp2_with (first
      |(at_builtin;refine tF (B:=w1.heap.size+1) (X:=fun b=>(Value.slice D k cd).ownBlock≠some b/\w1.heap.size+1<=b) rfl (.tmp 30) (.tmp 33) rfl (.slice L k cl) (List.replicate k cst) rfl (hLp.out.ol.kp KA.out) _ _ [cst] 1 rfl rfl HX1.out (by decide) (by have:=Qy.out;simp;omega) (by have:=hGs.out;simp;omega) ?_;intro z1 A1 c1 w5 HZ1 o1 b1 g1 r1;have O1:=lH o1;have B1:=lH b1;have G1:=lH g1;have R1:=lH r1;have N5:Hid (Nb w5 w1.heap.size op D k cd Q m d):=Nb.tbi (hLp.out.ob.kp KA.out) b1 (aby _);have p5:=N5.out.c1;have D5:Hid (Own (w1.heap.size+1) w5 (.slice D k cd) (qu k)):=(hLp.out.od.kp KA.out).of_block (fun g e=>g1.block g (by have:=(AW hLp.out.od e).2;have:=KA.out.size;omega) (fun e2=>hLp.out.on g e2.symm e));have S5:Hid (w1.heap.size+1<=w5.heap.size):=N5.out.lt;clear o1 b1 g1 r1)
      |(at_builtin;refine tI (B:=w1.heap.size+1) (ys:=[(k:Int)]) rfl (.tmp 36) (.tmp 38) rfl (.slice D k cd) rfl (D5.out.kp (Kp.af _ _)) _ _ 1 rfl rfl (Rd.one _ _ _) (by simp) (by rw[qt];have:=Qy.out;simp;omega) (by have:=S5.out;simp;omega) ?_;intro z2 A2 c2 w7 HZ2 o2 b2 g2 r2;have O2:=lH o2;have B2:=lH b2;have G2:=lH g2;have R2:=lH r2;have N7:Hid (Nb w7 w1.heap.size op D k cd Q m d):=Nb.tbi (N5.out.kp (Kp.af _ _)) b2 (aby _);have p7:=N7.out.c1;have q7:=N7.out.f0 1;clear o2 b2 g2 r2))
     have hz1:z1=List.replicate (k+1) cst:=by rw[HZ1.out,Hy]
     have hz2:z2=qu (k+1):=by rw[HZ2.out,GN]
     have l1:z1.length=k+1:=by rw[hz1,aa5]
     have l2:z2.length=k+1:=by rw[hz2,qt]
     subst hz1;subst hz2;rw[l1]at O1 R1⊢;rw[l2]at O2 R2⊢;refine⟨⟨k+1,A1,c1,A2,c2,rfl,by go_num,(by show k+1<=na;omega),?_,Tb.out⟩,by simp[intOf];omega⟩;have WB:(w5.alloc (.cells #[.int .i64 (k:Int)] 3)).heap.size=w5.heap.size+1:=aaY _ _;have hKA:=KA.out.size;have WA:wr.heap.size<=w5.heap.size:=by have:=B1.out.size;omega
     have hD5:∀g,(Value.slice D k cd).ownBlock=some g->w1.heap.size+1<=g/\g<wr.heap.size:=fun g e=>AW hLp.out.od e
     have TQ:∀g,(Value.slice A1 (k+1) c1).ownBlock=some g->(Value.slice D k cd).ownBlock≠some g:=fun g e e2=>by
      rcases R1.out with h|h
      ·exact hLp.out.on g (h.symm.trans e) e2
      ·rw[e]at h;injection h with h
       have:=(hD5 g e2).2;omega
     have KB:Below (w1.heap.size+1) wr w7:=((Below.mono KA.out hGs.out).trans B1.out).trans ((Below.mono (Kp.af _ _) S5.out).trans B2.out);have O6:=(O1.out.kp (Kp.af w5 (.cells #[.int .i64 (k:Int)] 3)))
     refine⟨?_,Ku O2.out (aby _) _,Nb.Ra N7.out,fun g e e2=>?_,?_⟩
     ·refine nK.put ?_ (aby _) (fun b x=>x.2) _;refine O6.grown G2.out (fun g e=>TQ g e) (fun b _ x=>x.1) (fun b hb x=>⟨fun e=>?_,x.2⟩);rcases R2.out with h|h
      ·exact x.1 (h.symm.trans e)
      ·rw[e]at h;injection h with h;omega
     ·rcases R2.out with h|h
      ·exact TQ g e (h.symm.trans e2)
      ·rw[e2]at h;injection h with h
       have:=O1.out.own.fP e;omega
     ·exact(hLp.out.ok.trans (Below.mono KB (abe _))).setCell (p:=⟨w1.heap.size,1,none⟩) (aaZ _) _
   ·have hkn:k=na:=by have:=hk.out;omega
    subst hkn;have hj':¬(k:Int)<(k:Int):=by omega
    have Tb:Hid (gs.all okS=true):=by
     have h:=hall.out;rw[HNA.out,acj]at h;exact h
    have KW:=lH (K1.out.tr hLp.out.ok);have x0:=hLp.out.ob.c0;have x1:=hLp.out.ob.c1;have x2:=hLp.out.ob.c2;have hGs:Hid (w1.heap.size+1<=wr.heap.size):=hLp.out.ob.lt;have HX1:Hid (RdN (wr.alloc (.cells #[.int .i64 op, .slice D k cd, .slice Q m d] 39)) (fun b=>(Value.slice L k cl).ownBlock≠some b) (some ⟨wr.heap.size,0,none⟩) [(op,qu k,nums)]):=by
     have hsl:=hLp.out.od.sl;have h:=RdN.one (w:=wr) (X:=fun b=>(Value.slice L k cl).ownBlock≠some b) (P:=D) (Q:=Q) (t:=(op,qu k,nums)) (c:=cd) (d:=d)
      ⟨hsl.rd,HRQ.out.kp KW.out,fun ad e1 e2 e3=>hLp.out.on _ e3 (by rw[e1];rfl),fun ad e1 e2 e3=>by
       have g1:=hLp.out.ol.own.from_ e3;obtain⟨ad2,e4,hb,_⟩:=HRQ.out.2 e2;rw[e1]at e4;injection e4 with e4;subst e4
       have:=K1.out.size;omega⟩ ⟨hsl.le,hsl.cap⟩ ⟨by rw[<-HM.out];exact HD.out.1,HD.out.2⟩ 39
     dsimp only at h;rw[qt,<-HM.out]at h;exact h
    have Qy:Hid (k<=2):=hle;go_wp2_with (at_builtin;refine mq (B:=w1.heap.size+1) rfl (.tmp 42) (.tmp 44) rfl (.slice L k cl) (List.replicate k cst) rfl (hLp.out.ol.own.kp (Kp.af _ _)) _ _ [(op,qu k,nums)] 1 rfl rfl HX1.out (by have:=Qy.out;simp;omega) (by have:=hGs.out;simp;omega) ?_;intro z1 A1 c1 w5 HZ1 o1 b1 _;have O1:=lH o1;have K5:Hid (Kp w w5):=KW.out.trans ((Below.mono (Kp.af _ _) KW.out.size).trans (Below.mono b1 (acU K1.out.size)));clear o1 b1);have hz1:z1=List.replicate k cst++[(op,qu k,nums)]:=HZ1.out;obtain⟨A2,c2,e2,R2,hc1,hc2⟩:=O1.out.form;have HCH:Hid (CJ 26 #[.slice A1 z1.length c1] w5 fun e w'=>e= .returned (.bool r)/\Kp w5 w'):=by
     injection e2 with f1 f2 f3
     subst f1 f3;refine qH A1 c1 z1.length z1 r w5 R2 hc1 hc2 rfl ?_;rw[hz1,HAL.out,<-HRR.out,Tb.out,Bool.and_true]
    clear hz1 e2 R2 hc1 hc2;go_wp2_with fail;refine HCH.out.mono ?_;rintro e0 w6 ⟨rfl,k6⟩;have K6:=lH (K5.out.tr k6);clear k6;go_wp2;go_ret;exact⟨rfl,K6.out⟩
 ·have e1:((na:Int) !=v)=true:=by rw[bne_iff_ne];exact h1
  have hv2:r=false:=by rw[<-hr,<-hv,show decide ((na:Int)=v)=false by simpa using h1];rfl
  subst hv2;clear hr h1 hv hm hna hd hQ hA;go_enter Tryz.func33,Tryz.ntmps33;go_wp2_with fail;refine(HAR.out _).mono ?_;rintro e0 w1 ⟨rfl,k1⟩;have K1:=lH (K0.out.tr k1);clear k1;go_wp2;go_ret;exact⟨rfl,K1.out⟩
theorem Bh{op:Int}{nums:BU}{gs:List (BU)}(h:(decide ((gs.length:Int)=ak op)&&(aM (op,[],nums)&&gs.all okS))=false):aF op nums gs=([],20):=by
 unfold aF;rw[aaT];rintro⟨h1,h2,h3⟩;rw[(jL.1 h1).2,h3,show decide ((gs.length:Int)=ak op)=true by simpa using h2]at h
 cases h
theorem vQ{op:Int}{nums:BU}{gs:List (BU)}(h:(decide ((gs.length:Int)=ak op)&&(aM (op,[],nums)&&gs.all okS))=true):aF op nums gs=aR op nums (gs.getD 0 []) (gs.getD 1 [])/\(gs.length:Int)=ak op/\aM (op,[],nums)=true/\gs.all okS=true:=by
 rw[abb,abb,abE]at h;obtain⟨h1,h2,h3⟩:=h;unfold aF;rw[aaW ⟨jL.2 ⟨oM,h2⟩,h1,h3⟩];exact⟨rfl,h1,h2,h3⟩
theorem Kr{W:World}{X:Nat->Prop}{vs:List Value}{gs:List (BU)}(hv:lE W X vs gs)(h2:gs.length<=2):
  ∃A0 c0 A1 c1,splice [.slice none 0 0, .slice none 0 0] 0 vs=[.slice A0 (gs.getD 0 []).length c0, .slice A1 (gs.getD 1 []).length c1]/\Rd W A0 (gs.getD 0 [])/\Rd W A1 (gs.getD 1 []):=by
 have hl:=hv.len
 match vs,gs,hv,hl,h2 with
 | [],[],_,_,_=>exact⟨none,0,none,0,by simp[splice],Rd.nil _ _,Rd.nil _ _⟩
 | [p],[a],hv,_,_=>
  obtain⟨P,c,rfl,_,_,r,_⟩:=hv.at_ 0 p a rfl rfl;exact⟨P,c,none,0,by simp[splice],r,Rd.nil _ _⟩
 | [p,q],[a,b],hv,_,_=>
  obtain⟨P,c,rfl,_,_,r,_⟩:=hv.at_ 0 p a rfl rfl;obtain⟨R,d,rfl,_,_,s,_⟩:=hv.at_ 1 q b rfl rfl;exact⟨P,c,R,d,by simp[splice],r,s⟩
 | [],b::_,_,hl,_=>simp at hl
 |_::_,[],_,hl,_=>simp at hl
 | [_],_::_::_,_,hl,_=>simp at hl
 |_::_::_,[_],_,hl,_=>simp at hl
 |_::_::_::_,[_,_],_,hl,_=>simp at hl
 |_,_::_::_::_,_,_,h2=>simp at h2
theorem Bl(op:Int)(nums:BU)(P Q A:DV)(n c m d na e:Nat)(gs:List (BU))(w:World)(hQ:Rd w Q nums)(hA:RdL w A gs)(hm:m=nums.length)(hd:m<=d/\d<=9223372036854775807)(hna:na=gs.length)(he:na<=e/\e<=9223372036854775807)(hw:W64 nums)(hl:nums.length<=100):
  CJ 27 #[.agg #[.int .i64 op, .slice P n c, .slice Q m d], .slice A na e] w (cZ (aF op nums gs) w):=by
 have K0:Hid (Kp w (w.alloc (.cells #[.int .i64 op, .slice P n c, .slice Q m d] 39))):=Kp.af _ _;have F0:Hid (Nb (w.alloc (.cells #[.int .i64 op, .slice P n c, .slice Q m d] 39)) w.heap.size op P n c Q m d):=Nb.new rfl;have x0:=F0.out.c0;have x1:=F0.out.c1;have x2:=F0.out.c2
 cases hb:(decide ((gs.length:Int)=ak op)&&(aM (op,[],nums)&&gs.all okS))with
 |false=>
  rw[Bh hb];have HMB:=lH (Bw op nums P Q A n c m d na e gs false _ (hQ.kp K0.out) (hA.kp K0.out) hm hd hna he (by rw[hna];exact hb));clear hb hm hna hQ hA hw hl hd;go_enter Tryz.func27,Tryz.ntmps27;go_wp2_with fail;refine HMB.out.mono ?_;rintro e0 w1 ⟨rfl,k1⟩;have K1:=lH (K0.out.tr k1);clear k1;go_wp2;go_ret2;exact cZ.nD rfl K1.out
 |true=>
  have HMB:=lH (Bw op nums P Q A n c m d na e gs true _ (hQ.kp K0.out) (hA.kp K0.out) hm hd hna he (by rw[hna];exact hb));obtain⟨e1,e2,e3,e4⟩:=vQ hb;rw[e1];have hle:na<=2:=by have:=gT op;omega
  obtain⟨a,ha⟩:=eX (gs.getD 0 []);obtain⟨b,hbb⟩:=eX (gs.getD 1 []);have HOK:Hid (okS a=true/\okS b=true):=⟨by rw[ha];exact ul e4 0,by rw[hbb];exact ul e4 1⟩
  have HAR:Hid (0<=ak op/\aM (op,[],nums)=true):=⟨oM,e3⟩
  rw[<-ha,<-hbb];have HAB:Hid (∀V X vs,lE V X vs gs->∃A0 c0 A1 c1,splice [.slice none 0 0, .slice none 0 0] 0 vs=[.slice A0 a.length c0, .slice A1 b.length c1]/\Rd V A0 a/\Rd V A1 b):=fun V X vs hv=>by rw[ha,hbb];exact Kr hv oM
  obtain⟨_,vs,hvs,hcells⟩:=hA;obtain⟨A0,c0,A1,c1,hsp,ra,rb⟩:=HAB.out _ _ _ hvs;have HSP:=lH hsp;have HRA:=lH ra;have HRB:=lH rb;have HVL:Hid (vs.length=na):=by show _=_;rw[hvs.len,hna]
  have HON:Hid (∀v∈vs,v.oneCell'=true):=fun v hv=>by
   obtain⟨j,hj⟩:=abC.1 hv;have hl:=(aaU.1 hj).1;rw[hvs.len]at hl;obtain⟨P,c,e,_⟩:=hvs.at_ j v _ hj (aaV hl);subst e;rfl
  have HCL:Hid (0<vs.length->∃ad,A=some ad/\ad.block<w.heap.size/\∀j u,vs[j]?=some u->w.cell? (ad.add j)=some u):=fun h=>hcells (by rw[<-hvs.len];exact h)
  have HRQ:=lH hQ;have HM:=lH hm;have HW:=lH (And.intro hw hl);have HD:=lH hd;have hs1:(Tryz.prog.info? 23).map (·.size)=some 1:=by kernel_rfl
  clear hb e1 e2 e3 e4 ha hbb HAB hcells hsp ra rb hvs hm hna hQ hw hl hd;go_enter Tryz.func27,Tryz.ntmps27;go_wp2_with fail;refine HMB.out.mono ?_;rintro e0 w1 ⟨rfl,k1⟩;have K1:=lH (K0.out.tr k1);have F1:=lH (F0.out.kp k1);have y0:=F1.out.c0;have y2:=F1.out.c2;have hrow:(w1.alloc (.cells #[.slice none 0 0, .slice none 0 0] 68)).heap[w1.heap.size]?=some (.cells ([.slice none 0 0, .slice none 0 0]:List Value).toArray 68 (0,0)):=World.alloc_heap_new w1 _;have hpos:Hid (0<vs.length->∃ad,A=some ad/\∀j v,vs[j]?=some v->(w1.alloc (.cells #[.slice none 0 0, .slice none 0 0] 68)).cell? (ad.add j)=some v):=fun h=>by
   obtain⟨ad,e,hlt,hc⟩:=HCL.out h;exact⟨ad,e,fun j v hj=>((K1.out.tr (Kp.af _ _)).cell (by rw[ah];exact hlt)).trans (hc j v hj)⟩
  clear k1 x0 x1 x2;have hbl:Hid (Below w1.heap.size w1 (w1.alloc (.cells #[.slice none 0 0, .slice none 0 0] 68))):=Kp.af _ _;have hmin:Hid (vs.length=Nat.min na 2):=by show _=min na 2;rw[HVL.out];omega
  have hfit:Hid (0+vs.length<= [Value.slice none 0 0,Value.slice none 0 0].length):=by show 0+vs.length<=2;rw[HVL.out];omega
  go_wp2_with (refine wpList_copy_splice rfl (.tmp 12) (.tmp 13) 46 46 rfl 23 Tryz.underlying46 hs1 _ _ _ _ _ _ rfl rfl w1.heap.size 0 [.slice none 0 0, .slice none 0 0] 68 hrow vs hmin.out (fun h=>⟨rfl,hpos.out h⟩) hfit.out HON.out w1.heap.size w1 hbl.out (aaZ _) ?_;intro w2 hg2 hb2;have K2:=lH hb2;have G2:=lH hg2;clear hb2 hg2);have G3:w2.heap[w1.heap.size]?=some (.cells #[.slice A0 a.length c0, .slice A1 b.length c1] 68 (0,0)):=by
   have h:=G2.out;rw[HSP.out]at h;exact h
  have KW:=lH (K1.out.tr K2.out);have s0:w2.cell? ⟨w.heap.size,0,none⟩=some (.int .i64 op):=(F1.out.kp K2.out).c0;have s1:w2.cell? ⟨w.heap.size,2,none⟩=some (.slice Q m d):=(F1.out.kp K2.out).c2;have s2:w2.cell? ⟨w1.heap.size,0,none⟩=some (.slice A0 a.length c0):=by simp[World.cell?,G3]
  have s3:w2.cell? ⟨w1.heap.size,1,none⟩=some (.slice A1 b.length c1):=by simp[World.cell?,G3]
  have HSS:Hid (∀V,Kp w2 V->V.cell? ⟨w.heap.size,0,none⟩=some (.int .i64 op)/\V.cell? ⟨w.heap.size,2,none⟩=some (.slice Q m d)/\V.cell? ⟨w1.heap.size,0,none⟩=some (.slice A0 a.length c0)/\V.cell? ⟨w1.heap.size,1,none⟩=some (.slice A1 b.length c1)):=fun V kV=>
   ⟨ay s0 kV,ay s1 kV,ay s2 kV,ay s3 kV⟩
  have HRU:Hid (∀V,Kp w2 V->CJ 34 #[.slice Q m d, .slice A0 a.length c0, .slice A1 b.length c1] V fun e0 W'=>∃g f L,e0= .returned (.map (some g))/\Hid (Kp w W')/\(W'.cell? ⟨w.heap.size,0,none⟩=some (.int .i64 op)/\W'.cell? ⟨w.heap.size,2,none⟩=some (.slice Q m d)/\W'.cell? ⟨w1.heap.size,0,none⟩=some (.slice A0 a.length c0)/\W'.cell? ⟨w1.heap.size,1,none⟩=some (.slice A1 b.length c1))/\(Instr.lookup 71 (.map (some g)) (.int .i64 op) false).run Tryz.prog W'= .ok (.func (.func f) #[] L) W'/\(∀args W,(callFunc f args).run Tryz.prog W= .ok (.enter f args) W)/\Hid (CJ f L W' (cZ (aR op nums a b) w))):=fun V kV=>
   (mD Q A0 A1 m d a.length c0 b.length c1 V).mono fun e0 W' ⟨g,e1,hmd,k3,q0,q1,q2⟩=>by
    have kw:Kp w W':=(KW.out.tr kV).tr k3;obtain⟨f,L,hat,hcf,hcl⟩:=J9 (op:=op) (W:=W') (bn:=V.heap.size) (ba:=V.heap.size+1) (bb:=V.heap.size+1+1) (Q:=Q) (A:=A0) (B:=A1) (d:=d) (c:=c0) (e:=c1) (nums:=nums) (a:=a) (b:=b)
     ⟨by rw[<-HM.out];exact q0,q1,q2,HRQ.out.kp kw,HRA.out.kp kw,HRB.out.kp kw,by rw[<-HM.out];exact HD.out,HOK.out.1,HOK.out.2,HW.out.1,HW.out.2⟩ HAR.out.1 HAR.out.2
    exact⟨g,f,L,e1,kw,HSS.out _ (kV.tr k3),Md.Uj hmd Tryz.underlying71 Tryz.underlying3 hat,hcf,hcl.mono fun _ _ h=>h.back kw⟩
  have KD:Hid (Kp w2 w2.drew):=aa3 (Kp.refl w2);clear hrow G3 y0 y2;go_wp2
  go_region_held3 (fun V=>V.cell? ⟨w.heap.size,0,none⟩=some (.int .i64 op)/\V.cell? ⟨w.heap.size,2,none⟩=some (.slice Q m d)/\V.cell? ⟨w1.heap.size,0,none⟩=some (.slice A0 a.length c0)/\V.cell? ⟨w1.heap.size,1,none⟩=some (.slice A1 b.length c1)) (first|exact⟨s0,s1,s2,s3⟩|exact hS3)
   (first|(go_at_call 34;refine(HRU.out _ KD.out).mono ?_;rintro e0 w3 ⟨g,f,L,rfl,K3,hS3,hlk,hcf,VR⟩;have HS4:=lH hS3))
  all_goals
   go_wp2_with fail;refine VR.out.mono ?_;rintro e1 w4 ⟨A5,c5,rfl,S5,N5,K5⟩;have S6:=lH S5;have N6:=lH N5;have K6:=lH K5;clear S5 N5 K5;go_wp2;go_ret2;exact⟨A5,c5,rfl,S6.out,N6.out,K6.out⟩
theorem U4(n:Nat)(hn:n<=1000000):∃cs:Array Value,(∀W:World,(Instr.makeSlice 46 (.int .i64 0) (.int .i64 (n:Int))).run Tryz.prog W= .ok (.slice (some ⟨W.heap.size,0,none⟩) 0 n) (W.alloc (.cells cs 23)))/\
  ∀(W:World) (B:Nat) (X:Nat->Prop),B<=W.heap.size->jM B X (W.alloc (.cells cs 23)) (.slice (some ⟨W.heap.size,0,none⟩) 0 n) []:=
 ⟨(List.replicate n (Value.slice none 0 0)).toArray,fun W=>by
  obtain⟨i,hi,hz,h1,h2⟩:=info_parts Cg;have hr:=run_make (P:=Tryz.prog) W 46 23 i _ Tryz.underlying46 hi hz .i64 .i64 0 n oM oM (by rw[h2];omega) oM;simp only[aa2,Int.toNat_zero,h1,Nat.mul_one]at hr;rw[hr];congr 3;exact Array.toList_inj.1 (by rw[show(Value.slice none 0 0).cells= #[Value.slice none 0 0]from rfl,toList_madeCells_one]),fun W B X hB=>by
  have:=World.ownsRow_made (base:=B) (e:=23) (size:=1) W (List.replicate n (Value.slice none 0 0)).toArray n hB (by unfold maxLen;omega) sC;exact⟨[],by simpa using this,lE.bU _ _⟩⟩
theorem EG(A:DV)(c m:Nat)(l:List Nd)(w:World)(h:RdG w A l)(hc1:l.length<=c)(hc2:c<=9223372036854775807)(hS:dV l)(hm:m=l.length):
  CJ 16 #[.slice A m c] w (DH (aH l) w):=by
 subst hm;have hl:=h.len;have HRD:=lH h;have HC:=lH (qH A c l.length l (aK l) w h hc1 hc2 rfl rfl);have HSM:=lH hS
 cases hck:aK l with
 |false=>
  rw[hck]at HC;rw[show aH l=([],-1,100) by unfold aH;rw[aaT (by simp[hck])]];clear hck h hS;go_enter Tryz.func16,Tryz.ntmps16;go_wp2_with fail;refine(Hid.out HC).mono ?_;rintro e w1 ⟨rfl,k1⟩;have K1:=lH k1;clear k1;go_wp2
  go_ret3
  exact DH.none_ K1.out (-1) 100
 |true=>
  rw[hck]at HC;obtain⟨r,hr⟩:=eX (aH l);have HT0:Hid (shF (l.drop 0) []=r):=by show _=_;rw[hr];unfold aH;rw[aaW hck];rfl
  have MQ:=(aO.1 hck).2.1;have S0:=lH MQ;have HNB:Hid (∀(k:Nat) (t:Nd),l[k]?=some t->t.2.1.length<=2/\∀a∈t.2.1,0<=a/\a<(k:Int)):=fun k t ht=>by
   obtain⟨_,g2,_,g4,_⟩:=bh.1 ((aO.1 hck).2.2 k t ht);have:=gT t.1;exact⟨oM,g4⟩
  obtain⟨cs,hmk,hown⟩:=U4 l.length oM;have HOW:=lH hown;rw[<-hr];clear hck h hS hr MQ hown;go_enter Tryz.func16,Tryz.ntmps16;go_wp2_with fail;refine(Hid.out HC).mono ?_;rintro e w1 ⟨rfl,k1⟩;have K1:=lH k1;have H0:=lH (HOW.out w1 w1.heap.size (fun _=>True) (aaZ _));clear k1 HOW;go_wp2;clear hmk
  go_loopw [5,21] (fun v i wx=>∃k:Nat,∃acc:List (BU),Hid (jM w1.heap.size (fun _=>True) wx v acc)/\i= .int .i64 (k:Int)/\Hid (k<=l.length)/\Hid (acc.length=k)/\Hid (shF (l.drop k) acc=r)/\Hid (Kp w1 wx)) (fun _ i _=>l.length-(intOf i).toNat)
  case atStart=>exact⟨0,[],H0.out,rfl,aa6 _,rfl,HT0.out,Kp.af _ _⟩
  case round=>
   obtain⟨k,acc,hO,rfl,hk,hal,hT,hK⟩:=hrel;obtain⟨wo,hwo⟩:=eX (wr);subst hwo;obtain⟨A6,c6,rfl,hR6,Uf,Ue⟩:=hO.out.form;have HR6:=lH hR6;have HC6:=lH (And.intro Uf Ue);obtain⟨na,hna⟩:=eX (acc.length);have HNA:Hid (na=acc.length):=hna;rw[<-hna]at hO HR6⊢;have hnk:Hid (na=k):=by show _=_;rw[hna];exact hal.out
   clear hR6 Uf Ue hna;by_cases hj:k<l.length
   ·have hj':(k:Int)<(l.length:Int):=by omega
    have KW:=lH (K1.out.tr hK.out);obtain⟨ad,t,P,e,Q,g,rfl,hlt,ht,hc0,Lo,Pc,hN,hcP,hcQ⟩:=(HRD.out.kp KW.out).at_ hj;obtain⟨hl2,hrg⟩:=HNB.out k t ht;have HRG:=lH hrg;have HTT:Hid (l[k]?=some t):=ht;have HN:=lH hN;have HCQ:=lH hcQ;have CF:l.drop k=t::l.drop (k+1):=bP ht;rw[CF]at hT;obtain⟨hs1,hs2,hs3⟩:=HSM.out.2 t (aa1 ht);have MX:Hid (t.2.2.length<=100/\W64 t.2.2):=⟨hs2,hs3.2.2⟩
    obtain⟨n0,hn0⟩:=eX (t.2.1.length);have HN0:Hid (n0=t.2.1.length):=hn0;obtain⟨m0,hm0⟩:=eX (t.2.2.length);have HM0:Hid (m0=t.2.2.length):=hm0;rw[<-hn0]at hl2 Lo;rw[<-hm0]at Pc;have FB:Hid (Nb (wo.alloc (.cells #[.int .i64 t.1, .slice P n0 e, .slice Q m0 g] 39)) wo.heap.size t.1 P n0 e Q m0 g):=Nb.new rfl;have z1:=FB.out.c1;obtain⟨wb,hwb⟩:=eX (wo.alloc (.cells #[.int .i64 t.1, .slice P n0 e, .slice Q m0 g] 39));have KB:Hid (Kp wo wb):=by show Kp _ _;rw[hwb];exact Kp.af _ _
    have FW:Hid (Nb wb wo.heap.size t.1 P n0 e Q m0 g):=by rw[hwb];exact FB.out
    clear CF ht hrg hN hcP hcQ hn0 hm0 hs1 hs2 hs3;go_wp2;rw[<-hwb];clear hwb FB z1 hc0 Lo Pc
    go_loopw [8,29] (fun v i wx=>∃j:Nat,∃gs:List (BU),Hid (jM wb.heap.size (fun b=>(Value.slice A6 na c6).ownBlock≠some b) wx v gs)/\i= .int .i64 (j:Int)/\Hid (j<=n0)/\Hid (gs=bY acc (t.2.1.take j))/\Hid (Kp wb wx)) (fun _ i _=>n0-(intOf i).toNat)
    case atStart=>exact⟨0,[],jM.bU _ _ _,rfl,aa6 _,rfl,Kp.refl _⟩
    case round=>
     obtain⟨j,gs,hG,rfl,hjn,hgs,hK2⟩:=hrel;have KR:=lH (KB.out.tr hK2.out);obtain⟨A8,c8,rfl,hR8,CH,CG⟩:=hG.out.form;have hgl:Hid (gs.length<=2):=by show _<=_;rw[hgs.out];unfold bY;rw[abA,abv,<-HN0.out];omega
     have q0:=(FW.out.kp hK2.out).c0;have q1:=(FW.out.kp hK2.out).c1;have q2:=(FW.out.kp hK2.out).c2;by_cases hq:j<n0
     ·have hq':(j:Int)<(n0:Int):=by omega
      obtain⟨ap,a,rfl,hlp,ha,hca⟩:=(HN.out.ra.kp KR.out).at_ (k:=j) (by rw[<-HN0.out];exact hq);obtain⟨ha0,ha1⟩:=HRG.out a (aa1 ha);obtain⟨a',rfl⟩:∃a':Nat,a=(a':Int):=⟨a.toNat,oM⟩
      have Vh:=hnk.out;obtain⟨ad6,s,P6,e6,rfl,hl6,hs,Ug,rs,l1,l2,xs⟩:=HR6.out.at_ (k:=a') (by rw[<-HNA.out];omega);have q6:=(KR.out.cell (p:=ad6.add a') (by rw[ah];exact hl6)).trans Ug;have Vi:(a':Int)<(na:Int):=by omega
      have hz1:Hid (bY acc (t.2.1.take (j+1))=gs++[s]):=by show _=_;rw[ny ha hs,hgs.out]
      have HX1:Hid (∀ad',P6=some ad'->0<s.length->(Value.slice (some ad6) na c6).ownBlock≠some ad'.block/\(Value.slice A8 gs.length c8).ownBlock≠some ad'.block):=fun ad' e1 e2=>by
       refine⟨(xs ad' e1 e2).2,fun e3=>?_⟩;have h1:=hG.out.from_ e3;obtain⟨ad2,e4,hb,_⟩:=rs.2 e2;rw[e1]at e4;injection e4 with e4;subst e4
       have:=KB.out.size;omega
      have HRS:=lH (rs.kp KR.out);clear ha hs Ug rs xs Vh hR8;go_wp2_with (at_builtin;refine gF (B:=wb.heap.size) (X:=fun b=>(Value.slice (some ad6) na c6).ownBlock≠some b) rfl (.tmp 33) (.tmp 38) rfl _ gs rfl (hG.out.kp (Kp.af _ _)) _ _ [s] 1 rfl rfl (iA.one HRS.out l1 l2 HX1.out _) (by have:=hgl.out;simp;omega) (by have:=hK2.out.size;simp;omega) ?_;intro z1 A1 c1 w6 HZ1 o1 b1 _;have O1:=lH o1;have K6:Hid (Kp wb w6):=(gal hK2.out _).trans b1;clear o1 b1);go_roundw
      case rel=>exact⟨j+1,z1,O1.out,by go_num,(by show j+1<=n0;omega),(by show z1=_;rw[HZ1.out,hz1.out]),K6.out⟩
      case measure=>simp[intOf];omega
     ·have hq':¬(j:Int)<(n0:Int):=by omega
      have Jh:Hid (gs=bY acc t.2.1):=by show _=_;rw[hgs.out,abS (by rw[<-HN0.out];omega)]
      have KV:=lH (KW.out.tr KR.out);obtain⟨ng,hng⟩:=eX (gs.length);have HND:Hid (CJ 27 #[.agg #[.int .i64 t.1, .slice P n0 e, .slice Q m0 g], .slice A8 ng c8] wr (cZ (aF t.1 t.2.2 gs) wr)):=
       Bl t.1 t.2.2 P Q A8 n0 e m0 g ng c8 gs wr (HN.out.rn.kp KR.out) hR8.all HM0.out (by rw[HM0.out];exact HCQ.out) hng ⟨by rw[hng];exact CH,CG⟩ MX.out.2 MX.out.1
      rw[<-hng];rcases iF t.1 t.2.2 gs with⟨s,hn,_⟩|hn
      ·rw[hn]at HND;have hT2:Hid (shF (l.drop (k+1)) (acc++[s])=r):=by
        show _=_;rw[<-hT.out,bA (s:=s) (by rw[<-Jh.out];exact hn)]
       clear hn hR8 hng;go_wp2_with fail;refine(Hid.out HND).mono ?_;rintro e3 w3 ⟨A3,c3,rfl,s3,x3,k3⟩;have K3:=lH (KR.out.tr k3);have HX3:Hid (∀ad',A3=some ad'->0<s.length->True/\(Value.slice A6 na c6).ownBlock≠some ad'.block):=fun ad' e1 e2=>⟨trivial,fun e3=>by
        have h1:=x3 ad' e1 e2;have h2:=hO.out.fP e3;have:=KR.out.size;omega⟩
       have S3:=lH s3;have HL3:=lH (And.intro hnk.out (And.intro S0.out HNA.out));clear k3 x3 s3;go_wp2_with (at_builtin;refine gF (B:=w1.heap.size) (X:=fun _=>True) rfl (.tmp 51) (.tmp 53) rfl _ acc rfl (hO.out.kp (gal K3.out _)) _ _ [s] 1 rfl rfl (iA.one S3.out.rd S3.out.le S3.out.cap HX3.out _) (by have:=HL3.out;simp;omega) (by have:=(hK.out.tr K3.out).size;simp;omega) ?_;intro z1 A1 c1 w6 HZ1 o1 b1 _;have O1:=lH o1;have K6:Hid (Kp w1 w6):=(gal (hK.out.tr K3.out) _).trans b1;clear o1 b1);go_roundw
       case rel=>exact⟨k+1,z1,O1.out,by go_num,(by show k+1<=l.length;omega),(by show z1.length=_;rw[HZ1.out,abf,hal.out];rfl),(by show shF _ z1=r;rw[HZ1.out];exact hT2.out),K6.out⟩
       case measure=>simp[intOf];omega
      ·rw[hn]at HND;have hv:r=([],(k:Int),20):=by rw[<-hT.out,jT (by rw[<-Jh.out];exact hn),hal.out]
       subst hv;clear hn hR8 hT hng;go_wp2_with fail;refine(Hid.out HND).mono ?_;rintro e3 w3 ⟨A3,c3,rfl,s3,x3,k3⟩;have K3:=lH (KV.out.tr k3);clear k3 x3 s3;go_wp2
       go_ret3
       exact DH.none_ K3.out _ 20
   ·have hj':¬(k:Int)<(l.length:Int):=by omega
    have hv:r=(acc,-1,0):=by rw[<-hT.out,abU oM];rfl
    subst hv;go_wp2
    go_ret3
    exact⟨A6,c6,by rw[<-HNA.out];rfl,HR6.out.all,HC6.out,K1.out.tr hK.out⟩
end Go.Proofs.YtokeebkaamjliaaGreat.Iz
namespace Go.Proofs.YtokeebkaamjliaaGreat
open RowKit ShM GrM InM
