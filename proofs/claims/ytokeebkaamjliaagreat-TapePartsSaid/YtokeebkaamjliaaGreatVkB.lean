/- The landed vjp: what hangs on numbers above 0, and on powers. -/
import Derived.Test.YtokeebkaamjliaaGreatVkA
set_option maxHeartbeats 16000000
set_option maxRecDepth 100000
set_option linter.unusedVariables false
set_option linter.unusedSimpArgs false
namespace Go.Proofs.YtokeebkaamjliaaGreat.Ez
open RowKit ShM GrM InM ImM cF EvM
theorem run_mk(w:World)(n:Nat)(hn:n<=1000000):
    (Instr.makeSlice 23 (.int .i64 (n:Int)) (.int .i64 (n:Int))).run Tryz.prog w= .ok (.slice (some ⟨w.heap.size,0,none⟩) n n) (w.alloc (.cells (List.replicate n (Value.int .i64 0)).toArray 3)):=by
  obtain⟨i,hi,hz,h1,h2⟩:=info_parts dz;have hr:=run_make (P:=Tryz.prog) w 23 3 i _ Tryz.underlying23 hi hz .i64 .i64 n n oM (Int.le_refl _) (by rw[h2];omega) oM;simp only[aa2,h1,Nat.mul_one]at hr;rw[hr];congr 3;exact Array.toList_inj.1 (by rw[show(Value.int IntKind.i64 0).cells= #[Value.int .i64 0]from rfl,toList_madeCells_one])
theorem mk_(n:Nat)(hn:n<=1000000):∃cs:Array Value,(∀W:World,(Instr.makeSlice 23 (.int .i64 (n:Int)) (.int .i64 (n:Int))).run Tryz.prog W= .ok (.slice (some ⟨W.heap.size,0,none⟩) n n) (W.alloc (.cells cs 3)))/\
    ∀(W:World) (B:Nat),B<=W.heap.size->Own B (W.alloc (.cells cs 3)) (.slice (some ⟨W.heap.size,0,none⟩) n n) (List.replicate n 0):=
  ⟨_,fun W=>run_mk W n hn,fun W B hB=>by
    have:=Own.lit (B:=B) W (List.replicate n 0) (by simpa using hn) hB;simpa using this⟩
section
variable{α:Type}{f:α->Int×Int}{l:List α}{k:Nat}{zs:BU}{x:α}
def Ea(f:α->Int×Int)(l:List α)(k:Nat)(zs:BU):Prop:=
  k<=l.length/\cE f (l.drop k)=cE f l/\zs=(l.take k).map fun x=>(f x).1
theorem wS:Ea f l 0 []:=⟨aa6 _,by simp,by simp⟩
theorem Db(h:Ea f l k zs):zs.length=k:=by obtain⟨h1,_,rfl⟩:=h;simp;omega
theorem Da{ys:BU}{y:Int}(h:Ea f l k zs)(hx:l[k]?=some x)(hy:f x=(y,0))(e:ys=zs++[y]):Ea f l (k+1) ys:=by
  obtain⟨h1,h3,h4⟩:=h;have hk:=(aaU.1 hx).1;refine⟨hk,?_,?_⟩
  · rw[<-h3,bP hx,eu];rw[aaW (by rw[hy])]
  · rw[e,cr hx,abK,<-h4];simp[hy]
theorem Jq{e:Int}(h:Ea f l k zs)(hx:l[k]?=some x)(hy:f x=(0,e))(he:e≠0):cL f l=([],e):=by
  obtain⟨h1,h3,h4⟩:=h;have e':cE f l=e:=by rw[<-h3,bP hx,eu];rw[aaT (by rw[hy];exact he),hy]
  unfold cL;rw[e',aaT he]
theorem Jp(h:Ea f l k zs)(hk:¬k<l.length):cL f l=(zs,0):=by
  obtain⟨h1,h3,h4⟩:=h;have e:k=l.length:=by omega
  subst e;rw[acI]at h3;rw[acj]at h4;unfold cL;rw[<-h3,h4];rfl
end
theorem zY{x:Int}(h:(fu x).2≠0):fu x=(0,(fu x).2):=by
 unfold fu gV at *;split
 · rename_i hk;rw[aaW hk]at h;exact absurd rfl h
 · rename_i hk
   rw[aaT hk]at h;rcases dN (4294967296*((2^(x/4294967296).toNat:Nat):Int))with⟨_,_,e⟩|⟨_,e⟩
   · rw[e]at h;exact absurd rfl h
   · rw[e]
theorem GL(x:Int):In64 (fu x).1:=by
 unfold fu gV;split
 · have h1:=Int.ediv_le_self (a:=4294967296) ((2^(-(x/4294967296)).toNat:Nat):Int) dG
   have h2:=Int.ediv_nonneg (a:=4294967296) (b:=((2^(-(x/4294967296)).toNat:Nat):Int)) dG (Int.natCast_nonneg _);exact⟨by show _<=_/_;omega,by show _/_<=_;omega⟩
 · exact mY _
theorem iC{a g:BU}(h:a.length=g.length):(f9 a g).length=g.length:=by
 unfold f9;simp;omega
def jV(a g:BU)(k:Nat):BU:=(f9 a g).take k++List.replicate (g.length-k) 0
theorem NK(a g:BU):jV a g 0=List.replicate g.length 0:=by simp[jV]
theorem Fh{a g:BU}(h:a.length=g.length):jV a g g.length=f9 a g:=by
 unfold jV;rw[abS (by rw[iC h];exact aaZ _)];simp
theorem Kg{a g:BU}{k:Nat}{x y:Int}(hx:a[k]?=some x)(hy:g[k]?=some y):(f9 a g)[k]?=some (if 0<x then y else 0):=by
 have hz:(a.zip g)[k]?=some (x,y):=List.getElem?_zip_eq_some.2 ⟨hx,hy⟩;unfold f9;rw[aa7,hz];rfl
theorem pJ{a g:BU}{k:Nat}(h:a.length=g.length)(hk:k<g.length):jV a g k=(f9 a g).take k++0::List.replicate (g.length-(k+1)) 0:=by
 unfold jV;rw[show g.length-k=(g.length-(k+1))+1 by omega,acY]
theorem rI{a g:BU}{k:Nat}{x y:Int}(h:a.length=g.length)(hx:a[k]?=some x)(hy:g[k]?=some y):jV a g (k+1)=(f9 a g).take k++(if 0<x then y else 0)::List.replicate (g.length-(k+1)) 0:=by
 unfold jV;rw[cr (Kg hx hy),acA];rfl
theorem Ff{a g:BU}{k:Nat}{x y:Int}(h:a.length=g.length)(hx:a[k]?=some x)(hy:g[k]?=some y)(h0:0<x):(jV a g k).set k y=jV a g (k+1):=by
 have hk:k<g.length:=(aaU.1 hy).1;rw[rI h hx hy,pJ h hk,aaW h0,acF _ _ (by rw[abv,iC h];omega)];rw[show k-((f9 a g).take k).length=0 by rw[abv,iC h];omega];rfl
theorem Fg{a g:BU}{k:Nat}{x y:Int}(h:a.length=g.length)(hx:a[k]?=some x)(hy:g[k]?=some y)(h0:¬0<x):jV a g k=jV a g (k+1):=by
 rw[rI h hx hy,pJ h (aaU.1 hy).1,aaT h0]
theorem JC{W:World}{b n c m d:Nat}{A B:DV}{p:Addr}(h:Bk W b A n c B m d)(hne:b≠p.block)(x:Value):Bk (W.setCell p x) b A n c B m d:=(abq _ _ _ b hne).trans h
theorem hset{W:World}{b:Nat}{cs:Array Value}{t:TypeId}(h:W.heap[b]?=some (.cells cs t (0,0)))(i:Nat)(x:Value):(W.setCell ⟨b,i,none⟩ x).heap[b]?=some (.cells (cs.setIfInBounds i x) t (0,0)):=heap_set h i x
section
variable{W:World}{op:Int}{P Q A1 A2 B1 B2 O1 O2 G1 G2:DV}{nP cP d a1 a2 b1 b2 o1 o2 g1 g2:Nat}{nums:BU}{a b o g:T}
theorem r9(H:Jb W Q A1 A2 B1 B2 O1 O2 G1 G2 d a1 a2 b1 b2 o1 o2 g1 g2 nums a b o g)(hl:a.2.length=g.2.length)(h1:g.2.length<=1000)(h2:g.1.length<=1000):CJ 142 #[.agg #[.int .i64 op, .slice P nP cP, .slice Q nums.length d, .slice A1 a.1.length a1, .slice A2 a.2.length a2, .slice B1 b.1.length b1, .slice B2 b.2.length b2, .slice O1 o.1.length o1, .slice O2 o.2.length o2, .slice G1 g.1.length g1, .slice G2 g.2.length g2]] W (aG ((g.1,f9 a.2 g.2,0)) W):=by
 obtain⟨w1,hw1⟩:=eX ((W.alloc (.cells #[.int .i64 op, .slice P nP cP, .slice Q nums.length d, .slice A1 a.1.length a1, .slice A2 a.2.length a2, .slice B1 b.1.length b1, .slice B2 b.2.length b2, .slice O1 o.1.length o1, .slice O2 o.2.length o2, .slice G1 g.1.length g1, .slice G2 g.2.length g2] 127)).alloc (.cells #[.slice none 0 0, .slice none 0 0] 25));obtain⟨K1,BJ,BO⟩:=jw hw1;have HW:=lH hw1;have HCL:Hid (∀V,Kp w1 V->CJ 23 #[.slice G1 g.1.length g1] V (oQ g.1 V)):=fun V kV=>cv G1 g1 g.1 V (H.rg.r.s.kp (K1.out.tr kV)) oM
 obtain⟨cz,hmk,hmo⟩:=mk_ g.2.length oM;have HMO:=lH (fun W B hB=>hmo W B hB);have HSS:Hid (∀V,Kp w1 V->V.cell? ⟨W.heap.size,9,none⟩=some (.slice G1 g.1.length g1)/\V.cell? ⟨W.heap.size,10,none⟩=some (.slice G2 g.2.length g2)):=fun V kV=>⟨(BJ.out.kp kV).cell (j:=9) rfl,(BJ.out.kp kV).cell (j:=10) rfl⟩
 have HL:=lH hl;have HX:=lH (H.ra.r.d.kp K1.out);have HY:=lH (H.rg.r.d.kp K1.out);have hal:=H.ra.r.d.len;have hgl:=H.rg.r.d.len;have HSZ:Hid (W.heap.size+1<w1.heap.size):=BO.out.lt;have e4:W.heap.size<w1.heap.size:=by have:=HSZ.out;omega
 clear hw1 H hmo hl h2;go_enter Tryz.func142,Tryz.ntmps142;go_wp2_with fail;rw[<-HW.out]
 go_cut [4] (fun v4 wx=>∃bt AC cC z,v4= pX bt 0/\Hid (Bk wx bt AC g.1.length cC (some ⟨z,0,none⟩) g.2.length g.2.length)/\Hid (Sl wx AC cC g.1)/\Hid (Own w1.heap.size wx (.slice (some ⟨z,0,none⟩) g.2.length g.2.length) (List.replicate g.2.length 0))/\Hid (w1.heap.size<=bt/\w1.heap.size<=z/\bt≠z/\∀ad,AC=some ad->ad.block≠z/\w1.heap.size<=ad.block)/\Hid (Kp w1 wx))
 case first=>
  refine aa8 (S:=fun V=>V.cell? ⟨W.heap.size,9,none⟩=some (.slice G1 g.1.length g1)/\V.cell? ⟨W.heap.size,10,none⟩=some (.slice G2 g.2.length g2)) kM (HSS.out _ (aa3 (Kp.refl _))) (fun qJ=>?_);have X0:Hid (Kp w1 w1.drew):=aa3 (Kp.refl _);generalize w1.drew=V0 at X0 qJ⊢;have X00:=X0;refine tK 0 (pX W.heap.size 9) rfl qJ<|tK 1 (pX W.heap.size 9) rfl qJ<|tK 2 (.slice G1 g.1.length g1) rfl qJ<|tK 4 (pX W.heap.size 9) rfl qJ<|tK 5 (pX W.heap.size 10) rfl qJ<|tK 6 (.slice G2 g.2.length g2) rfl qJ<|tK 7 (.int .i64 (g.2.length:Int)) rfl qJ ?_;refine abo (rs:=[3,8,10]) kM sC ?_;refine aa4 rfl (fun _ hK=>?o3) (aa4 rfl (fun _ hK=>?o8) (aa4 rfl (fun _ hK=>?o10) abl))
  case' o3=>
   go_simp;refine(HCL.out _ X0.out).mono ?_;rintro e5 V1 ⟨AC,cC,rfl,oC,k5⟩;dsimp only;have SC:=lH oC.sl;have NC:Hid (∀ad,AC=some ad->V0.heap.size<=ad.block/\ad.block<V1.heap.size):=fun ad e=>oC.ad e
   have ZV1:Hid (V0.heap.size<=V1.heap.size):=k5.size;have X1:=lH (X0.out.tr k5);clear k5 oC;refine hK.out _ _ (HSS.out _ X1.out) fun qJ=>?_
   clear hK X0;refine abo (rs:=[8,10]) kM sC ?_;refine aa4 rfl (fun _ hK=>?UU) (aa4 rfl (fun _ hK=>?Rh) abl)
   case' UU=>
    go_simp;have OZ:=lH (HMO.out V1 _ X1.out.size);have X2:Hid (Kp w1 (V1.alloc (.cells cz 3))):=X1.out.tr (Kp.af _ _);replace SC:=lH (SC.out.kp (Kp.af V1 (.cells cz 3)));have ZV2:Hid (V1.heap.size+1=(V1.alloc (.cells cz 3)).heap.size):=(aaY _ _).symm;generalize V1.alloc (.cells cz 3)=V2 at X2 ZV2 qJ SC OZ⊢;obtain⟨z,hz⟩:=eX V1.heap.size;rw[<-hz]at OZ⊢;have Lz:=lH hz;clear hz;refine hK.out _ _ (HSS.out _ X2.out) fun qJ=>?_
    clear hK X1;refine tK 9 (.agg #[.slice AC g.1.length cC, .slice (some ⟨z,0,none⟩) g.2.length g.2.length]) rfl qJ ?_;refine rD 10 rfl fun _ hK=>?_
    go_simp;have BT:Hid (Bk (V2.alloc (.cells #[.slice none 0 0, .slice none 0 0] 25)) V2.heap.size none 0 0 none 0 0):=Bk.new rfl;have X3:Hid (Kp w1 (V2.alloc (.cells #[.slice none 0 0, .slice none 0 0] 25))):=X2.out.tr (Kp.af _ _);replace SC:=lH (SC.out.kp (Kp.af V2 (.cells #[.slice none 0 0, .slice none 0 0] 25)));replace OZ:=lH (OZ.out.kp (Kp.af V2 (.cells #[.slice none 0 0, .slice none 0 0] 25)));have ZV3:Hid (V2.heap.size+1=(V2.alloc (.cells #[.slice none 0 0, .slice none 0 0] 25)).heap.size):=(aaY _ _).symm;generalize V2.alloc (.cells #[.slice none 0 0, .slice none 0 0] 25)=V3 at X3 ZV3 qJ SC OZ BT⊢;obtain⟨bt,hbt⟩:=eX V2.heap.size;rw[<-hbt]at BT⊢;have Lbt:=lH hbt;clear hbt;refine hK.out _ _ (HSS.out _ X3.out) fun qJ=>?_
    clear hK X2
   case' Rh=>
    go_simp;have BT:Hid (Bk (V1.alloc (.cells #[.slice none 0 0, .slice none 0 0] 25)) V1.heap.size none 0 0 none 0 0):=Bk.new rfl;have X2:Hid (Kp w1 (V1.alloc (.cells #[.slice none 0 0, .slice none 0 0] 25))):=X1.out.tr (Kp.af _ _);replace SC:=lH (SC.out.kp (Kp.af V1 (.cells #[.slice none 0 0, .slice none 0 0] 25)));have ZV2:Hid (V1.heap.size+1=(V1.alloc (.cells #[.slice none 0 0, .slice none 0 0] 25)).heap.size):=(aaY _ _).symm;generalize V1.alloc (.cells #[.slice none 0 0, .slice none 0 0] 25)=V2 at X2 ZV2 qJ SC BT⊢;obtain⟨bt,hbt⟩:=eX V1.heap.size;rw[<-hbt]at BT⊢;have Lbt:=lH hbt;clear hbt;refine hK.out _ _ (HSS.out _ X2.out) fun qJ=>?_
    clear hK X1;refine rD 8 rfl fun _ hK=>?_
    go_simp;have OZ:=lH (HMO.out V2 _ X2.out.size);have X3:Hid (Kp w1 (V2.alloc (.cells cz 3))):=X2.out.tr (Kp.af _ _);replace SC:=lH (SC.out.kp (Kp.af V2 (.cells cz 3)));replace BT:=lH (BT.out.kp (Kp.af V2 (.cells cz 3)));have ZV3:Hid (V2.heap.size+1=(V2.alloc (.cells cz 3)).heap.size):=(aaY _ _).symm;generalize V2.alloc (.cells cz 3)=V3 at X3 ZV3 qJ SC BT OZ⊢;obtain⟨z,hz⟩:=eX V2.heap.size;rw[<-hz]at OZ⊢;have Lz:=lH hz;clear hz;refine hK.out _ _ (HSS.out _ X3.out) fun qJ=>?_
    clear hK X2;refine tK 9 (.agg #[.slice AC g.1.length cC, .slice (some ⟨z,0,none⟩) g.2.length g.2.length]) rfl qJ ?_
  case' o8=>
   go_simp;have OZ:=lH (HMO.out V0 _ X0.out.size);have X1:Hid (Kp w1 (V0.alloc (.cells cz 3))):=X0.out.tr (Kp.af _ _);have ZV1:Hid (V0.heap.size+1=(V0.alloc (.cells cz 3)).heap.size):=(aaY _ _).symm;generalize V0.alloc (.cells cz 3)=V1 at X1 ZV1 qJ OZ⊢;obtain⟨z,hz⟩:=eX V0.heap.size;rw[<-hz]at OZ⊢;have Lz:=lH hz;clear hz;refine hK.out _ _ (HSS.out _ X1.out) fun qJ=>?_
   clear hK X0;refine abo (rs:=[3,10]) kM sC ?_;refine aa4 rfl (fun _ hK=>?UM) (aa4 rfl (fun _ hK=>?Rc) abl)
   case' UM=>
    go_simp;refine(HCL.out _ X1.out).mono ?_;rintro e5 V2 ⟨AC,cC,rfl,oC,k5⟩;dsimp only;have SC:=lH oC.sl;have NC:Hid (∀ad,AC=some ad->V1.heap.size<=ad.block/\ad.block<V2.heap.size):=fun ad e=>oC.ad e
    have ZV2:Hid (V1.heap.size<=V2.heap.size):=k5.size;have X2:=lH (X1.out.tr k5);replace OZ:=lH (OZ.out.kp k5);clear k5 oC;refine hK.out _ _ (HSS.out _ X2.out) fun qJ=>?_
    clear hK X1;refine tK 9 (.agg #[.slice AC g.1.length cC, .slice (some ⟨z,0,none⟩) g.2.length g.2.length]) rfl qJ ?_;refine rD 10 rfl fun _ hK=>?_
    go_simp;have BT:Hid (Bk (V2.alloc (.cells #[.slice none 0 0, .slice none 0 0] 25)) V2.heap.size none 0 0 none 0 0):=Bk.new rfl;have X3:Hid (Kp w1 (V2.alloc (.cells #[.slice none 0 0, .slice none 0 0] 25))):=X2.out.tr (Kp.af _ _);replace OZ:=lH (OZ.out.kp (Kp.af V2 (.cells #[.slice none 0 0, .slice none 0 0] 25)));replace SC:=lH (SC.out.kp (Kp.af V2 (.cells #[.slice none 0 0, .slice none 0 0] 25)));have ZV3:Hid (V2.heap.size+1=(V2.alloc (.cells #[.slice none 0 0, .slice none 0 0] 25)).heap.size):=(aaY _ _).symm;generalize V2.alloc (.cells #[.slice none 0 0, .slice none 0 0] 25)=V3 at X3 ZV3 qJ OZ SC BT⊢;obtain⟨bt,hbt⟩:=eX V2.heap.size;rw[<-hbt]at BT⊢;have Lbt:=lH hbt;clear hbt;refine hK.out _ _ (HSS.out _ X3.out) fun qJ=>?_
    clear hK X2
   case' Rc=>
    go_simp;have BT:Hid (Bk (V1.alloc (.cells #[.slice none 0 0, .slice none 0 0] 25)) V1.heap.size none 0 0 none 0 0):=Bk.new rfl;have X2:Hid (Kp w1 (V1.alloc (.cells #[.slice none 0 0, .slice none 0 0] 25))):=X1.out.tr (Kp.af _ _);replace OZ:=lH (OZ.out.kp (Kp.af V1 (.cells #[.slice none 0 0, .slice none 0 0] 25)));have ZV2:Hid (V1.heap.size+1=(V1.alloc (.cells #[.slice none 0 0, .slice none 0 0] 25)).heap.size):=(aaY _ _).symm;generalize V1.alloc (.cells #[.slice none 0 0, .slice none 0 0] 25)=V2 at X2 ZV2 qJ OZ BT⊢;obtain⟨bt,hbt⟩:=eX V1.heap.size;rw[<-hbt]at BT⊢;have Lbt:=lH hbt;clear hbt;refine hK.out _ _ (HSS.out _ X2.out) fun qJ=>?_
    clear hK X1;refine rD 3 rfl fun _ hK=>?_
    go_simp;refine(HCL.out _ X2.out).mono ?_;rintro e5 V3 ⟨AC,cC,rfl,oC,k5⟩;dsimp only;have SC:=lH oC.sl;have NC:Hid (∀ad,AC=some ad->V2.heap.size<=ad.block/\ad.block<V3.heap.size):=fun ad e=>oC.ad e
    have ZV3:Hid (V2.heap.size<=V3.heap.size):=k5.size;have X3:=lH (X2.out.tr k5);replace OZ:=lH (OZ.out.kp k5);replace BT:=lH (BT.out.kp k5);clear k5 oC;refine hK.out _ _ (HSS.out _ X3.out) fun qJ=>?_
    clear hK X2;refine tK 9 (.agg #[.slice AC g.1.length cC, .slice (some ⟨z,0,none⟩) g.2.length g.2.length]) rfl qJ ?_
  case' o10=>
   go_simp;have BT:Hid (Bk (V0.alloc (.cells #[.slice none 0 0, .slice none 0 0] 25)) V0.heap.size none 0 0 none 0 0):=Bk.new rfl;have X1:Hid (Kp w1 (V0.alloc (.cells #[.slice none 0 0, .slice none 0 0] 25))):=X0.out.tr (Kp.af _ _);have ZV1:Hid (V0.heap.size+1=(V0.alloc (.cells #[.slice none 0 0, .slice none 0 0] 25)).heap.size):=(aaY _ _).symm;generalize V0.alloc (.cells #[.slice none 0 0, .slice none 0 0] 25)=V1 at X1 ZV1 qJ BT⊢;obtain⟨bt,hbt⟩:=eX V0.heap.size;rw[<-hbt]at BT⊢;have Lbt:=lH hbt;clear hbt;refine hK.out _ _ (HSS.out _ X1.out) fun qJ=>?_
   clear hK X0;refine abo (rs:=[3,8]) kM sC ?_;refine aa4 rfl (fun _ hK=>?Rj) (aa4 rfl (fun _ hK=>?Ri) abl)
   case' Rj=>
    go_simp;refine(HCL.out _ X1.out).mono ?_;rintro e5 V2 ⟨AC,cC,rfl,oC,k5⟩;dsimp only;have SC:=lH oC.sl;have NC:Hid (∀ad,AC=some ad->V1.heap.size<=ad.block/\ad.block<V2.heap.size):=fun ad e=>oC.ad e
    have ZV2:Hid (V1.heap.size<=V2.heap.size):=k5.size;have X2:=lH (X1.out.tr k5);replace BT:=lH (BT.out.kp k5);clear k5 oC;refine hK.out _ _ (HSS.out _ X2.out) fun qJ=>?_
    clear hK X1;refine rD 8 rfl fun _ hK=>?_
    go_simp;have OZ:=lH (HMO.out V2 _ X2.out.size);have X3:Hid (Kp w1 (V2.alloc (.cells cz 3))):=X2.out.tr (Kp.af _ _);replace BT:=lH (BT.out.kp (Kp.af V2 (.cells cz 3)));replace SC:=lH (SC.out.kp (Kp.af V2 (.cells cz 3)));have ZV3:Hid (V2.heap.size+1=(V2.alloc (.cells cz 3)).heap.size):=(aaY _ _).symm;generalize V2.alloc (.cells cz 3)=V3 at X3 ZV3 qJ BT SC OZ⊢;obtain⟨z,hz⟩:=eX V2.heap.size;rw[<-hz]at OZ⊢;have Lz:=lH hz;clear hz;refine hK.out _ _ (HSS.out _ X3.out) fun qJ=>?_
    clear hK X2;refine tK 9 (.agg #[.slice AC g.1.length cC, .slice (some ⟨z,0,none⟩) g.2.length g.2.length]) rfl qJ ?_
   case' Ri=>
    go_simp;have OZ:=lH (HMO.out V1 _ X1.out.size);have X2:Hid (Kp w1 (V1.alloc (.cells cz 3))):=X1.out.tr (Kp.af _ _);replace BT:=lH (BT.out.kp (Kp.af V1 (.cells cz 3)));have ZV2:Hid (V1.heap.size+1=(V1.alloc (.cells cz 3)).heap.size):=(aaY _ _).symm;generalize V1.alloc (.cells cz 3)=V2 at X2 ZV2 qJ BT OZ⊢;obtain⟨z,hz⟩:=eX V1.heap.size;rw[<-hz]at OZ⊢;have Lz:=lH hz;clear hz;refine hK.out _ _ (HSS.out _ X2.out) fun qJ=>?_
    clear hK X1;refine rD 3 rfl fun _ hK=>?_
    go_simp;refine(HCL.out _ X2.out).mono ?_;rintro e5 V3 ⟨AC,cC,rfl,oC,k5⟩;dsimp only;have SC:=lH oC.sl;have NC:Hid (∀ad,AC=some ad->V2.heap.size<=ad.block/\ad.block<V3.heap.size):=fun ad e=>oC.ad e
    have ZV3:Hid (V2.heap.size<=V3.heap.size):=k5.size;have X3:=lH (X2.out.tr k5);replace BT:=lH (BT.out.kp k5);replace OZ:=lH (OZ.out.kp k5);clear k5 oC;refine hK.out _ _ (HSS.out _ X3.out) fun qJ=>?_
    clear hK X2;refine tK 9 (.agg #[.slice AC g.1.length cC, .slice (some ⟨z,0,none⟩) g.2.length g.2.length]) rfl qJ ?_
  all_goals
   have HN:Hid (w1.heap.size<=bt/\w1.heap.size<=z/\bt≠z/\(∀ad,AC=some ad->ad.block≠z/\w1.heap.size<=ad.block)):=by
    have u0:=X00.out.size;have u1:=ZV1.out;have u2:=ZV2.out;have u3:=ZV3.out;have ub:=Lbt.out;have uz:=Lz.out;refine⟨oM,oM,oM,fun ad e=>?_⟩;have un:=NC.out ad e;omega
   have o0:=BT.out.c0;have o1:=BT.out.c1;have f0:=BT.out.f0 0;have f1:=BT.out.f0 1;have X4:Hid (Kp w1 ((V3.setCell ⟨bt,0,none⟩ (.slice AC g.1.length cC)).setCell ⟨bt,1,none⟩ (.slice (some ⟨z,0,none⟩) g.2.length g.2.length))):=(X3.out.setCell (p:=⟨bt,0,none⟩) HN.out.1 _).setCell (p:=⟨bt,1,none⟩) HN.out.1 _;refine rD 11 rfl fun _ hK=>?_
   go_simp;refine hK.out _ _ (HSS.out _ X4.out) fun qJ=>?_
   clear hK;refine abp kM ?_ _;go_wp2;go_meet;exact⟨bt,AC,cC,z,rfl,BT.out.put,SC.out.past BT.out _ _,OZ.out.of_block fun q hq=>by
     injection hq with hq
     subst hq;have hb:=HN.out.2.2.1;exact(abq _ _ _ _ (fun e=>hb e.symm)).trans (abq _ _ _ _ (fun e=>hb e.symm)),HN.out,X4.out⟩
 case rest=>
 obtain⟨bt,AC,cC,z,rfl,BT,SC,OZ,HN,XC⟩:=hcut;have x4:=(BJ.out.kp XC.out).cell (j:=4) rfl;have hmb:g.2.length<=1000:=h1;clear hmk;go_wp2_with fail
 go_loopw [21] (fun i wx=>∃(k:Nat) (zs:BU),i= .int .i64 (k:Int)/\Hid (k<=a.2.length)/\Hid (zs=jV a.2 g.2 k)/\Hid (Own w1.heap.size wx (.slice (some ⟨z,0,none⟩) g.2.length g.2.length) zs)/\Hid (Bk wx bt AC g.1.length cC (some ⟨z,0,none⟩) g.2.length g.2.length)/\Hid (Sl wx AC cC g.1)/\Hid (Kp w1 wx)) (fun i _=>a.2.length-(intOf i).toNat)
 case atStart=>exact⟨0,_,rfl,aa6 _,(NK _ _).symm,OZ.out,BT.out,SC.out,XC.out⟩
 case round=>
  obtain⟨k,zs,rfl,hk,hzs,hO,hB,hS,hK0⟩:=hrel;obtain⟨wo,hwo⟩:=eX wr;subst hwo;by_cases hkx:k<a.2.length
  · have hk':(k:Int)<(a.2.length:Int):=by omega
    have hk0:(0:Int)<=(k:Int):=by omega
    have hkg:k<g.2.length:=by have:=HL.out;omega
    have WH:(k:Int)<(g.2.length:Int):=by omega
    obtain⟨ap,x,hA2,hlp,hx,hcx⟩:=(HX.out.kp hK0.out).at_ hkx;obtain⟨aq,y,hG2,hlq,hy,hcy⟩:=(HY.out.kp hK0.out).at_ hkg;have HXX:=lH hx;have HYY:=lH hy;have HLQ:Hid (aq.block<w1.heap.size):=by
      obtain⟨aq',e',hb',_⟩:=HY.out.2 oM;rw[hG2]at e';injection e' with e';subst e';exact hb'
    subst hA2 hG2;by_cases h0:0<x
    · have HST:=lH (Ff HL.out HXX.out HYY.out h0)
      have VJ:Hid (∀V:World,V.heap=wo.heap->V.cell? ⟨bt,1,none⟩=some (.slice (some ⟨z,0,none⟩) g.2.length g.2.length)/\V.cell? ⟨W.heap.size,10,none⟩=some (.slice (some aq) g.2.length g2)/\V.cell? (aq.add k)=some (.int .i64 y)):=fun V hV=>by
        have q1:=hB.out.c1;have q2:=(BJ.out.kp hK0.out).cell (j:=10) rfl;simp only[World.cell?,hV]at q1 q2 hcy⊢;exact⟨q1,q2,hcy⟩
      clear hx hy
      go_upto_region 6 with fail
      refine aa8 (S:=fun V=>V.cell? ⟨bt,1,none⟩=some (.slice (some ⟨z,0,none⟩) g.2.length g.2.length)/\V.cell? ⟨W.heap.size,10,none⟩=some (.slice (some aq) g.2.length g2)/\V.cell? (aq.add k)=some (.int .i64 y)) kM (VJ.out _ rfl) (fun qJ=>?_);have Y0:Hid (Kp wo wo.drew):=aa3 (Kp.refl _);have OD:=lH hO.out.drew;have BD:=lH (hB.out.kp Y0.out);have SD:=lH (hS.out.kp Y0.out);generalize wo.drew=V0 at Y0 qJ OD BD SD⊢;refine tK 0 (pX bt 1) rfl qJ<|tK 1 (.slice (some ⟨z,0,none⟩) g.2.length g.2.length) rfl qJ<|tK 2 (.int .i64 (k:Int)) rfl qJ<|tK 3 (pX W.heap.size 9) rfl qJ<|tK 4 (pX W.heap.size 10) rfl qJ<|tK 5 (.slice (some aq) g.2.length g2) rfl qJ<|tK 6 (.int .i64 (k:Int)) rfl qJ<|tK 7 (.pointer (some (aq.add k))) rfl qJ<|tK 8 (.int .i64 y) rfl qJ<|tK 9 (pX z k) rfl qJ ?_;have hzk:zs[k]?=some 0:=by
        rw[hzs.out,pJ HL.out hkg,abz (by rw[abv,iC HL.out];omega),abv,iC HL.out,show k-min k g.2.length=0 by omega];rfl
      have u0:=OD.out.cell_ hzk;have u1:=OD.out.fE k;clear hzk;have NB:=HN.out.2.2.1;have X4:Hid (Kp w1 (V0.setCell ⟨z,k,none⟩ (.int .i64 y))):=(hK0.out.tr Y0.out).setCell (p:=⟨z,k,none⟩) HN.out.2.1 _;have hS4:(V0.setCell ⟨z,k,none⟩ (.int .i64 y)).cell? ⟨bt,1,none⟩=some (.slice (some ⟨z,0,none⟩) g.2.length g.2.length)/\(V0.setCell ⟨z,k,none⟩ (.int .i64 y)).cell? ⟨W.heap.size,10,none⟩=some (.slice (some aq) g.2.length g2)/\(V0.setCell ⟨z,k,none⟩ (.int .i64 y)).cell? (aq.add k)=some (.int .i64 y):=⟨(JC (p:=⟨z,k,none⟩) BD.out NB _).c1,(BJ.out.kp X4.out).cell (j:=10) rfl,X4.out.cell (p:=aq.add k) (by rw[ah];exact HLQ.out)|>.trans (by
        have h9:=qJ.2.2;exact(hK0.out.tr Y0.out).cell (p:=aq.add k) (by rw[ah];exact HLQ.out)|>.symm.trans h9)⟩
      refine rD 10 rfl fun _ hK=>?_
      go_simp;refine hK.out _ _ hS4 fun qJ=>?_
      clear hK;refine abp kM ?_ _;clear qJ hS4 u0 u1;go_wp2_with fail;go_roundw
      case rel=>exact⟨k+1,_,by go_num,(by show k+1<=a.2.length;omega),(by show _=_;rw[<-HST.out,hzs.out]),OD.out.kY k y,JC (p:=⟨z,k,none⟩) BD.out NB _,SD.out.gW (p:=⟨z,k,none⟩) (fun ad e=>(HN.out.2.2.2 ad e).1) _,X4.out⟩
      case measure=>simp[intOf];omega
    · have HST:=lH (Fg HL.out HXX.out HYY.out h0)
      have h0':¬(0:Int)<x:=h0;clear hx hy;go_wp2_with fail;go_roundw
      case rel=>exact⟨k+1,zs,by go_num,(by show k+1<=a.2.length;omega),(by show _=_;rw[<-HST.out,hzs.out]),hO.out,hB.out,hS.out,hK0.out⟩
      case measure=>simp[intOf];omega
  · have hk':¬(k:Int)<(a.2.length:Int):=by omega
    have HZ:Hid (zs=f9 a.2 g.2):=by
      have e:k=g.2.length:=by have:=HL.out;have:=hk.out;omega
      show _=_;rw[hzs.out,e,Fh HL.out]
    have O2:=lH (BO.out.kp hK0.out);have r0:=hB.out.c0;have r1:=hB.out.c1;have o0:=O2.out.c0;have o1:=O2.out.c1;have f0:=O2.out.f0 0;have f1:=O2.out.f0 1;have SO:Hid (Sl wo (some ⟨z,0,none⟩) g.2.length (f9 a.2 g.2)):=by
      have h9:=hO.out.sl;rw[HZ.out]at h9;exact h9
    go_wp2;refine aaX (v:= .tuple #[.agg #[.slice AC g.1.length cC, .slice (some ⟨z,0,none⟩) g.2.length g.2.length], .int .i64 0]) (by simp[results,Tryz.results142,go_sem,o0,o1];try rfl) rfl ?_;exact fin (r:=(g.1,f9 a.2 g.2,0)) ⟨hS.out,fun _ ad e=>ab3 K1.out.size (HN.out.2.2.2 ad e).2⟩ ⟨SO.out,by have h9:=hO.out.nw K1.out.size;rw[HZ.out]at h9;exact h9⟩ O2.out (K1.out.tr hK0.out) rfl (iC HL.out).symm
theorem si(H:Jb W Q A1 A2 B1 B2 O1 O2 G1 G2 d a1 a2 b1 b2 o1 o2 g1 g2 nums a b o g)(hl:a.2.length<=1000):CJ 143 #[.agg #[.int .i64 op, .slice P nP cP, .slice Q nums.length d, .slice A1 a.1.length a1, .slice A2 a.2.length a2, .slice B1 b.1.length b1, .slice B2 b.2.length b2, .slice O1 o.1.length o1, .slice O2 o.2.length o2, .slice G1 g.1.length g1, .slice G2 g.2.length g2]] W (aG (fY 12 g (gH a)) W):=by
 obtain⟨w1,hw1⟩:=eX ((W.alloc (.cells #[.int .i64 op, .slice P nP cP, .slice Q nums.length d, .slice A1 a.1.length a1, .slice A2 a.2.length a2, .slice B1 b.1.length b1, .slice B2 b.2.length b2, .slice O1 o.1.length o1, .slice O2 o.2.length o2, .slice G1 g.1.length g1, .slice G2 g.2.length g2] 127)).alloc (.cells #[.slice none 0 0, .slice none 0 0] 25));obtain⟨K1,BJ,BO⟩:=jw hw1;have HW:=lH hw1;have HD:Hid (∀V C D c d zs,Kp w1 V->Rd V C a.1->Rd V D zs->bN zs->CJ 83 #[.int .i64 12, .agg #[.slice G1 g.1.length g1, .slice G2 g.2.length g2], .agg #[.slice C a.1.length c, .slice D zs.length d]] V (aG (bg 12 g.1 g.2 a.1 zs) V)):=fun V C D c d zs kV h1 h2 h3=>
  eZ 12 G1 G2 C D g1 g2 c d g.1 g.2 a.1 zs V (H.rg.r.s.kp (K1.out.tr kV)) (H.rg.r.d.kp (K1.out.tr kV)) h1 h2 H.ng h3
 have HX:=lH (H.ra.r.d.kp K1.out);have HP:=lH (H.ra.r.s.kp K1.out);have HI:=lH H.na;have HL:=lH hl;have hal:=H.ra.r.d.len;have HSZ:Hid (W.heap.size+1<w1.heap.size):=BO.out.lt;have e4:W.heap.size<w1.heap.size:=by have:=HSZ.out;omega
 obtain⟨w2,hw2⟩:=eX (w1.alloc (.cells #[.slice A1 a.1.length a1, .slice none 0 0] 25));have hs1:w1.heap.size=W.heap.size+1+1:=by rw[hw1,aaY,aaY]
 obtain⟨bs,hbs⟩:=eX (W.heap.size+1+1);have T3:Hid (Bk w2 bs A1 a.1.length a1 none 0 0):=by rw[hw2];exact Bk.new (hbs.trans hs1.symm)
 have KW:Hid (Kp w1 w2):=by rw[hw2];exact Kp.af _ _
 have HW2:=lH hw2;have HBS:Hid (bs=w1.heap.size):=hbs.trans hs1.symm;have HB2:=lH hbs;have x3:=BJ.out.cell (j:=3) rfl;have y4:=(BJ.out.kp KW.out).cell (j:=4) rfl;clear hw1 hw2 hbs hs1 H hl;go_enter Tryz.func143,Tryz.ntmps143;go_wp2_with fail;rw[<-HW.out];rw[<-HW2.out,<-HB2.out];clear x3
 go_loopw [17] (fun i wx=>∃(k:Nat) (D:DV) (dd:Nat) (zs:BU),i= .int .i64 (k:Int)/\Hid (k<=a.2.length)/\Hid (Ea fu a.2 k zs)/\Hid (Bk wx bs A1 a.1.length a1 D k dd)/\Hid (Own (bs+1) wx (.slice D k dd) zs)/\Hid (Kp w1 wx)) (fun i _=>a.2.length-(intOf i).toNat)
 case atStart=>exact⟨0,none,0,[],rfl,aa6 _,wS,T3.out,Own.bU _ _,KW.out⟩
 case round=>
  obtain⟨k,D,dd,zs,rfl,hk,hzs,hB,hO,hK0⟩:=hrel;obtain⟨wo,hwo⟩:=eX wr;subst hwo;have hzk:Hid (zs.length=k):=Db hzs.out;by_cases hkx:k<a.2.length
  · have hk':(k:Int)<(a.2.length:Int):=by omega
    have hk0:(0:Int)<=(k:Int):=by omega
    obtain⟨ap,x,hA2,hlp,hx,hcx⟩:=(HX.out.kp hK0.out).at_ hkx;have HSL:=lH (fun W=>Fx.zZ x (HI.out x (aa1 hx)) W);have HXX:=lH hx;obtain⟨y,er,hy⟩:∃y er,fu x=(y,er):=⟨_,_,rfl⟩
    rw[hy]at HSL;have HYY:=lH hy;subst hA2;clear hx hy;by_cases he:er=0
    · subst he
      have hzl:Hid (zs.length<=1000):=by show _<=_;rw[hzk.out];have:=HL.out;omega
      go_wp2_with fail;refine(HSL.out _).mono ?_;rintro e0 w3 ⟨rfl,q2⟩;have K2:Hid (Kp wo w3):=q2.below;have HB4:=lH (hB.out.kp K2.out);have HO4:=lH (hO.out.kp K2.out);have hGs:Hid (bs+1<=w3.heap.size):=HB4.out.lt;have r1:=HB4.out.c1;have r2:=HB4.out.f0 1;clear q2 hcx;go_wp2_with (at_builtin;refine dW (B:=bs+1) rfl (.tmp 31) (.tmp 33) rfl (.slice D k dd) zs rfl (HO4.out.kp (Kp.af _ _)) _ _ [y] _ rfl rfl (Rd.one _ _ _) (by have:=hzl.out;simp;omega) (by have:=hGs.out;simp;omega) ?_;intro z1 A3 c3 w8 HZ1 o1 b1_;have O1:=lH o1;have B1:Hid (Below (bs+1) w3 w8):=(Below.alloc (abu _ _) hGs.out _).trans b1_;have N8:Hid (Bk w8 bs A1 a.1.length a1 D k dd):=(B1.out.block _ (aby _)).trans HB4.out;have p8:=N8.out.c1;have q8:=N8.out.f0 1;clear o1 b1_);have hz1:=Da hzs.out HXX.out HYY.out HZ1.out;have hl1:z1.length=k+1:=Db hz1;have N9:Hid (Bk (w8.setCell ⟨bs,1,none⟩ (.slice A3 z1.length c3)) bs A1 a.1.length a1 A3 (k+1) c3):=by rw[<-hl1];exact hset N8.out 1 _
      have O9:Hid (Own (bs+1) (w8.setCell ⟨bs,1,none⟩ (.slice A3 z1.length c3)) (.slice A3 (k+1) c3) z1):=by
        rw[<-hl1];exact O1.out.of_block fun q hq=>abq _ _ _ q (by have:=O1.out.from_ hq;show q≠bs;omega)
      have K9:Hid (Kp w1 (w8.setCell ⟨bs,1,none⟩ (.slice A3 z1.length c3))):=((hK0.out.tr K2.out).trans (B1.out.mono (by have:=HBS.out;omega))).setCell (p:=⟨bs,1,none⟩) (by show w1.heap.size<=bs;have:=HBS.out;omega) _;refine⟨?_,by simp[intOf];omega⟩;exact⟨k+1,A3,c3,z1,by go_num,(by show k+1<=a.2.length;omega),hz1,N9.out,O9.out,K9.out⟩
    · have hy0:y=0:=by
        have h:=zY (x:=x) (by rw[HYY.out];exact he);rw[HYY.out]at h;exact abP Prod.fst h
      subst hy0;have HRB:Hid (fY 12 g (gH a)=([],[],er)):=by
        have h:=Jq hzs.out HXX.out HYY.out he;show _=_;unfold fY gH;rw[h,aaT he,aaT he]
      have he':(er !=0)=true:=by simpa using he
      clear he;go_wp2_with fail;refine(HSL.out _).mono ?_;rintro e0 w3 ⟨rfl,q2⟩;have K2:Hid (Kp w1 w3):=hK0.out.tr q2.below;have O2:=lH (BO.out.kp K2.out);have o0:=O2.out.c0;have o1:=O2.out.c1;have f0:=O2.out.f0 0;have f1:=O2.out.f0 1;clear q2 hcx;go_wp2;refine aaX (v:= .tuple #[.agg #[.slice none 0 0, .slice none 0 0], .int .i64 er]) (by simp[results,Tryz.results143,go_sem,o0,o1];try rfl) rfl ?_;exact QG HRB.out O2.out (K1.out.tr K2.out)
  · have hk':¬(k:Int)<(a.2.length:Int):=by omega
    have HE:=lH (Jp hzs.out hkx);have hn:bN zs:=by
      have h9:=jr (f:=fu) (l:=a.2) fun q _=>GL q
      rw[HE.out]at h9;exact h9
    have HRB:Hid (fY 12 g (gH a)=bg 12 g.1 g.2 a.1 zs):=by
      show _=_;unfold fY gH;rw[HE.out,aaW rfl,aaW rfl]
    have HC:=HD.out wo A1 D a1 dd zs hK0.out (HP.out.kp hK0.out) hO.out.sl.rd hn;rw[hzk.out]at HC;obtain⟨Q3,hQ⟩:=eX (bg 12 g.1 g.2 a.1 zs);rw[<-hQ]at HC HRB;have HC:=lH HC;have r0:=hB.out.c0;have r1:=hB.out.c1;have x9:=(BJ.out.kp hK0.out).cell (j:=9) rfl;have x10:=(BJ.out.kp hK0.out).cell (j:=10) rfl;clear hQ hn;go_wp2_with fail;refine HC.out.mono ?_;rintro e2 w3 ⟨A3,c3,D3,d3,rfl,s3,t3,k2⟩;have K2:=lH (hK0.out.tr k2);have O2:=lH (BO.out.kp K2.out);have S3:=lH (s3.mo (K1.out.tr hK0.out).size);have T3:=lH (t3.mo (K1.out.tr hK0.out).size);clear k2 s3 t3 r0 r1 x9 x10;dsimp only;have o0:=O2.out.c0;have o1:=O2.out.c1;have f0:=O2.out.f0 0;have f1:=O2.out.f0 1;go_wp2;refine aaX (v:= .tuple #[.agg #[.slice A3 Q3.1.length c3, .slice D3 Q3.2.1.length d3], .int .i64 Q3.2.2]) (by simp[results,Tryz.results143,go_sem,o0,o1];try rfl) rfl ?_;rw[HRB.out];exact fin S3.out T3.out O2.out (K1.out.tr K2.out) rfl rfl
