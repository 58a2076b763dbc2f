import Derived.Test.YtdfknefcgijhmaaGreatGdMWT
import Derived.Test.YtdfknefcgijhmaaGreatGdMLWT
import Derived.Test.YtdfknefcgijhmaaGreatTk
import Derived.Test.YtdfknefcgijhmaaGreatMmAll
import Derived.Test.YtdfknefcgijhmaaGreatGdM
set_option maxHeartbeats 16000000
set_option maxRecDepth 100000
set_option linter.unusedVariables false
set_option linter.unusedSimpArgs false
namespace Go.Proofs.ShM
open Go.Proofs.cF
theorem Dk{M K:Nat}{xs:List Int}(h:aB [(M:Int),(K:Int)] xs=true){i k:Nat}(hi:i<M)(hk:k<K):atV [(M:Int),(K:Int)] xs [(i:Int),(k:Int)]=(xs.getD (i*K+k) 0,0):=by
 rw[Dl h (by simp[aZ];omega)]
 have e:plc [(M:Int),(K:Int)] [(i:Int),(k:Int)]=((i*K+k:Nat):Int):=by simp[plc,ai]
 rw[e,Int.toNat_natCast]
theorem eJ{M K:Nat}(h:okS [(M:Int),(K:Int)]=true){xs:List Int}(hl:xs.length=M*K):aB [(M:Int),(K:Int)] xs=true:=by
 refine aA.2 ⟨h,?_⟩
 have e2:ai [(M:Int),(K:Int)]=((M*K:Nat):Int):=by simp[ai]
 rw[e2,hl]
theorem Kx{M K:Nat}(h1:1≤M)(h2:M≤16)(h3:1≤K)(h4:K≤16)(h5:M*K≤64):okS [(M:Int),(K:Int)]=true:=by
 have e2:ai [(M:Int),(K:Int)]=((M*K:Nat):Int):=by simp[ai]
 refine aD.2 ⟨by simp,?_,by rw[e2];omega⟩
 simp[aX];omega
theorem rge(n:Nat)(F:Nat→Int){q:Nat}(hq:q<n):((List.range n).map F).getD q 0=F q:=by
 rw[List.getD,List.getElem?_map,List.getElem?_range hq];rfl
theorem Jr{i j N:Nat}(hj:j<N):(i*N+j)/N=i∧(i*N+j)%N=j:=by
 have e1:i*N+j=j+N*i:=by rw[Nat.mul_comm];omega
 rw[e1,Nat.add_mul_div_left _ _ (by omega),Nat.add_mul_mod_self_left,Nat.div_eq_of_lt hj,Nat.mod_eq_of_lt hj]
 omega
theorem Jw{xs ys:List Int}{K N i j:Nat}(hj:j<N):atQ xs ys K N (i*N+j)=gQ (qN xs K i) (qO ys N j) K:=by
 unfold atQ;rw[(Jr hj).1,(Jr hj).2]
theorem uF{xs ys:List Int}{M K N:Nat}(hN:1≤N):(kz xs ys M K N).2=0↔∀i j,i<M→j<N→(gQ (qN xs K i) (qO ys N j) K).2=0:=by
 unfold kz
 rw[I3,fH]
 constructor
 ·intro h i j hi hj
  have:=h (i*N+j) (List.mem_range.2 (mT hi hj))
  rwa [Jw hj]at this
 ·intro h q hq
  have hq':=List.mem_range.1 hq
  have hi:q/N<M:=Nat.div_lt_of_lt_mul (by rw[Nat.mul_comm];exact hq')
  exact h _ _ hi (Nat.mod_lt _ (by omega))
theorem BB{xs ys:List Int}{M K N:Nat}(h:(kz xs ys M K N).2=0):(kz xs ys M K N).1=(List.range (M*N)).map fun q=>(atQ xs ys K N q).1:=by
 unfold kz at h⊢
 rw[(mR h).2]
theorem lW{xs ys:List Int}{M K N:Nat}(h:(kz xs ys M K N).2=0):(kz xs ys M K N).1.length=M*N:=by rw[BB h];simp
theorem BF{xs ys:List Int}{M K N i j:Nat}(h:(kz xs ys M K N).2=0)(hi:i<M)(hj:j<N):(kz xs ys M K N).1.getD (i*N+j) 0=(gQ (qN xs K i) (qO ys N j) K).1:=by
 rw[BB h,rge _ _ (mT hi hj),Jw hj]
theorem QT{M K:Nat}{xs:List Int}(h:aB [(M:Int),(K:Int)] xs=true){i k:Nat}(hi:i<M)(hk:k<K):(bJ [(M:Int),(K:Int)] xs).getD (k*M+i) 0=xs.getD (i*K+k) 0:=by
 have e:=JH (t:=[(i:Int),(k:Int)]) h
 rw[Dk h hi hk]at e
 have e2:=Dk (M:=K) (K:=M) (xs:=bJ [(M:Int),(K:Int)] xs) (gG h) hk hi
 have e3:atV [(K:Int),(M:Int)] (bJ [(M:Int),(K:Int)] xs) [(k:Int),(i:Int)]=(xs.getD (i*K+k) 0,0):=e
 rw[e2]at e3
 exact congrArg Prod.fst e3
theorem FY{x:Int}(h: -9223372036854775808≤x∧x≤9223372036854775807):dX 4294967296 x=(x,0):=by
 unfold dX;rw[Int.mul_ediv_cancel_left _ (by omega)];exact cO h.1 h.2
end Go.Proofs.ShM
namespace Go.Proofs.EvM
open Go.Proofs.ShM Go.Proofs.cF Go.Proofs.GrM Go.Proofs.InM Go.Proofs.ImM
theorem Bt{x y:Int}(hx: -1073741824≤x∧x≤1073741824)(hy: -1073741824≤y∧y≤1073741824):∃p,dX x y=(p,0)∧ -268435456≤p∧p≤268435456:=by
 have h1:x*y≤1152921504606846976:=by
  have e1:(x.natAbs*y.natAbs:Nat)≤1073741824*1073741824:=Nat.mul_le_mul (by omega) (by omega)
  have e2:(x*y).natAbs=x.natAbs*y.natAbs:=Int.natAbs_mul x y
  omega
 have h2: -1152921504606846976≤x*y:=by
  have e1:(x.natAbs*y.natAbs:Nat)≤1073741824*1073741824:=Nat.mul_le_mul (by omega) (by omega)
  have e2:(x*y).natAbs=x.natAbs*y.natAbs:=Int.natAbs_mul x y
  omega
 refine⟨x*y/4294967296,?_,by omega,by omega⟩
 unfold dX
 exact cO (by omega) (by omega)
theorem rX{y:Int}(h: -9223372036854775808≤y∧y≤9223372036854775807):dX 4294967296 y=(y,0):=FY h
theorem nk{f g:Nat→Int}:∀{n:Nat},n≤64→(∀k,k<n→∃p,dX (f k) (g k)=(p,0)∧ -1073741824≤p∧p≤1073741824)→∃d,gQ f g n=(d,0)∧ -(1073741824*(n:Int))≤d∧d≤1073741824*(n:Int)
 |0,_,_=>⟨0,rfl,by omega,by omega⟩
 |n+1,hn,h=>by
  obtain⟨d,e,b1,b2⟩:=nk (n:=n) (by omega) (fun k hk=>h k (by omega))
  obtain⟨p,e2,c1,c2⟩:=h n (Nat.lt_succ_self n)
  refine⟨d+p,?_,by omega,by omega⟩
  show(if(gQ f g n).2≠0 then gQ f g n else if(dX (f n) (g n)).2≠0 then(0,(dX (f n) (g n)).2)else cY (gQ f g n).1 (dX (f n) (g n)).1)=_
  rw[e,e2,if_neg (by simp),if_neg (by simp)]
  exact cO (by omega) (by omega)
section
variable{R C:Nat}
theorem eK(h1:1≤R)(h2:R≤4)(h3:1≤C)(h4:C≤4):okS [(R:Int),(C:Int)]=true:=Kx h1 (by omega) h3 (by omega) (by have:=Nat.mul_le_mul h2 h4;omega)
theorem wA{l:List Int}{B:Int}(hB:0≤B)(h:∀y∈l,-B≤y∧y≤B)(i:Nat): -B≤l.getD i 0∧l.getD i 0≤B:=by
 rw[List.getD_eq_getElem?_getD]
 cases e:l[i]? with
 |none=>show -B≤0∧(0:Int)≤B;omega
 |some y=>exact h y (List.mem_of_getElem? e)
theorem JO(h1:1≤R)(h2:R≤4)(h3:1≤C)(h4:C≤4){w x:List Int}(hw:w.length=R*C)(hx:x.length=C)(bw:∀y∈w,-1073741824≤y∧y≤1073741824)(bx:∀y∈x,-1073741824≤y∧y≤1073741824):
  ∃mv,gu [(R:Int),(C:Int)] w [(C:Int),1] x=([(R:Int),1],mv,0)∧mv.length=R∧∀y∈mv,-1125899906842624≤y∧y≤1125899906842624:=by
 have ow:=eK h1 h2 h3 h4
 have ox:okS [(C:Int),((1:Nat):Int)]=true:=eK h3 h4 (Nat.le_refl 1) (by omega)
 have oo:okS [(R:Int),((1:Nat):Int)]=true:=eK h1 h2 (Nat.le_refl 1) (by omega)
 have tw:=eJ ow hw
 have tx:aB [(C:Int),((1:Nat):Int)] x=true:=eJ ox (by omega)
 have hd:∀i j:Nat,∃d,gQ (qN w C i) (qO x 1 j) C=(d,0)∧ -(1073741824*(C:Int))≤d∧d≤1073741824*(C:Int):=fun i j=>nk (by omega) fun k hk=>by
  obtain⟨p,e,c1,c2⟩:=Bt (wA (by omega) bw (i*C+k)) (wA (by omega) bx (k*1+j))
  exact⟨p,e,by omega,by omega⟩
 have hok:(kz w x R C 1).2=0:=(uF (Nat.le_refl 1)).2 fun i j _ _=>by obtain⟨d,e,_⟩:=hd i j;rw[e]
 have hf:=lV (N:=1) tw tx oo
 have hf:gu [(R:Int),(C:Int)] w [(C:Int),1] x=if(kz w x R C 1).2=0 then([(R:Int),1],(kz w x R C 1).1,0)else([],[],(kz w x R C 1).2):=hf
 rw[if_pos hok]at hf
 refine⟨_,hf,by rw[lW hok,Nat.mul_one],fun y hy=>?_⟩
 obtain⟨q,hq⟩:=List.mem_iff_getElem?.1 hy
 have hql:q<R*1:=by have:=(List.getElem?_eq_some_iff.1 hq).1;rw[lW hok]at this;exact this
 have e:=BF (i:=q) (j:=0) hok (by omega) (by omega)
 obtain⟨d,e2,b1,b2⟩:=hd q 0
 rw[e2,show q*1+0=q by omega,List.getD_eq_getElem?_getD,hq]at e
 have e:y=d:=e
 omega
theorem Ma(h1:1≤R)(h2:R≤4){mv:List Int}(hl:mv.length=R)(hb:∀y∈mv,-1125899906842624≤y∧y≤1125899906842624):iM [(R:Int),1] mv 0=([1],[mv.sum],0):=by
 have oo:okS [(R:Int),((1:Nat):Int)]=true:=eK h1 h2 (Nat.le_refl 1) (by omega)
 have ht:aB [(R:Int),1] mv=true:=eJ oo (by omega)
 have hL:aU [(R:Int),1] mv 0 0=mv:=by
  have e2:∀i:Nat,(gI [(R:Int),1] 0 0 i).toNat=i:=fun i=>by
   unfold gI ck
   simp[ai]
  unfold aU
  show(List.range ((R:Int)).toNat).map (fun i:Nat=>mv.getD (gI [(R:Int),1] 0 ((0:Nat):Int) i).toNat 0)=mv
  rw[Int.toNat_natCast]
  refine LL (by simp[hl]) fun i hi=>?_
  have hi':i<R:=by simpa using hi
  rw[List.getD_eq_getElem?_getD,List.getElem?_map,List.getElem?_range hi']
  show mv.getD (gI [(R:Int),1] 0 0 i).toNat 0=_
  rw[e2]
 have hk:=zH mv 0 0 (by omega) hb (by simp) (by simp)
 rw[Int.zero_add]at hk
 have hg:oV cY 0 [(R:Int),1] mv 0=([mv.sum],0):=by
  unfold oV
  show cL (fun q:Nat=>tkL cY 0 (aU [(R:Int),1] mv 0 q)) (List.range (au [1]).toNat)=_
  rw[show(au [1]).toNat=1 by decide+kernel]
  have:cL (fun q:Nat=>tkL cY 0 (aU [(R:Int),1] mv 0 q)) (List.range 1)=((List.range 1).map fun _=>mv.sum,0):=qg fun q hq=>by
   have:q=0:=by simpa using hq
   subst this
   rw[hL,hk]
  rw[this];rfl
 unfold iM gZ
 rw[if_neg (by rw[ht];decide),if_neg (by simp),show(0:Int).toNat=0 from rfl,hg,if_pos rfl]
 rfl
theorem Hz(h1:1≤R)(h2:R≤4):bE [1] [4294967296] 0 (R:Int)=([(R:Int),1],List.replicate R 4294967296,0):=by
 have oo':okS [(R:Int),((1:Nat):Int)]=true:=eK h1 h2 (Nat.le_refl 1) (by omega)
 have oo:okS [(R:Int),1]=true:=oo'
 have h1':aB [1] [4294967296]=true:=by decide+kernel
 unfold bE
 rw[if_neg (by rw[h1'];decide),show(0:Int).toNat=0 from rfl,mg,if_neg (by simp[oo])]
 congr 2
 unfold uN
 rw[mg,aL oo]
 have e:(ai [(R:Int),1]).toNat=R:=by simp[ai]
 rw[e]
 refine LL (by simp) fun p hp=>?_
 have hp':p<R:=by simpa using hp
 rw[List.getD_eq_getElem?_getD,List.getElem?_map,List.getElem?_range hp',eN _ _ _ hp']
 have:(qOf [(R:Int),1] 0 p).toNat=0:=by
  unfold qOf ck
  simp[ai]
  rw[Int.ediv_eq_zero_of_lt (by omega) (by omega)]
  omega
 show [4294967296].getD (qOf [(R:Int),1] 0 p).toNat 0=_
 rw[this];rfl
theorem Em(h1:1≤R)(h2:R≤4)(h3:1≤C)(h4:C≤4){x:List Int}(hx:x.length=C)(bx:∀y∈x,-1073741824≤y∧y≤1073741824):
  ∃z,fL [(R:Int),1] (List.replicate R 4294967296) [(C:Int),1] x=([(R:Int),(C:Int)],z,0)∧z.length=R*C∧∀i j,i<R→j<C→z.getD (i*C+j) 0=x.getD j 0:=by
 have ow:=eK h1 h2 h3 h4
 have ox:okS [(C:Int),((1:Nat):Int)]=true:=eK h3 h4 (Nat.le_refl 1) (by omega)
 have oo:okS [(R:Int),((1:Nat):Int)]=true:=eK h1 h2 (Nat.le_refl 1) (by omega)
 have tx:aB [(C:Int),((1:Nat):Int)] x=true:=eJ ox (by omega)
 have to_:aB [(R:Int),((1:Nat):Int)] (List.replicate R 4294967296)=true:=eJ oo (by simp)
 have htu:bF [(C:Int),1] x=([1,(C:Int)],bJ [(C:Int),1] x,0):=by
  unfold bF
  rw[if_neg (by rw[show aB [(C:Int),1] x=true from tx];decide)]
  rfl
 have tt:aB [((1:Nat):Int),(C:Int)] (bJ [(C:Int),1] x)=true:=gG tx
 have hat:∀j,j<C→(bJ [(C:Int),1] x).getD j 0=x.getD j 0:=fun j hj=>by
  have:=QT (M:=C) (K:=1) tx hj (Nat.lt_succ_self 0)
  rw[Nat.zero_mul,Nat.zero_add,Nat.mul_one,Nat.add_zero]at this
  exact this
 have T8:∀i j,i<R→j<C→gQ (qN (List.replicate R 4294967296) 1 i) (qO (bJ [(C:Int),1] x) C j) 1=(x.getD j 0,0):=fun i j hi hj=>by
  have b:=wA (by omega) bx j
  have e1:qN (List.replicate R 4294967296) 1 i 0=4294967296:=by
   unfold qN
   rw[Nat.mul_one,Nat.add_zero,eN _ _ _ hi]
  have e2:qO (bJ [(C:Int),1] x) C j 0=x.getD j 0:=by
   unfold qO
   rw[Nat.zero_mul,Nat.zero_add,hat j hj]
  show(if(gQ (qN (List.replicate R 4294967296) 1 i) (qO (bJ [(C:Int),1] x) C j) 0).2≠0 then _ else if(dX (qN (List.replicate R 4294967296) 1 i 0) (qO (bJ [(C:Int),1] x) C j 0)).2≠0 then _ else cY 0 (dX (qN (List.replicate R 4294967296) 1 i 0) (qO (bJ [(C:Int),1] x) C j 0)).1)=_
  rw[e1,e2,rX (by omega),if_neg (by simp[gQ]),if_neg (by simp)]
  show cY 0 (x.getD j 0)=_
  unfold cY
  rw[Int.zero_add]
  exact cO (by omega) (by omega)
 have hok:(kz (List.replicate R 4294967296) (bJ [(C:Int),1] x) R 1 C).2=0:=(uF h3).2 fun i j hi hj=>by rw[T8 i j hi hj]
 have hf:=lV (M:=R) (K:=1) (N:=C) to_ tt ow
 rw[if_pos hok]at hf
 refine⟨(kz (List.replicate R 4294967296) (bJ [(C:Int),1] x) R 1 C).1,?_,lW hok,fun i j hi hj=>by rw[BF hok hi hj,T8 i j hi hj]⟩
 unfold fL
 rw[if_neg (by rw[show aB [(R:Int),1] (List.replicate R 4294967296)=true from to_,show aB [(C:Int),1] x=true from tx];decide),if_neg (by simp),htu]
 exact hf
theorem zM(h1:1≤R)(h2:R≤4)(h3:1≤C)(h4:C≤4){w:List Int}(hw:w.length=R*C)(bw:∀y∈w,-1073741824≤y∧y≤1073741824):
  ∃z,di [(R:Int),(C:Int)] w [(R:Int),1] (List.replicate R 4294967296)=([(C:Int),1],z,0)∧z.length=C:=by
 have ow:=eK h1 h2 h3 h4
 have ox:okS [(C:Int),((1:Nat):Int)]=true:=eK h3 h4 (Nat.le_refl 1) (by omega)
 have oo:okS [(R:Int),((1:Nat):Int)]=true:=eK h1 h2 (Nat.le_refl 1) (by omega)
 have tw:=eJ ow hw
 have to_:aB [(R:Int),((1:Nat):Int)] (List.replicate R 4294967296)=true:=eJ oo (by simp)
 have htu:bF [(R:Int),(C:Int)] w=([(C:Int),(R:Int)],bJ [(R:Int),(C:Int)] w,0):=by
  unfold bF
  rw[if_neg (by rw[tw];decide)]
  rfl
 have tt:aB [(C:Int),(R:Int)] (bJ [(R:Int),(C:Int)] w)=true:=gG tw
 have bt:∀k,-1073741824≤(bJ [(R:Int),(C:Int)] w).getD k 0∧(bJ [(R:Int),(C:Int)] w).getD k 0≤1073741824:=fun k=>by
  unfold bJ
  rw[List.getD_eq_getElem?_getD,List.getElem?_map]
  cases e:(List.range w.length)[k]? with
  |none=>show -1073741824≤(0:Int)∧(0:Int)≤1073741824;omega
  |some i=>
   show -1073741824≤(atV _ w _).1∧(atV _ w _).1≤1073741824
   unfold atV
   split
   ·exact wA (by omega) bw _
   ·show -1073741824≤(0:Int)∧(0:Int)≤1073741824;omega
 have hok:(kz (bJ [(R:Int),(C:Int)] w) (List.replicate R 4294967296) C R 1).2=0:=(uF (Nat.le_refl 1)).2 fun i j hi hj=>by
  obtain⟨d,e,_⟩:=nk (f:=qN (bJ [(R:Int),(C:Int)] w) R i) (g:=qO (List.replicate R 4294967296) 1 j) (n:=R) (by omega) fun k hk=>by
   have b:=bt (i*R+k)
   have e1:qO (List.replicate R 4294967296) 1 j k=4294967296:=by
    unfold qO
    rw[eN _ _ _ (by omega)]
   refine⟨qN (bJ [(R:Int),(C:Int)] w) R i k,?_,b.1,b.2⟩
   rw[e1,mO]
   exact rX (by show -9223372036854775808≤(bJ _ w).getD (i*R+k) 0∧(bJ _ w).getD (i*R+k) 0≤9223372036854775807;omega)
  rw[e]
 have hf:=lV (M:=C) (K:=R) (N:=1) tt to_ ox
 rw[if_pos hok]at hf
 refine⟨_,?_,by rw[lW hok,Nat.mul_one]⟩
 unfold di
 rw[if_neg (by rw[tw,show aB [(R:Int),1] (List.replicate R 4294967296)=true from to_];decide),if_neg (by simp),htu]
 exact hf
def fq(R C:Nat):List Nd:=[(1,[],[(C:Int),1]),(2,[],[0,(R:Int),(C:Int)]),(30,[1,0],[]),(50,[2],[0])]
theorem qY(h1:1≤R)(h2:R≤4)(h3:1≤C)(h4:C≤4):aK (fq R C)=true:=by
 have ow:=eK h1 h2 h3 h4
 have ox':okS [(C:Int),((1:Nat):Int)]=true:=eK h3 h4 (Nat.le_refl 1) (by omega)
 have ox:okS [(C:Int),1]=true:=ox'
 refine aO.2 ⟨by simp[fq],by simp[fq],fun i t ht=>?_⟩
 unfold fq at ht
 rcases i with _|_|_|_|i
 ·obtain rfl:(1,[],[(C:Int),1])=t:=by simpa using ht
  refine bh.2 ⟨by show(0:Int)≤ak 1;decide,by show(0:Int)=ak 1;decide,by unfold aM;simpa using ox,(fun a ha=>by cases ha),fun k hk=>by simp at hk⟩
 ·obtain rfl:(2,[],[0,(R:Int),(C:Int)])=t:=by simpa using ht
  refine bh.2 ⟨by show(0:Int)≤ak 2;decide,by show(0:Int)=ak 2;decide,by unfold aM DM;simpa using ow,(fun a ha=>by cases ha),fun k hk=>?_⟩
  have:k=(1,[],[(C:Int),1]):=by simpa [fq]using hk
  subst this
  unfold cW;rw[if_pos (.inl (show(1:Int)≠2 by decide))]
 ·obtain rfl:(30,[1,0],[])=t:=by simpa using ht
  refine bh.2 ⟨by show(0:Int)≤ak 30;decide,by show(2:Int)=ak 30;decide,by unfold aM;simp,fun a ha=>by simp at ha;rcases ha with rfl|rfl<;>simp,fun k hk=>dH (by show(2:Int)<30;decide)⟩
 ·obtain rfl:(50,[2],[0])=t:=by simpa using ht
  refine bh.2 ⟨by show(0:Int)≤ak 50;decide,by show(1:Int)=ak 50;decide,by unfold aM;simp,fun a ha=>by simp at ha;subst ha;simp,fun k hk=>dH (by show(2:Int)<50;decide)⟩
 ·simp at ht
theorem uP(h1:1≤R)(h2:R≤4)(h3:1≤C)(h4:C≤4){w x:List Int}(hw:w.length=R*C)(hx:x.length=C)(bw:∀y∈w,-1073741824≤y∧y≤1073741824)(bx:∀y∈x,-1073741824≤y∧y≤1073741824):
  ∃(g:List T) (z:List Int) (c:Int),jE (fq R C) ([(C:Int),1],x) [([(R:Int),(C:Int)],w)]=(g,c,-1,0)∧g.length=8∧g.getD 0 eT=([(R:Int),(C:Int)],z)∧z.length=R*C∧∀i j,i<R→j<C→z.getD (i*C+j) 0=x.getD j 0:=by
 obtain⟨mv,em,lm,bm⟩:=JO h1 h2 h3 h4 hw hx bw bx
 obtain⟨z,el,lz,hz⟩:=Em h1 h2 h3 h4 hx bx
 obtain⟨y,er,ly⟩:=zM h1 h2 h3 h4 hw bw
 have es:=Ma h1 h2 lm bm
 have eg:=Hz h1 h2
 have hc:=qY h1 h2 h3 h4
 have ow:=eK h1 h2 h3 h4
 have ox':okS [(C:Int),((1:Nat):Int)]=true:=eK h3 h4 (Nat.le_refl 1) (by omega)
 have oo':okS [(R:Int),((1:Nat):Int)]=true:=eK h1 h2 (Nat.le_refl 1) (by omega)
 have tw:bO ([(R:Int),(C:Int)],w)=true:=eJ ow hw
 have tx:bO ([(C:Int),((1:Nat):Int)],x)=true:=eJ ox' (by show x.length=C*1;omega)
 have tm:bO ([(R:Int),((1:Nat):Int)],mv)=true:=eJ oo' (by show mv.length=R*1;omega)
 have to_:bO ([(R:Int),((1:Nat):Int)],List.replicate R 4294967296)=true:=eJ oo' (by simp)
 have tz:bO ([(R:Int),(C:Int)],z)=true:=eJ ow lz
 have to1:okS [1]=true:=by decide
 have UE:bO ([1],[mv.sum])=true:=Go.Proofs.ShM.aA.2 ⟨to1,by show(1:Int)=ai [1];decide⟩
 have UF:bO ([1],[4294967296])=true:=by decide+kernel
 obtain⟨W,hW⟩:=eX ([(R:Int),(C:Int)])
 obtain⟨X,hX⟩:=eX ([(C:Int),1])
 obtain⟨M,hM⟩:=eX ([(R:Int),1])
 have hx1:[(C:Int),((1:Nat):Int)]=X:=hX.symm
 have hm1:[(R:Int),((1:Nat):Int)]=M:=hM.symm
 have m4:aF 30 [] [W,X]=(M,0):=by
  rw[hW,hX,hM]
  unfold aF
  rw[if_pos ⟨by decide+kernel,by rfl,by simp[ow,show okS [(C:Int),1]=true from ox']⟩]
  show aR 30 [] [(R:Int),(C:Int)] [(C:Int),1]=_
  unfold aR
  rw[if_neg (by decide),if_neg (by decide),if_neg (by decide),if_neg (by decide),if_neg (by decide),if_neg (by decide),if_neg (by decide)]
  unfold dQ
  rw[if_pos rfl]
  unfold fZ
  rw[if_pos ⟨rfl,rfl,rfl⟩]
  unfold fe
  rw[if_pos ⟨rfl,oo'⟩]
  rfl
 have hgrow:bE [1] [4294967296] 0 (M.getD 0 0)=(M,List.replicate R 4294967296,0):=by rw[hM];exact eg
 rw[hx1]at ox' tx
 rw[hm1]at oo' tm to_
 rw[←hW]at tw tz em el er ow
 rw[←hX]at em el er
 rw[←hM]at em el er es
 have hN:fq R C=[(1,[],X),(2,[],0::W),(30,[1,0],[]),(50,[2],[0])]:=by rw[hX,hW];rfl
 rw[hN]at hc⊢
 rw[←hX,←hW]
 have lM:1≤M.length:=by rw[hM];simp
 have eM:M.eraseIdx 0=[1]:=by rw[hM];rfl
 clear hW hX hM hx1 hm1 hN
 obtain⟨n4,v4⟩:=rR (s:=M) tm lM es (X,x) [(W,w)] eM
 have n1:=nZ ox' tx [(W,w)]
 have n2:=nY (p:=0) (by omega) ow tw (X,x) (ps:=[(W,w)]) rfl
 have n3:bq 30 [] [(W,w),(X,x)] (X,x) [(W,w)]=((M,mv),0):=by
  unfold bq
  rw[if_neg (by simp[tw,tx]),show shT [(W,w),(X,x)]=[W,X]from rfl,m4,if_pos rfl]
  show aV 30 [] (W,w) (X,x) M (X,x) [(W,w)]=_
  unfold aV
  rw[if_neg (by decide),if_neg (by decide),if_neg (by decide),if_neg (by decide),if_neg (by decide)]
  unfold dY
  rw[if_pos rfl]
  show tnE (gu W w X x)=_
  rw[em];rfl
 have v1:aF 1 X []=(X,0):=(cA n1).1
 have v2:aF 2 (0::W) []=(W,0):=(cA n2).1
 have a3:cq ([]++[(X,x)]++[(W,w)]) [1,0]=[(W,w),(X,x)]:=rfl
 have n3':bq 30 [] (cq ([]++[(X,x)]++[(W,w)]) [1,0]) (X,x) [(W,w)]=((M,mv),0):=by rw[a3];exact n3
 have c3:bY ([]++[X]++[W]) [1,0]=[W,X]:=rfl
 have v3':aF 30 [] (bY ([]++[X]++[W]) [1,0])=(M,0):=by rw[c3];exact m4
 have a4:cq ([]++[(X,x)]++[(W,w)]++[(M,mv)]) [2]=[(M,mv)]:=rfl
 have n4':bq 50 [0] (cq ([]++[(X,x)]++[(W,w)]++[(M,mv)]) [2]) (X,x) [(W,w)]=(([1],[mv.sum]),0):=by rw[a4];exact n4
 have c4:bY ([]++[X]++[W]++[M]) [2]=[M]:=rfl
 have v4':aF 50 [0] (bY ([]++[X]++[W]++[M]) [2])=([1],0):=by rw[c4];exact v4
 have e1:evF (X,x) [(W,w)] [(1,[],X),(2,[],0::W),(30,[1,0],[]),(50,[2],[0])] []=([(X,x),(W,w),(M,mv),([1],[mv.sum])],-1,0):=by
  rw[bV (n:=(1,[],X)) (acc:=[]) n1,bV (n:=(2,[],0::W)) (acc:=[]++[(X,x)]) n2,bV (n:=(30,[1,0],[])) (acc:=[]++[(X,x)]++[(W,w)]) n3',bV (n:=(50,[2],[0])) (acc:=[]++[(X,x)]++[(W,w)]++[(M,mv)]) n4']
  rfl
 have sm:(aH [(1,[],X),(2,[],0::W),(30,[1,0],[]),(50,[2],[0])]).2.2=0:=by
  unfold aH
  rw[if_pos hc,bA (n:=(1,[],X)) (acc:=[]) v1,bA (n:=(2,[],0::W)) (acc:=[]++[X]) v2,bA (n:=(30,[1,0],[])) (acc:=[]++[X]++[W]) v3',bA (n:=(50,[2],[0])) (acc:=[]++[X]++[W]++[M]) v4']
  rfl
 have ha:fI [(1,[],X),(2,[],0::W),(30,[1,0],[]),(50,[2],[0])] (X,x) [(W,w)]=([(X,x),(W,w),(M,mv),([1],[mv.sum])],-1,0):=by
  unfold fI
  rw[if_pos sm,e1]
 have hlv:fW [(1,[],X),(2,[],0::W),(30,[1,0],[]),(50,[2],[0])]=[0,1,2,3]:=by
  unfold fW
  rw[if_pos hc]
  rfl
 have b3:cU 50 [0] [(M,mv)] ([1],[mv.sum]) ([1],[4294967296])=([(M,List.replicate R 4294967296)],0):=by
  refine wY (x:=(M,List.replicate R 4294967296)) ⟨tm,UE,UF⟩ v4 rfl rfl ?_
  unfold vjA
  rw[if_neg (by decide),if_neg (by decide),if_neg (by decide),if_neg (by decide),if_neg (by decide),if_neg (by decide),if_neg (by decide),if_neg (by decide),if_neg (by decide)]
  unfold vjX
  rw[if_neg (by decide),if_neg (by decide),if_pos rfl]
  exact hgrow
 have b2:cU 30 [] [(W,w),(X,x)] (M,mv) (M,List.replicate R 4294967296)=([(W,z),(X,y)],0):=by
  refine wW (x:=(W,z)) (y:=(X,y)) ⟨tw,tx,tm,to_⟩ m4 rfl rfl ?_ ?_
  ·unfold vjA
   rw[if_neg (by decide),if_neg (by decide),if_neg (by decide),if_neg (by decide),if_neg (by decide),if_neg (by decide),if_pos rfl]
   exact el
  ·unfold vjB
   rw[if_neg (by decide),if_neg (by decide),if_neg (by decide),if_neg (by decide),if_pos rfl]
   exact er
 have b0:cU 1 X [] (X,x) (X,y)=([],0):=tg ⟨tx,by
  have:=Go.Proofs.ShM.aA.1 tx
  exact Go.Proofs.ShM.aA.2 ⟨this.1,by show(y.length:Int)=ai X;rw[ly,←hx];exact this.2⟩⟩ v1 rfl rfl
 have hsl:dB [(1,[],X),(2,[],0::W),(30,[1,0],[]),(50,[2],[0])] [(X,x),(W,w),(M,mv),([1],[mv.sum])]=((List.replicate 8 eT).set 0 (W,z),-1,0):=by
  have f1:dm [1] 4294967296=([1],[4294967296],0):=by decide+kernel
  have hh:qx [(1,[],X),(2,[],0::W),(30,[1,0],[]),(50,[2],[0])] [(X,x),(W,w),(M,mv),([1],[mv.sum])]=[eT,eT,eT,([1],[4294967296])]:=by
   unfold qx
   show(List.replicate 4 eT).set 3 (tnE (dm [1] 4294967296)).1=_
   rw[f1];rfl
  unfold dB
  rw[hh,hlv]
  have d3:dD (50,[2],[0]) [(X,x),(W,w),(M,mv),([1],[mv.sum])] [eT,eT,eT,([1],[4294967296])] (List.replicate 8 eT) 3=(([eT,eT,(M,List.replicate R 4294967296),([1],[4294967296])],List.replicate 8 eT),0):=by
   unfold dD
   rw[if_neg (by decide),show bkG (50,[2],[0]) [(X,x),(W,w),(M,mv),([1],[mv.sum])] [eT,eT,eT,([1],[4294967296])] 3=([(M,List.replicate R 4294967296)],0)from b3,if_pos rfl]
   have:cI [2] [(M,List.replicate R 4294967296)] [eT,eT,eT,([1],[4294967296])]=([eT,eT,(M,List.replicate R 4294967296),([1],[4294967296])],0):=by
    rw[cI,show([eT,eT,eT,([1],[4294967296])]:List T).getD (2:Int).toNat eT=eT from rfl,cQ,if_pos rfl,cI];rfl
   show(if(cI [2] [(M,List.replicate R 4294967296)] [eT,eT,eT,([1],[4294967296])]).2=0 then _ else _)=_
   rw[this,if_pos rfl]
  have d2:dD (30,[1,0],[]) [(X,x),(W,w),(M,mv),([1],[mv.sum])] [eT,eT,(M,List.replicate R 4294967296),([1],[4294967296])] (List.replicate 8 eT) 2=(([(X,y),(W,z),(M,List.replicate R 4294967296),([1],[4294967296])],List.replicate 8 eT),0):=by
   unfold dD
   rw[if_neg (by decide),show bkG (30,[1,0],[]) [(X,x),(W,w),(M,mv),([1],[mv.sum])] [eT,eT,(M,List.replicate R 4294967296),([1],[4294967296])] 2=([(W,z),(X,y)],0)from b2,if_pos rfl]
   have:cI [1,0] [(W,z),(X,y)] [eT,eT,(M,List.replicate R 4294967296),([1],[4294967296])]=([(X,y),(W,z),(M,List.replicate R 4294967296),([1],[4294967296])],0):=by
    rw[cI,show([eT,eT,(M,List.replicate R 4294967296),([1],[4294967296])]:List T).getD (1:Int).toNat eT=eT from rfl,cQ,if_pos rfl,cI]
    show(if(iS eT (X,y)).2=0 then _ else _)=_
    rw[cQ,if_pos rfl,cI];rfl
   show(if(cI [1,0] [(W,z),(X,y)] [eT,eT,(M,List.replicate R 4294967296),([1],[4294967296])]).2=0 then _ else _)=_
   rw[this,if_pos rfl]
  have d1:dD (2,[],0::W) [(X,x),(W,w),(M,mv),([1],[mv.sum])] [(X,y),(W,z),(M,List.replicate R 4294967296),([1],[4294967296])] (List.replicate 8 eT) 1=(([(X,y),(W,z),(M,List.replicate R 4294967296),([1],[4294967296])],(List.replicate 8 eT).set 0 (W,z)),0):=by
   unfold dD
   have:Kq (2,[],0::W) [(X,y),(W,z),(M,List.replicate R 4294967296),([1],[4294967296])] (List.replicate 8 eT) 1=((W,z),0):=by
    show iS eT (W,z)=_
    exact cQ _
   rw[if_pos rfl,this,if_pos rfl];rfl
  have d0:dD (1,[],X) [(X,x),(W,w),(M,mv),([1],[mv.sum])] [(X,y),(W,z),(M,List.replicate R 4294967296),([1],[4294967296])] ((List.replicate 8 eT).set 0 (W,z)) 0=(([(X,y),(W,z),(M,List.replicate R 4294967296),([1],[4294967296])],(List.replicate 8 eT).set 0 (W,z)),0):=by
   unfold dD
   rw[if_neg (show¬((1:Int)=2) by decide),show bkG (1,[],X) [(X,x),(W,w),(M,mv),([1],[mv.sum])] [(X,y),(W,z),(M,List.replicate R 4294967296),([1],[4294967296])] 0=([],0)from b0,if_pos rfl]
   show(if(cI [] [] [(X,y),(W,z),(M,List.replicate R 4294967296),([1],[4294967296])]).2=0 then _ else _)=_
   rw[cI,if_pos rfl]
  show gY _ _ [0,1,2,3] (3+1) _ _=_
  rw[cT (l:=[(1,[],X),(2,[],0::W),(30,[1,0],[]),(50,[2],[0])]) (live:=[0,1,2,3]) (i:=3) (by decide) d3]
  show gY _ _ [0,1,2,3] (2+1) _ _=_
  rw[cT (l:=[(1,[],X),(2,[],0::W),(30,[1,0],[]),(50,[2],[0])]) (live:=[0,1,2,3]) (i:=2) (by decide) d2]
  show gY _ _ [0,1,2,3] (1+1) _ _=_
  rw[cT (l:=[(1,[],X),(2,[],0::W),(30,[1,0],[]),(50,[2],[0])]) (live:=[0,1,2,3]) (i:=1) (by decide) d1]
  show gY _ _ [0,1,2,3] (0+1) _ _=_
  rw[cT (l:=[(1,[],X),(2,[],0::W),(30,[1,0],[]),(50,[2],[0])]) (live:=[0,1,2,3]) (i:=0) (by decide) d0]
  rfl
 have hg:=m6 ha rfl hsl
 have hw2:eY [(X,x),(W,w),(M,mv),([1],[mv.sum])] 0 [(1,[],X),(2,[],0::W),(30,[1,0],[]),(50,[2],[0])] ((List.replicate 8 eT).set 0 (W,z))=(List.replicate 8 eT).set 0 (W,z):=lK _ _ _ _ fun n hn h2'=>by
  simp only[List.mem_cons,List.not_mem_nil,or_false]at hn
  rcases hn with rfl|rfl|rfl|rfl
  ·cases h2'
  ·show(((List.replicate 8 eT).set 0 (W,z)).getD 0 eT).2.length≠0
   rw[eP (by simp)]
   show z.length≠0
   have:1*1≤R*C:=Nat.mul_le_mul h1 h3
   omega
  ·cases h2'
  ·cases h2'
 rw[hw2]at hg
 exact⟨_,z,mv.sum,hg,by simp,eP (by simp) _,lz,hz⟩
end
end Go.Proofs.EvM
