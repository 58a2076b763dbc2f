import Derived.Test.YtokeebkaamjliaaGreatR9A
set_option maxHeartbeats 16000000
set_option maxRecDepth 100000
set_option linter.unusedVariables false
set_option linter.unusedSimpArgs false
namespace Go.Proofs.YtokeebkaamjliaaGreat
open RowKit ShM
theorem Cg:(Tryz.prog.info? 23).map (fun i=>(i.zero,i.size,i.bytes))=some (some (zS),1,24):=by kernel_rfl
def jM(B:Nat)(X:Nat->Prop)(w:World)(v:Value)(ts:List (BU)):Prop:=∃vs,w.ownsRow B 23 1 v ts.length vs/\lE w (fun k=>X k/\v.ownBlock≠some k) vs ts
section
variable{w w':World}{B:Nat}{X:Nat->Prop}{v:Value}{ts us:List (BU)}{A:DV}
theorem jM.bU(w:World)(B:Nat)(X:Nat->Prop):jM B X w (zS) []:=⟨[],World.ownsRow_nil w B _ 1,lE.bU _ _⟩
theorem jM.from_(h:jM B X w v ts){k:Nat}(hk:v.ownBlock=some k):B<=k:=by
 obtain⟨vs,h,_⟩:=h;rcases h.2 with⟨rfl,_⟩|⟨g,cap,cur,rfl,hb,_⟩
 ·cases hk
 ·have:g=k:=by simpa [Value.ownBlock]using hk
  omega
theorem jM.fP(h:jM B X w v ts){k:Nat}(hk:v.ownBlock=some k):k<w.heap.size:=by
 obtain⟨vs,h,_⟩:=h;rcases h.2 with⟨rfl,_⟩|⟨g,cap,cur,rfl,_,hh,_⟩
 ·cases hk
 ·have:g=k:=by simpa [Value.ownBlock]using hk
  subst this;exact(aa0.1 hh).1
theorem jM.kp(h:jM B X w v ts)(k:Kp w w'):jM B X w' v ts:=by
 have hr:=fun k=>h.fP (k:=k)
 obtain⟨vs,⟨h1,h2⟩,hv⟩:=h;refine⟨vs,⟨h1,?_⟩,hv.mono k fun _ _ x=>x⟩;rcases h2 with h0|⟨g,cap,cur,rfl,hb,hg,r⟩
 ·exact .inl h0
 ·exact .inr ⟨g,cap,cur,rfl,hb,(k.block g (hr g rfl)).trans hg,r⟩
theorem jM.form(h:jM B X w v ts):∃A c,v= .slice A ts.length c/\iA w (fun k=>X k/\v.ownBlock≠some k) A ts/\ts.length<=c/\c<=9223372036854775807:=by
 obtain⟨vs,ho,hv⟩:=h;have ho':=ho;rcases ho.2 with⟨rfl,h0⟩|⟨g,cap,cur,rfl,_,hh,hn,hc,hcs,ht⟩
 ·have:ts=[]:=abd h0;subst this;exact⟨none,0,rfl,iA.bU _ _ _,by simp,by simp⟩
 ·have hc':cap<=9223372036854775807:=by unfold maxLen at hc;omega
  refine⟨_,cap,rfl,⟨oM,vs,hv,fun hp=>⟨_,rfl,(aa0.1 hh).1,fun j u hu=>?_⟩⟩,hn,hc'⟩;have hj:j<ts.length*1:=by have:=(aaU.1 hu).1;rw[hv.len]at this;omega
  rw[abh,abw,World.ownsRow.cellAt ho' j hj];exact hu
theorem CK{row:Option Nat}{p:Value}{t:BU}{Y:Nat->Prop}(hg:w.grownBy w' row){X:Nat->Prop}(h:Vl w (fun k=>X k/\row≠some k) p t)(hY:∀k,k<w.heap.size->X k->row≠some k->Y k):Vl w' Y p t:=by
 obtain⟨P,c,e,c1,c2,r,x⟩:=h;refine⟨P,c,e,c1,c2,jD hg r (fun ad h1 h2=>(x ad h1 h2).2),fun ad h1 h2=>hY _ ?_ (x ad h1 h2).1 (x ad h1 h2).2⟩;obtain⟨ad',e',hb,_⟩:=r.2 h2;rw[h1]at e';injection e' with e';subst e';exact hb
theorem ET(ho:jM B X w v ts)(c:Nat)(hr:iA w (fun k=>X k/\v.ownBlock≠some k) A us)(hs:ts.length+us.length<=1000000)(hB:B<=w.heap.size)(ty:TypeId):
  ∃zs A' c' w',zs=ts++us/\(Builtin.append_ #[46,46] ty #[v, .slice A us.length c]).run Tryz.prog w= .ok (.slice A' zs.length c') w'/\jM B X w' (.slice A' zs.length c') zs/\Below B w w'/\∀k,k<w.heap.size->some k≠v.ownBlock->w'.heap[k]?=w.heap[k]?:=by
 obtain⟨i,hi,hz,h1,h2⟩:=info_parts Cg;have qw:=fun k=>ho.from_ (k:=k)
 obtain⟨vs,hown,hv⟩:=ho;obtain⟨_,qs,hq,hh⟩:=hr;have fin:∀(ad:Addr) (cs:List Value) (n:Nat),cs=qs->n=us.length->(∀j u,cs[j]?=some u->w.cell? (ad.add j)=some u)->∃zs A' c' w',zs=ts++us/\(Builtin.append_ #[46,46] ty #[v, .slice (some ad) n c]).run Tryz.prog w= .ok (.slice A' zs.length c') w'/\jM B X w' (.slice A' zs.length c') zs/\Below B w w'/\∀k,k<w.heap.size->some k≠v.ownBlock->w'.heap[k]?=w.heap[k]?:=by
  intro ad cs n hcs hn hc;subst hcs hn;obtain⟨v',w',hrun,gX,hg,_,hrow⟩:=run_append_own_at (P:=Tryz.prog) w B 46 ty 23 i _ 1 24 Tryz.underlying46 hi hz h1 h2 rfl oM _ _ _ hown ad us.length c cs (by rw[hq.len];omega) hc
   (by
    intro u hu;obtain⟨j,hj⟩:=abC.1 hu;have hl:=(aaU.1 hj).1;rw[hq.len]at hl;obtain⟨P,c,e,_⟩:=hq.at_ j u _ hj (aaV hl);subst e;rfl) (by unfold maxLen;omega) oM hB
  have hv2:lE w' (fun k=>X k/\v'.ownBlock≠some k) (vs++cs) (ts++us):=by
   have hY:∀k,k<w.heap.size->X k->v.ownBlock≠some k->X k/\v'.ownBlock≠some k:=by
    intro k hk hX hne;refine⟨hX,?_⟩;rcases hrow with hrow|hrow
    ·rw[hrow];exact hne
    ·rw[hrow];intro e;injection e with e;omega
   have a1:lE w' (fun k=>X k/\v'.ownBlock≠some k) vs ts:=⟨hv.len,fun j p t g1 g2=>CK hg (hv.at_ j p t g1 g2) hY⟩
   have a2:lE w' (fun k=>X k/\v'.ownBlock≠some k) cs us:=⟨hq.len,fun j p t g1 g2=>CK hg (hq.at_ j p t g1 g2) hY⟩
   exact a1.app a2
  have ho2:jM B X w' v' (ts++us):=⟨vs++cs,by rw[abf];exact gX,hv2⟩
  obtain⟨A2,c2,rfl,_⟩:=ho2.form;exact⟨ts++us,A2,c2,w',rfl,hrun,ho2,(abu _ _).grown hg hB (fun k hk=>qw k hk),fun k hk hne=>hg.block k hk hne⟩
 by_cases hy:us=[]
 ·subst hy;have hqn:qs=[]:=abd (by rw[hq.len];rfl);subst hqn
  cases A with
  |none=>
   have ho2:jM B X w v ts:=⟨vs,hown,hv⟩
   obtain⟨A',c',rfl,_⟩:=ho2.form;refine⟨ts,A',c',w,by simp,?_,ho2,abu _ _,fun _ _ _=>rfl⟩;have ht:=abk (P:=Tryz.prog) (w:=w) Tryz.underlying46;rcases hown.2 with⟨e,h0⟩|⟨g,cap,cur,e,_,_,hn,_⟩
   ·injection e with e1 e2 e3
    subst e1 e3;rw[e2];simp[Builtin.append_,ht,sizeOf,typeInfo,hi,Builtin.lenOf,Builtin.firstCells]
   ·injection e with e1 e2 e3
    subst e1 e3;simp[Builtin.append_,ht,sizeOf,typeInfo,hi,Builtin.lenOf,Builtin.firstCells,hn,storeCells]
  |some ad=>exact fin ad [] 0 rfl rfl sC
 ·obtain⟨ad,rfl,_,hc⟩:=hh (List.length_pos_iff.2 hy);exact fin ad qs us.length rfl rfl hc
theorem gF{ops:Array Oper}{rest:List Oper}{o:Oper}{a:Act}{Q:Exit->Act->World->Prop}(hgd:Region.wanted o (yielded ops a.tmps)=true)(s x:Operand)
  (hop:o.op= .call {callee:= .builtin .append,args:= #[s,x],argTypes:= #[46,46]})
  (v:Value)(ts:List (BU))(hs:a.eval s=v)(ho:jM B X w v ts)(A:DV)(c:Nat)(us:List (BU))(n:Nat)(hx:a.eval x= .slice A n c)(hn:n=us.length)(hr:iA w (fun k=>X k/\v.ownBlock≠some k) A us)
  (hl:ts.length+us.length<=1000000)(hB:B<=w.heap.size)
  (h:∀zs A' c' w',Hid (zs=ts++us)->jM B X w' (.slice A' zs.length c') zs->Below B w w'->(∀k,k<w.heap.size->some k≠v.ownBlock->w'.heap[k]?=w.heap[k]?)->wpList Tryz.prog ops Q rest (a.put o.dst (.slice A' zs.length c')) w'):wpList Tryz.prog ops Q (o::rest) a w:=by
 refine BigFrame.wpList_want hgd fun K hK=>?_
 subst hn;obtain⟨zs,A',c',w',e,hrun,h1,h2,h3⟩:=ET ho c hr hl hB o.type;unfold Oper.wp execOp;simp only[hop,resolve,invoke,builtin,acX,acW,acr,ab7,abT,ack,hs,hx,hrun];exact hK _ _ (h zs A' c' w' e h1 h2 h3)
end
end Go.Proofs.YtokeebkaamjliaaGreat
namespace Go.Proofs.YtokeebkaamjliaaGreat
open RowKit ShM GrM InM
def Jy(xs:BU)(w:World)(e:Ending)(w':World):Prop:=∃A c,e= .returned (.slice A xs.length c)/\Own w.heap.size w' (.slice A xs.length c) xs/\Kp w w'
theorem Jy.on{xs:BU}{n c:Nat}{A:DV}{w w':World}(hn:n=xs.length)(h:Own w.heap.size w' (.slice A n c) xs)(k:Kp w w'):Jy xs w (.returned (.slice A n c)) w':=by
 subst hn;exact⟨A,c,rfl,h,k⟩
section
variable{w:World}{A:DV}{x:BU}
def Jt(A:DV)(c j:Nat):DV:=if c=j then A else A.map (·.add j)
theorem Rd.Jt(h:Rd w A x){c j:Nat}(hc:x.length<=c):Rd w (Jt A c j) (x.drop j):=by
 unfold Go.Proofs.YtokeebkaamjliaaGreat.Jt;split
 ·rename_i e;rw[abU oM];exact Rd.nil _ _
 ·refine⟨by have:=h.1;simp;omega,fun hp=>?_⟩;obtain⟨ad,rfl,hb,hcs⟩:=h.2 (by simp at hp;omega);refine⟨ad.add j,rfl,by rw[ah];exact hb,fun i u hu=>?_⟩;rw[acH]at hu;rw[oO];exact hcs _ _ hu
theorem EP(W:World)(A:DV)(n c j:Nat)(hj:j<=n):(Instr.sliceAt 23 (.slice A n c) (some (.int .i64 (j:Int))) none none).run Tryz.prog W= .ok (.slice (Jt A c j) (n-j) (c-j)) W:=by
 have hu:Tryz.prog.underlying 23=some (.slice (Tryz.prog.elem 23)):=by kernel_rfl
 have hsz:((sizeOf (Tryz.prog.elem 23)).run Tryz.prog W)= .ok 1 W:=by
  obtain⟨i,hi,_,h1,_⟩:=info_parts dz;simp[sizeOf,typeInfo,show Tryz.prog.elem 23=3 by kernel_rfl,hi,h1]
 rw[run_sliceAt_slice W _ _ _ _ _ hu,run_slice_l W _ A n c hu .i64 j oM oM,hsz];simp[Result.andThen,sliced,Jt]
end
theorem ke{a nums:BU}(h:aM (42,a,nums)=true):∃x f t,nums=[x,f,t]:=by
 have h:nums.length=3:=by simpa [aM]using h
 match nums,h with
 | [x,f,t],_=>exact⟨x,f,t,rfl⟩
def DH(r:List (BU)×Int×Int)(W:World)(e:Ending)(W':World):Prop:=
 ∃A c,e= .returned (.tuple #[.slice A r.1.length c, .int .i64 r.2.1, .int .i64 r.2.2])/\Hid (RdL W' A r.1)/\Hid (r.1.length<=c/\c<=9223372036854775807)/\Kp W W'
theorem DH.none_{W W':World}(k:Kp W W')(i e:Int):DH ([],i,e) W (.returned (.tuple #[zS, .int .i64 i, .int .i64 e])) W':=
 ⟨none,0,rfl,iA.bU _ _ _,⟨by simp,oM⟩,k⟩
theorem ny{acc:List (BU)}{l:BU}{j a:Nat}{s:BU}(h:l[j]?=some (a:Int))(hs:acc[a]?=some s):bY acc (l.take (j+1))=bY acc (l.take j)++[s]:=by
 unfold bY;rw[cr h,abK];congr 1;show [acc.getD ((a:Int)).toNat []]=[s];rw[aa2,List.getD,hs];rfl
