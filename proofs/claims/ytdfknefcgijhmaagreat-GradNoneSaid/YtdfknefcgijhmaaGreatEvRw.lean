/- A row of tensors that the call itself appends to, whatever its room: its cells are slices, so no numbers lie in it. -/
import Derived.Test.YtdfknefcgijhmaaGreatEvZa
set_option maxRecDepth 100000
namespace Go.Proofs.YtdfknefcgijhmaaGreat.Ez
open Go.RowKit Go.Proofs.ShM Go.Proofs.GrM Go.Proofs.InM Go.Proofs.ImM
set_option linter.unusedVariables false
set_option linter.unusedSimpArgs false
set_option maxHeartbeats 4000000
/-- All cells of the block are slices. -/
def Slc(w:World)(g:Nat):Prop:=∃cur t,w.heap[g]?=some (.cells cur t (0,0))∧∀u∈cur.toList,∃A n c,u=Value.slice A n c
def zf(B:Nat)(w:World)(v:Value)(ts:List T):Prop:=iP B w v ts∧∀g,v.ownBlock=some g→Slc w g
section
variable{w w':World}{B:Nat}{v:Value}{ts:List T}
theorem Slc.kp{g:Nat}(h:Slc w g)(k:Kp w w'):Slc w' g:=by
  obtain⟨cur,t,h1,h2⟩:=h
  exact⟨cur,t,(k.block g (Array.getElem?_eq_some_iff.1 h1).1).trans h1,h2⟩
theorem Slc.apart{g:Nat}(h:Slc w g){A:Option Addr}{xs:List Int}(r:Rd w A xs):∀ad,A=some ad→0<xs.length→ad.block≠g:=by
  rintro ad rfl hpos e
  obtain⟨cur,t,hb,hs⟩:=h
  obtain⟨ad',e',_,hc⟩:=r.2 hpos
  injection e' with e'
  subst e'
  have h0:=hc 0 _ (List.getElem?_eq_getElem hpos)
  have e1:ad.add 0=ad:=by unfold Addr.add;simp
  rw[e1]at h0
  simp only[World.cell?]at h0
  rw[e,hb]at h0
  have h0:ad.spot=none∧cur[ad.off]?=some (Value.int IntKind.i64 xs[0]):=by simpa using h0
  have hm:Value.int IntKind.i64 xs[0]∈cur.toList:=by
    have:=Array.mem_of_getElem? h0.2
    simpa using this
  obtain⟨A,n,c,e⟩:=hs _ hm
  cases e
theorem zf.bU(w:World)(B:Nat):zf B w (.slice none 0 0) []:=⟨iP.bU w B,fun g h=>by cases h⟩
theorem zf.kp(h:zf B w v ts)(k:Kp w w'):zf B w' v ts:=⟨h.1.kp k,fun g e=>(h.2 g e).kp k⟩
theorem zj(n:Nat):∀u∈(Builtin.zeroCells #[Value.slice none 0 0,Value.slice none 0 0] n).toList,∃A m c,u=Value.slice A m c:=fun u hu=>by
  simp only[Builtin.zeroCells,Array.toList_map,List.mem_map]at hu
  obtain⟨i,_,rfl⟩:=hu
  have h2:i%2=0∨i%2=1:=by omega
  rcases h2 with e|e
  · exact⟨none,0,0,by simp[e]⟩
  · exact⟨none,0,0,by simp[e]⟩
theorem pE{A:Option Addr}{us:List T}(ho:iP B w v ts)(c:Nat)(hr:RdX w (fun k=>v.ownBlock≠some k) A us)(hs:ts.length+us.length≤1000000)(hB:B≤w.heap.size)(ty:TypeId):
    ∃zs A' c' w',zs=ts++us∧(Builtin.append_ #[23,23] ty #[v, .slice A us.length c]).run Tryz.prog w= .ok (.slice A' zs.length c') w'∧iP B w' (.slice A' zs.length c') zs∧Below B w w'∧(∀k,k<w.heap.size→some k≠v.ownBlock→w'.heap[k]?=w.heap[k]?):=by
  obtain⟨i,hi,hz,h1,h2⟩:=info_parts mA
  have qw:=fun k=>ho.from_ (k:=k)
  obtain⟨vs,hown,hv⟩:=ho
  obtain⟨_,qs,hq,hh⟩:=hr
  have fin:∀(ad:Addr) (news:List Value) (m:Nat),news=flat qs→m=us.length→(∀j u,news[j]?=some u→w.cell? (ad.add j)=some u)→
      ∃zs A' c' w',zs=ts++us∧(Builtin.append_ #[23,23] ty #[v, .slice (some ad) m c]).run Tryz.prog w= .ok (.slice A' zs.length c') w'∧iP B w' (.slice A' zs.length c') zs∧Below B w w'∧(∀k,k<w.heap.size→some k≠v.ownBlock→w'.heap[k]?=w.heap[k]?):=by
    intro ad news m hnews hm hc
    subst hnews hm
    obtain⟨v',w',hrun,gX,hg,_,hrow⟩:=run_append_own_at (P:=Tryz.prog) w B 23 ty 31 i _ 2 48 Tryz.underlying23 hi hz h1 h2 rfl (by omega) _ _ _ hown ad us.length c (flat qs) (by rw[dO,hq.len]) hc
      (fun u hu=>by
        unfold flat at hu
        rw[List.mem_flatMap]at hu
        obtain⟨p,hp,hu⟩:=hu
        obtain⟨j,hj⟩:=List.mem_iff_getElem?.1 hp
        have hjl:j<us.length:=by have:=(List.getElem?_eq_some_iff.1 hj).1;rw[hq.len]at this;exact this
        obtain⟨P,c1,Q,d1,ep,_⟩:=hq.at_ j p _ hj (List.getElem?_eq_getElem hjl)
        rw[ep]at hu
        simp at hu
        rcases hu with rfl|rfl<;>rfl) (by unfold maxLen;omega) (by omega) hB
    have hv2:iO w' (fun k=>v'.ownBlock≠some k) (vs++qs) (ts++us):=by
      have hY:∀k,k<w.heap.size→v.ownBlock≠some k→v'.ownBlock≠some k:=by
        intro k hk hne
        rcases hrow with hrow|hrow
        · rw[hrow];exact hne
        · rw[hrow];intro e;injection e with e;omega
      have a1:iO w' (fun k=>v'.ownBlock≠some k) vs ts:=⟨hv.len,fun j p t g1 g2=>kL hg (hv.at_ j p t g1 g2) hY⟩
      have a2:iO w' (fun k=>v'.ownBlock≠some k) qs us:=⟨hq.len,fun j p t g1 g2=>kL hg (hq.at_ j p t g1 g2) hY⟩
      exact a1.app a2
    have ho2:iP B w' v' (ts++us):=⟨vs++qs,by rw[List.length_append,iY];exact gX,hv2⟩
    obtain⟨A2,c2,rfl,_⟩:=ho2.form
    exact⟨ts++us,A2,c2,w',rfl,hrun,ho2,(Below.refl _ _).grown hg hB (fun k hk=>qw k hk),fun k hk hne=>hg.block k hk hne⟩
  by_cases hy:us=[]
  · subst hy
    have hqn:qs=[]:=List.eq_nil_of_length_eq_zero (by rw[hq.len];rfl)
    subst hqn
    cases A with
    |none=>
      have ho2:iP B w v ts:=⟨vs,hown,hv⟩
      obtain⟨A',c',rfl,_⟩:=ho2.form
      refine⟨ts,A',c',w,by simp,?_,ho2,Below.refl _ _,fun _ _ _=>rfl⟩
      have ht:=run_underlying (P:=Tryz.prog) (w:=w) Tryz.underlying23
      rcases hown.2 with⟨e,h0⟩|⟨g,cap,cur,e,_,_,hn,_⟩
      · injection e with e1 e2 e3
        subst e1 e3
        rw[e2]
        simp[Builtin.append_,ht,sizeOf,typeInfo,hi,Builtin.lenOf,Builtin.firstCells]
      · injection e with e1 e2 e3
        subst e1 e3
        simp[Builtin.append_,ht,sizeOf,typeInfo,hi,Builtin.lenOf,Builtin.firstCells,hn,storeCells]
    |some ad=>exact fin ad [] 0 rfl rfl (by simp)
  · obtain⟨ad,rfl,_,hc⟩:=hh (List.length_pos_iff.2 hy)
    exact fin ad (flat qs) us.length rfl rfl hc
/-- What append leaves. -/
theorem zf.app(h:zf B w v ts)(a:Addr)(t:T)(c:Nat)(hr:RdT w (some a) [t])(hs:ts.length+1≤1000000)(hB:B≤w.heap.size)(ty:TypeId):
    ∃A' c' w',(Builtin.append_ #[23,23] ty #[v, .slice (some a) 1 c]).run Tryz.prog w= .ok (.slice A' (ts.length+1) c') w'∧zf B w' (.slice A' (ts.length+1) c') (ts++[t])∧Below B w w'∧∀k,k<w.heap.size→some k≠v.ownBlock→w'.heap[k]?=w.heap[k]?:=by
  obtain⟨i,hi,hz,h1,h2⟩:=info_parts mA
  obtain⟨hO,hS⟩:=h
  obtain⟨q1,qs,hq,hh⟩:=hr
  have hX:RdX w (fun k=>v.ownBlock≠some k) (some a) [t]:=by
    refine⟨q1,qs,⟨hq.len,fun j p t' g1 g2=>?_⟩,hh⟩
    obtain⟨P,c1,Q,d1,e,r,_,_,b⟩:=hq.at_ j p t' g1 g2
    exact⟨P,c1,Q,d1,e,r,fun ad e1 e2 e3=>(hS _ e3).apart r.s ad e1 e2 rfl,fun ad e1 e2 e3=>(hS _ e3).apart r.d ad e1 e2 rfl,b⟩
  obtain⟨zs,A',c',w',hz',hrun,hO',hB',hk⟩:=pE hO c hX (by simpa using hs) hB ty
  subst hz'
  rw[List.length_append]at hrun hO'
  refine⟨A',c',w',hrun,⟨hO',?_⟩,hB',hk⟩
  obtain⟨ad,ea,_,hcell⟩:=hh (by simp)
  injection ea with ea
  subst ea
  have hql:(flat qs).length=1*2:=by rw[dO,hq.len];rfl
  have hqs:=gC hq
  obtain⟨vs,hown,hv⟩:=hO
  have hvs:=gC hv
  have hvl:(flat vs).length=ts.length*2:=hown.1
  have hone:∀u∈flat qs,u.oneCell'=true:=fun u hu=>by obtain⟨A,x,y,rfl⟩:=hqs u hu;rfl
  have hzc:(Value.agg #[.slice none 0 0, .slice none 0 0]).cells= #[Value.slice none 0 0,Value.slice none 0 0]:=rfl
  intro g hg
  rcases hown.2 with⟨rfl,h0⟩|⟨b,cap,cur,rfl,hbg,hb,hnc,hcm,hcs,htake⟩
  · have hr':=run_append_nil (P:=Tryz.prog) w 23 ty 31 i _ Tryz.underlying23 hi hz a 1 c (flat qs) (by rw[h1];exact hql) hcell (by omega) (by omega) (by rw[h2];omega)
    rw[List.length_singleton]at hrun
    rw[hr']at hrun
    injection hrun with e1 e2
    injection e1 with e3 e4 e5
    subst e2 e3
    have hgw:w.heap.size=g:=by simpa [Value.ownBlock]using hg
    subst hgw
    refine⟨_,_,heap_alloc_new w.drew _,fun u hu=>?_⟩
    rw[hzc]at hu
    simp only[Array.toList_append,List.mem_append]at hu
    rcases hu with hu|hu
    · exact hqs u hu
    · exact zj _ u hu
  · by_cases hroom:ts.length+1≤cap
    · have hr':=run_append_room (P:=Tryz.prog) w 23 ty 31 i Tryz.underlying23 hi b ts.length cap cur hb a 1 c (flat qs) (by rw[h1];exact hql) hcell hone hroom (by rw[h1,hql,hcs];omega)
      rw[List.length_singleton]at hrun
      rw[hr']at hrun
      injection hrun with e1 e2
      injection e1 with e3 e4 e5
      subst e2 e3
      have hgw:b=g:=by simpa [Value.ownBlock]using hg
      subst hgw
      obtain⟨WK,t2,hb2,hsl⟩:=hS b rfl
      rw[hb]at hb2
      injection hb2 with hb2
      injection hb2 with e6 e7 e8
      subst e6
      refine⟨_,_,setRow_heap w b cur _ _ _ hb,fun u hu=>?_⟩
      simp only[List.append_assoc,List.mem_append]at hu
      rcases hu with hu|hu|hu
      · exact hsl u (List.mem_of_mem_take hu)
      · exact hqs u hu
      · exact hsl u (List.mem_of_mem_drop hu)
    · have holds:∀j u,(flat vs)[j]?=some u→w.cell? ((⟨b,0,none⟩:Addr).add j)=some u:=hown.cells (g:=b) rfl
      have hr':=run_append_grow (P:=Tryz.prog) w 23 ty 31 i _ Tryz.underlying23 hi hz ⟨b,0,none⟩ ts.length cap (flat vs) (by rw[h1];exact hvl) holds a 1 c (flat qs) (by rw[h1];exact hql) hcell (by omega) (by omega) (growslice_fits (by omega) (by rw[h2];omega))
      rw[List.length_singleton]at hrun
      rw[hr']at hrun
      injection hrun with e1 e2
      injection e1 with e3 e4 e5
      subst e2 e3
      have hgw:w.heap.size=g:=by simpa [Value.ownBlock]using hg
      subst hgw
      refine⟨_,_,heap_alloc_new w.drew _,fun u hu=>?_⟩
      rw[hzc]at hu
      simp only[Array.toList_append,List.mem_append]at hu
      rcases hu with(hu|hu)|hu
      · exact hvs u hu
      · exact hqs u hu
      · exact zj _ u hu
/-- append, for the walk: of a tensor whose numbers lie wherever. -/
theorem qQ{ops:Array Oper}{rest:List Oper}{o:Oper}{a:Act}{Q:Exit→Act→World→Prop}(hgd:Region.wanted o (yielded ops a.tmps)=true)(s x:Operand)
    (hop:o.op= .call {callee:= .builtin .append,args:= #[s,x],argTypes:= #[23,23]})
    (v:Value)(hs:a.eval s=v)(ho:zf B w v ts)(n:Nat)(hn:n=ts.length)(ad:Addr)(c:Nat)(t:T)(hx:a.eval x= .slice (some ad) 1 c)(hr:RdT w (some ad) [t])(hl:ts.length+1≤1000000)(hB:B≤w.heap.size)
    (h:∀A' c' w',zf B w' (.slice A' (n+1) c') (ts++[t])→Below B w w'→(∀k,k<w.heap.size→some k≠v.ownBlock→w'.heap[k]?=w.heap[k]?)→wpList Tryz.prog ops Q rest (a.put o.dst (.slice A' (n+1) c')) w'):wpList Tryz.prog ops Q (o::rest) a w:=by
  refine BigFrame.wpList_want hgd fun K hK=>?_
  subst hn
  obtain⟨A',c',w',hrun,h1,h2,h3⟩:=ho.app ad t c hr hl hB o.type
  unfold Oper.wp execOp
  simp only[hop,resolve,invoke,builtin,Sem.run_bind,Sem.run_pure,Result.andThen_ok,List.map_toArray,List.map_cons,List.map_nil,hs,hx,hrun]
  exact hK _ _ (h A' c' w' h1 h2 h3)
end
end Go.Proofs.YtdfknefcgijhmaaGreat.Ez
