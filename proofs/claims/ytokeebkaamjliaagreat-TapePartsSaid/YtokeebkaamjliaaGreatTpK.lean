/- The landed tape: a reel whose parts are written over. -/
import Derived.Test.YtokeebkaamjliaaGreatTpO
set_option maxHeartbeats 16000000
set_option maxRecDepth 100000
set_option linter.unusedVariables false
set_option linter.unusedSimpArgs false
namespace Go.Proofs.YtokeebkaamjliaaGreat.Ez
open RowKit ShM GrM InM ImM EvM
section
variable{B b:Nat}{w:World}{G:Value}{P:DV}{e:Nat}{Q:DV}{f:Nat}{R V H D X:Value}{t:Tpe}{ts:List T}
theorem Rl.lt(h:Rl B b w G P e Q f R V H D t):∀x∈[G,R,V,H,D],∀k,x.ownBlock=some k->k<w.heap.size:=fun x hx k hk=>by
 simp only[abD,ab6,or_false]at hx;rcases hx with rfl|rfl|rfl|rfl|rfl
 · exact(h.ts.g.lt hk).2
 · exact(h.ts.p.lt (k:=k) hk).2
 · exact(h.ts.v.lt (k:=k) hk).2
 · exact(h.ts.h.lt (k:=k) hk).2
 · exact(h.ts.d.lt (k:=k) hk).2
theorem Rl.aam(h:Rl B b w G P e Q f R V H D t)(a:Int):Rl B b (w.setCell ⟨b,4,none⟩ (.int .i64 a)) G P e Q f R V H D {t with phase:=a}:=⟨h.bx.set 4 (.int .i64 a),h.lb,h.nb,by
 have T0:=h.ts.kq h.nb (bD (i:=4) (u:= .int .i64 a));exact⟨T0.g,T0.ip,T0.iq,T0.p,T0.v,T0.h,T0.d,T0.ap⟩⟩
theorem Rl.aad(h:Rl B b w G P e Q f R V H D t)(a:Int):Rl B b (w.setCell ⟨b,5,none⟩ (.int .i64 a)) G P e Q f R V H D {t with at_:=a}:=⟨h.bx.set 5 (.int .i64 a),h.lb,h.nb,by
 have T0:=h.ts.kq h.nb (bD (i:=5) (u:= .int .i64 a));exact⟨T0.g,T0.ip,T0.iq,T0.p,T0.v,T0.h,T0.d,T0.ap⟩⟩
/-- One row's tensors are written, the others stay. -/
theorem Rl.aap(h:Rl B b w G P e Q f R V H D t){w':World}{g n c:Nat}(hD:D= .slice (some ⟨g,0,none⟩) n c)(k:Kq (fun j=>j=g) (fun _=>False) w w')(r:zf B (Xb B b) w' D ts):Rl B b w' G P e Q f R V H D {t with fD:=ts}:=by
 have hg:D.ownBlock=some g:=by rw[hD];rfl
 have h1:=h.ts.ap;simp only[Ap,List.pairwise_cons,abD,ab6,or_false,forall_eq_or_imp,forall_eq,List.Pairwise.nil,and_true,false_imp_iff,implies_true]at h1;obtain⟨⟨a1,a2,a3,a4⟩,⟨a5,a6,a7⟩,⟨a8,a9⟩,a10⟩:=h1;have z:∀j,Xb B b j->¬(fun _:Nat=>False) j:=fun _ _ h=>h
 refine⟨k.bx h.bx fun e'=>h.nb D sC (by rw[hg,e']),h.lb,h.nb,⟨k.Zd h.ts.g z fun j e1 e2=>a4 j e1 (by rw[hg,e2]),⟨⟨k.rd h.ts.ip.1.rd fun _ _ _ h=>h,h.ts.ip.1.le,h.ts.ip.1.cap⟩,h.ts.ip.2⟩,⟨⟨k.rd h.ts.iq.1.rd fun _ _ _ h=>h,h.ts.iq.1.le,h.ts.iq.1.cap⟩,h.ts.iq.2⟩,
  k.row h.ts.p z fun j e1 e2=>a7 j e1 (by rw[hg,e2]),k.row h.ts.v z fun j e1 e2=>a9 j e1 (by rw[hg,e2]),k.row h.ts.h z fun j e1 e2=>a10 j e1 (by rw[hg,e2]),r,h.ts.ap⟩⟩
theorem Rl.aao(h:Rl B b w G P e Q f R V H D t){w':World}{g n c:Nat}(hH:H= .slice (some ⟨g,0,none⟩) n c)(k:Kq (fun j=>j=g) (fun _=>False) w w')(r:zf B (Xb B b) w' H ts):Rl B b w' G P e Q f R V H D {t with hang:=ts}:=by
 have hg:H.ownBlock=some g:=by rw[hH];rfl
 have h1:=h.ts.ap;simp only[Ap,List.pairwise_cons,abD,ab6,or_false,forall_eq_or_imp,forall_eq,List.Pairwise.nil,and_true,false_imp_iff,implies_true]at h1;obtain⟨⟨a1,a2,a3,a4⟩,⟨a5,a6,a7⟩,⟨a8,a9⟩,a10⟩:=h1;have z:∀j,Xb B b j->¬(fun _:Nat=>False) j:=fun _ _ h=>h
 refine⟨k.bx h.bx fun e'=>h.nb H sC (by rw[hg,e']),h.lb,h.nb,⟨k.Zd h.ts.g z fun j e1 e2=>a3 j e1 (by rw[hg,e2]),⟨⟨k.rd h.ts.ip.1.rd fun _ _ _ h=>h,h.ts.ip.1.le,h.ts.ip.1.cap⟩,h.ts.ip.2⟩,⟨⟨k.rd h.ts.iq.1.rd fun _ _ _ h=>h,h.ts.iq.1.le,h.ts.iq.1.cap⟩,h.ts.iq.2⟩,
  k.row h.ts.p z fun j e1 e2=>a6 j e1 (by rw[hg,e2]),k.row h.ts.v z fun j e1 e2=>a8 j e1 (by rw[hg,e2]),r,k.row h.ts.d z fun j e1 e2=>a10 j (by rw[hg,e2]) e1,h.ts.ap⟩⟩
theorem Rl.two{w':World}{Y:Value}{gs:List T}(h:Rl B b w G P e Q f R V H D t)(k:Kq (fun j=>j=b) (fun j=>j=b) w w')(hx:Bx w' b [G, .slice P t.inp.1.length e, .slice Q t.inp.2.length f,R, .int .i64 t.phase, .int .i64 t.at_,V,X,Y, .int .i64 t.err] 51)(rX:zf B (Xb B b) w' X ts)(rY:zf B (Xb B b) w' Y gs)
  (oX:∀k,X.ownBlock=some k->w.heap.size<=k)(oY:∀k,Y.ownBlock=some k->w.heap.size<=k)(oXY:∀k,X.ownBlock=some k->Y.ownBlock≠some k):Rl B b w' G P e Q f R V X Y {t with hang:=ts,fD:=gs}:=by
 have T0:=h.ts.kq h.nb k;have hl:=h.lt;have hbl:=h.bx.lt;have gX:∀x∈[G,R,V,H,D],∀k,x.ownBlock=some k->X.ownBlock≠some k:=fun x hx k hk e=>by have:=hl x hx k hk;have:=oX k e;omega
 have gY:∀x∈[G,R,V,H,D],∀k,x.ownBlock=some k->Y.ownBlock≠some k:=fun x hx k hk e=>by have:=hl x hx k hk;have:=oY k e;omega
 refine⟨hx,h.lb,fun x hx=>?_,⟨T0.g,T0.ip,T0.iq,T0.p,T0.v,rX,rY,?_⟩⟩
 · have h1:=h.nb
   simp only[abD,ab6,or_false,forall_eq_or_imp,forall_eq]at h1 hx;rcases hx with rfl|rfl|rfl|rfl|rfl
   · exact h1.1
   · exact h1.2.1
   · exact h1.2.2.1
   · exact fun e=>by have:=oX _ e;omega
   · exact fun e=>by have:=oY _ e;omega
 · have h1:=h.ts.ap
   simp only[Ap,List.pairwise_cons,abD,ab6,or_false,forall_eq_or_imp,forall_eq,List.Pairwise.nil,and_true,false_imp_iff,implies_true]at h1 gX gY⊢;obtain⟨⟨a1,a2,a3,a4⟩,⟨a5,a6,a7⟩,⟨a8,a9⟩,a10⟩:=h1;exact⟨⟨a1,a2,gX.1,gY.1⟩,⟨a5,gX.2.1,gY.2.1⟩,⟨gX.2.2.1,gY.2.2.1⟩,oXY⟩
/-- What is changed lies at B or above it. -/
theorem Kq.below{S Z:Nat->Prop}{w0 w':World}(k:Kq S Z w w')(h:Below B w0 w)(hs:∀j,S j->B<=j)(hB:B<=w.heap.size):Below B w0 w':=
 ⟨k.os.trans h.os,k.tape.trans h.tape,k.output.trans h.output,ab3 h.size k.size,fun j hj=>(k.block j oM fun e=>by have:=hs j e;omega).trans (h.block j hj)⟩
end
section
variable{w w':World}{B:Nat}{X:Nat->Prop}{v:Value}{ts:List T}
theorem ZH{o:Oper}{a:Act}{K:Act->World->Prop}{Q:Exit->Act->World->Prop}(s x:Operand)
    (hop:o.op= .call {callee:= .builtin .append,args:= #[s,x],argTypes:= #[26,26]})
    (v:Value)(hs:a.eval s=v)(ho:zf B X w v ts)(n:Nat)(hn:n=ts.length)(ad:Addr)(c:Nat)(t:T)(hx:a.eval x= .slice (some ad) 1 c)(hr:RdX w X (some ad) [t])(hl:ts.length+1<=1000000)(hB:B<=w.heap.size)
    (h:∀A' c' w',zf B X w' (.slice A' (n+1) c') (ts++[t])->Below B w w'->(∀k,k<w.heap.size->some k≠v.ownBlock->w'.heap[k]?=w.heap[k]?)->((Value.slice A' (n+1) c').ownBlock=v.ownBlock∨(Value.slice A' (n+1) c').ownBlock=some w.heap.size)->K (a.put o.dst (.slice A' (n+1) c')) w'):Oper.wp Tryz.prog o a w K Q:=by
  subst hn;obtain⟨A',c',w',hrun,h1,h2,h3,h4⟩:=ho.app ad t c hr hl hB o.type;unfold Oper.wp execOp;simp only[hop,resolve,invoke,builtin,acX,acW,acr,ab7,abT,ack,hs,hx,hrun];exact h A' c' w' h1 h2 h3 h4
theorem Z6(ho:zf B X w v ts)(hb:Below B w w')(hk:∀k,k<w.heap.size->some k≠v.ownBlock->w'.heap[k]?=w.heap[k]?):Kq (fun j=>v.ownBlock=some j) (fun _=>False) w w':=
 ⟨hb.os,hb.tape,hb.output,hb.size,fun k h1 h2=>hk k h1 fun e=>h2 e.symm,fun a u _ hc=>by
  by_cases e:v.ownBlock=some a.block
  · obtain⟨cur,ty,h1,h2⟩:=ho.2 _ e
    unfold World.cell? at hc;rw[h1]at hc;dsimp only at hc;split at hc
    · cases hc
    · obtain⟨A,n,c,e2⟩:=h2 (.int .i64 u) (Array.mem_toList_iff.2 (Array.mem_of_getElem? hc))
      cases e2
  · rw[World.cell?_of_block (w:=w) (a:=a) (hk _ (yu hc) fun e'=>e e'.symm)]
    exact hc⟩
end
section
variable{B b:Nat}{w w':World}{G:Value}{P:DV}{e:Nat}{Q:DV}{f:Nat}{R V H D X:Value}{t:Tpe}{ts:List T}
theorem Rl.app(h:Rl B b w G P e Q f R V H D t)(r:zf B (Xb B b) w' X ts)(hb:Below B w w')(hk:∀k,k<w.heap.size->some k≠V.ownBlock->w'.heap[k]?=w.heap[k]?)(ho:X.ownBlock=V.ownBlock∨X.ownBlock=some w.heap.size):
 Rl B b (w'.setCell ⟨b,6,none⟩ X) G P e Q f R X H D {t with vals:=ts}/\Below B w (w'.setCell ⟨b,6,none⟩ X):=by
 have k:=Z6 h.ts.v hb hk;have hl:=h.lt;have hbl:=h.bx.lt;have hnb:=h.nb;have h1:=h.ts.ap;simp only[Ap,List.pairwise_cons,abD,ab6,or_false,forall_eq_or_imp,forall_eq,List.Pairwise.nil,and_true,false_imp_iff,implies_true]at h1 hl hnb;obtain⟨⟨a1,a2,a3,a4⟩,⟨a5,a6,a7⟩,⟨a8,a9⟩,a10⟩:=h1;have z:∀j,Xb B b j->¬(fun _:Nat=>False) j:=fun _ _ h=>h
 have off:∀x:Value,(∀k,x.ownBlock=some k->k<w.heap.size)->(∀k,x.ownBlock=some k->V.ownBlock≠some k)->∀k,x.ownBlock=some k->X.ownBlock≠some k:=fun x hx hv k hk e=>by
  rcases ho with o|o
  · exact hv k hk (o▸e)
  · rw[o]at e
    injection e with e
    have:=hx k hk;omega
 have oG:=off G hl.1 a2;have oR:=off R hl.2.1 a5;have oH:=off H hl.2.2.2.1 fun k e e'=>a8 k e' e
 have oD:=off D hl.2.2.2.2 fun k e e'=>a9 k e' e
 have hXb:X.ownBlock≠some b:=fun e=>by
  rcases ho with o|o
  · exact hnb.2.2.1 (o▸e)
  · rw[o]at e
    injection e with e
    omega
 have K6:Kq (fun j=>j=b) (fun j=>j=b) w' (w'.setCell ⟨b,6,none⟩ X):=bD;have x6:∀j,Xb B b j->¬(fun j=>j=b) j:=fun j hj=>hj.2
 have n6:∀x:Value,x.ownBlock≠some b->∀g,x.ownBlock=some g->¬(fun j=>j=b) g:=fun x hx g e e'=>hx (by rw[e];exact abP some e')
 refine⟨⟨(k.bx h.bx hnb.2.2.1).set 6 X,h.lb,fun x hx=>?_,⟨K6.Zd (k.Zd h.ts.g z fun j e1 e2=>a2 j e1 e2) x6 (n6 _ hnb.1),⟨⟨K6.rd (k.rd h.ts.ip.1.rd fun _ _ _ h=>h) fun h0 ad e=>x6 _ (h.ts.ip.2 ad e h0),h.ts.ip.1.le,h.ts.ip.1.cap⟩,h.ts.ip.2⟩,⟨⟨K6.rd (k.rd h.ts.iq.1.rd fun _ _ _ h=>h) fun h0 ad e=>x6 _ (h.ts.iq.2 ad e h0),h.ts.iq.1.le,h.ts.iq.1.cap⟩,h.ts.iq.2⟩,
  K6.row (k.row h.ts.p z fun j e1 e2=>a5 j e1 e2) x6 (n6 _ hnb.2.1),K6.row r x6 (n6 _ hXb),K6.row (k.row h.ts.h z fun j e1 e2=>a8 j e2 e1) x6 (n6 _ hnb.2.2.2.1),K6.row (k.row h.ts.d z fun j e1 e2=>a9 j e2 e1) x6 (n6 _ hnb.2.2.2.2),?_⟩⟩,hb.setCell (p:=⟨b,6,none⟩) h.lb _⟩
 · simp only[abD,ab6,or_false]at hx
   rcases hx with rfl|rfl|rfl|rfl|rfl
   · exact hnb.1
   · exact hnb.2.1
   · exact hXb
   · exact hnb.2.2.2.1
   · exact hnb.2.2.2.2
 · simp only[Ap,List.pairwise_cons,abD,ab6,or_false,forall_eq_or_imp,forall_eq,List.Pairwise.nil,and_true,false_imp_iff,implies_true]
   exact⟨⟨a1,oG,a3,a4⟩,⟨oR,a6,a7⟩,⟨fun k e e'=>oH k e' e,fun k e e'=>oD k e' e⟩,a10⟩
