/- A region in any order whose last operations write over what its first ones read: what was read is told of every world ahead of the first of those. -/
import Derived.Test.YtokeebkaamjliaaGreatTpC
set_option maxHeartbeats 16000000
set_option maxRecDepth 100000
set_option linter.unusedVariables false
set_option linter.unusedSimpArgs false
namespace Go.Proofs
section
variable{P:Program}{md:Region.Mode}{ops:Array Oper}{Q:Exit->Act->World->Prop}{S:World->Prop}
/-- None of these has come up. -/
def YI(St:List Nat)(listed:Array Bool):Bool:=St.all fun k=> !(listed.getD k true)
def kG(P:Program)(md:Region.Mode)(ops:Array Oper)(Q:Exit->Act->World->Prop)(St:List Nat)(S:World->Prop):Nat->Array Bool->Act->World->Prop
 |0,listed,a,w=>Region.ready md ops listed=[]/\Q .normal a w
 |fuel+1,listed,a,w=>(Region.ready md ops listed=[]->Q .normal a w)/\∀i∈Region.ready md ops listed,wpOp P ops Q i (fun a' w'=>(YI St (listed.setIfInBounds i true)=true->S w')/\kG P md ops Q St S fuel (listed.setIfInBounds i true) a' w') a w
theorem W7{St:List Nat}:∀(fuel:Nat) (listed:Array Bool) (a:Act) (w:World),kG P md ops Q St S fuel listed a w->wpAny P md ops Q fuel listed a w
 |0,_,_,_,h=>h
 |fuel+1,_,_,_,h=>⟨h.1,fun i hi=>wpOp_mono (fun a' w' h'=>W7 fuel _ a' w' h'.2) (h.2 i hi)⟩
theorem rG{St:List Nat}{l:Array Bool}{i:Nat}(h:YI St l=true)(hi:i∉St):YI St (l.setIfInBounds i true)=true:=by
 unfold YI at *;rw[abn]at *;intro k hk;rw[acP true (fun e=>hi (by rw[e];exact hk))];exact h k hk
theorem YA{St:List Nat}{i:Nat}{oi:Oper}{v:Value}(hi:ops[i]?=some oi)(hsel:∀(j:Nat) (o:Oper) cs b,ops[j]?=some o->o.op≠ .select cs b)(hQ:∀c a w,Q (.panic c) (a.put oi.dst v) w->Q (.panic c) a w)
  (aax:∀k∈St,∀ok,ops[k]?=some ok->∃e∈ok.after,Region.binds md e=true/\e.on=i)(hin:i∉St):
  ∀(fuel:Nat) (listed:Array Bool) (a:Act) (w:World),
   (∀j oj,ops[j]?=some oj->j≠i->listed.getD j true=false->(∀e∈oj.after,Region.binds md e=true->e.on≠i)->oi.apart ops oj=true)->YI St listed=true->
   i∈Region.ready md ops listed->YieldsIf P ops S oi v a->S w->kG P md ops Q St S fuel (listed.setIfInBounds i true) (a.put oi.dst v) w->kG P md ops Q St S (fuel+1) listed a w:=by
 intro fuel
 induction fuel with
 |zero=>
  intro listed a w _ hu hr hy hS H;refine⟨fun h=>(by rw[h]at hr;cases hr),fun j hj=>?_⟩;by_cases hji:j=i
  · subst hji;exact hy.wpOp hi hS ⟨fun _=>hS,H⟩
  · have:=ready_mono hj hji
    rw[H.1]at this
    cases this
 |succ fuel ih=>
  intro listed a w hfree hu hr hy hS H;refine⟨fun h=>(by rw[h]at hr;cases hr),fun j hj=>?_⟩;by_cases hji:j=i
  · subst hji;exact hy.wpOp hi hS ⟨fun _=>hS,H⟩
  · have h1:=H.2 j (ready_mono hj hji)
    obtain⟨hjun,oj,hoj,hall⟩:=mem_ready.1 hj;have hnot:∀e∈oj.after,Region.binds md e=true->e.on≠i:=fun e he hb heq=>by
     have h1:=hall e he hb;have h0:=(mem_ready.1 hr).1;rw[heq]at h1;rcases Nat.lt_or_ge i listed.size with h'|h'
     · simp[h']at h0 h1;rw[h0]at h1;cases h1
     · simp[Array.getElem?_eq_none h']at h1
    have hjS:j∉St:=fun hm=>by
     obtain⟨e,he,hb,ho⟩:=aax j hm oj hoj;exact hnot e he hb ho
    have h2:=wpOp_putIf hoj (hfree j oj hoj hji hjun hnot) (fun cs b=>hsel i oi cs b hi) (fun cs b=>hsel j oj cs b hoj) hQ hy h1;have hfree':∀k ok,ops[k]?=some ok->k≠i->(listed.setIfInBounds j true).getD k true=false->(∀e∈ok.after,Region.binds md e=true->e.on≠i)->oi.apart ops ok=true:=fun k ok hk hki hun hno=>by
     refine hfree k ok hk hki ?_ hno;by_cases hjk:j=k
     · subst hjk;exact hjun
     · rw[acP true hjk]at hun;exact hun
    refine wpOp_mono (fun a' w' h3=>?_) h2;have hS':S w':=h3.2.1 (by rw[ab8 _ _ (Ne.symm hji)];exact rG (rG hu hjS) hin);refine⟨fun _=>hS',ih (listed.setIfInBounds j true) a' w' hfree' (rG hu hjS) (ready_mono hr (Ne.symm hji)) h3.1 hS' ?_⟩;rw[ab8 _ _ hji];exact h3.2.2
theorem Zb{St:List Nat}{l:Array Bool}{i j:Nat}(h:YI St (l.setIfInBounds j true)=true)(hi:i∉St):YI St ((l.setIfInBounds i true).setIfInBounds j true)=true:=by
 by_cases e:i=j
 · subst e
   have:=rG h hi;rw[Array.setIfInBounds_setIfInBounds]at this⊢;exact this
 · rw[ab8 _ _ e]
   exact rG h hi
theorem YK{St:List Nat}{i:Nat}{oi:Oper}{v:Value}(hi:ops[i]?=some oi)(hsel:∀(j:Nat) (o:Oper) cs b,ops[j]?=some o->o.op≠ .select cs b)(hQ:∀c a w,Q (.panic c) (a.put oi.dst v) w->Q (.panic c) a w)(hin:i∉St):
  ∀(fuel:Nat) (listed:Array Bool) (a:Act) (w:World),
   (∀j oj,ops[j]?=some oj->j≠i->listed.getD j true=false->(∀e∈oj.after,Region.binds md e=true->e.on≠i)->oi.apart ops oj=true)->(YI St listed=true->S w)->
   i∈Region.ready md ops listed->YieldsIf P ops (fun _=>True) oi v a->kG P md ops Q St S fuel (listed.setIfInBounds i true) (a.put oi.dst v) w->kG P md ops Q St S (fuel+1) listed a w:=by
 intro fuel;have hsub:∀{l:Array Bool},YI St (l.setIfInBounds i true)=true->YI St l=true:=fun {l} h=>by
  unfold YI at *;rw[abn]at *;intro k hk;have h1:=h k hk
  rwa [acP true (fun e=>hin (by rw[e];exact hk))]at h1
 induction fuel with
 |zero=>
  intro listed a w _ hS hr hy H;refine⟨fun h=>(by rw[h]at hr;cases hr),fun j hj=>?_⟩;by_cases hji:j=i
  · subst hji;exact hy.wpOp hi trivial ⟨fun h=>hS (hsub h),H⟩
  · have:=ready_mono hj hji
    rw[H.1]at this
    cases this
 |succ fuel ih=>
  intro listed a w hfree hS hr hy H;refine⟨fun h=>(by rw[h]at hr;cases hr),fun j hj=>?_⟩;by_cases hji:j=i
  · subst hji;exact hy.wpOp hi trivial ⟨fun h=>hS (hsub h),H⟩
  · have h1:=H.2 j (ready_mono hj hji)
    obtain⟨hjun,oj,hoj,hall⟩:=mem_ready.1 hj;have hnot:∀e∈oj.after,Region.binds md e=true->e.on≠i:=fun e he hb heq=>by
     have h1:=hall e he hb;have h0:=(mem_ready.1 hr).1;rw[heq]at h1;rcases Nat.lt_or_ge i listed.size with h'|h'
     · simp[h']at h0 h1;rw[h0]at h1;cases h1
     · simp[Array.getElem?_eq_none h']at h1
    have h2:=wpOp_putIf hoj (hfree j oj hoj hji hjun hnot) (fun cs b=>hsel i oi cs b hi) (fun cs b=>hsel j oj cs b hoj) hQ hy h1;have hfree':∀k ok,ops[k]?=some ok->k≠i->(listed.setIfInBounds j true).getD k true=false->(∀e∈ok.after,Region.binds md e=true->e.on≠i)->oi.apart ops ok=true:=fun k ok hk hki hun hno=>by
     refine hfree k ok hk hki ?_ hno;by_cases hjk:j=k
     · subst hjk;exact hjun
     · rw[acP true hjk]at hun;exact hun
    refine wpOp_mono (fun a' w' h3=>?_) h2;have hS':YI St (listed.setIfInBounds j true)=true->S w':=fun h=>h3.2.1 (Zb h hin)
    refine⟨hS',ih (listed.setIfInBounds j true) a' w' hfree' hS' (ready_mono hr (Ne.symm hji)) h3.1 ?_⟩;rw[ab8 _ _ hji];exact h3.2.2
/-- Do all these wait for it? -/
def waits(md:Region.Mode)(ops:Array Oper)(i:Nat)(St:List Nat):Bool:=St.all fun k=>(ops[k]?).all fun o=>o.after.any fun e=>Region.binds md e&&e.on==i
theorem YZ{i:Nat}{St:List Nat}(h:waits md ops i St=true):∀k∈St,∀ok,ops[k]?=some ok->∃e∈ok.after,Region.binds md e=true/\e.on=i:=fun k hk ok ho=>by
 unfold waits at h;rw[abn]at h;have h1:=h k hk;rw[ho]at h1;simp only[Option.all_some,Array.any_eq_true]at h1;obtain⟨n,hn,h2⟩:=h1;simp only[abb,beq_iff_eq]at h2;exact⟨_,Array.getElem_mem hn,h2⟩
theorem aT{St:List Nat}{fuel:Nat}{listed:Array Bool}{a:Act}{w:World}{oi:Oper}(i:Nat)(v:Value)(hi:ops[i]?=some oi)(hS:S w)(h:kG P md ops Q St S fuel (listed.setIfInBounds i true) (a.put oi.dst v) w)
  (hs:Region.noSelect ops=true:=by kernel_rfl)(hf:Region.free md ops listed i=true:=by kernel_rfl)(hr:(Region.ready md ops listed).contains i=true:=by kernel_rfl)(hu:YI St listed=true:=by kernel_rfl)(hd:waits md ops i St=true:=by kernel_rfl)(hn:i∉St:=by decide)
  (hw:Region.wanted oi (yielded ops a.tmps)=true:=by kernel_rfl)(hQ:∀c a w,Q (.panic c) (a.put oi.dst v) w->Q (.panic c) a w:=by exact fun _ _ _ h=>h)
  (hy:∀w,S w->(execOp a.eval oi).run P w= .ok (.value v) w:=by intro V hSV;(try dsimp only at hSV);go_simp):kG P md ops Q St S (fuel+1) listed a w:=
 YA hi (Region.noSelect_spec hs) hQ (YZ hd) hn fuel listed a w (Region.free_spec hi hf) hu (by simpa using hr) (Or.inl ⟨hw,hy⟩) hS h
theorem bV{St:List Nat}{fuel:Nat}{listed:Array Bool}{a:Act}{w:World}{oi:Oper}(i:Nat)(v:Value)(hi:ops[i]?=some oi)(hS:YI St listed=true->S w)(h:kG P md ops Q St S fuel (listed.setIfInBounds i true) (a.put oi.dst v) w)
  (hs:Region.noSelect ops=true:=by kernel_rfl)(hf:Region.free md ops listed i=true:=by kernel_rfl)(hr:(Region.ready md ops listed).contains i=true:=by kernel_rfl)(hn:i∉St:=by decide)
  (hw:Region.wanted oi (yielded ops a.tmps)=true:=by kernel_rfl)(hQ:∀c a w,Q (.panic c) (a.put oi.dst v) w->Q (.panic c) a w:=by exact fun _ _ _ h=>h)
  (hy:∀w:World,(execOp a.eval oi).run P w= .ok (.value v) w:=by intro V;go_simp):kG P md ops Q St S (fuel+1) listed a w:=
 YK hi (Region.noSelect_spec hs) hQ hn fuel listed a w (Region.free_spec hi hf) hS (by simpa using hr) (Or.inl ⟨hw,fun w _=>hy w⟩) h
theorem cB{St:List Nat}{fuel:Nat}{listed:Array Bool}{a:Act}{w:World}{o:Oper}(i:Nat)(ho:ops[i]?=some o)
  (h:∀K':Act->World->Prop,Shut (∀a w,(YI St (listed.setIfInBounds i true)=true->S w)->kG P md ops Q St S fuel (listed.setIfInBounds i true) a w->K' a w)->if Region.wanted o (yielded ops a.tmps)=true then Oper.wp P o a w K' Q else K' (a.put o.dst undef) w)
  (hr:Region.ready md ops listed=[i]:=by kernel_rfl):kG P md ops Q St S (fuel+1) listed a w:=by
 refine⟨fun h0=>(by rw[hr]at h0;cases h0),fun j hj=>?_⟩;rw[hr]at hj;obtain rfl:=abF.1 hj;exact wpOp_step ho fun K' hK=>h K' fun a w hS hW=>hK a w ⟨hS,hW⟩
theorem cK{St:List Nat}{listed:Array Bool}{a:Act}{w:World}(hr:Region.ready md ops listed=[])(h:Q .normal a w):∀fuel,kG P md ops Q St S fuel listed a w
 |0=>⟨hr,h⟩
 |_+1=>⟨fun _=>h,by rw[hr];simp⟩
theorem cQ{St:List Nat}{id:Nat}{a:Act}{w:World}(hm:P.follows .mixedOrders=true)(hS:S w.drew)
  (h:S w.drew->kG P .any ops Q St S ops.size (Array.replicate ops.size false) a w.drew):(Code.region id ops true).wp P Q a w:=
 wp_region_any hm (W7 _ _ _ _ (h hS))
end
end Go.Proofs
namespace Go.Proofs.YtokeebkaamjliaaGreat.Ez
open RowKit ShM GrM InM ImM EvM
section
variable{B b:Nat}{W:World}{G:Value}{P:DV}{e:Nat}{Q:DV}{f:Nat}{R V H D:Value}{t:Tpe}
theorem Ts.kq{W':World}(h:Ts B (Xb B b) W G P e Q f R V H D t)(hn:∀x∈[G,R,V,H,D],x.ownBlock≠some b)(k:Kq (fun j=>j=b) (fun j=>j=b) W W'):Ts B (Xb B b) W' G P e Q f R V H D t:=
 have hx:∀j,Xb B b j->¬j=b:=fun j hj=>hj.2
 have hr:∀x,x∈[G,R,V,H,D]->∀g,x.ownBlock=some g->¬g=b:=fun x hm g e e'=>hn x hm (by rw[e,e'])
 ⟨k.Zd h.g hx (hr _ sC),⟨⟨k.rd h.ip.1.rd fun h0 ad e=>hx _ (h.ip.2 ad e h0),h.ip.1.le,h.ip.1.cap⟩,h.ip.2⟩,⟨⟨k.rd h.iq.1.rd fun h0 ad e=>hx _ (h.iq.2 ad e h0),h.iq.1.le,h.iq.1.cap⟩,h.iq.2⟩,
  k.row h.p hx (hr _ sC),k.row h.v hx (hr _ sC),k.row h.h hx (hr _ sC),k.row h.d hx (hr _ sC),h.ap⟩
theorem Rl.kp{W':World}(h:Rl B b W G P e Q f R V H D t)(k:Kp W W'):Rl B b W' G P e Q f R V H D t:=⟨h.bx.kp k,h.lb,h.nb,h.ts.kq h.nb (Kq.kp k)⟩
theorem Rl.open_(h:Rl B b W G P e Q f R V H D t):∃A c R' d V' vc H' hc D' dc,G= .slice A t.l.length c/\R= .slice R' t.ps.length d/\V= .slice V' t.vals.length vc/\H= .slice H' t.hang.length hc/\D= .slice D' t.fD.length dc:=by
 obtain⟨A,c,e1,_⟩:=h.ts.g.form;obtain⟨R',d,e2,_⟩:=h.ts.p.form;obtain⟨V',vc,e3,_⟩:=h.ts.v.form;obtain⟨H',hc,e4,_⟩:=h.ts.h.form;obtain⟨D',dc,e5,_⟩:=h.ts.d.form;exact⟨A,c,R',d,V',vc,H',hc,D',dc,e1,e2,e3,e4,e5⟩
end
/-- A reel somewhere holds the tape. -/
def Rx(B b:Nat)(W:World)(t:Tpe):Prop:=∃G P e Q f R V H D,Rl B b W G P e Q f R V H D t
def YW(B b:Nat)(t:Tpe)(W:World)(e:Ending)(w':World):Prop:=(∃v,e= .returned v)/\Hid (Rx B b w' t)/\Hid (Below B W w')
section
variable{B b:Nat}{W:World}{G:Value}{P:DV}{e:Nat}{Q:DV}{f:Nat}{R V H D:Value}{t:Tpe}
theorem bD{w:World}{b i:Nat}{u:Value}:Kq (fun j=>j=b) (fun j=>j=b) w (w.setCell ⟨b,i,none⟩ u):=Kq.aaw (S:=fun j=>j=b) (Z:=fun j=>j=b) (p:=⟨b,i,none⟩) rfl rfl u
theorem ZX(h:∀x∈[G,R,V,H,D],x.ownBlock≠some b):∀x∈[G,R, .slice none 0 0, .slice none 0 0, .slice none 0 0],x.ownBlock≠some b:=fun x hx=>by
 simp only[abD,ab6,or_false]at hx;rcases hx with rfl|rfl|rfl|rfl|rfl
 · exact h _ sC
 · exact h _ sC
 all_goals (intro e;cases e)
theorem Z7(h:Ap [G,R,V,H,D]):Ap [G,R, .slice none 0 0, .slice none 0 0, .slice none 0 0]:=by
 unfold Ap at h⊢;refine List.Pairwise.cons (fun y hy j ej ek=>?_) (List.Pairwise.cons (fun y hy j ej ek=>?_) (List.Pairwise.cons (fun y hy j ej ek=>by cases ej) (List.Pairwise.cons (fun y hy j ej ek=>by cases ej) (List.Pairwise.cons (fun y hy=>by cases hy) List.Pairwise.nil))))
 · simp only[abD,ab6,or_false]at hy
   rcases hy with rfl|rfl|rfl|rfl
   · exact(List.pairwise_cons.1 h).1 _ sC j ej ek
   all_goals cases ek
 · simp only[abD,ab6,or_false]at hy
   rcases hy with rfl|rfl|rfl<;>cases ek
theorem YU(h:Rl B b W G P e Q f R V H D t)(node err:Int):
 CJ 17 #[pX b 0, .int .i64 node, .int .i64 err] W (YW B b (iw t.l t.inp t.ps node err) W):=by
 have c4:=h.bx.cell (j:=4) rfl;have B1:=h.bx.set 4 (.int .i64 4);have c5:=B1.cell (j:=5) rfl;have B2:=B1.set 5 (.int .i64 node);have c9:=B2.cell (j:=9) rfl;have B3:=B2.set 9 (.int .i64 err);have c6:=B3.cell (j:=6) rfl;have B4:=B3.set 6 (.slice none 0 0);have c7:=B4.cell (j:=7) rfl;have B5:=B4.set 7 (.slice none 0 0);have c8:=B5.cell (j:=8) rfl;have B6:=lH (B5.set 8 (.slice none 0 0));have f0:=h.bx.frz;have KB:Hid (Below B W (((((((W.setCell ⟨b,4,none⟩ (.int .i64 4)).setCell ⟨b,5,none⟩ (.int .i64 node)).setCell ⟨b,9,none⟩ (.int .i64 err)).setCell ⟨b,6,none⟩ (.slice none 0 0)).setCell ⟨b,7,none⟩ (.slice none 0 0)).setCell ⟨b,8,none⟩ (.slice none 0 0)))):=
  ((((((abu _ _).setCell (p:=⟨b,4,none⟩) h.lb _).setCell (p:=⟨b,5,none⟩) h.lb _).setCell (p:=⟨b,9,none⟩) h.lb _).setCell (p:=⟨b,6,none⟩) h.lb _).setCell (p:=⟨b,7,none⟩) h.lb _).setCell (p:=⟨b,8,none⟩) h.lb _
 have KK:Kq (fun j=>j=b) (fun j=>j=b) W (((((((W.setCell ⟨b,4,none⟩ (.int .i64 4)).setCell ⟨b,5,none⟩ (.int .i64 node)).setCell ⟨b,9,none⟩ (.int .i64 err)).setCell ⟨b,6,none⟩ (.slice none 0 0)).setCell ⟨b,7,none⟩ (.slice none 0 0)).setCell ⟨b,8,none⟩ (.slice none 0 0))):=
  ((((bD.tr bD).tr bD).tr bD).tr bD).tr bD
 have T0:=h.ts.kq h.nb KK;have HR:Hid (Rx B b (((((((W.setCell ⟨b,4,none⟩ (.int .i64 4)).setCell ⟨b,5,none⟩ (.int .i64 node)).setCell ⟨b,9,none⟩ (.int .i64 err)).setCell ⟨b,6,none⟩ (.slice none 0 0)).setCell ⟨b,7,none⟩ (.slice none 0 0)).setCell ⟨b,8,none⟩ (.slice none 0 0))) (iw t.l t.inp t.ps node err)):=
  ⟨G,P,e,Q,f,R, .slice none 0 0, .slice none 0 0, .slice none 0 0,⟨B6.out,h.lb,ZX h.nb,⟨T0.g,T0.ip,T0.iq,T0.p,zf.bU _ _,zf.bU _ _,zf.bU _ _,Z7 h.ts.ap⟩⟩⟩
 clear h B1 B2 B3 B4 B5 KK T0;go_enter Tryz.func17,Tryz.ntmps17;go_wp2;refine aaX (v:= .tuple #[]) (by simp[results,Tryz.results17,go_sem];try rfl) rfl ?_;exact⟨⟨_,rfl⟩,HR.out,KB.out⟩
