import Derived.Test.YtdfknefcgijhmaaGreatTk
import Derived.Test.YtdfknefcgijhmaaGreatEvPl
import Derived.Test.YtdfknefcgijhmaaGreatImM
set_option maxHeartbeats 16000000
set_option maxRecDepth 100000
set_option linter.unusedVariables false
set_option linter.unusedSimpArgs false
namespace Go.Proofs.EvM
open Go.Proofs.ShM Go.Proofs.cF Go.Proofs.GrM Go.Proofs.InM Go.Proofs.ImM
abbrev Ev:=T×Int
def eT:T:=([],[])
def tnE(r:Tn):Ev:=((r.1,r.2.1),r.2.2)
def bL(t:T)(s:List Int):Ev:=if bO t=true∧t.1=s then(t,0)else(eT,130)
def xX(ps:List T)(p:Int):T:=if 0≤p then ps.getD p.toNat eT else eT
def dY(op:Int)(nums:List Int)(a b:T):Ev:=
 if op=30 then tnE (gu a.1 a.2 b.1 b.2)else if op=40 then tnE (aJ a.1 a.2 nums)else if op=41 then tnE (bF a.1 a.2)else
 if op=42 then tnE (aS a.1 a.2 (nums.getD 0 0) (nums.getD 1 0) (nums.getD 2 0))else if op=43 then tnE (eE a.1 a.2 b.1 b.2 (nums.getD 0 0))else
 if op=50 then tnE (iM a.1 a.2 (nums.getD 0 0))else if op=51 then tnE (fK a.1 a.2 (nums.getD 0 0))else tnE (uE a.1 a.2 (nums.getD 0 0))
def aV(op:Int)(nums:List Int)(a b:T)(s:List Int)(inp:T)(ps:List T):Ev:=
 if op=1 then bL inp s else if op=2 then bL (xX ps (nums.getD 0 0)) s else if op=3 then tnE (dm [] (nums.getD 0 0))else
 if 10≤op∧op≤13 then tnE (bg op a.1 a.2 b.1 b.2)else if 20≤op∧op≤23 then tnE (dS op a.1 a.2)else dY op nums a b
def shT(ts:List T):List (List Int):=ts.map (·.1)
def bq(op:Int)(nums:List Int)(ts:List T)(inp:T)(ps:List T):Ev:=
 if ts.all bO=false then(eT,30)else if(aF op nums (shT ts)).2=0 then aV op nums (ts.getD 0 eT) (ts.getD 1 eT) (aF op nums (shT ts)).1 inp ps else(eT,(aF op nums (shT ts)).2)
def cq(acc:List T)(l:List Int):List T:=l.map fun a=>acc.getD a.toNat eT
def evF(inp:T)(ps:List T):List Nd→List T→List T×Int×Int
 | [],acc=>(acc,-1,0)
 |n::l,acc=>if(bq n.1 n.2.2 (cq acc n.2.1) inp ps).2=0 then evF inp ps l (acc++[(bq n.1 n.2.2 (cq acc n.2.1) inp ps).1])else([],(acc.length:Int),(bq n.1 n.2.2 (cq acc n.2.1) inp ps).2)
def fI(l:List Nd)(inp:T)(ps:List T):List T×Int×Int:=if(aH l).2.2=0 then evF inp ps l []else([],(aH l).2.1,(aH l).2.2)
theorem iX(ts:List T)(k:Nat):(shT ts).getD k []=(ts.getD k eT).1:=by
 unfold shT
 rw[List.getD_eq_getElem?_getD,List.getD_eq_getElem?_getD,List.getElem?_map]
 cases ts[k]?<;>rfl
theorem Dp(acc:List T)(l:List Int):bY (shT acc) l=shT (cq acc l):=by
 unfold bY cq shT
 rw[List.map_map]
 apply List.map_congr_left
 intro a _
 exact iX acc a.toNat
theorem fo{r:Tn}{t:T}(h:tnE r=(t,0)):r.2.2=0∧r.1=t.1∧r.2.1=t.2:=by
 unfold tnE at h
 injection h with h1 h2
 rw[←h1]
 exact⟨h2,rfl,rfl⟩
theorem oA{t u:T}{s:List Int}(h:bL t s=(u,0)):u.1=s:=by
 unfold bL at h
 split at h
 ·rename_i g;injection h with h _;rw[←h];exact g.2
 ·injection h with _ h;cases h
theorem mz{f:Int→Int→Int×Int}{x0:Int}{s xs:List Int}{aj:Int}(h:(gZ f x0 s xs aj).2.2=0):(gZ f x0 s xs aj).1=s.eraseIdx aj.toNat:=by
 unfold gZ at h⊢
 split at h
 ·cases h
 ·rename_i g1
  split at h
  ·cases h
  ·rename_i g2
   rw[if_neg g1,if_neg g2]
   split
   ·rfl
   ·rename_i g3;rw[if_neg g3]at h;exact absurd h g3
theorem ye{op:Int}{nums:List Int}{a b:T}{s:List Int}{t:T}(hop:op=30∨(40≤op∧op≤43)∨(50≤op∧op≤52))(h:dY op nums a b=(t,0))(hk:aR op nums a.1 b.1=(s,0)):t.1=s:=by
 have hk':(if op=40 then fe nums (decide (au nums=au a.1))else if op=41 then(a.1.reverse,0)else dQ op nums a.1 b.1)=(s,0):=by
  unfold aR at hk
  rwa [if_neg (by omega),if_neg (by omega),if_neg (by omega),if_neg (by omega),if_neg (by omega)]at hk
 clear hk
 unfold dY at h
 by_cases h30:op=30
 ·subst h30
  rw[if_pos rfl]at h
  obtain⟨e1,e2,_⟩:=fo h
  rw[if_neg (by omega),if_neg (by omega)]at hk'
  unfold dQ fZ at hk'
  rw[if_pos rfl]at hk'
  split at hk'
  ·rcases dF [a.1.getD 0 0,b.1.getD 1 0] true with⟨e,_,_⟩|e
   ·rw[e]at hk'
    injection hk' with hk' _
    rw[←e2,←hk']
    unfold gu at e1⊢
    split at e1
    ·cases e1
    ·rename_i g1
     split at e1
     ·cases e1
     ·rename_i g2
      rw[if_neg g1,if_neg g2]
      split
      ·rfl
      ·rename_i g3;rw[if_neg g3]at e1;exact absurd e1 g3
   ·rw[e]at hk';injection hk' with _ hk';cases hk'
  ·injection hk' with _ hk';cases hk'
 rw[if_neg h30]at h
 by_cases h40:op=40
 ·subst h40
  rw[if_pos rfl]at h hk'
  obtain⟨e1,e2,_⟩:=fo h
  rcases dF nums (decide (au nums=au a.1))with⟨e,_,_⟩|e
  ·rw[e]at hk'
   injection hk' with hk' _
   rw[←e2,←hk']
   unfold aJ at e1⊢
   split at e1
   ·cases e1
   ·rename_i g1
    split at e1
    ·rename_i g2;rw[if_neg g1,if_pos g2]
    ·cases e1
  ·rw[e]at hk';injection hk' with _ hk';cases hk'
 rw[if_neg h40]at h hk'
 by_cases h41:op=41
 ·subst h41
  rw[if_pos rfl]at h hk'
  obtain⟨e1,e2,_⟩:=fo h
  injection hk' with hk' _
  rw[←e2,←hk']
  unfold bF at e1⊢
  split at e1
  ·cases e1
  ·rename_i g1;rw[if_neg g1]
 rw[if_neg h41]at h hk'
 unfold dQ at hk'
 rw[if_neg h30]at hk'
 split at hk'
 ·injection hk' with _ hk';cases hk'
 by_cases h42:op=42
 ·subst h42
  rw[if_pos rfl]at h hk'
  obtain⟨e1,e2,_⟩:=fo h
  rcases iD a.1 (nums.getD 0 0) (nums.getD 1 0) (nums.getD 2 0)with⟨e,_⟩|e
  ·rw[e]at hk'
   injection hk' with hk' _
   rw[←e2,←hk']
   unfold aS at e1⊢
   split at e1
   ·cases e1
   ·rename_i g1
    split at e1
    ·cases e1
    ·rename_i g2;rw[if_neg g1,if_neg g2]
  ·rw[e]at hk';injection hk' with _ hk';cases hk'
 rw[if_neg h42]at h hk'
 by_cases h43:op=43
 ·subst h43
  rw[if_pos rfl]at h hk'
  obtain⟨e1,e2,_⟩:=fo h
  rcases gB a.1 b.1 (nums.getD 0 0)with⟨e,_⟩|e
  ·rw[e]at hk'
   injection hk' with hk' _
   rw[←e2,←hk']
   unfold eE at e1⊢
   split at e1
   ·cases e1
   ·rename_i g1
    split at e1
    ·cases e1
    ·rename_i g2;rw[if_neg g1,if_neg g2]
  ·rw[e]at hk';injection hk' with _ hk';cases hk'
 rw[if_neg h43]at h hk'
 injection hk' with hk' _
 rw[←hk']
 by_cases h50:op=50
 ·rw[if_pos h50]at h
  obtain⟨e1,e2,_⟩:=fo h
  rw[←e2]
  exact mz e1
 rw[if_neg h50]at h
 by_cases h51:op=51
 ·rw[if_pos h51]at h
  obtain⟨e1,e2,_⟩:=fo h
  rw[←e2]
  unfold fK at e1⊢
  split at e1
  ·rename_i g1;rw[if_pos g1];exact mz g1
  ·rename_i g1;exact absurd e1 g1
 ·rw[if_neg h51]at h
  obtain⟨e1,e2,_⟩:=fo h
  rw[←e2]
  exact mz e1
theorem nu{op:Int}(h:0≤ak op):(1≤op∧op≤3)∨(10≤op∧op≤13)∨(20≤op∧op≤23)∨op=30∨(40≤op∧op≤43)∨(50≤op∧op≤52):=by
 unfold ak at h
 split at h
 ·omega
 ·split at h
  ·omega
  ·split at h
   ·omega
   ·omega
theorem yD{op:Int}{nums:List Int}{a b:T}{s:List Int}{inp:T}{ps:List T}{t:T}(hop:0≤ak op)(h:aV op nums a b s inp ps=(t,0))(hk:aR op nums a.1 b.1=(s,0)):t.1=s:=by
 unfold aV at h
 by_cases h1:op=1
 ·rw[if_pos h1]at h;exact oA h
 rw[if_neg h1]at h
 by_cases h2:op=2
 ·rw[if_pos h2]at h;exact oA h
 rw[if_neg h2]at h
 by_cases h3:op=3
 ·subst h3
  rw[if_pos rfl]at h
  obtain⟨e1,e2,_⟩:=fo h
  unfold aR at hk
  rw[if_neg (by omega),if_neg (by omega),if_pos rfl]at hk
  injection hk with hk _
  rw[←e2,←hk]
  rfl
 rw[if_neg h3]at h
 by_cases h10:10≤op∧op≤13
 ·rw[if_pos h10]at h
  obtain⟨e1,e2,_⟩:=fo h
  obtain⟨j,Z,_,_,hj,hz,_⟩:=iB h10 e1
  unfold aR at hk
  rw[if_neg h1,if_neg h2,if_neg h3,if_pos h10,hj]at hk
  injection hk with hk _
  rw[←e2,←hk,hz]
 rw[if_neg h10]at h
 by_cases h20:20≤op∧op≤23
 ·rw[if_pos h20]at h
  obtain⟨e1,e2,_⟩:=fo h
  obtain⟨Z,_,hz,_⟩:=iE h20 e1
  unfold aR at hk
  rw[if_neg h1,if_neg h2,if_neg h3,if_neg h10,if_pos h20]at hk
  injection hk with hk _
  rw[←e2,←hk,hz]
 rw[if_neg h20]at h
 exact ye (by rcases nu hop with g|g|g|g|g|g<;>omega) h hk
theorem cA{op:Int}{nums:List Int}{ts:List T}{inp:T}{ps:List T}{t:T}(h:bq op nums ts inp ps=(t,0)):aF op nums (shT ts)=(t.1,0)∧ts.all bO=true:=by
 unfold bq at h
 split at h
 ·injection h with _ h;cases h
 ·rename_i g0
  split at h
  ·rename_i g1
   refine⟨?_,by simpa using g0⟩
   cases e:aF op nums (shT ts)with
   |mk s f=>
    rw[e]at g1 h
    have g1:f=0:=g1
    subst g1
    have h:aV op nums (ts.getD 0 eT) (ts.getD 1 eT) s inp ps=(t,0):=h
    unfold aF at e
    split at e
    ·rename_i g2
     rw[iX,iX]at e
     have hop:0≤ak op:=by
      have:=g2.1
      unfold gE at this
      rw[Bool.and_eq_true,decide_eq_true_iff]at this
      exact this.1
     rw[yD hop h e]
    ·injection e with _ e;cases e
  ·rename_i g1;injection h with _ h;exact absurd h g1
theorem wK(inp:T)(ps:List T):∀(l m:List Nd) (acc:List T),evF inp ps (l++m) acc=if(evF inp ps l acc).2.2=0 then evF inp ps m (evF inp ps l acc).1 else evF inp ps l acc
 | [],m,acc=>by simp[evF]
 |n::l,m,acc=>by
  rw[List.cons_append,evF,evF]
  by_cases h:(bq n.1 n.2.2 (cq acc n.2.1) inp ps).2=0
  ·rw[if_pos h,if_pos h]
   exact wK inp ps l m _
  ·rw[if_neg h,if_neg h,if_neg h]
theorem vr:∀(l m:List Nd) (acc:List (List Int)),shF (l++m) acc=if(shF l acc).2.2=0 then shF m (shF l acc).1 else shF l acc
 | [],m,acc=>by simp[shF]
 |n::l,m,acc=>by
  rw[List.cons_append,shF,shF]
  by_cases h:(aF n.1 n.2.2 (bY acc n.2.1)).2=0
  ·rw[if_pos h,if_pos h]
   exact vr l m _
  ·rw[if_neg h,if_neg h,if_neg h]
theorem iJ(inp:T)(ps:List T):∀(l:List Nd) (acc:List T),(∃t,evF inp ps l acc=(acc++t,-1,0)∧t.length=l.length)∨∃(i:Nat) (e:Int),evF inp ps l acc=([],(i:Int),e)∧e≠0∧acc.length≤i∧i<acc.length+l.length
 | [],acc=> .inl ⟨[],by simp[evF],rfl⟩
 |n::l,acc=>by
  rw[evF]
  by_cases h:(bq n.1 n.2.2 (cq acc n.2.1) inp ps).2=0
  ·rw[if_pos h]
   rcases iJ inp ps l (acc++[(bq n.1 n.2.2 (cq acc n.2.1) inp ps).1])with⟨t,e1,e2⟩|⟨i,e,e1,e2,e3,e4⟩
   ·exact .inl ⟨(bq n.1 n.2.2 (cq acc n.2.1) inp ps).1::t,by rw[e1];simp,by simp[e2]⟩
   ·rw[List.length_append,List.length_singleton]at e3 e4
    exact .inr ⟨i,e,e1,e2,by omega,by rw[List.length_cons];omega⟩
  ·rw[if_neg h]
   exact .inr ⟨acc.length,_,rfl,h,Nat.le_refl _,by rw[List.length_cons];omega⟩
theorem LM(inp:T)(ps:List T):∀(l:List Nd) (acc t:List T),evF inp ps l acc=(t,-1,0)→shF l (shT acc)=(shT t,-1,0)
 | [],acc,t,h=>by
  injection h with h _
  rw[←h];rfl
 |n::l,acc,t,h=>by
  rw[evF]at h
  by_cases g:(bq n.1 n.2.2 (cq acc n.2.1) inp ps).2=0
  ·rw[if_pos g]at h
   have e:=cA (t:=(bq n.1 n.2.2 (cq acc n.2.1) inp ps).1) (Prod.ext rfl g)
   rw[←Dp]at e
   have h2:=LM inp ps l _ t h
   rw[bA e.1,←h2]
   congr 1
   unfold shT
   rw[List.map_append];rfl
  ·rw[if_neg g]at h
   injection h with _ h
   injection h with h _
   omega
theorem DA(l:List Nd)(inp:T)(ps:List T):(∃t,fI l inp ps=(t,-1,0)∧t.length=l.length∧aK l=true∧evF inp ps l []=(t,-1,0)∧aH l=(shT t,-1,0))∨∃(i e:Int),fI l inp ps=([],i,e)∧e≠0∧i<(l.length:Int):=by
 unfold fI
 cases hc:aK l with
 |false=>
  have:aH l=([],-1,100):=by unfold aH;rw[if_neg (by simp[hc])]
  rw[this,if_neg (by decide)]
  exact .inr ⟨-1,100,rfl,by decide,by omega⟩
 |true=>
  have hs:aH l=shF l []:=by unfold aH;rw[if_pos hc]
  rcases kX hc with⟨t,e1,e2,_⟩|⟨i,e1,e2⟩
  ·rw[e1,if_pos rfl]
   rcases iJ inp ps l []with⟨t',f1,f2⟩|⟨j,e,f1,f2,_,f4⟩
   ·rw[List.nil_append]at f1
    have h:=LM inp ps l [] t' f1
    refine .inl ⟨t',f1,f2,rfl,f1,?_⟩
    rw[←e1,hs];exact h
   ·exact .inr ⟨j,e,f1,f2,by simp at f4;omega⟩
  ·rw[e1,if_neg (show¬((20:Int)=0) by decide)]
   exact .inr ⟨i,20,rfl,by decide,by omega⟩
theorem C4{inp:T}{ps:List T}{l:List Nd}{t:List T}(h:evF inp ps l []=(t,-1,0))(hl:t.length=l.length){k:Nat}(hk:k≤l.length):evF inp ps (l.take k) []=(t.take k,-1,0)∧evF inp ps (l.drop k) (t.take k)=(t,-1,0):=by
 have e:=wK inp ps (l.take k) (l.drop k) []
 rw[List.take_append_drop,h]at e
 rcases iJ inp ps (l.take k) []with⟨t',f1,f2⟩|⟨j,e',f1,f2,_,_⟩
 ·rw[List.nil_append]at f1
  rw[f1,if_pos rfl]at e
  have e:(t,(-1:Int),(0:Int))=evF inp ps (l.drop k) t':=e
  rcases iJ inp ps (l.drop k) t' with⟨u,g1,g2⟩|⟨j,e',g1,g2,_,_⟩
  ·rw[g1]at e
   injection e with e _
   have:t.take k=t':=by
    rw[e,List.take_left']
    rw[f2,List.length_take];omega
   rw[this]
   exact⟨f1,by rw[g1,e]⟩
  ·rw[g1]at e
   injection e with _ e
   injection e with e _
   omega
 ·rw[f1,if_neg f2]at e
  injection e with _ e
  injection e with e _
  omega
theorem ny{t:List T}{k:Nat}{l:List Int}(h:∀a∈l,0≤a∧a<(k:Int)):cq (t.take k) l=cq t l:=by
 unfold cq
 apply List.map_congr_left
 intro a ha
 obtain⟨h0,h1⟩:=h a ha
 rw[List.getD_eq_getElem?_getD,List.getD_eq_getElem?_getD,List.getElem?_take,if_pos (by omega)]
theorem Sz{inp:T}{ps:List T}{l:List Nd}{t:List T}(hc:aK l=true)(h:evF inp ps l []=(t,-1,0))(hl:t.length=l.length){k:Nat}{n:Nd}(hn:l[k]?=some n):bq n.1 n.2.2 (cq t n.2.1) inp ps=(t.getD k eT,0):=by
 have hk:=(List.getElem?_eq_some_iff.1 hn).1
 obtain⟨_,e⟩:=C4 h hl (k:=k) (by omega)
 have ha:=(bh.1 ((aO.1 hc).2.2 k n hn)).2.2.2.1
 have hd:l.drop k=n::l.drop (k+1):=by
  obtain⟨hb,ee⟩:=List.getElem?_eq_some_iff.1 hn
  rw[List.drop_eq_getElem_cons hb,ee]
 rw[hd,evF,ny ha]at e
 by_cases g:(bq n.1 n.2.2 (cq t n.2.1) inp ps).2=0
 ·rw[if_pos g]at e
  rcases iJ inp ps (l.drop (k+1)) (t.take k++[(bq n.1 n.2.2 (cq t n.2.1) inp ps).1])with⟨u,g1,g2⟩|⟨j,e',g1,g2,_,_⟩
  ·rw[g1]at e
   injection e with e _
   refine Prod.ext ?_ g
   show _=t.getD k eT
   have h3:(t.take k++[(bq n.1 n.2.2 (cq t n.2.1) inp ps).1]++u).getD k eT=t.getD k eT:=by rw[e]
   rw[List.getD_eq_getElem?_getD,List.append_assoc,List.getElem?_append_right (by rw[List.length_take];omega),List.length_take,Nat.min_eq_left (by omega),Nat.sub_self]at h3
   exact h3
  ·rw[g1]at e
   injection e with _ e
   injection e with e _
   omega
 ·rw[if_neg g]at e
  injection e with e1 e
  injection e with e _
  omega
open Go.Proofs.ShM Go.Proofs.cF Go.Proofs.GrM Go.Proofs.InM Go.Proofs.ImM
theorem Qn{op:Int}{nums:List Int}{ts:List T}{inp:T}{ps:List T}{t:T}(h:bq op nums ts inp ps=(t,0)):ts.all bO=true∧aV op nums (ts.getD 0 eT) (ts.getD 1 eT) (aF op nums (shT ts)).1 inp ps=(t,0):=by
 unfold bq at h
 split at h
 ·injection h with _ h;cases h
 ·rename_i g0
  split at h
  ·exact⟨by simpa using g0,h⟩
  ·rename_i g1;injection h with _ h;exact absurd h g1
end Go.Proofs.EvM
