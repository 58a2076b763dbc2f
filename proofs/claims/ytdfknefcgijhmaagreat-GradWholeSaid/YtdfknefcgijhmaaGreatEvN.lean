import Derived.Test.YtdfknefcgijhmaaGreatTk
import Derived.Test.YtdfknefcgijhmaaGreatEvM
set_option maxHeartbeats 16000000
set_option maxRecDepth 100000
set_option linter.unusedVariables false
set_option linter.unusedSimpArgs false
namespace Go.Proofs.EvM
open Go.Proofs.ShM Go.Proofs.cF Go.Proofs.GrM Go.Proofs.InM Go.Proofs.ImM
def In64(x:Int):Prop:= -9223372036854775808≤x∧x≤9223372036854775807
theorem fC:In64 0:=by unfold In64;omega
theorem aE:N64 []:=fun x h=>by cases h
theorem gO{l:List Int}(h:N64 l)(i:Nat):In64 (l.getD i 0):=by
 rw[List.getD_eq_getElem?_getD]
 cases e:l[i]? with
 |none=>exact fC
 |some x=>exact h x (List.mem_of_getElem? e)
theorem gN{α:Type}{f:α→Int}{l:List α}(h:∀x∈l,In64 (f x)):N64 (l.map f):=fun x hx=>by
 obtain⟨y,hy,rfl⟩:=List.mem_map.1 hx
 exact h y hy
theorem Bq{n:Nat}{x:Int}(h:In64 x):N64 (List.replicate n x):=fun y hy=>by
 rw[List.eq_of_mem_replicate hy]
 exact h
theorem jr{α:Type}{f:α→Int×Int}{l:List α}(h:∀x∈l,In64 (f x).1):N64 (cL f l).1:=by
 unfold cL
 split
 ·exact gN h
 ·exact aE
theorem mY(n:Int):In64 (put n).1:=by
 rcases dN n with⟨h1,h2,e⟩|⟨_,e⟩
 ·rw[e];exact⟨h1,h2⟩
 ·rw[e];exact fC
theorem Cx(a b:Int):In64 (cY a b).1:=mY _
theorem Jd(a b:Int):In64 (nE a b).1:=by
 unfold nE
 split
 ·exact fC
 ·exact mY _
theorem OU{s d:List Int}(h:N64 d)(t:List Int):In64 (atV s d t).1:=by
 unfold atV
 split
 ·exact gO h _
 ·exact fC
theorem Jc(f g:Nat→Int):∀k,In64 (gQ f g k).1
 |0=>fC
 |k+1=>by
  unfold gQ
  split
  ·exact Jc f g k
  ·split
   ·exact fC
   ·exact Cx _ _
theorem OP{f:Int→Int→Int×Int}(hf:∀a b,In64 a→In64 b→In64 (f a b).1):∀(l:List Int) (x:Int),In64 x→N64 l→In64 (tkL f x l).1
 | [],x,hx,_=>hx
 |y::l,x,hx,hl=>by
  rw[jQ]
  split
  ·exact OP hf l _ (hf x y hx (hl y List.mem_cons_self)) (fun z hz=>hl z (List.mem_cons_of_mem _ hz))
  ·exact fC
theorem FR{s xs:List Int}(h:N64 xs)(a q:Nat):N64 (aU s xs a q):=gN fun _ _=>gO h _
theorem Bo{f:Int→Int→Int×Int}(hf:∀a b,In64 a→In64 b→In64 (f a b).1){x0:Int}(h0:In64 x0){s xs:List Int}(h:N64 xs)(aj:Int):N64 (gZ f x0 s xs aj).2.1:=by
 unfold gZ
 split
 ·exact aE
 ·split
  ·exact aE
  ·split
   ·exact jr fun q _=>OP hf _ _ h0 (FR h _ _)
   ·exact aE
theorem KJ{s xs:List Int}(h:N64 xs)(aj:Int):N64 (iM s xs aj).2.1:=Bo (fun a b _ _=>Cx a b) fC h aj
theorem KP{s xs:List Int}(h:N64 xs)(aj:Int):N64 (uE s xs aj).2.1:=
 Bo (fun a b ha hb=>by unfold In64 at *;show _≤max a b∧max a b≤_;omega) (by unfold In64;omega) h aj
theorem FP{s xs:List Int}(aj:Int):N64 (fK s xs aj).2.1:=by
 unfold fK
 split
 ·exact gN fun x _=>Jd _ _
 ·exact aE
theorem ux(s xs t ys:List Int):N64 (gu s xs t ys).2.1:=by
 unfold gu
 split
 ·exact aE
 ·split
  ·exact aE
  ·split
   ·exact jr fun q _=>Jc _ _ _
   ·exact aE
theorem mN{s xs:List Int}(h:N64 xs)(g:List Int):N64 (aJ s xs g).2.1:=by
 unfold aJ
 split
 ·exact aE
 ·split
  ·exact h
  ·exact aE
theorem vR{s xs:List Int}(h:N64 xs):N64 (bF s xs).2.1:=by
 unfold bF
 split
 ·exact aE
 ·exact gN fun _ _=>OU h _
theorem jq{s xs:List Int}(h:N64 xs)(g:List Int)(k:Nat)(m:Int):N64 (dU s xs g k m):=gN fun _ _=>OU h _
theorem mM{s xs:List Int}(h:N64 xs)(aj a b:Int):N64 (aS s xs aj a b).2.1:=by
 unfold aS
 split
 ·exact aE
 ·split
  ·exact aE
  ·exact jq h _ _ _
theorem FU{s xs t ys:List Int}(h:N64 xs)(g:N64 ys)(aj:Int):N64 (eE s xs t ys aj).2.1:=by
 unfold eE
 split
 ·exact aE
 ·split
  ·exact aE
  ·refine gN fun i _=>?_
   split
   ·exact gO (jq h _ _ _) _
   ·exact gO (jq g _ _ _) _
theorem FV{n:Int}(h:In64 n)(s:List Int):N64 (dm s n).2.1:=by
 unfold dm
 split
 ·exact Bq h
 ·exact aE
theorem FO{op:Int}{nums:List Int}{a b:T}(ha:N64 a.2)(hb:N64 b.2):N64 (dY op nums a b).1.2:=by
 unfold dY
 split
 ·exact ux _ _ _ _
 ·split
  ·exact mN ha _
  ·split
   ·exact vR ha
   ·split
    ·exact mM ha _ _ _
    ·split
     ·exact FU ha hb _
     ·split
      ·exact KJ ha _
      ·split
       ·exact FP _
       ·exact KP ha _
theorem rV{t:T}(h:N64 t.2)(s:List Int):N64 (bL t s).1.2:=by
 unfold bL
 split
 ·exact h
 ·exact aE
theorem KM{ps:List T}(h:∀t∈ps,N64 t.2)(p:Int):N64 (xX ps p).2:=by
 unfold xX
 split
 ·rw[List.getD_eq_getElem?_getD]
  cases e:ps[p.toNat]? with
  |none=>exact aE
  |some x=>exact h x (List.mem_of_getElem? e)
 ·exact aE
theorem lp{ps:List T}(h:∀t∈ps,N64 t.2)(k:Nat):N64 (ps.getD k eT).2:=by
 rw[List.getD_eq_getElem?_getD]
 cases e:ps[k]? with
 |none=>exact aE
 |some x=>exact h x (List.mem_of_getElem? e)
theorem pY{op:Int}{nums:List Int}{ts:List T}{inp:T}{ps:List T}(h1:∀t∈ts,N64 t.2)(h2:N64 inp.2)(h3:∀t∈ps,N64 t.2)(h4:N64 nums):N64 (bq op nums ts inp ps).1.2:=by
 unfold bq
 split
 ·exact aE
 ·split
  ·unfold aV
   split
   ·exact rV h2 _
   ·split
    ·exact rV (KM h3 _) _
    ·split
     ·exact FV (gO h4 _) _
     ·split
      ·exact JG _ _ _ _ _
      ·split
       ·exact Kv _ _ (lp h1 0)
       ·exact FO (lp h1 0) (lp h1 1)
  ·exact aE
theorem qc{acc:List T}(h:∀t∈acc,N64 t.2)(l:List Int):∀t∈cq acc l,N64 t.2:=fun t ht=>by
 obtain⟨a,_,rfl⟩:=List.mem_map.1 ht
 exact lp h _
theorem Ot{inp:T}{ps:List T}(h2:N64 inp.2)(h3:∀t∈ps,N64 t.2):∀(l:List Nd) (acc:List T),(∀t∈acc,N64 t.2)→(∀n∈l,N64 n.2.2)→∀t∈(evF inp ps l acc).1,N64 t.2
 | [],acc,h,_=>h
 |n::l,acc,h,g=>by
  unfold evF
  split
  ·refine Ot h2 h3 l _ (fun t ht=>?_) (fun m hm=>g m (List.mem_cons_of_mem _ hm))
   rcases List.mem_append.1 ht with ht|ht
   ·exact h t ht
   ·rw[List.mem_singleton.1 ht]
    exact pY (qc h _) h2 h3 (g n List.mem_cons_self)
  ·intro t ht
   cases ht
theorem zF{t:T}(h:bO t=true):t.1.length≤100∧t.2.length≤100∧N64 t.1:=by
 have h1:=Go.Proofs.ImM.Ec h
 have h2:=(aD.1 (Go.Proofs.ImM.aA.1 h).1).2.1
 refine⟨by omega,by omega,fun x hx=>?_⟩
 have h3:=List.all_eq_true.1 h2 x hx
 unfold aX at h3
 simp at h3
 omega
end Go.Proofs.EvM
