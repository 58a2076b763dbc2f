import Derived.Test.YtdfknefcgijhmaaGreatTk
import Derived.Test.YtdfknefcgijhmaaGreatImM
set_option maxHeartbeats 16000000
set_option maxRecDepth 100000
set_option linter.unusedVariables false
set_option linter.unusedSimpArgs false
namespace Go.Proofs.YtdfknefcgijhmaaGreat
open Go.RowKit Go.Proofs.ShM
def Vl(w:World)(X:Nat→Prop)(v:Value)(s:List Int):Prop:=
 ∃P c,v= .slice P s.length c∧s.length≤c∧c≤9223372036854775807∧Rd w P s∧∀ad,P=some ad→0<s.length→X ad.block
structure lE(w:World)(X:Nat→Prop)(vs:List Value)(ss:List (List Int)):Prop where
 len:vs.length=ss.length
 at_:∀(j:Nat) (p:Value) (t:List Int),vs[j]?=some p→ss[j]?=some t→Vl w X p t
def iA(w:World)(X:Nat→Prop)(A:Option Addr)(ss:List (List Int)):Prop:=
 ss.length≤9223372036854775807∧∃vs,lE w X vs ss∧(0<ss.length→∃ad,A=some ad∧ad.block<w.heap.size∧∀j u,vs[j]?=some u→w.cell? (ad.add j)=some u)
abbrev RdL(w:World)(A:Option Addr)(ss:List (List Int)):Prop:=iA w (fun _=>True) A ss
section
variable{w w':World}{X Y:Nat→Prop}{A:Option Addr}{ts us:List (List Int)}{vs zs:List Value}
theorem Vl.mono{p:Value}{t:List Int}(h:Vl w X p t)(hk:Kp w w')(hx:∀k,k<w.heap.size→X k→Y k):Vl w' Y p t:=by
 obtain⟨P,c,e,c1,c2,r,x⟩:=h;refine⟨P,c,e,c1,c2,r.kp hk,fun ad h1 h2=>hx _ ?_ (x ad h1 h2)⟩;obtain⟨ad',e',hb,_⟩:=r.2 h2;rw[h1]at e';injection e' with e';subst e';exact hb
theorem lE.mono(h:lE w X vs ts)(hk:Kp w w')(hx:∀k,k<w.heap.size→X k→Y k):lE w' Y vs ts:=⟨h.len,fun j p t h1 h2=>(h.at_ j p t h1 h2).mono hk hx⟩
theorem lE.bU(w:World)(X:Nat→Prop):lE w X [] []:=⟨rfl,fun j p t h=>by simp at h⟩
theorem lE.cons{p:Value}{t:List Int}(h:Vl w X p t)(g:lE w X vs ts):lE w X (p::vs) (t::ts):=by
 refine⟨by rw[List.length_cons,List.length_cons,g.len],fun j q u h1 h2=>?_⟩
 cases j with
 |zero=>
  have e1:p=q:=by simpa using h1
  have e2:t=u:=by simpa using h2
  subst e1 e2;exact h
 |succ j=>exact g.at_ j q u (by simpa using h1) (by simpa using h2)
theorem lE.app(h:lE w X vs ts)(g:lE w X zs us):lE w X (vs++zs) (ts++us):=by
 refine⟨by rw[List.length_append,List.length_append,h.len,g.len],fun j p t h1 h2=>?_⟩;rw[List.getElem?_append]at h1 h2;rw[h.len]at h1
 split at h1
 ·rename_i hj;rw[if_pos hj]at h2;exact h.at_ j p t h1 h2
 ·rename_i hj;rw[if_neg hj]at h2;exact g.at_ _ p t h1 h2
theorem iA.mono(h:iA w X A ts)(hk:Kp w w')(hx:∀k,k<w.heap.size→X k→Y k):iA w' Y A ts:=by
 obtain⟨h1,vs,h2,h3⟩:=h;exact⟨h1,vs,h2.mono hk hx,fun hp=>by
  obtain⟨ad,e,hb,hc⟩:=h3 hp;exact⟨ad,e,Nat.lt_of_lt_of_le hb hk.size,fun j u hu=>(hk.cell (by rw[ah];exact hb)).trans (hc j u hu)⟩⟩
theorem iA.kp(h:iA w X A ts)(hk:Kp w w'):iA w' X A ts:=h.mono hk fun _ _ x=>x
theorem iA.all(h:iA w X A ts):RdL w A ts:=h.mono (Kp.refl _) fun _ _ _=>trivial
theorem iA.bU(w:World)(X:Nat→Prop)(A:Option Addr):iA w X A []:=⟨by simp,[],lE.bU _ _,fun h=>absurd h (by simp)⟩
theorem iA.at_(h:iA w X A ts){k:Nat}(hk:k<ts.length):∃ad t P c,A=some ad∧ad.block<w.heap.size∧ts[k]?=some t∧w.cell? (ad.add k)=some (.slice P t.length c)∧Rd w P t∧t.length≤c∧c≤9223372036854775807∧∀ad,P=some ad→0<t.length→X ad.block:=by
 obtain⟨_,vs,hv,hh⟩:=h;obtain⟨ad,e,hb,hc⟩:=hh (by omega);have hl:=hv.len;have e1:vs[k]?=some vs[k]:=List.getElem?_eq_getElem (by omega);have e2:ts[k]?=some ts[k]:=List.getElem?_eq_getElem hk;obtain⟨P,c,ep,c1,c2,r,x⟩:=hv.at_ k _ _ e1 e2;exact⟨ad,ts[k],P,c,e,hb,e2,by rw[hc _ _ e1,ep],r,c1,c2,x⟩
theorem iA.lit(h:lE w X vs ts)(hl:ts.length≤1000)(ty:TypeId):iA (w.alloc (.cells vs.toArray ty)) X (some ⟨w.heap.size,0,none⟩) ts:=
 ⟨by omega,vs,h.mono (Kp.af _ _) (fun _ _ x=>x),fun hp=>⟨_,rfl,by simp,fun j u hu=>by
  rw[Go.WideShapes.add_plain,Nat.zero_add,World.cell?_alloc_at _ ty _ j rfl];simpa using hu⟩⟩
theorem iA.one{P:Option Addr}{s:List Int}{c:Nat}(h:Rd w P s)(h1:s.length≤c)(h2:c≤9223372036854775807)(x:∀ad,P=some ad→0<s.length→X ad.block)(ty:TypeId):iA (w.alloc (.cells #[.slice P s.length c] ty)) X (some ⟨w.heap.size,0,none⟩) [s]:=
 iA.lit (lE.cons ⟨P,c,rfl,h1,h2,h,x⟩ (lE.bU _ _)) (by simp) ty
end
end Go.Proofs.YtdfknefcgijhmaaGreat
