import Derived.Test.YtdfknefcgijhmaaGreatGdMLWT
import Derived.Test.YtdfknefcgijhmaaGreatGdM
import Derived.Test.YtdfknefcgijhmaaGreatTk
import Derived.Test.YtdfknefcgijhmaaGreatVjM
set_option maxHeartbeats 16000000
set_option maxRecDepth 100000
set_option linter.unusedVariables false
set_option linter.unusedSimpArgs false
namespace Go.Proofs.EvM
open Go.Proofs.ShM Go.Proofs.cF Go.Proofs.GrM Go.Proofs.InM Go.Proofs.ImM
open Go.Proofs.ShM Go.Proofs.cF Go.Proofs.GrM Go.Proofs.InM Go.Proofs.ImM
open Go.Proofs.ShM Go.Proofs.cF Go.Proofs.GrM Go.Proofs.InM Go.Proofs.ImM
open Go.Proofs.ShM Go.Proofs.cF Go.Proofs.GrM Go.Proofs.InM Go.Proofs.ImM
theorem zH:∀(l:List Int) (x:Int) (k:Nat),l.length+k≤64→(∀y∈l,-1125899906842624≤y∧y≤1125899906842624)→ -(1125899906842624*(k:Int))≤x→x≤1125899906842624*(k:Int)→tkL cY x l=(x+l.sum,0)
 | [],x,_,_,_,_,_=>by simp[tkL]
 |y::l,x,k,hk,hb,h1,h2=>by
  obtain⟨b1,b2⟩:=hb y List.mem_cons_self
  rw[List.length_cons]at hk
  have he:cY x y=(x+y,0):=cO (by omega) (by omega)
  rw[jQ,he,if_pos rfl]
  have:=zH l (x+y) (k+1) (by omega) (fun z hz=>hb z (List.mem_cons_of_mem _ hz)) (by omega) (by omega)
  show tkL cY (x+y) l=_
  rw[this,List.sum_cons]
  congr 1
  omega
open Go.Proofs.ShM Go.Proofs.cF Go.Proofs.GrM Go.Proofs.InM Go.Proofs.ImM
theorem nZ{s d:List Int}(ho:okS s=true)(h:bO (s,d)=true)(ps:List T):bq 1 s [] (s,d) ps=((s,d),0):=by
 have hv:aF 1 s (shT [])=(s,0):=by
  unfold aF
  rw[if_pos ⟨by unfold gE aM;simp[ak,ho],by decide,rfl⟩]
  rfl
 unfold bq
 rw[if_neg (by simp),hv,if_pos rfl]
 show aV 1 s _ _ s (s,d) ps=_
 unfold aV
 rw[if_pos rfl]
 unfold bL
 rw[if_pos ⟨h,rfl⟩]
theorem nY{p:Int}{s d:List Int}(h0:0≤p∧p≤7)(ho:okS s=true)(h:bO (s,d)=true)(inp:T){ps:List T}(hp:xX ps p=(s,d)):bq 2 (p::s) [] inp ps=((s,d),0):=by
 have hv:aF 2 (p::s) (shT [])=(s,0):=by
  unfold aF
  rw[if_pos ⟨by unfold gE aM DM;simp[ak,ho,h0],by decide,rfl⟩]
  rfl
 unfold bq
 rw[if_neg (by simp),hv,if_pos rfl]
 show aV 2 (p::s) _ _ s inp ps=_
 unfold aV
 rw[if_neg (by decide),if_pos rfl]
 show bL (xX ps p) s=_
 rw[hp]
 unfold bL
 rw[if_pos ⟨h,rfl⟩]
theorem rR{s p r z:List Int}(h:aB s p=true)(hs:1≤s.length)(hz:iM s p 0=(r,z,0))(inp:T)(ps:List T)(hr:s.eraseIdx 0=r):bq 50 [0] [(s,p)] inp ps=((r,z),0)∧aF 50 [0] [s]=(r,0):=by
 have hv:aF 50 [0] [s]=(r,0):=by
  unfold aF
  rw[if_pos ⟨by decide+kernel,by rfl,by simp[(aW h).1]⟩]
  show aR 50 [0] s []=_
  unfold aR
  rw[if_neg (by decide),if_neg (by decide),if_neg (by decide),if_neg (by decide),if_neg (by decide),if_neg (by decide),if_neg (by decide)]
  unfold dQ
  have hax:eG s 0=true:=by unfold eG;exact decide_eq_true ⟨by omega,by omega⟩
  rw[if_neg (by decide),show([0]:List Int).getD 0 0=0 from rfl,if_neg (by rw[hax];decide),if_neg (by decide),if_neg (by decide)]
  show(s.eraseIdx 0,(0:Int))=_
  rw[hr]
 refine⟨?_,hv⟩
 unfold bq
 rw[if_neg (by simp[bO,h]),show shT [(s,p)]=[s]from rfl,hv,if_pos rfl]
 show aV 50 [0] (s,p) _ r inp ps=_
 unfold aV
 rw[if_neg (by decide),if_neg (by decide),if_neg (by decide),if_neg (by decide),if_neg (by decide)]
 unfold dY
 rw[if_neg (by decide),if_neg (by decide),if_neg (by decide),if_neg (by decide),if_neg (by decide),if_pos rfl]
 show tnE (iM s p 0)=_
 rw[hz];rfl
theorem wW{op:Int}{nums:List Int}{a b out g x y:T}{s:List Int}(h:bO a=true∧bO b=true∧bO out=true∧bO g=true)(hv:aF op nums [a.1,b.1]=(s,0))(ho:out.1=s)(hg:g.1=s)(hA:vjA op nums a b out g=(x.1,x.2,0))(hB:vjB op nums a b out g=(y.1,y.2,0)):cU op nums [a,b] out g=([x,y],0):=by
 unfold cU
 rw[if_neg (by simp[h]),show shT [a,b]=[a.1,b.1]from rfl,hv,if_neg (by simp),if_neg (by simp[ho,hg]),if_neg (by simp)]
 show(if(vjA op nums a b out g).2.2≠0 then _ else if _ then _ else if(vjB op nums a b out g).2.2≠0 then _ else([(tnE (vjA op nums a b out g)).1,(tnE (vjB op nums a b out g)).1],(0:Int)))=_
 rw[if_neg (by rw[hA];simp),if_neg (by simp),if_neg (by rw[hB];simp),hA,hB];rfl
theorem wY{op:Int}{nums:List Int}{a out g x:T}{s:List Int}(h:bO a=true∧bO out=true∧bO g=true)(hv:aF op nums [a.1]=(s,0))(ho:out.1=s)(hg:g.1=s)(hA:vjA op nums a eT out g=(x.1,x.2,0)):cU op nums [a] out g=([x],0):=by
 unfold cU
 rw[if_neg (by simp[h]),show shT [a]=[a.1]from rfl,hv,if_neg (by simp),if_neg (by simp[ho,hg]),if_neg (by simp)]
 show(if(vjA op nums a eT out g).2.2≠0 then _ else if _ then([(tnE (vjA op nums a eT out g)).1],(0:Int))else _)=_
 rw[if_neg (by rw[hA];simp),if_pos (by simp),hA];rfl
theorem tg{op:Int}{nums:List Int}{out g:T}{s:List Int}(h:bO out=true∧bO g=true)(hv:aF op nums []=(s,0))(ho:out.1=s)(hg:g.1=s):cU op nums [] out g=([],0):=by
 unfold cU
 rw[if_neg (by simp[h]),show shT []=[]from rfl,hv,if_neg (by simp),if_neg (by simp[ho,hg]),if_pos (show([]:List T).length=0 from rfl)]
end Go.Proofs.EvM
