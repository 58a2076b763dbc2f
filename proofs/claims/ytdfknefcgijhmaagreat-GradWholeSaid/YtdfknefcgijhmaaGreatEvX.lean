import Derived.Test.YtdfknefcgijhmaaGreatTk
import Derived.Test.YtdfknefcgijhmaaGreatEvC
import Derived.ProofKit
import Derived.OpenShut
import Derived.Carry
import Derived.Deep.Strs
import Derived.Lib.SmallJoins
set_option maxHeartbeats 16000000
set_option maxRecDepth 100000
set_option linter.unusedVariables false
set_option linter.unusedSimpArgs false
namespace Go.Proofs.YtdfknefcgijhmaaGreat
open Go.RowKit Go.Proofs.ShM Go.Proofs.GrM Go.Proofs.InM Go.Proofs.ImM Go.Proofs.EvM
theorem Aq{w:World}{P Q R S:Option Addr}{t u:T}{a b c d:Nat}(h:TRc w P a Q b t)(g:TRc w R c S d u)(ty:TypeId):
  RdT (w.alloc (.cells #[.slice P t.1.length a, .slice Q t.2.length b, .slice R u.1.length c, .slice S u.2.length d] ty)) (some ⟨w.heap.size,0,none⟩) [t,u]:=by
 refine⟨by simp,[(.slice P t.1.length a, .slice Q t.2.length b),(.slice R u.1.length c, .slice S u.2.length d)],⟨rfl,fun j p t' h1 h2=>?_⟩,fun _=>⟨_,rfl,by simp,fun j x hu=>?_⟩⟩
 ·match j with
  |0=>
   have e1:(Value.slice P t.1.length a,Value.slice Q t.2.length b)=p:=by simpa using h1
   have e2:t=t':=by simpa using h2
   subst e1 e2
   exact⟨P,a,Q,b,rfl,h.r.af _,fun _ _ _=>trivial,fun _ _ _=>trivial,h.c1,h.c2⟩
  |1=>
   have e1:(Value.slice R u.1.length c,Value.slice S u.2.length d)=p:=by simpa using h1
   have e2:u=t':=by simpa using h2
   subst e1 e2
   exact⟨R,c,S,d,rfl,g.r.af _,fun _ _ _=>trivial,fun _ _ _=>trivial,g.c1,g.c2⟩
  |j+2=>simp at h1
 ·rw[Go.WideShapes.add_plain,Nat.zero_add,World.cell?_alloc_at _ ty _ j rfl]
  have:(flat [(Value.slice P t.1.length a,Value.slice Q t.2.length b),(Value.slice R u.1.length c,Value.slice S u.2.length d)])[j]?= #[Value.slice P t.1.length a,Value.slice Q t.2.length b,Value.slice R u.1.length c,Value.slice S u.2.length d][j]?:=by simp[flat]
  rw[←this];exact hu
theorem cx{w:World}{X:Nat→Prop}{A:Option Addr}{ts:List T}(h:RdX w X A ts){k:Nat}{t:T}(ht:ts[k]?=some t):∃ad P c Q d,A=some ad∧ad.block<w.heap.size∧w.cell? (ad.add (k*2))=some (.slice P t.1.length c)∧w.cell? ⟨(ad.add (k*2)).block,(ad.add (k*2)).off+1,none⟩=some (.slice Q t.2.length d)∧TRc w P c Q d t:=by
 obtain⟨ad,u,P,c,Q,d,e,hb,hu,h1,h2,r,_,_,b1,b2⟩:=h.DS (List.getElem?_eq_some_iff.1 ht).1
 rw[ht]at hu
 injection hu with hu
 subst hu
 exact⟨ad,P,c,Q,d,e,hb,h1,h2,r,b1,b2⟩
open Go.ChangeShapes Go.WideShapes Go.ChangeAt
section
variable{H:Type}{enc:TypeId×Value→H}
theorem Na{n:Int}(h:(Lit.int .i64 n).wf=true): -9223372036854775808≤n∧n≤9223372036854775807:=by
 simp[Lit.wf,IntKind.min,IntKind.max,IntKind.signed,IntKind.bits]at h
 omega
end
end Go.Proofs.YtdfknefcgijhmaaGreat
