import Derived.Test.YtdfknefcgijhmaaGreatTk
import Derived.Test.YtdfknefcgijhmaaGreatEvX
import Derived.Test.YtdfknefcgijhmaaGreatGrAll
import Derived.Test.YtdfknefcgijhmaaGreatImMem
import Derived.ProofKit
import Derived.OpenShut
import Derived.Carry
import Derived.Deep.Strs
import Derived.Lib.SmallJoins
set_option maxHeartbeats 16000000
set_option maxRecDepth 100000
set_option linter.unusedVariables false
set_option linter.unusedSimpArgs false
namespace Go.Proofs.YtdfknefcgijhmaaGreat
open Go.RowKit Go.Proofs.ShM Go.Proofs.GrM Go.Proofs.InM Go.Proofs.ImM Go.Proofs.EvM
open Go.ChangeShapes Go.WideShapes Go.ChangeAt
theorem WY:Tryz.prog.cellsOf 29=1:=by kernel_rfl
theorem Xx:Tryz.prog.cellsOf 31=2:=by kernel_rfl
theorem Xr:Tryz.prog.cellsOf 37=3:=by kernel_rfl
section
variable{H:Type}{enc:TypeId×Value→H}
theorem WO{W:World}{v:Value}{n:Nat}{y:DataW H×List MemPlace}(h:DataW.trod enc Tryz.prog W 0 (fun _=>true) true n 29 [v]=some y):
  ∃A c,∃xs:List Int,v= .slice A xs.length c∧Rd W A xs∧xs.length≤c∧c≤9223372036854775807∧W64 xs:=by
 rcases open_ints Tryz.underlying29 Tryz.underlying3 Cu h with⟨hcs,_⟩|⟨a',len,cap,zs,hcs,_,hl,hm,hz,_,hcell,hwf⟩
 ·injection hcs with hcs _
  exact⟨none,0,[],hcs,Rd.nil _ _,by simp,by omega,fun _ h=>by cases h⟩
 ·injection hcs with hcs _
  simp only[if_true]at hz
  have ln:(zs.take len).length=len:=by simp;omega
  have hm':cap≤9223372036854775807:=by unfold maxLen at hm;omega
  refine⟨some a',cap,zs.take len,by rw[ln];exact hcs,⟨by omega,fun hp=>⟨a',rfl,?_,fun j u hj=>?_⟩⟩,by omega,hm',fun x hx=>Na (hwf x (List.mem_of_mem_take hx))⟩
  ·have:=yu (hcell 0 (by omega))
   rwa [ah]at this
  ·have hj':j<len:=by have:=(List.getElem?_eq_some_iff.1 hj).1;omega
   rw[hcell j (by omega)]
   rw[List.getElem?_take,if_pos hj']at hj
   simp[List.getD,hj]
theorem Yg{W:World}{c0 c1 c2:Value}{n:Nat}{y:DataW H×List MemPlace}(h:DataW.trod enc Tryz.prog W 0 (fun _=>true) true n 37 [c0,c1,c2]=some y):
  ∃t:Nd,Vn W (fun _=>True) (c0,c1,c2) t∧MV t:=by
 obtain⟨y0,y1,y2,m,_,_,h0,h1,h2⟩:=Go.Deep.trod_struct3 Tryz.underlying37 h
 rw[Cu]at h0
 rw[WY]at h1 h2
 obtain⟨op,e0,_,i0⟩:=DataW.trod_int (k:= .i64) Tryz.underlying3 h0
 obtain⟨A,c,a,e1,r1,l1,m1,i1⟩:=WO (v:=c1) h1
 obtain⟨B,d,b,e2,r2,l2,m2,i2⟩:=WO (v:=c2) h2
 have e0':c0= .int .i64 op:=by simpa using e0
 refine⟨(op,a,b),⟨A,c,B,d,by rw[e0',e1,e2],l1,m1,l2,m2,⟨r1,r2,fun _ _ _=>trivial,fun _ _ _=>trivial⟩⟩,?_,i1,i2⟩
 intro x hx
 have:x=op:=by simpa using hx
 rw[this];exact Na i0
theorem Yl{W:World}{a:Option Addr}{n c:Nat}{d:DataW H}{p:List MemPlace}(h:DataW.Trod enc Tryz.prog W 0 (fun _=>true) true 27 (.slice a n c) d p):
  ∃ts:List Nd,n=ts.length∧RdG W a ts∧(∀t∈ts,MV t)∧ts.length≤c∧c≤9223372036854775807:=by
 obtain⟨fuel,hf⟩:=h
 rcases DataW.trod_slice Tryz.underlying27 hf with⟨hcs,_⟩|⟨a',len,cap,elems,rest,m,_,hcs,_,_,hl,hm,hlen,hel,_,_⟩
 ·simp[Value.cells]at hcs
  obtain⟨rfl,rfl,rfl⟩:=hcs
  exact⟨[],rfl,RdN.bU _ _ _,(fun _ h=>by cases h),by simp,by omega⟩
 ·simp[Value.cells]at hcs
  obtain⟨rfl,rfl,rfl⟩:=hcs
  have hm':c≤9223372036854775807:=by unfold maxLen at hm;omega
  rw[Xr]at hel
  have each:∀i:Nat,i<n→∃(q:V3) (t:Nd),W.cell? (a'.add (i*3))=some q.1∧W.cell? (a'.add (i*3+1))=some q.2.1∧W.cell? (a'.add (i*3+2))=some q.2.2∧Vn W (fun _=>True) q t∧MV t:=by
   intro i hi
   have h1:=hel i hi
   rw[List.getElem?_eq_getElem (by omega),Option.bind_eq_some_iff]at h1
   obtain⟨cs,hc,ht⟩:=h1
   obtain⟨_,hl2,hcc⟩:=World.cells?_some hc
   match cs,hl2 with
   | [c0,c1,c2],_=>
    obtain⟨t,hv,g1⟩:=Yg ht
    refine⟨(c0,c1,c2),t,?_,?_,?_,hv,g1⟩
    ·have:=hcc 0 (by omega)
     rw[Addr.add_add]at this
     simpa using this
    ·have:=hcc 1 (by omega)
     rw[Addr.add_add]at this
     simpa using this
    ·have:=hcc 2 (by omega)
     rw[Addr.add_add]at this
     simpa using this
  have hQ:∃f:Nat→V3×Nd,∀i,i<n→W.cell? (a'.add (i*3))=some (f i).1.1∧W.cell? (a'.add (i*3+1))=some (f i).1.2.1∧W.cell? (a'.add (i*3+2))=some (f i).1.2.2∧Vn W (fun _=>True) (f i).1 (f i).2∧MV (f i).2:=by
   refine⟨fun i=>if hi:i<n then((each i hi).choose,(each i hi).choose_spec.choose)else((.nilIface, .nilIface, .nilIface),(0,[],[])),fun i hi=>?_⟩
   simp only[dif_pos hi]
   exact(each i hi).choose_spec.choose_spec
  obtain⟨f,hf⟩:=hQ
  have lt:((List.range n).map fun i=>(f i).2).length=n:=by simp
  refine⟨(List.range n).map fun i=>(f i).2,lt.symm,⟨by omega,(List.range n).map fun i=>(f i).1,⟨by simp,fun j p t h1 h2=>?_⟩,fun hp=>⟨a',rfl,?_,fun j u hu=>?_⟩⟩,fun t ht=>?_,by omega,hm'⟩
  ·rw[List.getElem?_map,Option.map_eq_some_iff]at h1 h2
   obtain⟨i,h3,rfl⟩:=h1
   obtain⟨i',h4,rfl⟩:=h2
   obtain⟨h5,h6⟩:=List.getElem?_eq_some_iff.1 h3
   obtain⟨h7,h8⟩:=List.getElem?_eq_some_iff.1 h4
   simp at h6 h8 h5
   subst h6 h8
   exact(hf j h5).2.2.2.1
  ·have:=yu (hf 0 (by omega)).1
   rwa [ah]at this
  ·have hfl:∀j,j<n→(dx ((List.range n).map fun i=>(f i).1))[j*3]?=some (f j).1.1∧(dx ((List.range n).map fun i=>(f i).1))[j*3+1]?=some (f j).1.2.1∧(dx ((List.range n).map fun i=>(f i).1))[j*3+2]?=some (f j).1.2.2:=fun j hj=>wF (by simp[hj])
   have hjl:j<n*3:=by have:=(List.getElem?_eq_some_iff.1 hu).1;rw[iq]at this;simpa using this
   obtain⟨i,hi⟩:∃i,j=i*3∨j=i*3+1∨j=i*3+2:=⟨j/3,by omega⟩
   rcases hi with rfl|rfl|rfl
   ·rw[(hfl i (by omega)).1]at hu
    rw[(hf i (by omega)).1];exact hu
   ·rw[(hfl i (by omega)).2.1]at hu
    rw[(hf i (by omega)).2.1];exact hu
   ·rw[(hfl i (by omega)).2.2]at hu
    rw[(hf i (by omega)).2.2.1];exact hu
  ·rw[List.mem_map]at ht
   obtain⟨i,hi,rfl⟩:=ht
   exact(hf i (by simpa using hi)).2.2.2.2
theorem XG{W:World}{c0 c1:Value}{n:Nat}{y:DataW H×List MemPlace}(h:DataW.trod enc Tryz.prog W 0 (fun _=>true) true n 31 [c0,c1]=some y):
  ∃t:T,Vt W (fun _=>True) (c0,c1) t∧N64 t.1∧N64 t.2:=by
 obtain⟨y0,y1,m,_,_,h0,h1⟩:=trod_struct2 Tryz.underlying31 h
 rw[WY]at h0 h1
 obtain⟨A,c,s,e0,r0,l0,m0,i0⟩:=WO (v:=c0) h0
 obtain⟨B,d,xs,e1,r1,l1,m1,i1⟩:=WO (v:=c1) h1
 exact⟨(s,xs),⟨A,c,B,d,by rw[e0,e1],⟨r0,r1⟩,fun _ _ _=>trivial,fun _ _ _=>trivial,⟨l0,m0⟩,⟨l1,m1⟩⟩,i0,i1⟩
theorem Yt{W:World}{r:Reach}{b:Nat}{v:Value}{d:DataW H}{p:List MemPlace}(hv:Value.okWide Tryz.prog W r b 31 v)(h:DataW.Trod enc Tryz.prog W 0 (fun _=>true) true 31 v d p):
  ∃A n c B m e,v= .agg #[.slice A n c, .slice B m e]∧∃t:T,n=t.1.length∧m=t.2.length∧TRc W A c B e t∧(N64 t.1∧N64 t.2):=by
 obtain⟨v0,v1,y0,y1,n,rfl,_,_,h0,h1⟩:=Go.Joins.open_agg2 Tryz.underlying31 (by kernel_rfl) (by kernel_rfl) hv h
 obtain⟨A,c,s,rfl,r1,l1,m1,i1⟩:=WO h0
 obtain⟨B,e,xs,rfl,r2,l2,m2,i2⟩:=WO h1
 exact⟨A,s.length,c,B,xs.length,e,rfl,(s,xs),rfl,rfl,⟨⟨r1,r2⟩,⟨l1,m1⟩,⟨l2,m2⟩⟩,i1,i2⟩
theorem Yk{W:World}{a:Option Addr}{n c:Nat}{d:DataW H}{p:List MemPlace}(h:DataW.Trod enc Tryz.prog W 0 (fun _=>true) true 23 (.slice a n c) d p):
  ∃ts:List T,n=ts.length∧RdT W a ts∧(∀t∈ts,N64 t.1∧N64 t.2)∧ts.length≤c∧c≤9223372036854775807:=by
 obtain⟨fuel,hf⟩:=h
 rcases DataW.trod_slice Tryz.underlying23 hf with⟨hcs,_⟩|⟨a',len,cap,elems,rest,m,_,hcs,_,_,hl,hm,hlen,hel,_,_⟩
 ·simp[Value.cells]at hcs
  obtain⟨rfl,rfl,rfl⟩:=hcs
  exact⟨[],rfl,RdX.bU _ _ _,(fun _ h=>by cases h),by simp,by omega⟩
 ·simp[Value.cells]at hcs
  obtain⟨rfl,rfl,rfl⟩:=hcs
  have hm':c≤9223372036854775807:=by unfold maxLen at hm;omega
  rw[Xx]at hel
  have each:∀i:Nat,i<n→∃(q:V2) (t:T),W.cell? (a'.add (i*2))=some q.1∧W.cell? (a'.add (i*2+1))=some q.2∧Vt W (fun _=>True) q t∧N64 t.1∧N64 t.2:=by
   intro i hi
   have h1:=hel i hi
   rw[List.getElem?_eq_getElem (by omega),Option.bind_eq_some_iff]at h1
   obtain⟨cs,hc,ht⟩:=h1
   obtain⟨_,hl2,hcc⟩:=World.cells?_some hc
   match cs,hl2 with
   | [c0,c1],_=>
    obtain⟨t,hv,g1,g2⟩:=XG ht
    refine⟨(c0,c1),t,?_,?_,hv,g1,g2⟩
    ·have:=hcc 0 (by omega)
     rw[Addr.add_add]at this
     simpa using this
    ·have:=hcc 1 (by omega)
     rw[Addr.add_add]at this
     simpa using this
  have hQ:∃f:Nat→V2×T,∀i,i<n→W.cell? (a'.add (i*2))=some (f i).1.1∧W.cell? (a'.add (i*2+1))=some (f i).1.2∧Vt W (fun _=>True) (f i).1 (f i).2∧N64 (f i).2.1∧N64 (f i).2.2:=by
   refine⟨fun i=>if hi:i<n then((each i hi).choose,(each i hi).choose_spec.choose)else((.nilIface, .nilIface),([],[])),fun i hi=>?_⟩
   simp only[dif_pos hi]
   exact(each i hi).choose_spec.choose_spec
  obtain⟨f,hf⟩:=hQ
  have lt:((List.range n).map fun i=>(f i).2).length=n:=by simp
  refine⟨(List.range n).map fun i=>(f i).2,lt.symm,⟨by omega,(List.range n).map fun i=>(f i).1,⟨by simp,fun j p t h1 h2=>?_⟩,fun hp=>⟨a',rfl,?_,fun j u hu=>?_⟩⟩,fun t ht=>?_,by omega,hm'⟩
  ·rw[List.getElem?_map,Option.map_eq_some_iff]at h1 h2
   obtain⟨i,h3,rfl⟩:=h1
   obtain⟨i',h4,rfl⟩:=h2
   obtain⟨h5,h6⟩:=List.getElem?_eq_some_iff.1 h3
   obtain⟨h7,h8⟩:=List.getElem?_eq_some_iff.1 h4
   simp at h6 h8 h5
   subst h6 h8
   exact(hf j h5).2.2.1
  ·have:=yu (hf 0 (by omega)).1
   rwa [ah]at this
  ·have hfl:∀j,j<n→(flat ((List.range n).map fun i=>(f i).1))[j*2]?=some (f j).1.1∧(flat ((List.range n).map fun i=>(f i).1))[j*2+1]?=some (f j).1.2:=fun j hj=>uT (by simp[hj])
   have hjl:j<n*2:=by have:=(List.getElem?_eq_some_iff.1 hu).1;rw[dO]at this;simpa using this
   obtain⟨i,hi⟩:∃i,j=i*2∨j=i*2+1:=⟨j/2,by omega⟩
   rcases hi with rfl|rfl
   ·rw[(hfl i (by omega)).1]at hu
    rw[(hf i (by omega)).1];exact hu
   ·rw[(hfl i (by omega)).2]at hu
    rw[(hf i (by omega)).2.1];exact hu
  ·rw[List.mem_map]at ht
   obtain⟨i,hi,rfl⟩:=ht
   exact(hf i (by simpa using hi)).2.2.2
end
end Go.Proofs.YtdfknefcgijhmaaGreat
