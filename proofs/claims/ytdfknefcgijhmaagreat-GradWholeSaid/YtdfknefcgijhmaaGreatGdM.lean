import Derived.Test.YtdfknefcgijhmaaGreatTk
import Derived.Test.YtdfknefcgijhmaaGreatVjM
set_option maxHeartbeats 16000000
set_option maxRecDepth 100000
set_option linter.unusedVariables false
set_option linter.unusedSimpArgs false
namespace Go.Proofs.EvM
open Go.Proofs.ShM Go.Proofs.cF Go.Proofs.GrM Go.Proofs.InM Go.Proofs.ImM
def iS(a b:T):Ev:=if a.2.length=0 then(b,0)else tnE (bg 10 a.1 a.2 b.1 b.2)
def cI:List Int→List T→List T→List T×Int
 |a::l,b::bs,h=>if(iS (h.getD a.toNat eT) b).2=0 then cI l bs (h.set a.toNat (iS (h.getD a.toNat eT) b).1)else([],(iS (h.getD a.toNat eT) b).2)
 | [],_,h=>(h,0)
 |_::_,[],h=>(h,0)
def Kq(n:Nd)(hang fD:List T)(i:Nat):Ev:=iS (fD.getD (n.2.2.getD 0 0).toNat eT) (hang.getD i eT)
def bkG(n:Nd)(vals hang:List T)(i:Nat):List T×Int:=cU n.1 n.2.2 (cq vals n.2.1) (vals.getD i eT) (hang.getD i eT)
def dD(n:Nd)(vals hang fD:List T)(i:Nat):(List T×List T)×Int:=
 if n.1=2 then(if(Kq n hang fD i).2=0 then((hang,fD.set (n.2.2.getD 0 0).toNat (Kq n hang fD i).1),0)else(([],[]),(Kq n hang fD i).2))
 else if(bkG n vals hang i).2=0 then(if(cI n.2.1 (bkG n vals hang i).1 hang).2=0 then(((cI n.2.1 (bkG n vals hang i).1 hang).1,fD),0)else(([],[]),(cI n.2.1 (bkG n vals hang i).1 hang).2))
 else(([],[]),(bkG n vals hang i).2)
def gY(l:List Nd)(vals:List T)(live:List Int):Nat→List T→List T→List T×Int×Int
 |0,_,fD=>(fD,-1,0)
 |i+1,hang,fD=>if live.contains (i:Int)=false then gY l vals live i hang fD else
   if(dD (l.getD i nd0) vals hang fD i).2=0 then gY l vals live i (dD (l.getD i nd0) vals hang fD i).1.1 (dD (l.getD i nd0) vals hang fD i).1.2
   else([],(i:Int),(dD (l.getD i nd0) vals hang fD i).2)
def eY(vals:List T):Nat→List Nd→List T→List T
 |_,[],g=>g
 |i,n::l,g=>eY vals (i+1) l (if n.1=2∧(g.getD (n.2.2.getD 0 0).toNat eT).2.length=0 then g.set (n.2.2.getD 0 0).toNat (tnE (dm (vals.getD i eT).1 0)).1 else g)
def qx(l:List Nd)(vals:List T):List T:=(List.replicate l.length eT).set (l.length-1) (tnE (dm (vals.getD (l.length-1) eT).1 4294967296)).1
def dB(l:List Nd)(vals:List T):List T×Int×Int:=gY l vals (fW l) l.length (qx l vals) (List.replicate 8 eT)
def jE(l:List Nd)(inp:T)(ps:List T):List T×Int×Int×Int:=
 if(fI l inp ps).2.2≠0 then([],0,(fI l inp ps).2.1,(fI l inp ps).2.2)else
 if 1<((fI l inp ps).1.getD (l.length-1) eT).2.length then([],0,(l.length:Int)-1,150)else
 if(dB l (fI l inp ps).1).2.2≠0 then([],0,(dB l (fI l inp ps).1).2.1,(dB l (fI l inp ps).1).2.2)else
 (eY (fI l inp ps).1 0 l (dB l (fI l inp ps).1).1,((fI l inp ps).1.getD (l.length-1) eT).2.getD 0 0,-1,0)
theorem m6{l:List Nd}{inp:T}{ps vals g:List T}{a:Int}(h:fI l inp ps=(vals,a,0))(h1:(vals.getD (l.length-1) eT).2.length=1)(hs:dB l vals=(g,-1,0)):
  jE l inp ps=(eY vals 0 l g,(vals.getD (l.length-1) eT).2.getD 0 0,-1,0):=by
 unfold jE
 rw[h,if_neg (by simp),if_neg (by show¬1<(vals.getD _ eT).2.length;omega)]
 show(if(dB l vals).2.2≠0 then _ else _)=_
 rw[hs,if_neg (by simp)]
theorem bV{inp:T}{ps:List T}{n:Nd}{l:List Nd}{acc:List T}{t:T}(h:bq n.1 n.2.2 (cq acc n.2.1) inp ps=(t,0)):evF inp ps (n::l) acc=evF inp ps l (acc++[t]):=by
 rw[evF,h,if_pos rfl]
open Go.Proofs.ShM Go.Proofs.cF Go.Proofs.GrM Go.Proofs.InM Go.Proofs.ImM
open Go.Proofs.ShM Go.Proofs.cF Go.Proofs.GrM Go.Proofs.InM Go.Proofs.ImM
open Go.Proofs.ShM Go.Proofs.cF Go.Proofs.GrM Go.Proofs.InM Go.Proofs.ImM
open Go.Proofs.ShM Go.Proofs.cF Go.Proofs.GrM Go.Proofs.InM Go.Proofs.ImM
end Go.Proofs.EvM
