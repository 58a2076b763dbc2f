import Derived.Test.YtdfknefcgijhmaaGreatTk
import Derived.Test.YtdfknefcgijhmaaGreatMmAll
set_option maxHeartbeats 16000000
set_option maxRecDepth 100000
set_option linter.unusedVariables false
set_option linter.unusedSimpArgs false
namespace Go.Proofs.ShM
open Go.Proofs.cF
section
variable{op:Int}{s xs:List Int}
theorem BL{f:Int→Int×Int}(h:(cL f xs).2=0){i:Nat}(hi:i<xs.length):f (xs.getD i 0)=((cL f xs).1.getD i 0,0):=by
 obtain⟨h1,h2⟩:=mR h
 rw[h2]
 have e:xs.getD i 0=xs[i]:=by simp[List.getD,List.getElem?_eq_getElem hi]
 rw[e]
 have h3:=fH.1 h1 xs[i] (List.getElem_mem hi)
 refine Prod.ext ?_ h3
 simp[List.getD,List.getElem?_map,List.getElem?_eq_getElem hi]
theorem pT(hop:20≤op∧op≤23)(h:aB s xs=true):dS op s xs=DR s (cL (tC op) xs):=by
 unfold dS DR
 rw[if_neg (by omega),if_neg (by simp[h])]
theorem rM(hop:20≤op∧op≤23)(h:aB s xs=false):dS op s xs=([],[],30):=by
 unfold dS
 rw[if_neg (by omega),if_pos h]
theorem pS(hop:op<20∨23<op):dS op s xs=([],[],1):=by unfold dS;rw[if_pos hop]
theorem ug(op:Int)(s xs:List Int)(h:(dS op s xs).2.2≠0):dS op s xs=([],[],(dS op s xs).2.2):=by
 by_cases hop:op<20∨23<op
 ·rw[pS hop]
 ·have CA:20≤op∧op≤23:=by omega
  cases h1:aB s xs with
  |false=>rw[rM CA h1]
  |true=>
   rw[pT CA h1]at h⊢
   unfold DR at *
   by_cases c:(cL (tC op) xs).2=0
   ·rw[if_pos c]at h;exact absurd rfl h
   ·rw[if_neg c]
theorem iE(hop:20≤op∧op≤23)(h:(dS op s xs).2.2=0):∃Z,aB s xs=true∧dS op s xs=(s,Z,0)∧Z.length=xs.length∧aB s Z=true∧∀i,i<xs.length→tC op (xs.getD i 0)=(Z.getD i 0,0):=by
 cases h1:aB s xs with
 |false=>rw[rM hop h1]at h;cases h
 |true=>
  rw[pT hop h1]at h
  obtain⟨z,e⟩:=sY h
  have hl:=jx z
  refine⟨_,rfl,by rw[pT hop h1,e],hl,?_,fun i hi=>BL z hi⟩
  obtain⟨ho,h2⟩:=aA.1 h1
  exact aA.2 ⟨ho,by rw[hl];exact h2⟩
end
theorem Ae{n k:Int}(h1:0≤n)(h2:n≤9223372036854775807): -9223372036854775808≤(gV n k).1∧(gV n k).1≤9223372036854775807:=by
 unfold gV
 split
 ·have hd:(0:Int)<((2^(-k).toNat:Nat):Int):=by have:=Nat.two_pow_pos (-k).toNat;omega
  have g1:=Int.ediv_nonneg h1 (Int.le_of_lt hd)
  have g2:=Int.ediv_le_self ((2^(-k).toNat:Nat):Int) h1
  dsimp only
  omega
 ·exact iR _
theorem Ky(op:Int){x:Int}(h: -9223372036854775808≤x∧x≤9223372036854775807): -9223372036854775808≤(tC op x).1∧(tC op x).1≤9223372036854775807:=by
 unfold tC
 split
 ·exact iR _
 ·split
  ·dsimp only;omega
  ·split
   ·unfold NU
    exact Ae (by omega) (by omega)
   ·split
    ·unfold zV
     split
     ·simp
     ·have hb:=IB (W:=x.natAbs*4294967296) (by omega)
      dsimp only
      omega
    ·simp
theorem Kv(op:Int)(s:List Int){xs:List Int}(hx:bN xs):bN (dS op s xs).2.1:=by
 by_cases hop:op<20∨23<op
 ·rw[pS hop];exact bN.bU
 ·have CA:20≤op∧op≤23:=by omega
  by_cases h:(dS op s xs).2.2=0
  ·obtain⟨Z,_,e,hl,_,hz⟩:=iE CA h
   rw[e]
   intro x hxz
   obtain⟨i,hi,rfl⟩:=List.mem_iff_getElem.1 hxz
   have h1:=hz i (by rw[←hl];exact hi)
   rw[show Z.getD i 0=Z[i] by simp[List.getD,List.getElem?_eq_getElem hi]]at h1
   have h3:=Ky op (fS hx i)
   rw[h1]at h3
   exact h3
  ·rw[ug op s xs h];exact bN.bU
theorem zQ{s:List Int}(h:okS s=true){i:Nat}(hi:i<(au s).toNat):(ew [] s i).toNat=0:=by
 have hf:cw [] s=true:=fU.2 (Jn.bU h)
 have:=bW h
 have h1:=q9 hf (p:=(i:Int)) (by omega) (by omega)
 have h2:ai []=1:=rfl
 omega
theorem tM{op x:Int}{s xs Z:List Int}(hop:10≤op∧op≤13)(h:aB s xs=true)(hl:Z.length=xs.length)(hz:∀i,i<xs.length→ic op (xs.getD i 0) x=(Z.getD i 0,0)):bg op s xs [] [x]=(s,Z,0):=by
 obtain⟨ho,hn,_,_⟩:=aW h
 have ht:aB [] [x]=true:=rfl
 refine zB hop h ht (fR.2 (Jn.bU ho).comm) (by rw[hl,hn]) fun i hi=>?_
 unfold atN
 rw[zR h hi,zQ ho hi]
 exact hz i (by omega)
end Go.Proofs.ShM
