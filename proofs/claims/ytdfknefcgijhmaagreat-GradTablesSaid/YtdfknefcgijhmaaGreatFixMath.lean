import Derived.Test.YtdfknefcgijhmaaGreatTk
set_option maxHeartbeats 16000000
set_option maxRecDepth 100000
set_option linter.unusedVariables false
set_option linter.unusedSimpArgs false
namespace Go.Proofs.cF
def inR(n:Int):Bool:=decide (-9223372036854775808≤n∧n≤9223372036854775807)
def put(n:Int):Int×Int:=if inR n=true then(n,0)else(0,10)
def cY(a b:Int):Int×Int:=put (a+b)
def DK(a b:Int):Int×Int:=put (a-b)
def dX(a b:Int):Int×Int:=put (a*b/4294967296)
def nE(a b:Int):Int×Int:=if b=0 then(0,11)else put (Int.fdiv (a*4294967296) b)
def gV(n k:Int):Int×Int:=if k<0 then(n/((2^(-k).toNat:Nat):Int),0)else put (n*((2^k.toNat:Nat):Int))
def NU(a:Int):Int×Int:=gV (4294967296+a%4294967296) (a/4294967296)
def fu(a:Int):Int×Int:=gV 4294967296 (a/4294967296)
def tv(n r:Nat):Prop:=r*r≤n∧n<(r+1)*(r+1)
theorem cO{n:Int}(h1: -9223372036854775808≤n)(h2:n≤9223372036854775807):put n=(n,0):=by
 unfold put inR;rw[if_pos (by simp;omega)]
theorem fw{n:Int}(h:n< -9223372036854775808∨9223372036854775807<n):put n=(0,10):=by
 unfold put inR;rw[if_neg (by simp;omega)]
theorem dN(n:Int):(-9223372036854775808≤n∧n≤9223372036854775807∧put n=(n,0))∨((n< -9223372036854775808∨9223372036854775807<n)∧put n=(0,10)):=by
 by_cases h: -9223372036854775808≤n∧n≤9223372036854775807
 ·exact .inl ⟨h.1,h.2,cO h.1 h.2⟩
 ·exact .inr ⟨by omega,fw (by omega)⟩
theorem Od{n k:Nat}(h:n%2^(k+1)=0):n|||2^k=n+2^k:=by
 obtain⟨q,rfl⟩:∃q,n=2^(k+1)*q:=⟨n/2^(k+1),by have:=Nat.div_add_mod n (2^(k+1));omega⟩
 have:=Nat.two_pow_add_eq_or_of_lt (i:=k+1) (b:=2^k) (Nat.pow_lt_pow_right (by omega) (by omega)) q;omega
theorem vS{n k:Nat}(h:n%2^(k+1)=0):n%2^k=0:=by
 have e:2^(k+1)=2^k*2:=Nat.pow_succ ..;rw[e]at h;exact Nat.mod_eq_zero_of_dvd (Nat.dvd_trans (Nat.dvd_mul_right _ _) (Nat.dvd_of_mod_eq_zero h))
theorem rY{n k:Nat}(h:n%2^(k+1)=0):(n+2^k)%2^k=0:=by
 rw[Nat.add_mod_right];exact vS h
def tY(W:Nat):Nat→Nat→Nat
 |0,n=>n
 |k+1,n=>tY W k (if W<(n+2^k)*(n+2^k)then n else n+2^k)
def sqR(W:Nat):Nat:=tY W 48 0
structure JA(W k n:Nat):Prop where
 mod:n%2^k=0
 lt:n+2^k≤281474976710656
 eq:tY W k n=sqR W
theorem Q7(W:Nat):JA W 48 0:=⟨by omega,by omega,rfl⟩
theorem rno{W k n:Nat}(i:JA W (k+1) n)(h:W<(n+2^k)*(n+2^k)):JA W k n:=by
 obtain⟨a,b,c⟩:=i;have e:2^(k+1)=2^k*2:=Nat.pow_succ ..;refine⟨vS a,by omega,?_⟩;rw[←c,tY,if_pos h]
theorem UI{W k n:Nat}(i:JA W (k+1) n)(h:¬W<(n+2^k)*(n+2^k)):JA W k (n+2^k):=by
 obtain⟨a,b,c⟩:=i;have e:2^(k+1)=2^k*2:=Nat.pow_succ ..;refine⟨rY a,by omega,?_⟩;rw[←c,tY,if_neg h]
theorem pF(W:Nat):∀k n:Nat,n*n≤W→W<(n+2^k)*(n+2^k)→tv W (tY W k n)
 |0,n,h1,h2=>⟨h1,h2⟩
 |k+1,n,h1,h2=>by
  have e:2^(k+1)=2^k+2^k:=by rw[Nat.pow_succ];omega
  rw[tY];by_cases h:W<(n+2^k)*(n+2^k)
  ·rw[if_pos h];exact pF W k n h1 h
  ·rw[if_neg h];exact pF W k (n+2^k) (by omega) (by rw[Nat.add_assoc,←e];exact h2)
theorem Nv{W:Nat}(h:W<79228162514264337593543950336):tv W (sqR W):=pF W 48 0 (by omega) (by omega)
theorem IB{W:Nat}(h:W<79228162514264337593543950336):sqR W<281474976710656:=by
 obtain⟨h1,_⟩:=Nv h;rcases Nat.lt_or_ge (sqR W) 281474976710656 with c|c
 ·exact c
 ·have:=Nat.mul_le_mul c c;omega
def zV(a:Int):Int×Int:=if a<0 then(0,12)else((sqR (a.natAbs*4294967296):Nat),0)
theorem natAbs_cast(a:Int):((a.natAbs:Nat):Int)=if a<0 then -a else a:=by split<;>omega
theorem Bu(a b:Int):a*b=if(decide (a<0) !=decide (b<0))=true then -((a.natAbs*b.natAbs:Nat):Int)else((a.natAbs*b.natAbs:Nat):Int):=by
 rw[Int.natCast_mul];by_cases ha:a<0<;>by_cases hb:b<0<;>simp only[ha,hb,decide_true,decide_false]<;>simp only[natAbs_cast,ha,hb,if_true,if_false]<;>simp[Int.neg_mul,Int.mul_neg]
theorem jo(n d:Nat)(hd:0<d): -(n:Int)/(d:Int)= -(((n+(d-1))/d:Nat):Int):=by
 have h1:=Nat.div_add_mod (n+(d-1)) d;have h2:=Nat.mod_lt (n+(d-1)) hd;have h3:=Int.mul_ediv_add_emod (-(n:Int)) (d:Int);have h4:=Int.emod_nonneg (-(n:Int)) (b:=(d:Int)) (by omega);have h5:=Int.emod_lt_of_pos (-(n:Int)) (b:=(d:Int)) (by omega);generalize hq:(n+(d-1))/d=q at *;generalize hr:(n+(d-1))%d=r at *;generalize hp: -(n:Int)/(d:Int)=p at *;generalize hs: -(n:Int)%(d:Int)=s at *;have h6:(d:Int)*(q:Int)+(r:Int)=(n:Int)+((d:Int)-1):=by
  have:((d*q+r:Nat):Int)=((n+(d-1):Nat):Int):=by rw[h1]
  rw[Int.natCast_add,Int.natCast_mul]at this;omega
 have h7:(d:Int)*(p+(q:Int))=(d:Int)-1-r-s:=by rw[Int.mul_add];omega
 have h8:p+(q:Int)=0:=by
  rcases Int.lt_trichotomy (p+(q:Int)) 0 with c|c|c
  ·have:=Int.mul_le_mul_of_nonneg_left (show p+(q:Int)≤ -1 by omega) (show(0:Int)≤(d:Int) by omega);omega
  ·exact c
  ·have:=Int.mul_le_mul_of_nonneg_left (show 1≤p+(q:Int) by omega) (show(0:Int)≤(d:Int) by omega);omega
 omega
end Go.Proofs.cF
