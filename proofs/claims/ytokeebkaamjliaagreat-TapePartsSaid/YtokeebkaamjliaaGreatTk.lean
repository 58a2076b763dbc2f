/- Short forms: a region in any order, read by read; a letter for a term; a fact laid by. -/
import Derived.Test.YtokeebkaamjliaaGreatRows
import Derived.Deep.RegionHeld3
import Derived.Lib.Hide
set_option maxHeartbeats 16000000
set_option maxRecDepth 100000
set_option linter.unusedVariables false
set_option linter.unusedSimpArgs false
namespace Go.Proofs
theorem oM{p:Prop}(h:p:=by omega):p:=h
theorem dG{p:Prop}(h:p:=by decide):p:=h
theorem kM{p:Prop}(h:p:=by kernel_rfl):p:=h
theorem sC{p:Prop}(h:p:=by simp):p:=h
abbrev BU:=List Int
abbrev DV:=Option Addr
abbrev pX(b o:Nat):Value:=.pointer (some ⟨b,o,none⟩)
abbrev CJ:=Calls Tryz.prog
abbrev zS:Value:=.slice none 0 0
abbrev aaS:=@List.getD_eq_getElem?_getD
abbrev aaT:=@if_neg
abbrev aaU:=@List.getElem?_eq_some_iff
abbrev aaV:=@List.getElem?_eq_getElem
abbrev aaW:=@if_pos
abbrev aaX:=@Go.bodyPost_ret
abbrev aaY:=@Go.World.size_alloc
abbrev aaZ:=@Nat.le_refl
abbrev aa0:=@Array.getElem?_eq_some_iff
abbrev aa1:=@List.mem_of_getElem?
abbrev aa2:=@Int.toNat_natCast
abbrev aa3:=@Go.RowKit.Below.drew
abbrev aa4:=@Go.AllReadyH.cons
abbrev aa5:=@List.length_replicate
abbrev aa6:=@Nat.zero_le
abbrev aa7:=@List.getElem?_map
abbrev aa8:=@Go.wp_region_held_drew
abbrev aa9:=@Go.Calls.mono
abbrev abb:=@Bool.and_eq_true
abbrev abd:=@List.eq_nil_of_length_eq_zero
abbrev abe:=@Nat.le_succ
abbrev abf:=@List.length_append
abbrev abg:=@List.length_cons
abbrev abh:=@Go.WideShapes.add_plain
abbrev abj:=@Nat.lt_of_lt_of_le
abbrev abk:=@Go.run_underlying
abbrev abl:=@Go.AllReadyH.nil
abbrev abm:=@List.getElem?_range
abbrev abn:=@List.all_eq_true
abbrev abo:=@Go.wpAnyH_ready
abbrev abp:=@Go.wpAnyH_done
abbrev abq:=@Go.RowKit.Below.heap_setCell
abbrev abr:=@List.length_set
abbrev abt:=@List.getElem?_set_self
abbrev abu:=@Go.RowKit.Below.refl
abbrev abv:=@List.length_take
abbrev abw:=@Nat.zero_add
abbrev abx:=@Go.MapKept.run_getObj_map
abbrev aby:=@Nat.lt_succ_self
abbrev abz:=@List.getElem?_append_right
abbrev abA:=@List.length_map
abbrev abB:=@Go.World.cell?_alloc_at
abbrev abC:=@List.mem_iff_getElem?
abbrev abD:=@List.mem_cons
abbrev abE:=@decide_eq_true_iff
abbrev abF:=@List.mem_singleton
abbrev abG:=@Go.World.size_setCell
abbrev abH:=@Go.MapKept.run_checkKey
abbrev abI:=@List.length_singleton
abbrev abJ:=@decide_eq_true
abbrev abK:=@List.map_append
abbrev abL:=@Int.mul_le_mul_of_nonneg_left
abbrev abM:=@List.length_range
abbrev abN:=@List.mem_map
abbrev abO:=@List.getElem?_eq_none
abbrev abP:=@congrArg
abbrev abQ:=@decide_eq_false
abbrev abR:=@Option.some.inj
abbrev abS:=@List.take_of_length_le
abbrev abT:=@List.map_cons
abbrev abU:=@List.drop_eq_nil_of_le
abbrev abV:=@List.getElem?_replicate
abbrev abW:=@List.drop_eq_getElem_cons
abbrev abX:=@List.cons_append
abbrev abY:=@Int.mul_le_mul_of_nonneg_right
abbrev abZ:=@List.mem_range
abbrev ab0:=@Option.map_eq_some_iff
abbrev ab1:=@List.mem_cons_of_mem
abbrev ab2:=@List.getElem?_set_ne
abbrev ab3:=@Nat.le_trans
abbrev ab4:=@Int.natCast_mul
abbrev ab5:=@Option.getD_some
abbrev ab6:=@List.not_mem_nil
abbrev ab7:=@List.map_toArray
abbrev ab8:=@Array.setIfInBounds_comm
abbrev ab9:=@Go.World.cell?_setCells_out
abbrev acd:=@List.size_toArray
abbrev ace:=@Go.World.frozen?_setCell
abbrev acf:=@Nat.mul_le_mul
abbrev acg:=@List.mem_append
abbrev ach:=@List.all_cons
abbrev aci:=@Option.bind_some
abbrev acj:=@List.take_length
abbrev ack:=@List.map_nil
abbrev acn:=@Int.mul_comm
abbrev aco:=@List.getElem?_append_left
abbrev acp:=@Go.IntKind.wrap_i64
abbrev acq:=@beq_eq_false_iff_ne
abbrev acr:=@Go.Result.andThen_ok
abbrev acs:=@List.eq_of_mem_replicate
abbrev acu:=@List.nil_append
abbrev acv:=@List.mem_iff_getElem
abbrev acw:=@Go.wpAnyH_take
abbrev acy:=@Int.mul_assoc
abbrev acz:=@decide_eq_true_eq
abbrev acA:=@List.append_assoc
abbrev acB:=@Int.toNat_of_nonneg
abbrev acC:=@List.length_nil
abbrev acD:=@Bool.eq_iff_iff
abbrev acE:=@List.mem_or_eq_of_mem_set
abbrev acF:=@List.set_append_right
abbrev acG:=@Int.mul_ediv_add_emod
abbrev acH:=@List.getElem?_drop
abbrev acI:=@List.drop_length
abbrev acJ:=@Nat.ne_of_lt
abbrev acK:=@Nat.mul_le_mul_right
abbrev acL:=@Option.bind_eq_some_iff
abbrev acM:=@Nat.div_add_mod
abbrev acN:=@List.range_succ
abbrev acO:=@Int.ediv_eq_zero_of_lt
abbrev acP:=@Go.getD_set_ne
abbrev acQ:=@List.getElem?_take
abbrev acR:=@Int.mul_le_mul
abbrev acS:=@Array.getElem?_eq_getElem
abbrev acT:=@Nat.pow_le_pow_right
abbrev acU:=@Nat.le_succ_of_le
abbrev acV:=@Go.World.cell?_setCell_same'
abbrev acW:=@Go.Sem.run_pure
abbrev acX:=@Go.Sem.run_bind
abbrev acY:=@List.replicate_succ
abbrev acZ:=@decide_eq_false_iff_not
theorem lH{p:Prop}(h:p):Go.RowKit.Hid p:=h
theorem eX{α:Sort _}(a:α):∃x,x=a:=⟨a,rfl⟩
section
variable{P:Program}{md:Region.Mode}{ops:Array Oper}{Q:Exit->Act->World->Prop}{S:World->Prop}{fuel:Nat}{listed:Array Bool}{a:Act}{w:World}{oi:Oper}
theorem tK(i:Nat)(v:Value)(hi:ops[i]?=some oi)(hS:S w)(h:wpAnyH P md ops Q S fuel (listed.setIfInBounds i true) (a.put oi.dst v) w)
    (hs:Region.noSelect ops=true:=by kernel_rfl)(hf:Region.free md ops listed i=true:=by kernel_rfl)(hr:(Region.ready md ops listed).contains i=true:=by kernel_rfl)
    (hw:Region.wanted oi (yielded ops a.tmps)=true:=by kernel_rfl)(hQ:∀c a w,Q (.panic c) (a.put oi.dst v) w->Q (.panic c) a w:=by exact fun _ _ _ h=>h)
    (hy:∀w,S w->(execOp a.eval oi).run P w= .ok (.value v) w:=by intro V hSV;(try dsimp only at hSV);go_simp):wpAnyH P md ops Q S (fuel+1) listed a w:=
  wpAnyH_take hi hs hf hr hQ (Or.inl ⟨hw,hy⟩) hS h
theorem rD(i:Nat)(ho:ops[i]?=some oi)
    (h:∀K':Act->World->Prop,Shut (∀a w,S w->(S w->wpAnyH P md ops Q S fuel (listed.setIfInBounds i true) a w)->K' a w)->if Region.wanted oi (yielded ops a.tmps)=true then Oper.wp P oi a w K' Q else K' (a.put oi.dst undef) w)
    (hr:Region.ready md ops listed=[i]:=by kernel_rfl):wpAnyH P md ops Q S (fuel+1) listed a w:=
  wpAnyH_ready hr sC (AllReadyH.cons ho h AllReadyH.nil)
end
end Go.Proofs
namespace Go.Proofs.cF
def inR(n:Int):Bool:=decide (-9223372036854775808<=n/\n<=9223372036854775807)
def put(n:Int):Int×Int:=if inR n=true then(n,0)else(0,10)
def cY(a b:Int):Int×Int:=put (a+b)
def DK(a b:Int):Int×Int:=put (a-b)
def dX(a b:Int):Int×Int:=put (a*b/4294967296)
def nE(a b:Int):Int×Int:=if b=0 then(0,11)else put (Int.fdiv (a*4294967296) b)
def gV(n k:Int):Int×Int:=if k<0 then(n/((2^(-k).toNat:Nat):Int),0)else put (n*((2^k.toNat:Nat):Int))
def NU(a:Int):Int×Int:=gV (4294967296+a%4294967296) (a/4294967296)
def fu(a:Int):Int×Int:=gV 4294967296 (a/4294967296)
def tv(n r:Nat):Prop:=r*r<=n/\n<(r+1)*(r+1)
theorem cO{n:Int}(h1: -9223372036854775808<=n)(h2:n<=9223372036854775807):put n=(n,0):=by
 unfold put inR;rw[aaW (by simp;omega)]
theorem fw{n:Int}(h:n< -9223372036854775808∨9223372036854775807<n):put n=(0,10):=by
 unfold put inR;rw[aaT (by simp;omega)]
theorem dN(n:Int):(-9223372036854775808<=n/\n<=9223372036854775807/\put n=(n,0))∨((n< -9223372036854775808∨9223372036854775807<n)/\put n=(0,10)):=by
 by_cases h: -9223372036854775808<=n/\n<=9223372036854775807
 ·exact .inl ⟨h.1,h.2,cO h.1 h.2⟩
 ·exact .inr ⟨oM,fw oM⟩
theorem Od{n k:Nat}(h:n%2^(k+1)=0):n|||2^k=n+2^k:=by
 obtain⟨q,rfl⟩:∃q,n=2^(k+1)*q:=⟨n/2^(k+1),by have:=acM n (2^(k+1));omega⟩
 have:=Nat.two_pow_add_eq_or_of_lt (i:=k+1) (b:=2^k) (Nat.pow_lt_pow_right oM oM) q;omega
theorem vS{n k:Nat}(h:n%2^(k+1)=0):n%2^k=0:=by
 have e:2^(k+1)=2^k*2:=Nat.pow_succ ..;rw[e]at h;exact Nat.mod_eq_zero_of_dvd (Nat.dvd_trans (Nat.dvd_mul_right _ _) (Nat.dvd_of_mod_eq_zero h))
theorem rY{n k:Nat}(h:n%2^(k+1)=0):(n+2^k)%2^k=0:=by
 rw[Nat.add_mod_right];exact vS h
def tY(W:Nat):Nat->Nat->Nat
 |0,n=>n
 |k+1,n=>tY W k (if W<(n+2^k)*(n+2^k)then n else n+2^k)
def sqR(W:Nat):Nat:=tY W 48 0
structure JA(W k n:Nat):Prop where
 mod:n%2^k=0
 lt:n+2^k<=281474976710656
 eq:tY W k n=sqR W
theorem Q7(W:Nat):JA W 48 0:=⟨oM,oM,rfl⟩
theorem rno{W k n:Nat}(i:JA W (k+1) n)(h:W<(n+2^k)*(n+2^k)):JA W k n:=by
 obtain⟨a,b,c⟩:=i;have e:2^(k+1)=2^k*2:=Nat.pow_succ ..;refine⟨vS a,oM,?_⟩;rw[<-c,tY,aaW h]
theorem UI{W k n:Nat}(i:JA W (k+1) n)(h:¬W<(n+2^k)*(n+2^k)):JA W k (n+2^k):=by
 obtain⟨a,b,c⟩:=i;have e:2^(k+1)=2^k*2:=Nat.pow_succ ..;refine⟨rY a,oM,?_⟩;rw[<-c,tY,aaT h]
theorem pF(W:Nat):∀k n:Nat,n*n<=W->W<(n+2^k)*(n+2^k)->tv W (tY W k n)
 |0,n,h1,h2=>⟨h1,h2⟩
 |k+1,n,h1,h2=>by
  have e:2^(k+1)=2^k+2^k:=by rw[Nat.pow_succ];omega
  rw[tY];by_cases h:W<(n+2^k)*(n+2^k)
  ·rw[aaW h];exact pF W k n h1 h
  ·rw[aaT h];exact pF W k (n+2^k) oM (by rw[Nat.add_assoc,<-e];exact h2)
theorem Nv{W:Nat}(h:W<79228162514264337593543950336):tv W (sqR W):=pF W 48 0 oM oM
theorem IB{W:Nat}(h:W<79228162514264337593543950336):sqR W<281474976710656:=by
 obtain⟨h1,_⟩:=Nv h;rcases Nat.lt_or_ge (sqR W) 281474976710656 with c|c
 ·exact c
 ·have:=acf c c;omega
def zV(a:Int):Int×Int:=if a<0 then(0,12)else((sqR (a.natAbs*4294967296):Nat),0)
theorem natAbs_cast(a:Int):((a.natAbs:Nat):Int)=if a<0 then -a else a:=by split<;>omega
theorem Bu(a b:Int):a*b=if(decide (a<0) !=decide (b<0))=true then -((a.natAbs*b.natAbs:Nat):Int)else((a.natAbs*b.natAbs:Nat):Int):=by
 rw[ab4];by_cases ha:a<0<;>by_cases hb:b<0<;>simp only[ha,hb,decide_true,decide_false]<;>simp only[natAbs_cast,ha,hb,if_true,if_false]<;>simp[Int.neg_mul,Int.mul_neg]
theorem jo(n d:Nat)(hd:0<d): -(n:Int)/(d:Int)= -(((n+(d-1))/d:Nat):Int):=by
 have h1:=acM (n+(d-1)) d;have h2:=Nat.mod_lt (n+(d-1)) hd;have h3:=acG (-(n:Int)) (d:Int);have h4:=Int.emod_nonneg (-(n:Int)) (b:=(d:Int)) oM;have h5:=Int.emod_lt_of_pos (-(n:Int)) (b:=(d:Int)) oM;generalize hq:(n+(d-1))/d=q at *;generalize hr:(n+(d-1))%d=r at *;generalize hp: -(n:Int)/(d:Int)=p at *;generalize hs: -(n:Int)%(d:Int)=s at *;have h6:(d:Int)*(q:Int)+(r:Int)=(n:Int)+((d:Int)-1):=by
  have:((d*q+r:Nat):Int)=((n+(d-1):Nat):Int):=by rw[h1]
  rw[Int.natCast_add,ab4]at this;omega
 have h7:(d:Int)*(p+(q:Int))=(d:Int)-1-r-s:=by rw[Int.mul_add];omega
 have h8:p+(q:Int)=0:=by
  rcases Int.lt_trichotomy (p+(q:Int)) 0 with c|c|c
  ·have:=abL (show p+(q:Int)<= -1 by omega) (show(0:Int)<=(d:Int) by omega);omega
  ·exact c
  ·have:=abL (show 1<=p+(q:Int) by omega) (show(0:Int)<=(d:Int) by omega);omega
 omega
