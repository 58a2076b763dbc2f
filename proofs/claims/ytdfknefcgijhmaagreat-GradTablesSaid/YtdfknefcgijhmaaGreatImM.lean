import Derived.Test.YtdfknefcgijhmaaGreatTk
import Derived.Test.YtdfknefcgijhmaaGreatGrAll
import Derived.Handy
import Derived.Lib.Bytes
import GoSem.Op.String
import Derived.Test.YtdfknefcgijhmaaGreatShAll
import Derived.Test.YtdfknefcgijhmaaGreatTnAll
set_option maxHeartbeats 16000000
set_option maxRecDepth 100000
set_option linter.unusedVariables false
set_option linter.unusedSimpArgs false
namespace Go.Proofs.InM
open Go.Proofs.ShM Go.Proofs.GrM
abbrev Sh:=List Int×Int
def gE(op:Int)(nums:List Int):Bool:=decide (0≤ak op)&&aM (op,[],nums)
def fe(s:List Int)(so:Bool):Sh:=if so=true∧okS s=true then(s,0)else([],20)
def eG(s:List Int)(at_:Int):Bool:=decide (0≤at_∧at_<(s.length:Int))
def fZ(a b:List Int):Sh:=if a.length=2∧b.length=2∧a.getD 1 0=b.getD 0 0 then fe [a.getD 0 0,b.getD 1 0] true else([],20)
def pP(a:List Int)(at_ from_ to_:Int):Sh:=if 0≤from_∧from_<to_∧to_≤a.getD at_.toNat 0 then(a.set at_.toNat (to_-from_),0)else([],20)
def nI(a b:List Int)(at_:Int):Sh:=if a.length=b.length∧a.eraseIdx at_.toNat=b.eraseIdx at_.toNat then fe (a.set at_.toNat (a.getD at_.toNat 0+b.getD at_.toNat 0)) true else([],20)
def dQ(op:Int)(nums a b:List Int):Sh:=
 if op=30 then fZ a b else if eG a (nums.getD 0 0)=false then([],20)else
 if op=42 then pP a (nums.getD 0 0) (nums.getD 1 0) (nums.getD 2 0)else if op=43 then nI a b (nums.getD 0 0)else(a.eraseIdx (nums.getD 0 0).toNat,0)
def aR(op:Int)(nums a b:List Int):Sh:=
 if op=1 then(nums,0)else if op=2 then(nums.drop 1,0)else if op=3 then([],0)else if 10≤op∧op≤13 then bG a b else
 if 20≤op∧op≤23 then(a,0)else if op=40 then fe nums (decide (au nums=au a))else if op=41 then(a.reverse,0)else dQ op nums a b
def aF(op:Int)(nums:List Int)(gs:List (List Int)):Sh:=
 if gE op nums=true∧(gs.length:Int)=ak op∧gs.all okS=true then aR op nums (gs.getD 0 []) (gs.getD 1 [])else([],20)
def bY(acc:List (List Int))(l:List Int):List (List Int):=l.map fun a=>acc.getD a.toNat []
def shF:List Nd→List (List Int)→List (List Int)×Int×Int
 | [],acc=>(acc,-1,0)
 |n::l,acc=>if(aF n.1 n.2.2 (bY acc n.2.1)).2=0 then shF l (acc++[(aF n.1 n.2.2 (bY acc n.2.1)).1])else([],(acc.length:Int),(aF n.1 n.2.2 (bY acc n.2.1)).2)
def aH(l:List Nd):List (List Int)×Int×Int:=if aK l=true then shF l []else([],-1,100)
theorem dF(s:List Int)(so:Bool):(fe s so=(s,0)∧so=true∧okS s=true)∨fe s so=([],20):=by
 unfold fe
 by_cases h:so=true∧okS s=true
 ·rw[if_pos h];exact .inl ⟨rfl,h⟩
 ·rw[if_neg h];exact .inr rfl
theorem kO{s:List Int}(h:s.all aX=true)(a:Nat):(s.eraseIdx a).all aX=true:=by
 rw[List.all_eq_true]at *
 exact fun x hx=>h x (List.mem_of_mem_eraseIdx hx)
theorem jF{s:List Int}(h:s.all aX=true){a:Nat}(ha:a<s.length):1≤s.getD a 0∧s.getD a 0≤16:=by
 have hx:s[a]?=some s[a]:=List.getElem?_eq_getElem ha
 rw[List.getD,hx];exact cN h hx
theorem jh:∀{s:List Int} {a:Nat},a<s.length→ai s=s.getD a 0*ai (s.eraseIdx a)
 | [],a,h=>by simp at h
 |x::r,0,h=>by simp[ai]
 |x::r,a+1,h=>by
  have h1:=jh (s:=r) (a:=a) (by simpa using h)
  show x*ai r=r.getD a 0*(x*ai (r.eraseIdx a))
  rw[h1,←Int.mul_assoc,←Int.mul_assoc,Int.mul_comm x]
theorem jI:∀{s:List Int} {a:Nat} {y:Int},(s.set a y).eraseIdx a=s.eraseIdx a
 | [],a,y=>by simp
 |x::r,0,y=>by simp
 |x::r,a+1,y=>by
  show x::(r.set a y).eraseIdx a=x::r.eraseIdx a
  rw[jI]
theorem NA{l:List Int}{k:Nat}{y:Int}(hk:k<l.length):(l.set k y).getD k 0=y:=by
 unfold List.getD;rw[List.getElem?_set_self hk];rfl
theorem Fm{s:List Int}{a:Nat}{y:Int}(ha:a<s.length):ai (s.set a y)=y*ai (s.eraseIdx a):=by
 rw[jh (s:=s.set a y) (a:=a) (by simpa using ha),NA ha,jI]
theorem rO{s:List Int}(h:okS s=true){a:Nat}(ha:a<s.length):okS (s.eraseIdx a)=true:=by
 obtain⟨h1,h2,h3⟩:=aD.1 h
 have e:=jh ha
 have p:=aY (kO h2 a)
 have t:=Int.mul_le_mul_of_nonneg_right (jF h2 ha).1 (show 0≤ai (s.eraseIdx a) by omega)
 rw[Int.one_mul]at t
 exact aD.2 ⟨by have:=List.length_eraseIdx_le s a;omega,kO h2 a,by omega⟩
theorem Mq{s:List Int}(h:s.all aX=true)(a:Nat){y:Int}(hy:aX y=true):(s.set a y).all aX=true:=by
 rw[List.all_eq_true]at *
 intro x hx
 rcases List.mem_or_eq_of_mem_set hx with h1|h1
 ·exact h x h1
 ·rw[h1];exact hy
theorem Kw{s:List Int}(h:okS s=true){a:Nat}(ha:a<s.length){y:Int}(h1:1≤y)(h2:y≤s.getD a 0):okS (s.set a y)=true∧ai (s.set a y)≤ai s:=by
 obtain⟨g1,g2,g3⟩:=aD.1 h
 have sd:=jF g2 ha
 have p:=aY (kO g2 a)
 have e:=jh ha
 have t:=Int.mul_le_mul_of_nonneg_right h2 (show 0≤ai (s.eraseIdx a) by omega)
 have e2:=Fm (y:=y) ha
 exact⟨aD.2 ⟨by simpa using g1,Mq g2 a (ct.2 ⟨h1,by omega⟩),by omega⟩,by omega⟩
theorem AZ{s:List Int}(h:okS s=true):okS s.reverse=true:=by
 obtain⟨g1,g2,g3⟩:=aD.1 h
 exact aD.2 ⟨by simpa using g1,by rw[rN];exact g2,by rw[eA];exact g3⟩
theorem iD(a:List Int)(at_ f t:Int):(pP a at_ f t=(a.set at_.toNat (t-f),0)∧0≤f∧f<t∧t≤a.getD at_.toNat 0)∨pP a at_ f t=([],20):=by
 unfold pP
 by_cases h:0≤f∧f<t∧t≤a.getD at_.toNat 0
 ·rw[if_pos h];exact .inl ⟨rfl,h⟩
 ·rw[if_neg h];exact .inr rfl
theorem gB(a b:List Int)(at_:Int):(nI a b at_=(a.set at_.toNat (a.getD at_.toNat 0+b.getD at_.toNat 0),0)∧a.length=b.length∧a.eraseIdx at_.toNat=b.eraseIdx at_.toNat∧okS (a.set at_.toNat (a.getD at_.toNat 0+b.getD at_.toNat 0))=true)∨nI a b at_=([],20):=by
 unfold nI
 by_cases h:a.length=b.length∧a.eraseIdx at_.toNat=b.eraseIdx at_.toNat
 ·rw[if_pos h]
  rcases dF (a.set at_.toNat (a.getD at_.toNat 0+b.getD at_.toNat 0)) true with⟨e,_,o⟩|e
  ·exact .inl ⟨e,h.1,h.2,o⟩
  ·exact .inr e
 ·rw[if_neg h];exact .inr rfl
theorem eV{s:List Int}{x:Int}:eG s x=true↔0≤x∧x<(s.length:Int):=by unfold eG;rw[decide_eq_true_iff]
def Okd(r:Sh):Prop:=(r.2=0∧okS r.1=true)∨r=([],20)
theorem zL(a b:List Int):Okd (fZ a b):=by
 unfold fZ
 split
 ·rcases dF [a.getD 0 0,b.getD 1 0] true with⟨e,_,o⟩|e
  ·rw[e];exact .inl ⟨rfl,o⟩
  ·rw[e];exact .inr rfl
 ·exact .inr rfl
theorem F8(op:Int)(nums:List Int){a:List Int}(b:List Int)(ha:okS a=true):Okd (dQ op nums a b):=by
 unfold dQ
 split
 ·exact zL a b
 ·cases hx:eG a (nums.getD 0 0)with
  |false=>rw[if_pos rfl];exact .inr rfl
  |true=>
   rw[if_neg (by simp)]
   obtain⟨x0,x1⟩:=eV.1 hx
   have hk:(nums.getD 0 0).toNat<a.length:=by omega
   split
   ·rcases iD a (nums.getD 0 0) (nums.getD 1 0) (nums.getD 2 0)with⟨e,f0,f1,f2⟩|e
    ·rw[e];exact .inl ⟨rfl,(Kw ha hk (by omega) (by omega)).1⟩
    ·rw[e];exact .inr rfl
   ·split
    ·rcases gB a b (nums.getD 0 0)with⟨e,_,_,o⟩|e
     ·rw[e];exact .inl ⟨rfl,o⟩
     ·rw[e];exact .inr rfl
    ·exact .inl ⟨rfl,rO ha hk⟩
theorem Oo{nums:List Int}{a:List Int}(h:aM (1,a,nums)=true):okS nums=true:=by unfold aM at h;simpa using h
theorem vO{nums:List Int}{a:List Int}(h:aM (2,a,nums)=true):∃p s,nums=p::s∧0≤p∧p≤7∧okS s=true:=by
 have h:DM nums=true:=by simpa [aM]using h
 cases nums with
 |nil=>cases h
 |cons p s=>
  have h':decide (0≤p∧p≤7)=true∧okS s=true:=by
   have:(decide (0≤p∧p≤7)&&okS s)=true:=h
   simpa using this
  exact⟨p,s,rfl,(of_decide_eq_true h'.1).1,(of_decide_eq_true h'.1).2,h'.2⟩
theorem GA{op:Int}{nums a b:List Int}(hn:aM (op,[],nums)=true)(hr:0≤ak op)(h1:okS a=true):Okd (aR op nums a b):=by
 unfold aR
 split
 ·rename_i e;subst e;exact .inl ⟨rfl,Oo hn⟩
 ·split
  ·rename_i e;subst e
   obtain⟨p,s,rfl,_,_,o⟩:=vO hn
   exact .inl ⟨rfl,o⟩
  ·split
   ·exact .inl ⟨rfl,by decide⟩
   ·split
    ·rcases gA a b with⟨c,e,o⟩|e
     ·rw[e];exact .inl ⟨rfl,o⟩
     ·rw[e];exact .inr rfl
    ·split
     ·exact .inl ⟨rfl,h1⟩
     ·split
      ·rcases dF nums (decide (au nums=au a))with⟨e,_,o⟩|e
       ·rw[e];exact .inl ⟨rfl,o⟩
       ·rw[e];exact .inr rfl
      ·split
       ·exact .inl ⟨rfl,AZ h1⟩
       ·exact F8 op nums b h1
theorem jL{op:Int}{nums:List Int}:gE op nums=true↔0≤ak op∧aM (op,[],nums)=true:=by
 unfold gE;rw[Bool.and_eq_true,decide_eq_true_iff]
theorem ul{gs:List (List Int)}(h:gs.all okS=true)(k:Nat):okS (gs.getD k [])=true:=by
 rw[List.all_eq_true]at h
 rw[List.getD]
 cases e:gs[k]? with
 |none=>decide
 |some x=>exact h x (List.mem_of_getElem? e)
theorem FL(op:Int)(nums:List Int)(gs:List (List Int)):Okd (aF op nums gs):=by
 unfold aF
 split
 ·rename_i h
  obtain⟨g1,g2⟩:=jL.1 h.1
  exact GA g2 g1 (ul h.2.2 0)
 ·exact .inr rfl
theorem iF(op:Int)(nums:List Int)(gs:List (List Int)):(∃s,aF op nums gs=(s,0)∧okS s=true)∨aF op nums gs=([],20):=by
 rcases FL op nums gs with⟨e,o⟩|e
 ·exact .inl ⟨(aF op nums gs).1,Prod.ext rfl e,o⟩
 ·exact .inr e
theorem bA{n:Nd}{l:List Nd}{acc:List (List Int)}{s:List Int}(h:aF n.1 n.2.2 (bY acc n.2.1)=(s,0)):shF (n::l) acc=shF l (acc++[s]):=by
 rw[shF,h];rfl
theorem jT{n:Nd}{l:List Nd}{acc:List (List Int)}(h:aF n.1 n.2.2 (bY acc n.2.1)=([],20)):shF (n::l) acc=([],(acc.length:Int),20):=by
 rw[shF,h];rfl
theorem lP:∀(l:List Nd) (acc:List (List Int)),(∃t,shF l acc=(acc++t,-1,0)∧t.length=l.length∧t.all okS=true)∨∃i:Nat,shF l acc=([],(i:Int),20)∧acc.length≤i∧i<acc.length+l.length
 | [],acc=> .inl ⟨[],by simp[shF],rfl,rfl⟩
 |n::l,acc=>by
  rcases iF n.1 n.2.2 (bY acc n.2.1)with⟨s,e,o⟩|e
  ·rw[bA e]
   rcases lP l (acc++[s])with⟨t,h1,h2,h3⟩|⟨i,h1,h2,h3⟩
   ·exact .inl ⟨s::t,by rw[h1,List.append_assoc];rfl,by rw[List.length_cons,List.length_cons,h2],by rw[List.all_cons,o,h3];rfl⟩
   ·rw[List.length_append,List.length_singleton]at h2 h3
    exact .inr ⟨i,h1,by omega,by rw[List.length_cons];omega⟩
  ·rw[jT e]
   exact .inr ⟨acc.length,rfl,Nat.le_refl _,by rw[List.length_cons];omega⟩
theorem kX{l:List Nd}(h:aK l=true):(∃t,aH l=(t,-1,0)∧t.length=l.length∧t.all okS=true)∨∃i:Nat,aH l=([],(i:Int),20)∧i<l.length:=by
 unfold aH
 rw[if_pos h]
 rcases lP l []with⟨t,h1,h2,h3⟩|⟨i,h1,_,h3⟩
 ·exact .inl ⟨t,by rw[h1,List.nil_append],h2,h3⟩
 ·exact .inr ⟨i,h1,by simpa using h3⟩
theorem lT{op:Int}(h:10≤op∧op≤13)(a b:List Int):aF op [] [a,b]=bG a b:=by
 have ha:gE op []=true:=jL.2 ⟨by unfold ak;rw[if_neg (by omega),if_pos (by omega)];decide,by
  simp only[aM]
  rw[if_neg (by omega),if_neg (by omega),if_neg (by omega),if_neg (by omega)]
  rfl⟩
 have hr:ak op=2:=by unfold ak;rw[if_neg (by omega),if_pos (by omega)]
 unfold aF
 cases e1:okS a with
 |false=>
  rw[if_neg (by simp[e1])]
  exact(kF (.inl e1)).symm
 |true=>
  cases e2:okS b with
  |false=>
   rw[if_neg (by simp[e2])]
   exact(kF (.inr e2)).symm
  |true=>
   rw[if_pos ⟨ha,by rw[hr];rfl,by simp[e1,e2]⟩]
   unfold aR
   rw[if_neg (by omega),if_neg (by omega),if_neg (by omega),if_pos h]
   rfl
end Go.Proofs.InM
namespace Go.Proofs.PkM
open Go
end Go.Proofs.PkM
namespace Go.Proofs.YtdfknefcgijhmaaGreat.B8
open Go.RowKit Go.Proofs.YtdfknefcgijhmaaGreat
end Go.Proofs.YtdfknefcgijhmaaGreat.B8
namespace Go.Proofs.YtdfknefcgijhmaaGreat
open Go.RowKit Go.Proofs.ShM Go.Proofs.PkM
end Go.Proofs.YtdfknefcgijhmaaGreat
namespace Go.Proofs.ImM
open Go.Proofs.PkM Go.Proofs.ShM
abbrev T:=List Int×List Int
def bO(t:T):Bool:=aB t.1 t.2
def N64(l:List Int):Prop:=∀n∈l,-9223372036854775808≤n∧n≤9223372036854775807
theorem aA{t:T}:bO t=true↔okS t.1=true∧(t.2.length:Int)=au t.1:=by unfold bO aB;simp
theorem IV{s:List Int}(h:okS s=true):s.length≤3:=(aD.1 h).1
theorem Ec{t:T}(h:bO t=true):t.2.length≤64∧1≤t.2.length∧t.1.length≤3:=by
 obtain⟨h1,h2⟩:=aA.1 h
 rw[aL h1]at h2
 have:=bT h1
 exact⟨by omega,by omega,IV h1⟩
end Go.Proofs.ImM
