import Derived.Test.YtdfknefcgijhmaaGreatTk
import Derived.Test.YtdfknefcgijhmaaGreatInMem
import Derived.BigQuiet
import Derived.Deep.RegionLaw
import Derived.Deep.RegionHeld3
import Derived.Deep.DeepCutAuto
import Derived.Test.YtdfknefcgijhmaaGreatInMex
set_option maxHeartbeats 16000000
set_option maxRecDepth 100000
set_option linter.unusedVariables false
set_option linter.unusedSimpArgs false
namespace Go.Proofs.YtdfknefcgijhmaaGreat
open Go.RowKit Go.Proofs.ShM Go.Proofs.GrM Go.Proofs.InM
def Jy(xs:List Int)(w:World)(e:Ending)(w':World):Prop:=∃A c,e= .returned (.slice A xs.length c)∧Own w.heap.size w' (.slice A xs.length c) xs∧Kp w w'
theorem Jy.on{xs:List Int}{n c:Nat}{A:Option Addr}{w w':World}(hn:n=xs.length)(h:Own w.heap.size w' (.slice A n c) xs)(k:Kp w w'):Jy xs w (.returned (.slice A n c)) w':=by
 subst hn;exact⟨A,c,rfl,h,k⟩
section
variable{w:World}{A:Option Addr}{x:List Int}
def Jt(A:Option Addr)(c j:Nat):Option Addr:=if c=j then A else A.map (·.add j)
theorem Rd.Jt(h:Rd w A x){c j:Nat}(hc:x.length≤c):Rd w (Jt A c j) (x.drop j):=by
 unfold Go.Proofs.YtdfknefcgijhmaaGreat.Jt
 split
 ·rename_i e;rw[List.drop_eq_nil_of_le (by omega)];exact Rd.nil _ _
 ·refine⟨by have:=h.1;simp;omega,fun hp=>?_⟩;obtain⟨ad,rfl,hb,hcs⟩:=h.2 (by simp at hp;omega);refine⟨ad.add j,rfl,by rw[ah];exact hb,fun i u hu=>?_⟩;rw[List.getElem?_drop]at hu;rw[oO];exact hcs _ _ hu
theorem EP(W:World)(A:Option Addr)(n c j:Nat)(hj:j≤n):(Instr.sliceAt 29 (.slice A n c) (some (.int .i64 (j:Int))) none none).run Tryz.prog W= .ok (.slice (Jt A c j) (n-j) (c-j)) W:=by
 have hu:Tryz.prog.underlying 29=some (.slice (Tryz.prog.elem 29)):=by kernel_rfl
 have hsz:((sizeOf (Tryz.prog.elem 29)).run Tryz.prog W)= .ok 1 W:=by
  obtain⟨i,hi,_,h1,_⟩:=info_parts dz;simp[sizeOf,typeInfo,show Tryz.prog.elem 29=3 by kernel_rfl,hi,h1]
 rw[run_sliceAt_slice W _ _ _ _ _ hu,run_slice_l W _ A n c hu .i64 j (by omega) (by omega),hsz];simp[Result.andThen,sliced,Jt]
end
theorem ke{a nums:List Int}(h:aM (42,a,nums)=true):∃x f t,nums=[x,f,t]:=by
 have h:nums.length=3:=by simpa [aM]using h
 match nums,h with
 | [x,f,t],_=>exact⟨x,f,t,rfl⟩
def DH(r:List (List Int)×Int×Int)(W:World)(e:Ending)(W':World):Prop:=
 ∃A c,e= .returned (.tuple #[.slice A r.1.length c, .int .i64 r.2.1, .int .i64 r.2.2])∧Hid (RdL W' A r.1)∧Hid (r.1.length≤c∧c≤9223372036854775807)∧Kp W W'
theorem DH.none_{W W':World}(k:Kp W W')(i e:Int):DH ([],i,e) W (.returned (.tuple #[.slice none 0 0, .int .i64 i, .int .i64 e])) W':=
 ⟨none,0,rfl,iA.bU _ _ _,⟨by simp,by omega⟩,k⟩
theorem ny{acc:List (List Int)}{l:List Int}{j a:Nat}{s:List Int}(h:l[j]?=some (a:Int))(hs:acc[a]?=some s):bY acc (l.take (j+1))=bY acc (l.take j)++[s]:=by
 unfold bY;rw[cr h,List.map_append];congr 1;show [acc.getD ((a:Int)).toNat []]=[s];rw[Int.toNat_natCast,List.getD,hs];rfl
end Go.Proofs.YtdfknefcgijhmaaGreat
