import Derived.Test.YtdfknefcgijhmaaGreatTk
import Derived.Test.YtdfknefcgijhmaaGreatEvM
import Derived.Test.YtdfknefcgijhmaaGreatR9A
import Derived.Test.YtdfknefcgijhmaaGreatInMem
import Derived.Test.YtdfknefcgijhmaaGreatGrAll
set_option maxHeartbeats 16000000
set_option maxRecDepth 100000
set_option linter.unusedVariables false
set_option linter.unusedSimpArgs false
namespace Go.Proofs.YtdfknefcgijhmaaGreat
open Go.RowKit Go.Proofs.ShM Go.Proofs.GrM Go.Proofs.InM Go.Proofs.ImM Go.Proofs.EvM
def SmT(t:T):Prop:=t.1.length≤100∧t.2.length≤100∧N64 t.1∧N64 t.2
def xh(ts:List T):Prop:=ts.length≤100∧∀t∈ts,SmT t
structure TRc(w:World)(P:Option Addr)(c:Nat)(Q:Option Addr)(d:Nat)(t:T):Prop where
 r:TR w P t.1 Q t.2
 c1:t.1.length≤c∧c≤9223372036854775807
 c2:t.2.length≤d∧d≤9223372036854775807
theorem TRc.kp{w w':World}{P Q:Option Addr}{c d:Nat}{t:T}(h:TRc w P c Q d t)(k:Kp w w'):TRc w' P c Q d t:=⟨h.r.kp k,h.c1,h.c2⟩
def qM(ts:List T)(at_ err:Int)(k:Nat)(w:World)(e:Ending)(w':World):Prop:=
 ∃A c,e= .returned (.tuple #[.slice A k c, .int .i64 at_, .int .i64 err])∧Hid (RdT w' A ts)∧Hid (ts.length≤c∧c≤9223372036854775807)∧Kp w w'
def PV(t:T)(err:Int)(a b:Nat)(w:World)(e:Ending)(w':World):Prop:=
 ∃P c Q d,e= .returned (.tuple #[.agg #[.slice P a c, .slice Q b d], .int .i64 err])∧Hid (TRc w' P c Q d t)∧Kp w w'
def DQ(t:T)(ps:List T):Bool:=sS t.1.length t.2.length&&MT ps 10
end Go.Proofs.YtdfknefcgijhmaaGreat
