import Derived.Test.YtdfknefcgijhmaaGreatTk
import Derived.Test.YtdfknefcgijhmaaGreatVjM
import Derived.Test.YtdfknefcgijhmaaGreatEvC
import Derived.Test.YtdfknefcgijhmaaGreatR9A
import Derived.Test.YtdfknefcgijhmaaGreatGrAll
set_option maxHeartbeats 16000000
set_option maxRecDepth 100000
set_option linter.unusedVariables false
set_option linter.unusedSimpArgs false
namespace Go.Proofs.YtdfknefcgijhmaaGreat
open Go.RowKit Go.Proofs.ShM Go.Proofs.GrM Go.Proofs.InM Go.Proofs.ImM Go.Proofs.EvM
def PU(ts:List T)(err:Int)(k:Nat)(w:World)(e:Ending)(w':World):Prop:=
 ∃A c,e= .returned (.tuple #[.slice A k c, .int .i64 err])∧Hid (RdT w' A ts)∧Hid (ts.length≤c∧c≤9223372036854775807)∧Kp w w'
structure VjC:Prop where
 node:∀(A B P Q R S:Option Addr) (n m c d a b e f g h k d2:Nat) (nd:Nd) (t u:T) (ts ps:List T) (err:Int) (x y:Nat) (W:World),Rd W A nd.2.1→Rd W B nd.2.2→n=nd.2.1.length→m=nd.2.2.length→n≤c∧c≤9223372036854775807→m≤d∧d≤9223372036854775807→n≤100→m≤100→MV nd→
  RdT W S ts→ts.length≤h→h≤9223372036854775807→xh ts→g=ts.length→TRc W P e Q f t→SmT t→a=t.1.length→b=t.2.length→RdT W R ps→ps.length≤d2→d2≤9223372036854775807→xh ps→k=ps.length→
  bq nd.1 nd.2.2 ts t ps=(u,err)→u.1.length=x→u.2.length=y→
  Calls Tryz.prog 24 #[.agg #[.int .i64 nd.1, .slice A n c, .slice B m d], .slice S g h, .agg #[.slice P a e, .slice Q b f], .slice R k d2] W (PV u err x y W)
 back:∀(A B P Q P2 Q2 S:Option Addr) (n m c d a b e f a2 b2 e2 f2 g h:Nat) (nd:Nd) (out u:T) (ts:List T) (xs:List T) (err:Int) (x:Nat) (W:World),Rd W A nd.2.1→Rd W B nd.2.2→n=nd.2.1.length→m=nd.2.2.length→n≤c∧c≤9223372036854775807→m≤d∧d≤9223372036854775807→n≤100→m≤100→MV nd→
  RdT W S ts→ts.length≤h→h≤9223372036854775807→xh ts→g=ts.length→TRc W P e Q f out→SmT out→a=out.1.length→b=out.2.length→TRc W P2 e2 Q2 f2 u→SmT u→a2=u.1.length→b2=u.2.length→
  cU nd.1 nd.2.2 ts out u=(xs,err)→xs.length=x→
  Calls Tryz.prog 27 #[.agg #[.int .i64 nd.1, .slice A n c, .slice B m d], .slice S g h, .agg #[.slice P a e, .slice Q b f], .agg #[.slice P2 a2 e2, .slice Q2 b2 f2]] W (PU xs err x W)
 full:∀(A:Option Addr) (c m:Nat) (s:List Int) (n:Int) (u:T) (x y:Nat) (W:World),Rd W A s→m=s.length→dm s n=(u.1,u.2,0)→u.1.length=x→u.2.length=y→
  Calls Tryz.prog 29 #[.slice A m c, .int .i64 n] W (PV u 0 x y W)
end Go.Proofs.YtdfknefcgijhmaaGreat
