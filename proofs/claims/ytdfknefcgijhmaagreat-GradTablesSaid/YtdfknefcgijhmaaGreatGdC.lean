import Derived.Test.YtdfknefcgijhmaaGreatTk
import Derived.Test.YtdfknefcgijhmaaGreatEvX
import Derived.Test.YtdfknefcgijhmaaGreatGdM
set_option maxHeartbeats 16000000
set_option maxRecDepth 100000
set_option linter.unusedVariables false
set_option linter.unusedSimpArgs false
namespace Go.Proofs.YtdfknefcgijhmaaGreat
open Go.RowKit Go.Proofs.ShM Go.Proofs.cF Go.Proofs.GrM Go.Proofs.InM Go.Proofs.ImM Go.Proofs.EvM
def PY(ts:List T)(loss at_ err:Int)(k:Nat)(w:World)(e:Ending)(w':World):Prop:=
 ∃A c,e= .returned (.tuple #[.slice A k c, .int .i64 loss, .int .i64 at_, .int .i64 err])∧Hid (RdT w' A ts)∧Hid (ts.length≤c∧c≤9223372036854775807)∧Kp w w'
structure GdC:Prop where
 mul:∀(a b r err:Int) (W:World),In64 a→In64 b→dX a b=(r,err)→Calls Tryz.prog 11 #[.int .i64 a, .int .i64 b] W fun e W'=>e= .returned (.tuple #[.int .i64 r, .int .i64 err])∧Kp W W'
 all:∀(A P Q R:Option Addr) (c m a b e f k d:Nat) (l:List Nd) (t:T) (ps v:List T) (at_ err:Int) (j:Nat) (W:World),RdG W A l→l.length≤c→c≤9223372036854775807→dV l→m=l.length→
  TRc W P e Q f t→SmT t→a=t.1.length→b=t.2.length→RdT W R ps→ps.length≤d→d≤9223372036854775807→xh ps→k=ps.length→fI l t ps=(v,at_,err)→v.length=j→
  Calls Tryz.prog 13 #[.slice A m c, .agg #[.slice P a e, .slice Q b f], .slice R k d] W (qM v at_ err j W)
 Lv:∀(A P Q R:Option Addr) (c m a b e f k d:Nat) (l:List Nd) (t:T) (ps v:List T) (loss at_ err:Int) (j:Nat) (W:World),RdG W A l→l.length≤c→c≤9223372036854775807→dV l→m=l.length→
  TRc W P e Q f t→SmT t→a=t.1.length→b=t.2.length→RdT W R ps→ps.length≤d→d≤9223372036854775807→xh ps→k=ps.length→jE l t ps=(v,loss,at_,err)→v.length=j→
  Calls Tryz.prog 8 #[.slice A m c, .agg #[.slice P a e, .slice Q b f], .slice R k d] W (PY v loss at_ err j W)
theorem Au{w:World}{P Q:Option Addr}{t:T}{c d:Nat}(h:TRc w P c Q d t)(ty:TypeId):RdT (w.alloc (.cells #[.slice P t.1.length c, .slice Q t.2.length d] ty)) (some ⟨w.heap.size,0,none⟩) [t]:=
 RdX.one h.r (fun _ _ _=>trivial) (fun _ _ _=>trivial) h.c1 h.c2 ty
theorem mr(w:World):TRc w none 0 none 0 eT:=⟨⟨Rd.nil _ _,Rd.nil _ _⟩,⟨by decide,by decide⟩,⟨by decide,by decide⟩⟩
theorem mC:SmT eT:=⟨by decide,by decide,(fun _ h=>by cases h),fun _ h=>by cases h⟩
theorem Ew:xh []:=⟨by decide,fun _ h=>by cases h⟩
theorem xw:dV []:=⟨by decide,fun _ h=>by cases h⟩
end Go.Proofs.YtdfknefcgijhmaaGreat
