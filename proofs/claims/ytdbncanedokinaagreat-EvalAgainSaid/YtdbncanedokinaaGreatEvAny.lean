/- Layer 13: all that the rows want. -/
import Derived.Test.YtdbncanedokinaaGreatEvRow
import Derived.Test.YtdbncanedokinaaGreatEvNames
import Derived.Test.YtdbncanedokinaaGreatEvOther
import Derived.Test.YtdbncanedokinaaGreatEvAgain
import Derived.Test.YtdbncanedokinaaGreatEvCuts
import Derived.Test.YtdbncanedokinaaGreatEvZ
import Derived.ProofKit
import Derived.OpenShut
import Derived.Carry
namespace Go.Proofs.YtdbncanedokinaaGreat
open Go.ChangeShapes Go.WideShapes Go.ChangeAt Go.RowKit Go.Proofs.ShM

theorem laid_out : laidOutB Tryz.prog = true := by kernel_rfl
section
variable {H : Type} {enc : TypeId × Value → H}
/-- All arguments read as they did, through the same places. -/
theorem all_stays {W W' : World} (hb : Below W.heap.size W W') : ∀ (ts : List TypeId) (vs : List Value) (ds : List (DataW H)) (ps : List MemPlace), (ts.all fun t => Tryz.prog.readableRec t && decide (t < Tryz.prog.types.size)) = true →
    DataW.TrodAll enc Tryz.prog W 0 (fun _ => true) true ts vs ds ps → (∀ x ∈ ps, x.block < W.heap.size) → DataW.TrodAll enc Tryz.prog W' 0 (fun b => decide (b < W.heap.size)) true ts vs ds ps := by
  intro ts
  induction ts with
  | nil =>
    intro vs ds ps _ h _
    obtain ⟨rfl, rfl, rfl⟩ := trodAll_nil h
    exact trodAll_mk0
  | cons t ts ih =>
    intro vs ds ps hr h hlt
    obtain ⟨v, vs', d, ds', p, q, rfl, rfl, rfl, h1, h2⟩ := trodAll_cons h
    simp only [List.all_cons, Bool.and_eq_true, decide_eq_true_eq] at hr
    exact trodAll_cons_mk (Below.trod laid_out hr.1.1 hr.1.2 h1 hb fun x hx => hlt x (by simp [hx])) (ih _ _ _ hr.2 h2 fun x hx => hlt x (by simp [hx]))
end
end Go.Proofs.YtdbncanedokinaaGreat
