/- The kinds of layer 4, as a map; a look-up in it. -/
import Derived.Test.YtofolfnnjdccgaaElMap
namespace Go.Proofs.Ytofolfnnjdccgaa
open Go.RowKit Go.Proofs.ShM

theorem wpList_insM {W : World} {g : Nat} {L : List (Int × Value)} {ops : Array Oper} {rest : List Oper} {o : Oper} {a : Act} {Q : Exit → Act → World → Prop} (hg : o.guard = none) (m x v : Operand)
    (hop : o.op = Op.insert 45 m x v) (k : Int) (val : Value) (hm : a.eval m = .map (some g)) (hx : a.eval x = .int .i64 k) (hv : a.eval v = val) (h : Md W g L) (hn : atM L k = none)
    (hK : ∀ W', Md W' g (L ++ [(k, val)]) → (∀ B, B ≤ g → Below B W W') → wpList Try.prog ops Q rest (a.put o.dst undef) W') : wpList Try.prog ops Q (o :: rest) a W := by
  refine wpList_plain hg fun K' hK' => ?_
  obtain ⟨W', hrun, r1, r2⟩ := h.put Try.underlying45 Try.underlying3 hn val
  unfold Oper.wp
  simp [execOp, hop, hm, hx, hv, hrun, Result.andThen]
  exact hK' _ _ (hK W' r1 r2)

theorem wpList_getM {W : World} {g : Nat} {L : List (Int × Value)} {ops : Array Oper} {rest : List Oper} {o : Oper} {a : Act} {Q : Exit → Act → World → Prop} (hg : o.guard = none) (m x : Operand)
    (hop : o.op = Op.lookup 45 m x false) (k : Int) (hm : a.eval m = .map (some g)) (hx : a.eval x = .int .i64 k) (h : Md W g L) (v : Value) (hv : (atM L k).getD (.agg #[.nilFunc, .nilFunc]) = v)
    (hK : wpList Try.prog ops Q rest (a.put o.dst v) W) : wpList Try.prog ops Q (o :: rest) a W := by
  refine wpList_plain hg fun K' hK' => ?_
  have hrun := h.get Try.underlying45 Try.underlying3 (kind_zero W) k
  rw [hv] at hrun
  unfold Oper.wp
  simp [execOp, hop, hm, hx, hrun, Result.andThen]
  exact hK' _ _ hK

/-- The kinds. -/
def kindsL : List (Int × Value) :=
  [(10, .agg #[.nilFunc, .func (.func 42) #[] #[]]), (11, .agg #[.nilFunc, .func (.func 43) #[] #[]]), (12, .agg #[.nilFunc, .func (.func 20) #[] #[]]), (13, .agg #[.nilFunc, .func (.func 44) #[] #[]]),
   (20, .agg #[.func (.func 45) #[] #[], .nilFunc]), (21, .agg #[.func (.func 46) #[] #[], .nilFunc]), (22, .agg #[.func (.func 47) #[] #[], .nilFunc]), (23, .agg #[.func (.func 48) #[] #[], .nilFunc])]

set_option maxHeartbeats 2000000 in
theorem kinds_any (w : World) : Calls Try.prog 23 #[] w fun e w' => ∃ g, e = .returned (.map (some g)) ∧ Md w' g kindsL ∧ Kp w w' := by
  have hmm := @run_makeMap Try.prog
  have h0 := Md.new w
  go_enter Try.func23, Try.ntmps23
  go_wp2_with (first
    | (refine wpList_insM (L := kindsL.take 0) rfl _ _ _ rfl 10 (.agg #[.nilFunc, .func (.func 42) #[] #[]]) rfl rfl rfl h0 rfl ?_; intro w1 h1 b1)
    | (refine wpList_insM (L := kindsL.take 1) rfl _ _ _ rfl 11 (.agg #[.nilFunc, .func (.func 43) #[] #[]]) rfl rfl rfl h1 rfl ?_; intro w2 h2 b2)
    | (refine wpList_insM (L := kindsL.take 2) rfl _ _ _ rfl 12 (.agg #[.nilFunc, .func (.func 20) #[] #[]]) rfl rfl rfl h2 rfl ?_; intro w3 h3 b3)
    | (refine wpList_insM (L := kindsL.take 3) rfl _ _ _ rfl 13 (.agg #[.nilFunc, .func (.func 44) #[] #[]]) rfl rfl rfl h3 rfl ?_; intro w4 h4 b4)
    | (refine wpList_insM (L := kindsL.take 4) rfl _ _ _ rfl 20 (.agg #[.func (.func 45) #[] #[], .nilFunc]) rfl rfl rfl h4 rfl ?_; intro w5 h5 b5)
    | (refine wpList_insM (L := kindsL.take 5) rfl _ _ _ rfl 21 (.agg #[.func (.func 46) #[] #[], .nilFunc]) rfl rfl rfl h5 rfl ?_; intro w6 h6 b6)
    | (refine wpList_insM (L := kindsL.take 6) rfl _ _ _ rfl 22 (.agg #[.func (.func 47) #[] #[], .nilFunc]) rfl rfl rfl h6 rfl ?_; intro w7 h7 b7)
    | (refine wpList_insM (L := kindsL.take 7) rfl _ _ _ rfl 23 (.agg #[.func (.func 48) #[] #[], .nilFunc]) rfl rfl rfl h7 rfl ?_; intro w8 h8 b8))
  go_ret
  have n := Nat.le_refl w.heap.size
  exact ⟨_, rfl, h8, (Kp.alloc_ _ _).trans (((((((b1 _ n).trans (b2 _ n)).trans (b3 _ n)).trans (b4 _ n)).trans (b5 _ n)).trans (b6 _ n)).trans (b7 _ n) |>.trans (b8 _ n))⟩
end Go.Proofs.Ytofolfnnjdccgaa
