/- Sums of layer 1, and the document's; an append as one step of a region that draws; plain facts of what is stretched and folded. -/
import Derived.Test.YtdekchfapblgeaaTnF
import Derived.Test.YtdekchfapblgeaaFixMath
import Derived.Deep.RegionLaw
namespace Go.Proofs.Ytdekchfapblgeaa
open Go.RowKit Go.Proofs.ShM Go.Proofs.FixM

namespace TnAdd
theorem add_over {a b : Int} (ha : I64 a) (hb : I64 b) (h : (!(decide (wrap64 (a + b) < a) == decide (b < 0))) = true) : addV a b = (0, 10) := by
  unfold I64 at ha hb
  by_cases c : b < 0 <;> by_cases d : wrap64 (a + b) < a <;> simp [c, d] at h <;> (unfold wrap64 at d; exact put_out (by omega))
theorem add_fits {a b : Int} (ha : I64 a) (hb : I64 b) (h : (!(decide (wrap64 (a + b) < a) == decide (b < 0))) = false) : addV a b = (wrap64 (a + b), 0) := by
  unfold I64 at ha hb
  by_cases c : b < 0 <;> by_cases d : wrap64 (a + b) < a <;> simp [c, d] at h <;> (unfold wrap64 at d ⊢; unfold addV; rw [put_in (by omega) (by omega)]; congr 1; omega)
end TnAdd

set_option maxHeartbeats 400000 in
theorem add_any (a b : Int) (ha : I64 a) (hb : I64 b) (w : World) :
    Calls Try.prog 38 #[.int .i64 a, .int .i64 b] w fun e w' => e = .returned (.tuple #[.int .i64 (addV a b).1, .int .i64 (addV a b).2]) ∧ w = w' := by
  go_enter Try.func38, Try.ntmps38
  go_wp2
  all_goals go_ret2
  · exact ⟨ret_ints (TnAdd.add_over ha hb (by assumption)), rfl⟩
  · exact ⟨ret_ints (TnAdd.add_fits ha hb (by assumption)), rfl⟩

set_option maxHeartbeats 400000 in
theorem radd_any (a b : Int) (ha : I64 a) (hb : I64 b) (w : World) :
    Calls Try.prog 39 #[.int .i64 a, .int .i64 b] w fun e w' => e = .returned (.tuple #[.int .i64 (addV a b).1, .int .i64 (addV a b).2]) ∧ w = w' := by
  unfold I64 at ha hb
  go_enter Try.func39, Try.ntmps39
  go_wp2
  all_goals
    go_ret2
    refine ⟨ret_ints ?_, rfl⟩
    first | exact put_out (by omega) | exact put_in (by omega) (by omega)

/-- append, as one step of a region that draws its order. -/
theorem step_app {w : World} {B : Nat} {ops : Array Oper} {o : Oper} {a : Act} {K : Act → World → Prop} {Q : Exit → Act → World → Prop} {E : Prop} (hgd : o.guard = none) (s x : Operand)
    (hop : o.op = .call { callee := .builtin .append, args := #[s, x], argTypes := #[22, 22] })
    (v : Value) (xs : List Int) (hs : a.eval s = v) (ho : Own B w v xs) (A : Option Addr) (c : Nat) (ys : List Int) (n : Nat) (hx : a.eval x = .slice A n c) (hn : n = ys.length) (hr : Rd w A ys)
    (hl : xs.length + ys.length ≤ 1000000) (hB : B ≤ w.heap.size)
    (h : ∀ zs A' c' w', Hid (zs = xs ++ ys) → Own B w' (.slice A' zs.length c') zs → Below B w w' → K (a.put o.dst (.slice A' zs.length c')) w') :
    if Region.wanted o (yielded ops a.tmps) = true then Oper.wp Try.prog o a w K Q else E := by
  have hw : Region.wanted o (yielded ops a.tmps) = true := by simp [Region.wanted, hgd]
  rw [if_pos hw]
  subst hn
  obtain ⟨zs, A', c', w', e, hrun, h1, h2⟩ := run_app ho c hr hl hB o.type
  unfold Oper.wp execOp
  simp only [hop, resolve, invoke, builtin, Sem.run_bind, Sem.run_pure, Result.andThen_ok, List.map_toArray, List.map_cons, List.map_nil, hs, hx, hrun]
  exact h zs A' c' w' e h1 h2

namespace TnG
/-! ### Stretched, place by place -/
theorem spread_succ (s d g : List Int) (k : Nat) : spreadL s d g (k + 1) = spreadL s d g k ++ [d.getD (srcI s g k).toNat 0] := by
  unfold spreadL; rw [List.range_succ, List.map_append]; rfl
def Sp (s d g : List Int) (N k : Nat) (zs : List Int) : Prop := k ≤ N ∧ zs = spreadL s d g k
theorem sp_len {s d g : List Int} {N k : Nat} {zs : List Int} (h : Sp s d g N k zs) : zs.length = k := by rw [h.2, spread_len]
theorem sp_step {s d g : List Int} {N k m : Nat} {zs ys : List Int} {x : Int} (h : Sp s d g N k zs) (hk : k < N) (hm : srcI s g k = (m : Int)) (hx : d[m]? = some x) (hy : ys = zs ++ [x]) : Sp s d g N (k + 1) ys := by
  refine ⟨hk, ?_⟩
  rw [spread_succ, ← h.2, hy, hm, Int.toNat_natCast, List.getD_eq_getElem?_getD, hx]; rfl
theorem sp_end {s d g : List Int} {N k : Nat} {zs : List Int} (h : Sp s d g N k zs) (hk : ¬ k < N) : zs = spreadL s d g N := by
  obtain ⟨h1, h2⟩ := h
  rw [h2, show k = N by omega]
theorem spread_no {s d : List Int} (g : List Int) (h : tokV s d = false) : spreadV s d g = ([], [], 30) := by unfold spreadV; rw [h]; rfl
theorem spread_misfit {s d g : List Int} (h : tokV s d = true) (k : fitsV s g = false) : spreadV s d g = ([], [], 20) := by unfold spreadV; rw [h, k]; rfl
theorem spread_yes {s d g : List Int} (h : tokV s d = true) (k : fitsV s g = true) : spreadV s d g = (g, spreadL s d g (sizeV g).toNat, 0) := by unfold spreadV; rw [h, k]; rfl
/-- Each place comes from one of the numbers. -/
theorem src_nat {s d g : List Int} (h : tokV s d = true) (k : fitsV s g = true) {N : Nat} (hN : sizeV g = N) {p : Nat} (hp : p < N) : ∃ m : Nat, srcI s g p = (m : Int) ∧ m < d.length := by
  obtain ⟨a, b⟩ := tok_iff.1 h
  have hg := (fits_al k).2.1
  obtain ⟨i1, i2⟩ := src_in k (p := (p : Int)) (by omega) (by rw [← size_ok hg]; omega)
  exact ⟨(srcI s g p).toNat, by omega, by omega⟩

/-! ### Folded, place by place -/
def Fd (f : Nat → Nat) (d : List Int) (M k : Nat) (zs : List Int) (r : List Int × Int) : Prop := k ≤ d.length ∧ zs.length = M ∧ I64s zs ∧ r = foldG f zs k (d.drop k)
theorem fd_start (f : Nat → Nat) (d : List Int) (M : Nat) : Fd f d M 0 (List.replicate M 0) (foldG f (List.replicate M 0) 0 d) := ⟨Nat.zero_le _, by simp, I64s.rep (by omega), rfl⟩
theorem fd_step {f : Nat → Nat} {d : List Int} {M k : Nat} {zs : List Int} {r : List Int × Int} {x y v : Int} (h : Fd f d M k zs r) (hx : d[k]? = some x) (hy : zs[f k]? = some y) (hv : addV y x = (v, 0)) : Fd f d M (k + 1) (zs.set (f k) v) r := by
  obtain ⟨h1, h2, h3, h4⟩ := h
  refine ⟨(List.getElem?_eq_some_iff.1 hx).1, by simpa using h2, h3.set_ _ (by have := add_in (a := y) (b := x); rw [hv] at this; exact this), ?_⟩
  rw [h4, drop_of hx]
  simp only [foldG, List.getD_eq_getElem?_getD, hy, Option.getD_some, hv, if_true]
theorem fd_err {f : Nat → Nat} {d : List Int} {M k : Nat} {zs : List Int} {r : List Int × Int} {x y : Int} (h : Fd f d M k zs r) (hx : d[k]? = some x) (hy : zs[f k]? = some y) (hv : addV y x = (0, 10)) : r = ([], 10) := by
  obtain ⟨h1, h2, h3, h4⟩ := h
  rw [h4, drop_of hx]
  simp only [foldG, List.getD_eq_getElem?_getD, hy, Option.getD_some, hv]
  rfl
theorem fd_end {f : Nat → Nat} {d : List Int} {M k : Nat} {zs : List Int} {r : List Int × Int} (h : Fd f d M k zs r) (hk : ¬ k < d.length) : r = (zs, 0) := by
  obtain ⟨h1, h2, h3, h4⟩ := h
  rw [h4, show k = d.length by omega, List.drop_length]; rfl
theorem add_two (a b : Int) : (∃ v, addV a b = (v, 0)) ∨ addV a b = (0, 10) := by
  unfold addV
  rcases put_cases (a + b) with ⟨_, _, e⟩ | ⟨_, e⟩
  · exact .inl ⟨_, e⟩
  · exact .inr e
theorem fold_no {g d : List Int} (s : List Int) (h : tokV g d = false) : foldV g d s = ([], [], 30) := by unfold foldV; rw [h]; rfl
theorem fold_misfit {g d s : List Int} (h : tokV g d = true) (k : fitsV s g = false) : foldV g d s = ([], [], 20) := by unfold foldV; rw [h, k]; rfl
theorem fold_yes {g d s zs : List Int} (h : tokV g d = true) (k : fitsV s g = true) (r : foldL s g d = (zs, 0)) : foldV g d s = (s, zs, 0) := by unfold foldV; rw [h, k, r]; rfl
theorem fold_err {g d s : List Int} (h : tokV g d = true) (k : fitsV s g = true) (r : foldL s g d = ([], 10)) : foldV g d s = ([], [], 10) := by unfold foldV; rw [h, k, r]; rfl
/-- Each of the numbers goes to a place. -/
theorem dst_nat {g d s : List Int} (h : tokV g d = true) (k : fitsV s g = true) {M : Nat} (hM : sizeV s = M) {p : Nat} (hp : p < d.length) : ∃ m : Nat, srcI s g p = (m : Int) ∧ m < M := by
  obtain ⟨a, b⟩ := tok_iff.1 h
  have hs := (fits_al k).1
  have := size_ok hs
  obtain ⟨i1, i2⟩ := src_in k (p := (p : Int)) (by omega) (by omega)
  exact ⟨(srcI s g p).toNat, by omega, by omega⟩
end TnG
end Go.Proofs.Ytdekchfapblgeaa
