/- Plain facts of layer 7's laws: a row of One alone adds the rows. -/
import Derived.Test.YtepnhmdjglpmeaaMmN
import Derived.Test.YtepnhmdjglpmeaaRdAll
namespace Go.Proofs.ShM
open Go.Proofs.FixM

/-! ### A row of One alone -/
theorem tk_append (y : Int) : ∀ (l : List Int) (x : Int), tkL addV x (l ++ [y]) = if (tkL addV x l).2 ≠ 0 then tkL addV x l else addV (tkL addV x l).1 y := by
  intro l
  induction l with
  | nil =>
    intro x
    have e : (if (tkL addV x []).2 ≠ 0 then tkL addV x [] else addV (tkL addV x []).1 y) = addV x y := if_neg (by simp [tkL])
    rw [e]
    show (if (addV x y).2 = 0 then ((addV x y).1, (0 : Int)) else (0, (addV x y).2)) = addV x y
    by_cases h : (addV x y).2 = 0
    · rw [if_pos h, ← h]
    · rw [if_neg h, show addV x y = (0, 10) from put_err h]
  | cons z l ih =>
    intro x
    rw [List.cons_append, tk_cons, tk_cons]
    by_cases h : (addV x z).2 = 0
    · rw [if_pos h, if_pos h, ih]
    · rw [if_neg h, if_neg h, if_pos h]
theorem dot_tk {f g h : Nat → Int} : ∀ {n : Nat}, (∀ k, k < n → mulV (f k) (g k) = (h k, 0)) → dotV f g n = tkL addV 0 ((List.range n).map h) := by
  intro n
  induction n with
  | zero => intro _; rfl
  | succ n ih =>
    intro hk
    rw [List.range_succ, List.map_append, List.map_singleton, tk_append, ← ih fun k h => hk k (by omega)]
    have e : dotV f g (n + 1) = if (dotV f g n).2 ≠ 0 then dotV f g n else if (mulV (f n) (g n)).2 ≠ 0 then (0, (mulV (f n) (g n)).2) else addV (dotV f g n).1 (mulV (f n) (g n)).1 := rfl
    rw [e, hk n (by omega)]
    by_cases c : (dotV f g n).2 ≠ 0
    · rw [if_pos c, if_pos c]
    · rw [if_neg c, if_neg (by simp), if_neg c]
theorem line_0' {r c : Nat} {xs : List Int} {q : Nat} (hq : q < c) : lineL [(r : Int), (c : Int)] xs 0 q = (List.range r).map fun i : Nat => xs.getD (i * c + q) 0 := by
  unfold lineL
  have e : (([(r : Int), (c : Int)] : List Int).getD 0 0).toNat = r := by show (r : Int).toNat = r; omega
  rw [e]
  refine List.map_congr_left fun i _ => ?_
  congr 1
  have e2 : putP [(r : Int), (c : Int)] 0 q i = ((i * c + q : Nat) : Int) := by
    show ((q : Int) / (c * 1) * r + i) * (c * 1) + (q : Int) % (c * 1) = _
    rw [Int.mul_one, Int.ediv_eq_zero_of_lt (by omega) (by omega), Int.emod_eq_of_lt (by omega) (by omega), Int.zero_mul, Int.zero_add]
    push_cast
    rfl
  rw [e2, Int.toNat_natCast]
end Go.Proofs.ShM
namespace Go.Proofs.Ytepnhmdjglpmeaa
open Go.RowKit Go.Proofs.ShM Go.Proofs.FixM
theorem mat_ones {K N : Nat} {ys : List Int} (h : tokV [(K : Int), (N : Int)] ys = true) (hi : I64s ys) :
    ∃ l k l2 e, matV [(1 : Int), (K : Int)] (List.replicate K 4294967296) [(K : Int), (N : Int)] ys = (l, k, e) ∧ sumV [(K : Int), (N : Int)] ys 0 = (l2, k, e) := by
  have ho := (tok_iff.1 h).1
  obtain ⟨k1, k2, n1, n2, _, hkn⟩ := tab_ok ho
  have o1 : okS [(1 : Int), (K : Int)] = true := ok_row (ok_two ho)
  have o2 : okS [(1 : Int), (N : Int)] = true := ok_row ho
  have t1 : tokV [(1 : Int), (K : Int)] (List.replicate K 4294967296) = true := tab_tok (M := 1) (K := K) o1 (by simp)
  have f : matV [(1 : Int), (K : Int)] (List.replicate K 4294967296) [(K : Int), (N : Int)] ys = _ := mat_form (M := 1) (K := K) (N := N) t1 h o2
  have hs : (sizeV (([(K : Int), (N : Int)] : List Int).eraseIdx 0)).toNat = N := by
    have e0 : okS (([(K : Int), (N : Int)] : List Int).eraseIdx 0) = true := ok_erase ho (a := 0) (by simp)
    rw [size_ok e0]
    show (prodS [(N : Int)]).toNat = N
    simp [prodS]
  have hm : matL (List.replicate K 4294967296) ys 1 K N = togL addV 0 [(K : Int), (N : Int)] ys 0 := by
    unfold matL togL
    rw [hs, Nat.one_mul]
    have hh : ∀ q ∈ List.range N, atQ (List.replicate K 4294967296) ys K N (id q) = tkL addV 0 (lineL [(K : Int), (N : Int)] ys 0 q) := fun q hq => by
      have hq' := List.mem_range.1 hq
      have e0 := atQ_at (xs := List.replicate K 4294967296) (ys := ys) (K := K) (i := 0) hq'
      rw [show 0 * N + q = q by omega] at e0
      show atQ _ ys K N q = _
      rw [e0, line_0' hq']
      refine dot_tk fun k hk => ?_
      show mulV ((List.replicate K (4294967296 : Int)).getD (0 * K + k) 0) (ys.getD (k * N + q) 0) = _
      rw [show 0 * K + k = k by omega, rep_getD _ _ _ hk]
      exact mul_one' (getD_i64 hi _)
    have := mapE_congr (F := atQ (List.replicate K 4294967296) ys K N) (f := fun q : Nat => tkL addV 0 (lineL [(K : Int), (N : Int)] ys 0 q)) (h := id) hh
    rwa [List.map_id] at this
  have g : sumV [(K : Int), (N : Int)] ys 0 = _ := tog_form (f := addV) (x0 := 0) (a := 0) h (by simp)
  rw [hm] at f
  by_cases c : (togL addV 0 [(K : Int), (N : Int)] ys 0).2 = 0
  · rw [if_pos c] at f g
    exact ⟨_, _, _, _, f, g⟩
  · rw [if_neg c] at f g
    exact ⟨_, _, _, _, f, g⟩
theorem wrap_row {q : Int} (h : -9223372036854775808 ≤ q ∧ q ≤ 9223372036854775807) : IntKind.i64.wrap (q + 1) = q + 1 ∨ IntKind.i64.wrap (q + 1) ≤ q := by
  by_cases c : q = 9223372036854775807
  · subst c; right; decide
  · left; exact IntWalk.i64_in _ (by omega)
theorem full_row {K : Nat} (h : okS [(1 : Int), (K : Int)] = true) : fullV [(1 : Int), (K : Int)] 4294967296 = ([(1 : Int), (K : Int)], List.replicate K 4294967296, 0) := by
  have e : (sizeV [(1 : Int), (K : Int)]).toNat = K := by
    rw [size_ok h]
    simp [prodS]
  unfold fullV
  rw [if_pos h, e]
end Go.Proofs.Ytepnhmdjglpmeaa
