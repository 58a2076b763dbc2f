/- Plain facts of layer 7's laws: products turned, by the table of One, row by row, by nought, one below the other. -/
import Derived.Test.YtepnhmdjglpmeaaMmM
namespace Go.Proofs.ShM
open Go.Proofs.FixM

/-! ### Tables -/
theorem at_two2 {M K : Nat} {xs : List Int} (h : tokV [(M : Int), (K : Int)] xs = true) {i k : Nat} (hi : i < M) (hk : k < K) : atV [(M : Int), (K : Int)] xs [(i : Int), (k : Int)] = (xs.getD (i * K + k) 0, 0) := by
  rw [at_in h (by simp [inIdx]; omega)]
  have e : plc [(M : Int), (K : Int)] [(i : Int), (k : Int)] = ((i * K + k : Nat) : Int) := by simp [plc, prodS]
  rw [e, Int.toNat_natCast]
theorem tab_len {M K : Nat} {xs : List Int} (h : tokV [(M : Int), (K : Int)] xs = true) : xs.length = M * K := by
  have hl := (tok_iff.1 h).2
  have e2 : prodS [(M : Int), (K : Int)] = ((M * K : Nat) : Int) := by simp [prodS]
  rw [e2] at hl
  exact_mod_cast hl
theorem tab_ok {M K : Nat} (h : okS [(M : Int), (K : Int)] = true) : 1 ≤ M ∧ M ≤ 16 ∧ 1 ≤ K ∧ K ≤ 16 ∧ (sizeV [(M : Int), (K : Int)]).toNat = M * K ∧ M * K ≤ 64 := by
  have a := side_of2 (ok_all h) (k := 0) (by simp)
  have b := side_of2 (ok_all h) (k := 1) (by simp)
  have a' : 1 ≤ (M : Int) ∧ (M : Int) ≤ 16 := a
  have b' : 1 ≤ (K : Int) ∧ (K : Int) ≤ 16 := b
  have e2 : prodS [(M : Int), (K : Int)] = ((M * K : Nat) : Int) := by simp [prodS]
  have c := (ok_prod h).2
  rw [e2] at c
  refine ⟨by omega, by omega, by omega, by omega, ?_, by omega⟩
  rw [size_ok h, e2, Int.toNat_natCast]
theorem tab_tok {M K : Nat} (h : okS [(M : Int), (K : Int)] = true) {xs : List Int} (hl : xs.length = M * K) : tokV [(M : Int), (K : Int)] xs = true := by
  refine tok_iff.2 ⟨h, ?_⟩
  have e2 : prodS [(M : Int), (K : Int)] = ((M * K : Nat) : Int) := by simp [prodS]
  rw [e2, hl]
theorem tab_ext {M K : Nat} {xs ys : List Int} (h1 : xs.length = M * K) (h2 : ys.length = M * K) (h : ∀ i k, i < M → k < K → xs.getD (i * K + k) 0 = ys.getD (i * K + k) 0) : xs = ys := by
  refine ext0 (h1.trans h2.symm) fun q hq => ?_
  rw [h1] at hq
  have hK : 0 < K := by rcases Nat.eq_zero_or_pos K with e | e; (rw [e, Nat.mul_zero] at hq; omega); exact e
  have hi : q / K < M := Nat.div_lt_of_lt_mul (by rw [Nat.mul_comm]; exact hq)
  have e : q = q / K * K + q % K := by rw [Nat.mul_comm]; exact (Nat.div_add_mod q K).symm
  rw [e]
  exact h _ _ hi (Nat.mod_lt _ hK)
theorem ok_two {M K : Nat} (h : okS [(M : Int), (K : Int)] = true) : okS [(K : Int), (M : Int)] = true := by
  have := ok_reverse h
  exact this
theorem ok_iff2 {M K : Nat} (h1 : 1 ≤ M) (h2 : M ≤ 16) (h3 : 1 ≤ K) (h4 : K ≤ 16) (h5 : M * K ≤ 64) : okS [(M : Int), (K : Int)] = true := by
  have e2 : prodS [(M : Int), (K : Int)] = ((M * K : Nat) : Int) := by simp [prodS]
  refine ok_iff.2 ⟨by simp, ?_, by rw [e2]; omega⟩
  simp [sideB]; omega
theorem rge (n : Nat) (F : Nat → Int) {q : Nat} (hq : q < n) : ((List.range n).map F).getD q 0 = F q := by
  rw [List.getD, List.getElem?_map, List.getElem?_range hq]; rfl
theorem divmod {i j N : Nat} (hj : j < N) : (i * N + j) / N = i ∧ (i * N + j) % N = j := by
  have e1 : i * N + j = j + N * i := by rw [Nat.mul_comm]; omega
  rw [e1, Nat.add_mul_div_left _ _ (by omega), Nat.add_mul_mod_self_left, Nat.div_eq_of_lt hj, Nat.mod_eq_of_lt hj]
  omega
theorem atQ_at {xs ys : List Int} {K N i j : Nat} (hj : j < N) : atQ xs ys K N (i * N + j) = dotV (rowF xs K i) (colF ys N j) K := by
  unfold atQ; rw [(divmod hj).1, (divmod hj).2]
/-- All numbers of a product can be. -/
theorem matL_ok {xs ys : List Int} {M K N : Nat} (hN : 1 ≤ N) : (matL xs ys M K N).2 = 0 ↔ ∀ i j, i < M → j < N → (dotV (rowF xs K i) (colF ys N j) K).2 = 0 := by
  unfold matL
  rw [mapE_e, firstE_zero]
  constructor
  · intro h i j hi hj
    have := h (i * N + j) (List.mem_range.2 (lin_nat hi hj))
    rwa [atQ_at hj] at this
  · intro h q hq
    have hq' := List.mem_range.1 hq
    have hi : q / N < M := Nat.div_lt_of_lt_mul (by rw [Nat.mul_comm]; exact hq')
    exact h _ _ hi (Nat.mod_lt _ (by omega))
theorem matL_is {xs ys : List Int} {M K N : Nat} (h : (matL xs ys M K N).2 = 0) : (matL xs ys M K N).1 = (List.range (M * N)).map fun q => (atQ xs ys K N q).1 := by
  unfold matL at h ⊢
  rw [(mapE_ok h).2]
theorem matL_len {xs ys : List Int} {M K N : Nat} (h : (matL xs ys M K N).2 = 0) : (matL xs ys M K N).1.length = M * N := by rw [matL_is h]; simp
theorem matL_at {xs ys : List Int} {M K N i j : Nat} (h : (matL xs ys M K N).2 = 0) (hi : i < M) (hj : j < N) : (matL xs ys M K N).1.getD (i * N + j) 0 = (dotV (rowF xs K i) (colF ys N j) K).1 := by
  rw [matL_is h, rge _ _ (lin_nat hi hj), atQ_at hj]
theorem matL_err {xs ys : List Int} {M K N : Nat} (h : (matL xs ys M K N).2 ≠ 0) : (matL xs ys M K N).2 = 10 := by
  unfold matL at h ⊢
  rw [mapE_e] at h ⊢
  generalize List.range (M * N) = l at h ⊢
  induction l with
  | nil => exact absurd rfl h
  | cons q l ih =>
    rw [firstE_cons] at h ⊢
    by_cases e : (atQ xs ys K N q).2 = 0
    · rw [if_pos e] at h ⊢; exact ih h
    · rw [if_neg e]
      have := dot_err (f := rowF xs K (q / N)) (g := colF ys N (q % N)) (n := K) e
      show (dotV _ _ _).2 = 10
      rw [this]
theorem dot_i64 (f g : Nat → Int) (n : Nat) : -9223372036854775808 ≤ (dotV f g n).1 ∧ (dotV f g n).1 ≤ 9223372036854775807 := by
  induction n with
  | zero => unfold dotV; omega
  | succ n ih =>
    unfold dotV
    split
    · exact ih
    · split
      · omega
      · rcases put_cases ((dotV f g n).1 + (mulV (f n) (g n)).1) with ⟨a, b, e⟩ | ⟨_, e⟩
        · rw [show addV (dotV f g n).1 (mulV (f n) (g n)).1 = _ from e]; exact ⟨a, b⟩
        · rw [show addV (dotV f g n).1 (mulV (f n) (g n)).1 = _ from e]; omega
theorem mat_i64 (s xs t ys : List Int) : I64s (matV s xs t ys).2.1 := by
  unfold matV
  split
  · exact I64s.nil_
  · split
    · exact I64s.nil_
    · split
      · rename_i h
        intro y hy
        rw [matL_is h] at hy
        obtain ⟨q, _, rfl⟩ := List.mem_map.1 hy
        exact dot_i64 _ _ _
      · exact I64s.nil_
theorem mul_comm (a b : Int) : mulV a b = mulV b a := by unfold mulV; rw [Int.mul_comm]

/-! ### What a product is, whatever comes -/
/-- Of two tensors: either no product can be, or both are tables. -/
theorem mat_cases {s xs t ys : List Int} (h1 : tokV s xs = true) (h2 : tokV t ys = true) :
    (matV s xs t ys = ([], [], 20) ∧ matV t.reverse (turnD t ys) s.reverse (turnD s xs) = ([], [], 20)) ∨
    ∃ M K N : Nat, s = [(M : Int), (K : Int)] ∧ t = [(K : Int), (N : Int)] ∧ okS [(M : Int), (N : Int)] = true := by
  by_cases a : s.length = 2
  · by_cases b : t.length = 2
    · obtain ⟨M, K, rfl, m1, m2, k1, k2, l1⟩ := table_of h1 a
      obtain ⟨K2, N, rfl, _, _, n1, n2, l2⟩ := table_of h2 b
      by_cases c : (K : Int) = (K2 : Int)
      · by_cases d : okS [(M : Int), (N : Int)] = false
        · left
          refine ⟨mat_shape h1 h2 (Or.inr d), ?_⟩
          refine mat_shape (turn_tok h2) (turn_tok h1) (Or.inr ?_)
          cases e : okS [(N : Int), (M : Int)] with
          | false => exact e
          | true => rw [ok_two e] at d; cases d
        · right
          obtain rfl : K = K2 := by omega
          exact ⟨M, K, N, rfl, rfl, by simpa using d⟩
      · left
        exact ⟨mat_shape h1 h2 (Or.inl c), mat_shape (turn_tok h2) (turn_tok h1) (Or.inl fun e => c (show (K2 : Int) = (K : Int) from e).symm)⟩
    · left
      refine ⟨?_, ?_⟩
      · unfold matV; rw [if_neg (by simp [h1, h2]), if_pos (Or.inr (Or.inl b))]
      · unfold matV; rw [if_neg (by simp [turn_tok h1, turn_tok h2]), if_pos (Or.inl (by simpa using b))]
  · left
    refine ⟨?_, ?_⟩
    · unfold matV; rw [if_neg (by simp [h1, h2]), if_pos (Or.inl a)]
    · unfold matV; rw [if_neg (by simp [turn_tok h1, turn_tok h2]), if_pos (Or.inr (Or.inl (by simpa using a)))]

/-! ### Turned -/
theorem turn2 {M K : Nat} {xs : List Int} (h : tokV [(M : Int), (K : Int)] xs = true) {i k : Nat} (hi : i < M) (hk : k < K) : (turnD [(M : Int), (K : Int)] xs).getD (k * M + i) 0 = xs.getD (i * K + k) 0 := by
  have e := turn_at (t := [(i : Int), (k : Int)]) h
  rw [at_two2 h hi hk] at e
  have e2 := at_two2 (M := K) (K := M) (xs := turnD [(M : Int), (K : Int)] xs) (turn_tok h) hk hi
  have e3 : atV [(K : Int), (M : Int)] (turnD [(M : Int), (K : Int)] xs) [(k : Int), (i : Int)] = (xs.getD (i * K + k) 0, 0) := e
  rw [e2] at e3
  exact congrArg Prod.fst e3
theorem mat_turn {s xs t ys : List Int} (h1 : tokV s xs = true) (h2 : tokV t ys = true) :
    (matV s xs t ys = ([], [], 20) ∧ matV t.reverse (turnD t ys) s.reverse (turnD s xs) = ([], [], 20)) ∨
    (s.length = 2 ∧ t.length = 2 ∧ matV s xs t ys = ([], [], 10) ∧ matV t.reverse (turnD t ys) s.reverse (turnD s xs) = ([], [], 10)) ∨
    (s.length = 2 ∧ t.length = 2 ∧ ∃ l k l2 k2, matV s xs t ys = (l, k, 0) ∧ matV t.reverse (turnD t ys) s.reverse (turnD s xs) = (l2, k2, 0) ∧ turnV l k = (l2, k2, 0) ∧ l.length = 2 ∧ l2.length = 2 ∧ k.length = k2.length) := by
  rcases mat_cases h1 h2 with h | ⟨M, K, N, rfl, rfl, ho⟩
  · exact Or.inl h
  · right
    obtain ⟨m1, m2, n1, n2, _, _⟩ := tab_ok ho
    have f1 := mat_form h1 h2 ho
    have f2 : matV [(N : Int), (K : Int)] (turnD [(K : Int), (N : Int)] ys) [(K : Int), (M : Int)] (turnD [(M : Int), (K : Int)] xs) = _ := mat_form (M := N) (K := K) (N := M) (turn_tok h2) (turn_tok h1) (ok_two ho)
    have hd : ∀ i j, i < M → j < N → dotV (rowF (turnD [(K : Int), (N : Int)] ys) K j) (colF (turnD [(M : Int), (K : Int)] xs) M i) K = dotV (rowF xs K i) (colF ys N j) K := fun i j hi hj => by
      refine dot_congr fun k hk => ?_
      show mulV ((turnD [(K : Int), (N : Int)] ys).getD (j * K + k) 0) ((turnD [(M : Int), (K : Int)] xs).getD (k * M + i) 0) = mulV (xs.getD (i * K + k) 0) (ys.getD (k * N + j) 0)
      rw [turn2 h2 hk hj, turn2 h1 hi hk, mul_comm]
    by_cases e : (matL xs ys M K N).2 = 0
    · right
      have e2 : (matL (turnD [(K : Int), (N : Int)] ys) (turnD [(M : Int), (K : Int)] xs) N K M).2 = 0 := (matL_ok m1).2 fun j i hj hi => by rw [hd i j hi hj]; exact (matL_ok n1).1 e i j hi hj
      rw [if_pos e] at f1
      rw [if_pos e2] at f2
      have ht := tab_tok ho (matL_len e)
      refine ⟨rfl, rfl, _, _, _, _, f1, f2, ?_, rfl, rfl, ?_⟩
      · rw [turn_is ht]
        have : turnD [(M : Int), (N : Int)] (matL xs ys M K N).1 = (matL (turnD [(K : Int), (N : Int)] ys) (turnD [(M : Int), (K : Int)] xs) N K M).1 := by
          refine tab_ext (M := N) (K := M) (by rw [turnD_len, matL_len e, Nat.mul_comm]) (matL_len e2) fun j i hj hi => ?_
          rw [turn2 ht hi hj, matL_at e hi hj, matL_at e2 hj hi, hd i j hi hj]
        rw [this]
        rfl
      · rw [matL_len e, matL_len e2, Nat.mul_comm]
    · left
      have e2 : (matL (turnD [(K : Int), (N : Int)] ys) (turnD [(M : Int), (K : Int)] xs) N K M).2 ≠ 0 := fun h => e ((matL_ok n1).2 fun i j hi hj => by rw [← hd i j hi hj]; exact (matL_ok m1).1 h j i hj hi)
      rw [if_neg e, matL_err e] at f1
      rw [if_neg e2, matL_err e2] at f2
      exact ⟨rfl, rfl, f1, f2⟩

/-! ### By the table of One -/
def unitL (n : Nat) : List Int := (List.range (n * n)).map fun i => if i / n = i % n then 4294967296 else 0
theorem unit_len (n : Nat) : (unitL n).length = n * n := by simp [unitL]
theorem unit_i64 (n : Nat) : I64s (unitL n) := fun y hy => by
  unfold unitL at hy
  obtain ⟨i, _, rfl⟩ := List.mem_map.1 hy
  split <;> omega
theorem unit_at {n i j : Nat} (hi : i < n) (hj : j < n) : (unitL n).getD (i * n + j) 0 = if i = j then 4294967296 else 0 := by
  unfold unitL
  rw [rge _ _ (lin_nat hi hj), (divmod hj).1, (divmod hj).2]
theorem unit_tok {n : Nat} (h1 : 1 ≤ n) (h2 : n ≤ 8) : tokV [(n : Int), (n : Int)] (unitL n) = true := tab_tok (ok_iff2 h1 (by omega) h1 (by omega) (by have := Nat.mul_le_mul h2 h2; omega)) (unit_len n)
theorem mul_one' {x : Int} (h : -9223372036854775808 ≤ x ∧ x ≤ 9223372036854775807) : mulV 4294967296 x = (x, 0) := by
  unfold mulV; rw [Int.mul_ediv_cancel_left _ (by omega)]; exact put_in h.1 h.2
theorem mul_nought (x : Int) : mulV 0 x = (0, 0) := by unfold mulV; rw [Int.zero_mul]; exact put_in (by omega) (by omega)
/-- Of products all but one are nought. -/
theorem dot_pick {f g : Nat → Int} {n i : Nat} {v : Int} (hv : -9223372036854775808 ≤ v ∧ v ≤ 9223372036854775807) (h : ∀ k, k < n → mulV (f k) (g k) = (if k = i then v else 0, 0)) : ∀ m, m ≤ n → dotV f g m = (if i < m then v else 0, 0) := by
  intro m
  induction m with
  | zero => intro _; rfl
  | succ m ih =>
    intro hm
    have e := ih (by omega)
    have hk := h m (by omega)
    unfold dotV
    rw [e, if_neg (by simp), hk, if_neg (by simp)]
    by_cases c : m = i
    · subst c
      rw [if_neg (by omega), if_pos rfl, if_pos (by omega)]
      show put (0 + v) = (v, 0)
      rw [Int.zero_add]; exact put_in hv.1 hv.2
    · rw [if_neg c]
      by_cases d : i < m
      · rw [if_pos d, if_pos (by omega)]
        show put (v + 0) = (v, 0)
        rw [Int.add_zero]; exact put_in hv.1 hv.2
      · rw [if_neg d, if_neg (by omega)]; rfl
theorem unit_left {M K : Nat} {xs : List Int} (h : tokV [(M : Int), (K : Int)] xs = true) (hi : I64s xs) (h8 : M ≤ 8) : matV [(M : Int), (M : Int)] (unitL M) [(M : Int), (K : Int)] xs = ([(M : Int), (K : Int)], xs, 0) := by
  have ho := (tok_iff.1 h).1
  obtain ⟨m1, m2, k1, k2, _, _⟩ := tab_ok ho
  rw [mat_form (unit_tok m1 h8) h ho]
  have hd : ∀ i j, i < M → j < K → dotV (rowF (unitL M) M i) (colF xs K j) M = (xs.getD (i * K + j) 0, 0) := fun i j hI hJ => by
    have := dot_pick (f := rowF (unitL M) M i) (g := colF xs K j) (n := M) (i := i) (v := xs.getD (i * K + j) 0) (getD_i64 hi _) (fun k hk => by
      show mulV ((unitL M).getD (i * M + k) 0) (xs.getD (k * K + j) 0) = _
      rw [unit_at hI hk]
      by_cases c : i = k
      · subst c; rw [if_pos rfl, if_pos rfl]; exact mul_one' (getD_i64 hi _)
      · rw [if_neg c, if_neg (fun e => c e.symm)]; exact mul_nought _) M (Nat.le_refl _)
    rw [this, if_pos hI]
  have e : (matL (unitL M) xs M M K).2 = 0 := (matL_ok k1).2 fun i j hI hJ => by rw [hd i j hI hJ]
  rw [if_pos e]
  have : (matL (unitL M) xs M M K).1 = xs := tab_ext (M := M) (K := K) (matL_len e) (tab_len h) fun i j hI hJ => by rw [matL_at e hI hJ, hd i j hI hJ]
  rw [this]
theorem unit_right {M K : Nat} {xs : List Int} (h : tokV [(M : Int), (K : Int)] xs = true) (hi : I64s xs) (h8 : K ≤ 8) : matV [(M : Int), (K : Int)] xs [(K : Int), (K : Int)] (unitL K) = ([(M : Int), (K : Int)], xs, 0) := by
  have ho := (tok_iff.1 h).1
  obtain ⟨m1, m2, k1, k2, _, _⟩ := tab_ok ho
  rw [mat_form h (unit_tok k1 h8) ho]
  have hd : ∀ i j, i < M → j < K → dotV (rowF xs K i) (colF (unitL K) K j) K = (xs.getD (i * K + j) 0, 0) := fun i j hI hJ => by
    have := dot_pick (f := rowF xs K i) (g := colF (unitL K) K j) (n := K) (i := j) (v := xs.getD (i * K + j) 0) (getD_i64 hi _) (fun k hk => by
      show mulV (xs.getD (i * K + k) 0) ((unitL K).getD (k * K + j) 0) = _
      rw [unit_at hk hJ, mul_comm]
      by_cases c : k = j
      · subst c; rw [if_pos rfl, if_pos rfl]; exact mul_one' (getD_i64 hi _)
      · rw [if_neg c, if_neg c]; exact mul_nought _) K (Nat.le_refl _)
    rw [this, if_pos hJ]
  have e : (matL xs (unitL K) M K K).2 = 0 := (matL_ok k1).2 fun i j hI hJ => by rw [hd i j hI hJ]
  rw [if_pos e]
  have : (matL xs (unitL K) M K K).1 = xs := tab_ext (M := M) (K := K) (matL_len e) (tab_len h) fun i j hI hJ => by rw [matL_at e hI hJ, hd i j hI hJ]
  rw [this]

/-! ### By nought, of one number -/
theorem dot_nought {f g : Nat → Int} : ∀ {n : Nat}, (∀ k, k < n → g k = 0) → dotV f g n = (0, 0) := by
  intro n h
  have := dot_pick (f := f) (g := g) (n := n) (i := n) (v := 0) (by omega) (fun k hk => by rw [h k hk, mul_comm, mul_nought]; split <;> rfl) n (Nat.le_refl _)
  rw [this]; simp
/-- The product by a table of 0, beside that by another one of its shape. -/
theorem mat_zero {s xs t ys : List Int} (h1 : tokV s xs = true) (h2 : tokV t ys = true) (hs : s.length = 2) (ht : t.length = 2) :
    (matV s xs t (List.replicate (sizeV t).toNat 0) = ([], [], 20) ∧ matV s xs t ys = ([], [], 20)) ∨
    ∃ l n : List Int, ∃ k l2 e, matV s xs t (List.replicate (sizeV t).toNat 0) = (l, List.replicate k 0, 0) ∧ l.length = 2 ∧ k ≤ 64 ∧ matV s xs t ys = (l2, n, e) ∧ (e = 0 ∨ e = 10) := by
  have h3 : tokV t (List.replicate (sizeV t).toNat 0) = true := full_tok 0 (tok_iff.1 h2).1
  obtain ⟨M, K, rfl, m1, m2, k1, k2, l1⟩ := table_of h1 hs
  obtain ⟨K2, N, rfl, _, _, n1, n2, l2⟩ := table_of h2 ht
  by_cases c : (K : Int) = (K2 : Int)
  · obtain rfl : K = K2 := by omega
    by_cases d : okS [(M : Int), (N : Int)] = false
    · exact Or.inl ⟨mat_shape h1 h3 (Or.inr d), mat_shape h1 h2 (Or.inr d)⟩
    · right
      have ho : okS [(M : Int), (N : Int)] = true := by simpa using d
      have f1 := mat_form h1 h3 ho
      have f2 := mat_form h1 h2 ho
      have hl := tab_len h3
      have hd : ∀ i j, i < M → j < N → dotV (rowF xs K i) (colF (List.replicate (sizeV [(K : Int), (N : Int)]).toNat 0) N j) K = (0, 0) := fun i j hi hj => dot_nought fun k hk => by
        show (List.replicate _ (0 : Int)).getD (k * N + j) 0 = 0
        rw [rep_getD]
        have := lin_nat hk hj
        rw [List.length_replicate] at hl
        rw [hl]; exact this
      have e : (matL xs (List.replicate (sizeV [(K : Int), (N : Int)]).toNat 0) M K N).2 = 0 := (matL_ok n1).2 fun i j hi hj => by rw [hd i j hi hj]
      rw [if_pos e] at f1
      have f3 : (matL xs (List.replicate (sizeV [(K : Int), (N : Int)]).toNat 0) M K N).1 = List.replicate (M * N) 0 := tab_ext (M := M) (K := N) (matL_len e) (by simp) fun i j hi hj => by
        rw [matL_at e hi hj, hd i j hi hj, rep_getD _ _ _ (lin_nat hi hj)]
      rw [f3] at f1
      by_cases g : (matL xs ys M K N).2 = 0
      · rw [if_pos g] at f2; exact ⟨_, _, _, _, _, f1, rfl, (tab_ok ho).2.2.2.2.2, f2, Or.inl rfl⟩
      · rw [if_neg g] at f2; exact ⟨_, _, _, _, _, f1, rfl, (tab_ok ho).2.2.2.2.2, f2, Or.inr (matL_err g)⟩
  · exact Or.inl ⟨mat_shape h1 h3 (Or.inl c), mat_shape h1 h2 (Or.inl c)⟩
/-- Of tables of one number. -/
theorem mat_one {s xs t ys : List Int} (h1 : tokV s xs = true) (h2 : tokV t ys = true) (hs : s.length = 2) (ht : t.length = 2) (hx : xs.length = 1) (hy : ys.length = 1) :
    ∃ l k, matV s xs t ys = (l, k, (mulV (xs.getD 0 0) (ys.getD 0 0)).2) ∧ ((mulV (xs.getD 0 0) (ys.getD 0 0)).2 = 0 → l.length = 2 ∧ k = [(mulV (xs.getD 0 0) (ys.getD 0 0)).1]) ∧ ((mulV (xs.getD 0 0) (ys.getD 0 0)).2 ≠ 0 → l = [] ∧ k = []) := by
  obtain ⟨M, K, rfl, m1, m2, k1, k2, l1⟩ := table_of h1 hs
  obtain ⟨K2, N, rfl, k3, k4, n1, n2, l2⟩ := table_of h2 ht
  rw [hx] at l1
  rw [hy] at l2
  obtain ⟨rfl, rfl⟩ : M = 1 ∧ K = 1 := ⟨Nat.eq_one_of_mul_eq_one_right l1.symm, Nat.eq_one_of_mul_eq_one_left l1.symm⟩
  obtain ⟨rfl, rfl⟩ : K2 = 1 ∧ N = 1 := ⟨Nat.eq_one_of_mul_eq_one_right l2.symm, Nat.eq_one_of_mul_eq_one_left l2.symm⟩
  have ho : okS [((1 : Nat) : Int), ((1 : Nat) : Int)] = true := by decide
  have f := mat_form h1 h2 ho
  have hd : dotV (rowF xs 1 0) (colF ys 1 0) 1 = mulV (xs.getD 0 0) (ys.getD 0 0) := by
    have e1 : rowF xs 1 0 0 = xs.getD 0 0 := rfl
    have e2 : colF ys 1 0 0 = ys.getD 0 0 := rfl
    unfold dotV
    rw [if_neg (by show ¬ (0 : Int) ≠ 0; simp), e1, e2]
    rcases put_cases (xs.getD 0 0 * ys.getD 0 0 / 4294967296) with ⟨a, b, e⟩ | ⟨_, e⟩
    · rw [show mulV (xs.getD 0 0) (ys.getD 0 0) = _ from e, if_neg (by simp)]
      show put (0 + _) = _
      rw [Int.zero_add]; exact put_in a b
    · rw [show mulV (xs.getD 0 0) (ys.getD 0 0) = _ from e, if_pos (by simp)]
  have hm : matL xs ys 1 1 1 = mapE (fun _ : Nat => mulV (xs.getD 0 0) (ys.getD 0 0)) [0] := by
    unfold matL
    show mapE (atQ xs ys 1 1) [0] = _
    have : atQ xs ys 1 1 0 = mulV (xs.getD 0 0) (ys.getD 0 0) := by rw [← hd]; rfl
    unfold mapE firstE firstE
    simp only [this, List.map_cons, List.map_nil]
  rw [f, hm]
  generalize mulV (xs.getD 0 0) (ys.getD 0 0) = v
  by_cases g : v.2 = 0
  · have e : mapE (fun _ : Nat => v) [0] = ([v.1], 0) := by unfold mapE firstE firstE; simp [g]
    rw [e, if_pos rfl]
    exact ⟨_, _, by rw [g], fun _ => ⟨rfl, rfl⟩, fun h => absurd g h⟩
  · have e : mapE (fun _ : Nat => v) [0] = ([], v.2) := by unfold mapE firstE firstE; simp [g]
    rw [e, if_neg g]
    exact ⟨_, _, rfl, fun h => absurd h g, fun _ => ⟨rfl, rfl⟩⟩
end Go.Proofs.ShM
