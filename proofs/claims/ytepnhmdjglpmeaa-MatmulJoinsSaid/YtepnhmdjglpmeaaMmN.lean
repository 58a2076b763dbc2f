/- Plain facts of layer 7's laws: products row by row, tables of One alone, one table below the other. -/
import Derived.Test.YtepnhmdjglpmeaaMmL
namespace Go.Proofs.ShM
open Go.Proofs.FixM

/-! ### A product that can be -/
theorem mat_inv {s xs t ys : List Int} (h : (matV s xs t ys).2.2 = 0) : tokV s xs = true ∧ tokV t ys = true ∧ ∃ M K N : Nat, s = [(M : Int), (K : Int)] ∧ t = [(K : Int), (N : Int)] ∧ okS [(M : Int), (N : Int)] = true ∧ (matL xs ys M K N).2 = 0 ∧ matV s xs t ys = ([(M : Int), (N : Int)], (matL xs ys M K N).1, 0) := by
  by_cases h1 : tokV s xs = false ∨ tokV t ys = false
  · unfold matV at h; rw [if_pos h1] at h; cases h
  · have a : tokV s xs = true := by cases e : tokV s xs; (exact absurd (Or.inl e) h1); rfl
    have b : tokV t ys = true := by cases e : tokV t ys; (exact absurd (Or.inr e) h1); rfl
    refine ⟨a, b, ?_⟩
    rcases mat_cases a b with ⟨e, _⟩ | ⟨M, K, N, rfl, rfl, ho⟩
    · rw [e] at h; cases h
    · refine ⟨M, K, N, rfl, rfl, ho, ?_⟩
      rw [mat_form a b ho] at h ⊢
      by_cases e : (matL xs ys M K N).2 = 0
      · rw [if_pos e]; exact ⟨e, rfl⟩
      · rw [if_neg e] at h; exact absurd h e

/-! ### Rows -/
def rowL (xs : List Int) (K r : Nat) : List Int := (List.range K).map fun k => xs.getD (r * K + k) 0
theorem row_len (xs : List Int) (K r : Nat) : (rowL xs K r).length = K := by simp [rowL]
theorem row_at (xs : List Int) {K r k : Nat} (hk : k < K) : (rowL xs K r).getD k 0 = xs.getD (r * K + k) 0 := by unfold rowL; rw [rge _ _ hk]
theorem row_i64 {xs : List Int} (h : I64s xs) (K r : Nat) : I64s (rowL xs K r) := fun y hy => by
  unfold rowL at hy
  obtain ⟨k, _, rfl⟩ := List.mem_map.1 hy
  exact getD_i64 h _
theorem ok_row {M K : Nat} (h : okS [(M : Int), (K : Int)] = true) : okS [(1 : Int), (K : Int)] = true := by
  obtain ⟨m1, m2, k1, k2, _, hl⟩ := tab_ok h
  have := ok_iff2 (M := 1) (K := K) (by omega) (by omega) k1 k2 (by omega)
  exact this
theorem row_tok {M K : Nat} (h : okS [(M : Int), (K : Int)] = true) (xs : List Int) (r : Nat) : tokV [(1 : Int), (K : Int)] (rowL xs K r) = true := by
  have := tab_tok (M := 1) (K := K) (ok_row h) (xs := rowL xs K r) (by rw [row_len]; omega)
  exact this
theorem slice_row {M K : Nat} {xs : List Int} (h : tokV [(M : Int), (K : Int)] xs = true) {r : Nat} (hr : r < M) : sliceV [(M : Int), (K : Int)] xs 0 r (r + 1) = ([(1 : Int), (K : Int)], rowL xs K r, 0) := by
  have ho := (tok_iff.1 h).1
  have e := slice_is (k := 0) (x := (M : Int)) (a := (r : Int)) (b := (r : Int) + 1) h rfl (by omega) (by omega) (by omega)
  have e1 : ([(M : Int), (K : Int)] : List Int).set 0 ((r : Int) + 1 - r) = [(1 : Int), (K : Int)] := by
    show [(r : Int) + 1 - r, (K : Int)] = _
    rw [show (r : Int) + 1 - r = 1 by omega]
  rw [e1] at e
  have e2 : sliceV [(M : Int), (K : Int)] xs 0 r (r + 1) = ([(1 : Int), (K : Int)], movedL [(M : Int), (K : Int)] xs [(1 : Int), (K : Int)] 0 r, 0) := e
  rw [e2]
  have o1 := ok_row ho
  have hl : (movedL [(M : Int), (K : Int)] xs [(1 : Int), (K : Int)] 0 r).length = 1 * K := tab_len (M := 1) (K := K) (moved_tok o1)
  have : movedL [(M : Int), (K : Int)] xs [(1 : Int), (K : Int)] 0 r = rowL xs K r := by
    refine tab_ext (M := 1) (K := K) hl (by rw [row_len]; omega) fun i k hi hk => ?_
    obtain rfl : i = 0 := by omega
    rw [show 0 * K + k = k by omega, row_at xs hk]
    have hu : inIdx [(1 : Int), (K : Int)] [((0 : Nat) : Int), (k : Int)] = true := by simp [inIdx]; omega
    have g1 := moved_at (s := [(M : Int), (K : Int)]) (xs := xs) (k := 0) (m := (r : Int)) o1 hu
    have g2 := at_two2 (M := 1) (K := K) (xs := movedL [(M : Int), (K : Int)] xs [(1 : Int), (K : Int)] 0 r) (moved_tok o1) (i := 0) (k := k) (by omega) hk
    have g3 : upL [((0 : Nat) : Int), (k : Int)] 0 r = [(r : Int), (k : Int)] := by
      show [((0 : Nat) : Int) + r, (k : Int)] = _
      rw [show ((0 : Nat) : Int) + r = r by omega]
    rw [g3, at_two2 h hr hk] at g1
    have g4 := g2.symm.trans g1
    have g5 := congrArg Prod.fst g4
    rw [show 0 * K + k = k by omega] at g5
    exact g5
  rw [this]
theorem slice_off {M K : Nat} {xs : List Int} (h : tokV [(M : Int), (K : Int)] xs = true) {r b : Int} (hr : r < 0 ∨ (M : Int) ≤ r) (hb : b = r + 1 ∨ b ≤ r) : sliceV [(M : Int), (K : Int)] xs 0 r b = ([], [], 20) := by
  unfold sliceV
  rw [if_neg (by simp [h]), if_pos]
  have e : ([(M : Int), (K : Int)] : List Int).getD (0 : Int).toNat 0 = (M : Int) := rfl
  rw [e]
  omega
theorem mat_row {M K N : Nat} {xs ys : List Int} (h1 : tokV [(M : Int), (K : Int)] xs = true) (h2 : tokV [(K : Int), (N : Int)] ys = true) (ho : okS [(M : Int), (N : Int)] = true) (e : (matL xs ys M K N).2 = 0) {r : Nat} (hr : r < M) :
    matV [(1 : Int), (K : Int)] (rowL xs K r) [(K : Int), (N : Int)] ys = ([(1 : Int), (N : Int)], rowL (matL xs ys M K N).1 N r, 0) := by
  have n1 := (tab_ok ho).2.2.1
  have f : matV [(1 : Int), (K : Int)] (rowL xs K r) [(K : Int), (N : Int)] ys = _ := mat_form (M := 1) (K := K) (N := N) (row_tok (tok_iff.1 h1).1 xs r) h2 (ok_row ho)
  have hd : ∀ j, j < N → dotV (rowF (rowL xs K r) K 0) (colF ys N j) K = dotV (rowF xs K r) (colF ys N j) K := fun j _ => dot_congr fun k hk => by
    show mulV ((rowL xs K r).getD (0 * K + k) 0) _ = mulV (xs.getD (r * K + k) 0) _
    rw [show 0 * K + k = k by omega, row_at xs hk]
  have e2 : (matL (rowL xs K r) ys 1 K N).2 = 0 := (matL_ok n1).2 fun i j hi hj => by
    obtain rfl : i = 0 := by omega
    rw [hd j hj]; exact (matL_ok n1).1 e r j hr hj
  rw [if_pos e2] at f
  rw [f]
  have : (matL (rowL xs K r) ys 1 K N).1 = rowL (matL xs ys M K N).1 N r := by
    refine tab_ext (M := 1) (K := N) (matL_len e2) (by rw [row_len]; omega) fun i j hi hj => ?_
    obtain rfl : i = 0 := by omega
    rw [matL_at e2 (by omega) hj, hd j hj, show 0 * N + j = j by omega, row_at _ hj, matL_at e hr hj]
  rw [this]
  rfl

/-! ### One below the other -/
theorem at_i64 {s xs t : List Int} (h : I64s xs) : -9223372036854775808 ≤ (atV s xs t).1 ∧ (atV s xs t).1 ≤ 9223372036854775807 := by
  unfold atV
  split
  · exact getD_i64 h _
  · omega
theorem moved_i64 {s xs g : List Int} {k : Nat} {m : Int} (h : I64s xs) : I64s (movedL s xs g k m) := fun y hy => by
  unfold movedL at hy
  obtain ⟨i, _, rfl⟩ := List.mem_map.1 hy
  exact at_i64 h
theorem glue_i64 {xs ys : List Int} (s t : List Int) (axis : Int) (h : I64s xs) (g : I64s ys) : I64s (glueV s xs t ys axis).2.1 := by
  unfold glueV
  split
  · exact I64s.nil_
  · split
    · exact I64s.nil_
    · intro y hy
      have hy' : y ∈ bothL s xs t ys (s.set axis.toNat (s.getD axis.toNat 0 + t.getD axis.toNat 0)) axis.toNat := hy
      unfold bothL at hy'
      obtain ⟨i, _, rfl⟩ := List.mem_map.1 hy'
      split
      · exact getD_i64 (moved_i64 h) _
      · exact getD_i64 (moved_i64 g) _
theorem both2 {M1 M2 K : Nat} {xs ys : List Int} (h1 : tokV [(M1 : Int), (K : Int)] xs = true) (h2 : tokV [(M2 : Int), (K : Int)] ys = true) (ho : okS [((M1 + M2 : Nat) : Int), (K : Int)] = true) {i k : Nat} (hi : i < M1 + M2) (hk : k < K) :
    (bothL [(M1 : Int), (K : Int)] xs [(M2 : Int), (K : Int)] ys [((M1 + M2 : Nat) : Int), (K : Int)] 0).getD (i * K + k) 0 = if i < M1 then xs.getD (i * K + k) 0 else ys.getD ((i - M1) * K + k) 0 := by
  have hu : inIdx [((M1 + M2 : Nat) : Int), (K : Int)] [(i : Int), (k : Int)] = true := by simp [inIdx]; omega
  have g1 := both_at (s := [(M1 : Int), (K : Int)]) (xs := xs) (t := [(M2 : Int), (K : Int)]) (ys := ys) (k := 0) ho hu
  have g2 := at_two2 (M := M1 + M2) (K := K) (both_tok (s := [(M1 : Int), (K : Int)]) (xs := xs) (t := [(M2 : Int), (K : Int)]) (ys := ys) (k := 0) ho) hi hk
  have g3 := congrArg Prod.fst (g2.symm.trans g1)
  have e1 : ([(i : Int), (k : Int)] : List Int).getD 0 0 = (i : Int) := rfl
  have e2 : ([(M1 : Int), (K : Int)] : List Int).getD 0 0 = (M1 : Int) := rfl
  have e3 : upL [(i : Int), (k : Int)] 0 0 = [(i : Int), (k : Int)] := by
    show [(i : Int) + 0, (k : Int)] = _
    rw [Int.add_zero]
  dsimp only at g3
  rw [e1, e2] at g3
  rw [g3]
  by_cases c : i < M1
  · rw [if_pos c, if_pos (by omega), e3, at_two2 h1 c hk]
  · have e4 : upL [(i : Int), (k : Int)] 0 (-(M1 : Int)) = [((i - M1 : Nat) : Int), (k : Int)] := by
      show [(i : Int) + -(M1 : Int), (k : Int)] = _
      rw [show (i : Int) + -(M1 : Int) = ((i - M1 : Nat) : Int) by omega]
    rw [if_neg c, if_neg (by omega), e4, at_two2 h2 (by omega) hk]
/-- MatmulJoins. -/
theorem mat_joins {s xs t ys u zs : List Int} (hj : (glueV s xs t ys 0).2.2 = 0) (hx : (matV s xs u zs).2.2 = 0) (hy : (matV t ys u zs).2.2 = 0) :
    (matV (glueV s xs t ys 0).1 (glueV s xs t ys 0).2.1 u zs = ([], [], 20) ∧ glueV (matV s xs u zs).1 (matV s xs u zs).2.1 (matV t ys u zs).1 (matV t ys u zs).2.1 0 = ([], [], 20)) ∨
    (matV (glueV s xs t ys 0).1 (glueV s xs t ys 0).2.1 u zs).2.2 = 0 ∧ glueV (matV s xs u zs).1 (matV s xs u zs).2.1 (matV t ys u zs).1 (matV t ys u zs).2.1 0 = matV (glueV s xs t ys 0).1 (glueV s xs t ys 0).2.1 u zs := by
  obtain ⟨h1, h3, M1, K, N, rfl, rfl, o1, e1, f1⟩ := mat_inv hx
  obtain ⟨h2, _, M2, K2, N2, rfl, hu, o2, e2, f2⟩ := mat_inv hy
  injection hu with hu1 hu2
  injection hu2 with hu2 _
  obtain rfl : K2 = K := by omega
  obtain rfl : N2 = N := by omega
  have oj : okS [((M1 + M2 : Nat) : Int), (K2 : Int)] = true := by
    cases c : okS [((M1 + M2 : Nat) : Int), (K2 : Int)] with
    | true => rfl
    | false =>
      unfold glueV at hj
      rw [if_neg (by simp [h1, h2]), if_pos] at hj
      · cases hj
      · refine Or.inr (Or.inr (Or.inr (Or.inr ?_)))
        have e0 : ([(M1 : Int), (K2 : Int)] : List Int).set (0 : Int).toNat (([(M1 : Int), (K2 : Int)] : List Int).getD (0 : Int).toNat 0 + ([(M2 : Int), (K2 : Int)] : List Int).getD (0 : Int).toNat 0) = [((M1 + M2 : Nat) : Int), (K2 : Int)] := by
          show [(M1 : Int) + (M2 : Int), (K2 : Int)] = _
          rw [← Int.natCast_add]
        rw [e0]; exact c
  have gg : ∀ {a b N : Nat} {xs ys : List Int}, tokV [(a : Int), (N : Int)] xs = true → tokV [(b : Int), (N : Int)] ys = true → okS [((a + b : Nat) : Int), (N : Int)] = true →
      glueV [(a : Int), (N : Int)] xs [(b : Int), (N : Int)] ys 0 = ([((a + b : Nat) : Int), (N : Int)], bothL [(a : Int), (N : Int)] xs [(b : Int), (N : Int)] ys [((a + b : Nat) : Int), (N : Int)] 0, 0) := fun {a b N xs ys} ha hb hc => by
    have e0 : ([(a : Int), (N : Int)] : List Int).set 0 (([(a : Int), (N : Int)] : List Int).getD 0 0 + ([(b : Int), (N : Int)] : List Int).getD 0 0) = [((a + b : Nat) : Int), (N : Int)] := by
      show [(a : Int) + (b : Int), (N : Int)] = _
      rw [← Int.natCast_add]
    have := glue_is (k := 0) ha hb (by simp) rfl rfl (by rw [e0]; exact hc)
    rw [e0] at this
    exact this
  have fj := gg h1 h2 oj
  have tj : tokV [((M1 + M2 : Nat) : Int), (K2 : Int)] (bothL [(M1 : Int), (K2 : Int)] xs [(M2 : Int), (K2 : Int)] ys [((M1 + M2 : Nat) : Int), (K2 : Int)] 0) = true := both_tok oj
  have t1 := tab_tok o1 (matL_len e1)
  have t2 := tab_tok o2 (matL_len e2)
  have n1 := (tab_ok o1).2.2.1
  rw [fj, f1, f2]
  dsimp only
  by_cases c : okS [((M1 + M2 : Nat) : Int), (N2 : Int)] = false
  · left
    refine ⟨mat_shape tj h3 (Or.inr c), ?_⟩
    unfold glueV
    rw [if_neg (by simp [t1, t2]), if_pos]
    refine Or.inr (Or.inr (Or.inr (Or.inr ?_)))
    have e0 : ([(M1 : Int), (N2 : Int)] : List Int).set (0 : Int).toNat (([(M1 : Int), (N2 : Int)] : List Int).getD (0 : Int).toNat 0 + ([(M2 : Int), (N2 : Int)] : List Int).getD (0 : Int).toNat 0) = [((M1 + M2 : Nat) : Int), (N2 : Int)] := by
      show [(M1 : Int) + (M2 : Int), (N2 : Int)] = _
      rw [← Int.natCast_add]
    rw [e0]; exact c
  · right
    have oz : okS [((M1 + M2 : Nat) : Int), (N2 : Int)] = true := by simpa using c
    have fz := mat_form tj h3 oz
    have hd : ∀ i j, i < M1 + M2 → j < N2 → dotV (rowF (bothL [(M1 : Int), (K2 : Int)] xs [(M2 : Int), (K2 : Int)] ys [((M1 + M2 : Nat) : Int), (K2 : Int)] 0) K2 i) (colF zs N2 j) K2 = if i < M1 then dotV (rowF xs K2 i) (colF zs N2 j) K2 else dotV (rowF ys K2 (i - M1)) (colF zs N2 j) K2 := fun i j hi hj => by
      by_cases d : i < M1
      · rw [if_pos d]
        refine dot_congr fun k hk => ?_
        show mulV ((bothL _ _ _ _ _ 0).getD (i * K2 + k) 0) _ = mulV (xs.getD (i * K2 + k) 0) _
        rw [both2 h1 h2 oj hi hk, if_pos d]
      · rw [if_neg d]
        refine dot_congr fun k hk => ?_
        show mulV ((bothL _ _ _ _ _ 0).getD (i * K2 + k) 0) _ = mulV (ys.getD ((i - M1) * K2 + k) 0) _
        rw [both2 h1 h2 oj hi hk, if_neg d]
    have ez : (matL (bothL [(M1 : Int), (K2 : Int)] xs [(M2 : Int), (K2 : Int)] ys [((M1 + M2 : Nat) : Int), (K2 : Int)] 0) zs (M1 + M2) K2 N2).2 = 0 := (matL_ok n1).2 fun i j hi hj => by
      rw [hd i j hi hj]
      by_cases d : i < M1
      · rw [if_pos d]; exact (matL_ok n1).1 e1 i j d hj
      · rw [if_neg d]; exact (matL_ok n1).1 e2 (i - M1) j (by omega) hj
    rw [if_pos ez] at fz
    rw [fz]
    refine ⟨rfl, ?_⟩
    rw [gg t1 t2 oz]
    have : bothL [(M1 : Int), (N2 : Int)] (matL xs zs M1 K2 N2).1 [(M2 : Int), (N2 : Int)] (matL ys zs M2 K2 N2).1 [((M1 + M2 : Nat) : Int), (N2 : Int)] 0 = (matL (bothL [(M1 : Int), (K2 : Int)] xs [(M2 : Int), (K2 : Int)] ys [((M1 + M2 : Nat) : Int), (K2 : Int)] 0) zs (M1 + M2) K2 N2).1 := by
      refine tab_ext (M := M1 + M2) (K := N2) (tab_len (both_tok oz)) (matL_len ez) fun i j hi hj => ?_
      rw [both2 t1 t2 oz hi hj, matL_at ez hi hj, hd i j hi hj]
      by_cases d : i < M1
      · rw [if_pos d, if_pos d, matL_at e1 d hj]
      · rw [if_neg d, if_neg d, matL_at e2 (by omega) hj]
    rw [this]
end Go.Proofs.ShM
