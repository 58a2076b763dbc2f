/- Plain facts of layer 6's laws: sums and greatest numbers of two sides, and of a side's two parts. -/
import Derived.Test.YtpglchimghnpeaaRdE
import Derived.Test.YtpglchimghnpeaaRdF
namespace Go.Proofs.Ytpglchimghnpeaa
open Go.RowKit Go.Proofs.ShM Go.Proofs.FixM
set_option linter.unusedVariables false

/-! ### Sums -/
def lsum : List Int → Int
  | [] => 0
  | x :: l => x + lsum l
theorem lsum_append (a b : List Int) : lsum (a ++ b) = lsum a + lsum b := by
  induction a with
  | nil => simp [lsum]
  | cons x a ih => simp only [List.cons_append, lsum, ih]; omega
theorem lsum_range (n : Nat) (F : Nat → Int) : lsum ((List.range n).map F) = sg n F := by
  induction n with
  | zero => rfl
  | succ n ih => rw [List.range_succ, List.map_append, lsum_append, ih]; simp [lsum, sg]
theorem tk_add (M : Int) (hM : 0 ≤ M) : ∀ (l : List Int) (x X : Int), -X ≤ x → x ≤ X → (∀ y ∈ l, -M ≤ y ∧ y ≤ M) → X + l.length * M ≤ 9223372036854775807 →
    tkL addV x l = (x + lsum l, 0) ∧ -(X + l.length * M) ≤ x + lsum l ∧ x + lsum l ≤ X + l.length * M
  | [], x, X, h1, h2, _, _ => by simp [tkL, lsum, h1, h2]
  | y :: l, x, X, h1, h2, h3, h4 => by
    have hy := h3 y (by simp)
    have e : ((y :: l).length : Int) * M = M + l.length * M := by
      rw [List.length_cons, Int.natCast_add, Int.add_mul]; omega
    rw [e] at h4
    have hlm : 0 ≤ (l.length : Int) * M := Int.mul_nonneg (by omega) hM
    have ha : addV x y = (x + y, 0) := by unfold addV; exact put_in (by omega) (by omega)
    obtain ⟨g1, g2, g3⟩ := tk_add M hM l (x + y) (X + M) (by omega) (by omega) (fun z hz => h3 z (by simp [hz])) (by omega)
    rw [tk_cons, ha, if_pos rfl, g1, e]
    simp only [lsum]
    refine ⟨by congr 1; omega, by omega, by omega⟩
/-- No number is beyond that. -/
def Sm (M : Int) (xs : List Int) : Prop := ∀ i, i < xs.length → -M ≤ xs.getD i 0 ∧ xs.getD i 0 ≤ M
theorem Sm.getD {M : Int} {xs : List Int} (h : Sm M xs) (hM : 0 ≤ M) (i : Nat) : -M ≤ xs.getD i 0 ∧ xs.getD i 0 ≤ M := by
  by_cases hi : i < xs.length
  · exact h i hi
  · rw [List.getD, List.getElem?_eq_none (by omega)]; simp; omega
theorem Sm.line {M : Int} {xs : List Int} (h : Sm M xs) (hM : 0 ≤ M) (s : List Int) (a q : Nat) : ∀ y ∈ lineL s xs a q, -M ≤ y ∧ y ≤ M := by
  intro y hy
  unfold lineL at hy
  obtain ⟨i, _, rfl⟩ := List.mem_map.1 hy
  exact h.getD hM _
/-- The sum of a side, where no number is great. -/
theorem sum_form {M : Int} {s xs : List Int} {a : Nat} (hM : 0 ≤ M) (hM2 : 16 * M ≤ 9223372036854775807) (h : Sm M xs) (ht : tokV s xs = true) (ha : a < s.length) :
    sumV s xs a = (s.eraseIdx a, (List.range (sizeV (s.eraseIdx a)).toNat).map fun q : Nat => lsum (lineL s xs a q), 0) ∧ Sm (16 * M) ((List.range (sizeV (s.eraseIdx a)).toNat).map fun q : Nat => lsum (lineL s xs a q)) := by
  have hsd := side_pos (ok_all (tok_iff.1 ht).1) ha
  have hb : ∀ q : Nat, ((lineL s xs a q).length : Int) * M ≤ 16 * M ∧ 0 ≤ ((lineL s xs a q).length : Int) * M := fun q => by
    rw [line_len]
    exact ⟨Int.mul_le_mul_of_nonneg_right (by omega) hM, Int.mul_nonneg (by omega) hM⟩
  have hk : ∀ q ∈ List.range (sizeV (s.eraseIdx a)).toNat, (fun q : Nat => tkL addV 0 (lineL s xs a q)) q = ((fun q : Nat => lsum (lineL s xs a q)) q, 0) := fun q _ => by
    have := (tk_add M hM (lineL s xs a q) 0 0 (by omega) (by omega) (h.line hM s a q) (by have := hb q; omega)).1
    rw [Int.zero_add] at this
    exact this
  refine ⟨?_, fun i hi => ?_⟩
  · unfold sumV
    rw [tog_form ht ha]
    unfold togL
    rw [mapE_of hk, if_pos rfl]
  · have hi' : i < (sizeV (s.eraseIdx a)).toNat := by simpa using hi
    have e : ((List.range (sizeV (s.eraseIdx a)).toNat).map fun q : Nat => lsum (lineL s xs a q)).getD i 0 = lsum (lineL s xs a i) := by
      rw [List.getD, List.getElem?_map, List.getElem?_range hi']; rfl
    rw [e]
    have := tk_add M hM (lineL s xs a i) 0 0 (by omega) (by omega) (h.line hM s a i) (by have := hb i; omega)
    have := hb i
    omega

/-! ### Greatest numbers -/
def gm (l : List Int) : Int := l.getD (fmI l) 0
theorem gm_spec {l : List Int} (h : l ≠ []) : gm l ∈ l ∧ ∀ y ∈ l, y ≤ gm l := by
  obtain ⟨x, x1, x2, x3⟩ := fm_is h
  have e : gm l = x := by unfold gm; rw [List.getD, x1]; rfl
  rw [e]
  refine ⟨List.mem_of_getElem? x1, fun y hy => ?_⟩
  obtain ⟨j, hj, rfl⟩ := List.mem_iff_getElem.1 hy
  exact x2 j _ (List.getElem?_eq_getElem hj)
theorem gm_unique {l : List Int} {x : Int} (h : x ∈ l) (g : ∀ y ∈ l, y ≤ x) : gm l = x := by
  have hne : l ≠ [] := by rintro rfl; simp at h
  obtain ⟨a, b⟩ := gm_spec hne
  have := b x h
  have := g _ a
  omega
theorem gm_append {a b : List Int} (ha : a ≠ []) (hb : b ≠ []) : gm (a ++ b) = max (gm a) (gm b) := by
  obtain ⟨a1, a2⟩ := gm_spec ha
  obtain ⟨b1, b2⟩ := gm_spec hb
  refine gm_unique ?_ fun y hy => ?_
  · rw [List.mem_append]
    by_cases c : gm a ≤ gm b
    · right; rw [show max (gm a) (gm b) = gm b by omega]; exact b1
    · left; rw [show max (gm a) (gm b) = gm a by omega]; exact a1
  · rw [List.mem_append] at hy
    rcases hy with hy | hy
    · have := a2 y hy; omega
    · have := b2 y hy; omega
theorem gm_form {s xs : List Int} {a : Nat} (hi : I64s xs) (ht : tokV s xs = true) (ha : a < s.length) :
    maxV s xs a = (s.eraseIdx a, (List.range (sizeV (s.eraseIdx a)).toNat).map fun q : Nat => gm (lineL s xs a q), 0) := max_form hi ht ha
theorem max_i64 {s xs : List Int} {axis : Int} (hi : I64s xs) : I64s (maxV s xs axis).2.1 := tog_i64 hi i64_least (fun x y hx hy _ => by unfold greatV I64 at *; show _ ≤ max x y ∧ max x y ≤ _; omega)
theorem tok_line {s : List Int} {f : Nat → Int} (h : okS s = true) : tokV s ((List.range (sizeV s).toNat).map f) = true := tok_iff.2 ⟨h, by rw [List.length_map, List.length_range, size_nat h]⟩

/-! ### Two sides -/
section
variable {r c : Nat} {xs : List Int}
theorem rc_ok (h : okS [(r : Int), (c : Int)] = true) : 1 ≤ r ∧ r ≤ 16 ∧ 1 ≤ c ∧ c ≤ 16 ∧ okS [(r : Int)] = true ∧ okS [(c : Int)] = true ∧ sizeV [(r : Int)] = r ∧ sizeV [(c : Int)] = c := by
  have h0 := side_pos (ok_all h) (a := 0) (by simp)
  have h1 := side_pos (ok_all h) (a := 1) (by simp)
  have e0 := ok_erase h (a := 0) (by simp)
  have e1 := ok_erase h (a := 1) (by simp)
  have g0 : ([(r : Int), (c : Int)] : List Int).getD 0 0 = r := rfl
  have g1 : ([(r : Int), (c : Int)] : List Int).getD 1 0 = c := rfl
  rw [g0] at h0
  rw [g1] at h1
  have e0' : okS [(c : Int)] = true := e0
  have e1' : okS [(r : Int)] = true := e1
  refine ⟨by omega, by omega, by omega, by omega, e1', e0', ?_, ?_⟩
  · rw [size_ok e1']; simp [prodS]
  · rw [size_ok e0']; simp [prodS]
theorem line_0 (hc : 1 ≤ c) {q : Nat} (hq : q < c) : lineL [(r : Int), (c : Int)] xs 0 q = (List.range r).map fun i : Nat => xs.getD (i * c + q) 0 := by
  unfold lineL
  have e : (([(r : Int), (c : Int)] : List Int).getD 0 0).toNat = r := by show (r : Int).toNat = r; omega
  rw [e]
  refine List.map_congr_left fun i _ => ?_
  congr 1
  have e2 : putP [(r : Int), (c : Int)] 0 q i = ((i * c + q : Nat) : Int) := by
    show ((q : Int) / (c * 1) * r + i) * (c * 1) + (q : Int) % (c * 1) = _
    rw [Int.mul_one, Int.ediv_eq_zero_of_lt (by omega) (by omega), Int.emod_eq_of_lt (by omega) (by omega), Int.zero_mul, Int.zero_add]
    push_cast
    rfl
  rw [e2, Int.toNat_natCast]
theorem line_1 (q : Nat) : lineL [(r : Int), (c : Int)] xs 1 q = (List.range c).map fun j : Nat => xs.getD (q * c + j) 0 := by
  unfold lineL
  have e : (([(r : Int), (c : Int)] : List Int).getD 1 0).toNat = c := by show (c : Int).toNat = c; omega
  rw [e]
  refine List.map_congr_left fun i _ => ?_
  congr 1
  have e2 : putP [(r : Int), (c : Int)] 1 q i = ((q * c + i : Nat) : Int) := by
    show ((q : Int) / 1 * c + i) * 1 + (q : Int) % 1 = _
    rw [Int.ediv_one, Int.emod_one]
    push_cast
    omega
  rw [e2, Int.toNat_natCast]
theorem line_one (c : Nat) (ys : List Int) : lineL [(c : Int)] ys 0 0 = (List.range c).map fun j : Nat => ys.getD j 0 := by
  unfold lineL
  have e : (([(c : Int)] : List Int).getD 0 0).toNat = c := by show (c : Int).toNat = c; omega
  rw [e]
  refine List.map_congr_left fun i _ => ?_
  congr 1
  have e2 : putP [(c : Int)] 0 ((0 : Nat) : Int) i = (i : Int) := by
    show ((0 : Int) / 1 * c + i) * 1 + (0 : Int) % 1 = _
    rw [Int.ediv_one, Int.emod_one]
    omega
  rw [e2, Int.toNat_natCast]
theorem range_getD (n : Nat) (F : Nat → Int) : (List.range n).map (fun j : Nat => ((List.range n).map F).getD j 0) = (List.range n).map F := by
  refine List.map_congr_left fun j hj => ?_
  have hj' := List.mem_range.1 hj
  rw [List.getD, List.getElem?_map, List.getElem?_range hj']; rfl
theorem line_row (c : Nat) (F : Nat → Int) : lineL [(c : Int)] ((List.range c).map F) 0 0 = (List.range c).map F := by rw [line_one, range_getD]
theorem one_size : (sizeV (([(c : Int)] : List Int).eraseIdx 0)).toNat = 1 := by show (sizeV []).toNat = 1; decide

/-- ReduceTwice. -/
theorem sums_two (hs : Sm 1099511627776 xs) (ht : tokV [(r : Int), (c : Int)] xs = true) : ∃ k1 k3 : List Int, ∃ z : Int,
    sumV [(r : Int), (c : Int)] xs 0 = ([(c : Int)], k1, 0) ∧ sumV [(c : Int)] k1 0 = ([], [z], 0) ∧ sumV [(r : Int), (c : Int)] xs 1 = ([(r : Int)], k3, 0) ∧ sumV [(r : Int)] k3 0 = ([], [z], 0) ∧ I64s k1 ∧ I64s k3 := by
  obtain ⟨hr1, hr2, hc1, hc2, or_, oc, sr, sc⟩ := rc_ok (tok_iff.1 ht).1
  obtain ⟨f0, m0⟩ := sum_form (a := 0) (by omega) (by omega) hs ht (by simp)
  obtain ⟨f1, m1⟩ := sum_form (a := 1) (by omega) (by omega) hs ht (by simp)
  have e0 : ([(r : Int), (c : Int)] : List Int).eraseIdx 0 = [(c : Int)] := rfl
  have e1 : ([(r : Int), (c : Int)] : List Int).eraseIdx 1 = [(r : Int)] := rfl
  rw [e0] at f0 m0
  rw [e1] at f1 m1
  have t0 := tok_line (f := fun q : Nat => lsum (lineL [(r : Int), (c : Int)] xs 0 q)) oc
  have t1 := tok_line (f := fun q : Nat => lsum (lineL [(r : Int), (c : Int)] xs 1 q)) or_
  obtain ⟨g0, _⟩ := sum_form (a := 0) (by omega) (by omega) m0 t0 (by simp)
  obtain ⟨g1, _⟩ := sum_form (a := 0) (by omega) (by omega) m1 t1 (by simp)
  rw [one_size, sc, Int.toNat_natCast] at g0
  rw [one_size, sr, Int.toNat_natCast] at g1
  rw [sc, Int.toNat_natCast] at f0
  rw [sr, Int.toNat_natCast] at f1
  have i0 := sum_i64 (axis := 0) (s := [(r : Int), (c : Int)]) (xs := xs)
  refine ⟨_, _, lsum ((List.range c).map fun q : Nat => lsum (lineL [(r : Int), (c : Int)] xs 0 q)), f0, ?_, f1, ?_, ?_, ?_⟩
  · have := g0
    rw [show (List.range 1).map (fun q : Nat => lsum (lineL [(c : Int)] ((List.range c).map fun q : Nat => lsum (lineL [(r : Int), (c : Int)] xs 0 q)) 0 q)) = [lsum (lineL [(c : Int)] ((List.range c).map fun q : Nat => lsum (lineL [(r : Int), (c : Int)] xs 0 q)) 0 0)] from rfl, line_row] at this
    exact this
  · have := g1
    rw [show (List.range 1).map (fun q : Nat => lsum (lineL [(r : Int)] ((List.range r).map fun q : Nat => lsum (lineL [(r : Int), (c : Int)] xs 1 q)) 0 q)) = [lsum (lineL [(r : Int)] ((List.range r).map fun q : Nat => lsum (lineL [(r : Int), (c : Int)] xs 1 q)) 0 0)] from rfl, line_row] at this
    have hz : lsum ((List.range r).map fun q : Nat => lsum (lineL [(r : Int), (c : Int)] xs 1 q)) = lsum ((List.range c).map fun q : Nat => lsum (lineL [(r : Int), (c : Int)] xs 0 q)) := by
      rw [lsum_range, lsum_range]
      rw [sg_congr (n := r) (G := fun q : Nat => sg c fun j : Nat => xs.getD (q * c + j) 0) fun q hq => by rw [line_1, lsum_range]]
      rw [sg_congr (n := c) (G := fun q : Nat => sg r fun i : Nat => xs.getD (i * c + q) 0) fun q hq => by rw [line_0 hc1 hq, lsum_range]]
      exact sg_swap r c fun i j => xs.getD (i * c + j) 0
    rw [hz] at this
    exact this
  · intro y hy
    obtain ⟨i, hi, rfl⟩ := List.mem_iff_getElem.1 hy
    have hi' : i < (sizeV [(c : Int)]).toNat := by rw [sc]; simpa using hi
    have := m0 i (by simpa using hi')
    rw [sc, Int.toNat_natCast] at this
    rw [List.getD, List.getElem?_eq_getElem hi, Option.getD_some] at this
    omega
  · intro y hy
    obtain ⟨i, hi, rfl⟩ := List.mem_iff_getElem.1 hy
    have hi' : i < (sizeV [(r : Int)]).toNat := by rw [sr]; simpa using hi
    have := m1 i (by simpa using hi')
    rw [sr, Int.toNat_natCast] at this
    rw [List.getD, List.getElem?_eq_getElem hi, Option.getD_some] at this
    omega
theorem maxs_two (hi : I64s xs) (ht : tokV [(r : Int), (c : Int)] xs = true) : ∃ k1 k3 : List Int, ∃ z : Int,
    maxV [(r : Int), (c : Int)] xs 0 = ([(c : Int)], k1, 0) ∧ maxV [(c : Int)] k1 0 = ([], [z], 0) ∧ maxV [(r : Int), (c : Int)] xs 1 = ([(r : Int)], k3, 0) ∧ maxV [(r : Int)] k3 0 = ([], [z], 0) ∧ I64s k1 ∧ I64s k3 := by
  obtain ⟨hr1, hr2, hc1, hc2, or_, oc, sr, sc⟩ := rc_ok (tok_iff.1 ht).1
  have f0 := gm_form (a := 0) hi ht (by simp)
  have f1 := gm_form (a := 1) hi ht (by simp)
  have i0 := max_i64 (axis := ((0 : Nat) : Int)) (s := [(r : Int), (c : Int)]) hi
  have i1 := max_i64 (axis := ((1 : Nat) : Int)) (s := [(r : Int), (c : Int)]) hi
  have e0 : ([(r : Int), (c : Int)] : List Int).eraseIdx 0 = [(c : Int)] := rfl
  have e1 : ([(r : Int), (c : Int)] : List Int).eraseIdx 1 = [(r : Int)] := rfl
  rw [e0] at f0
  rw [e1] at f1
  rw [f0] at i0
  rw [f1] at i1
  have t0 := tok_line (f := fun q : Nat => gm (lineL [(r : Int), (c : Int)] xs 0 q)) oc
  have t1 := tok_line (f := fun q : Nat => gm (lineL [(r : Int), (c : Int)] xs 1 q)) or_
  have g0 := gm_form (a := 0) i0 t0 (by simp)
  have g1 := gm_form (a := 0) i1 t1 (by simp)
  rw [one_size, sc, Int.toNat_natCast] at g0
  rw [one_size, sr, Int.toNat_natCast] at g1
  rw [sc, Int.toNat_natCast] at f0
  rw [sr, Int.toNat_natCast] at f1
  rw [show (List.range 1).map (fun q : Nat => gm (lineL [(c : Int)] ((List.range c).map fun q : Nat => gm (lineL [(r : Int), (c : Int)] xs 0 q)) 0 q)) = [gm (lineL [(c : Int)] ((List.range c).map fun q : Nat => gm (lineL [(r : Int), (c : Int)] xs 0 q)) 0 0)] from rfl, line_row] at g0
  rw [show (List.range 1).map (fun q : Nat => gm (lineL [(r : Int)] ((List.range r).map fun q : Nat => gm (lineL [(r : Int), (c : Int)] xs 1 q)) 0 q)) = [gm (lineL [(r : Int)] ((List.range r).map fun q : Nat => gm (lineL [(r : Int), (c : Int)] xs 1 q)) 0 0)] from rfl, line_row] at g1
  have n0 : ∀ q, q < c → lineL [(r : Int), (c : Int)] xs 0 q ≠ [] := fun q hq e => by
    rw [line_0 hc1 hq] at e
    have := congrArg List.length e
    simp at this; omega
  have n1 : ∀ q, lineL [(r : Int), (c : Int)] xs 1 q ≠ [] := fun q e => by
    rw [line_1] at e
    have := congrArg List.length e
    simp at this; omega
  have hz : gm ((List.range r).map fun q : Nat => gm (lineL [(r : Int), (c : Int)] xs 1 q)) = gm ((List.range c).map fun q : Nat => gm (lineL [(r : Int), (c : Int)] xs 0 q)) := by
    have hne : ((List.range c).map fun q : Nat => gm (lineL [(r : Int), (c : Int)] xs 0 q)) ≠ [] := fun e => by
      have := congrArg List.length e
      simp at this; omega
    obtain ⟨a1, a2⟩ := gm_spec hne
    refine gm_unique ?_ fun y hy => ?_
    · obtain ⟨q, hq, hq2⟩ := List.mem_map.1 a1
      have hqc := List.mem_range.1 hq
      obtain ⟨b1, b2⟩ := gm_spec (n0 q hqc)
      rw [hq2, line_0 hc1 hqc] at b1
      obtain ⟨i, hi1, hi2⟩ := List.mem_map.1 b1
      have hir := List.mem_range.1 hi1
      refine List.mem_map.2 ⟨i, hi1, ?_⟩
      refine gm_unique ?_ fun y hy => ?_
      · rw [line_1, ← hi2]; exact List.mem_map.2 ⟨q, hq, rfl⟩
      · rw [line_1] at hy
        obtain ⟨j, hj, rfl⟩ := List.mem_map.1 hy
        have hjc := List.mem_range.1 hj
        have h1 := (gm_spec (n0 j hjc)).2 (xs.getD (i * c + j) 0) (by rw [line_0 hc1 hjc]; exact List.mem_map.2 ⟨i, hi1, rfl⟩)
        have h2 := a2 _ (List.mem_map.2 ⟨j, hj, rfl⟩)
        exact Int.le_trans h1 h2
    · obtain ⟨i, hi1, rfl⟩ := List.mem_map.1 hy
      obtain ⟨b1, b2⟩ := gm_spec (n1 i)
      rw [line_1] at b1
      obtain ⟨j, hj, hj2⟩ := List.mem_map.1 b1
      rw [line_1, ← hj2]
      have hjc := List.mem_range.1 hj
      have h1 := (gm_spec (n0 j hjc)).2 (xs.getD (i * c + j) 0) (by rw [line_0 hc1 hjc]; exact List.mem_map.2 ⟨i, hi1, rfl⟩)
      have h2 := a2 _ (List.mem_map.2 ⟨j, hj, rfl⟩)
      exact Int.le_trans h1 h2
  rw [hz] at g1
  rw [sc, Int.toNat_natCast] at i0
  rw [sr, Int.toNat_natCast] at i1
  exact ⟨_, _, _, f0, g0, f1, g1, i0, i1⟩
end

/-! ### A side's two parts -/
theorem upL_inL {X : List Int} {a : Nat} (h : a ≤ X.length) (i m : Int) : upL (inL X a i) a m = inL X a (i + m) := by
  unfold upL
  rw [inL_getD h]
  refine List.ext_getElem? fun j => ?_
  have hl := inL_len (x := i) h
  rcases Nat.lt_trichotomy j a with c | rfl | c
  · rw [List.getElem?_set_ne (by omega), inL_lt h c, inL_lt h c]
  · rw [List.getElem?_set_self (by omega), inL_at h]
  · obtain ⟨k, rfl⟩ : ∃ k, j = a + 1 + k := ⟨j - (a + 1), by omega⟩
    rw [List.getElem?_set_ne (by omega), inL_gt h, inL_gt h]
theorem erase_set {s : List Int} {a : Nat} (x : Int) : (s.set a x).eraseIdx a = s.eraseIdx a := by
  refine List.ext_getElem? fun j => ?_
  rw [List.getElem?_eraseIdx, List.getElem?_eraseIdx]
  split
  · rw [List.getElem?_set_ne (by omega)]
  · rw [List.getElem?_set_ne (by omega)]
/-- The numbers of a part of a side. -/
theorem line_part {s xs : List Int} {a k m : Nat} (ht : tokV s xs = true) (ha : a < s.length) (hk : 1 ≤ k) (hkm : (k : Int) + m ≤ s.getD a 0) {q : Nat} (hq : q < (sizeV (s.eraseIdx a)).toNat) :
    lineL (s.set a k) (movedL s xs (s.set a k) a m) a q = ((lineL s xs a q).drop m).take k := by
  have ho := (tok_iff.1 ht).1
  have hx : s[a]? = some s[a] := List.getElem?_eq_getElem ha
  have hgd : s.getD a 0 = s[a] := by rw [List.getD, hx]; rfl
  have hog : okS (s.set a (k : Int)) = true := ok_set ho hx (by omega) (by omega)
  have hag : a < (s.set a (k : Int)).length := by rw [List.length_set]; exact ha
  have hgg : (s.set a (k : Int)).getD a 0 = k := by rw [List.getD, List.getElem?_set_self ha]; rfl
  have hoe := ok_erase ho ha
  have hsz := size_ok hoe
  have hpe := ok_prod hoe
  refine List.ext_getElem? fun i => ?_
  by_cases hi : i < k
  · rw [line_get (by rw [hgg]; omega), List.getElem?_take, if_pos hi, List.getElem?_drop]
    obtain ⟨p0, p1, _, _⟩ := put_range (ok_all hog) hag (q := q) (i := i) (by omega) (by rw [erase_set]; omega) (by omega) (by rw [hgg]; omega)
    have e1 := digs_put (ok_all hog) hag (q : Int) (i : Int) (by omega) (by rw [erase_set]; omega) (by omega) (by rw [hgg]; omega)
    rw [erase_set] at e1
    have hp : (putP (s.set a (k : Int)) a q i).toNat < (sizeV (s.set a (k : Int))).toNat := by rw [size_ok hog]; omega
    have e2 : (movedL s xs (s.set a (k : Int)) a m).getD (putP (s.set a (k : Int)) a q i).toNat 0 = (lineL s xs a q).getD (i + m) 0 := by
      unfold movedL
      rw [List.getD, List.getElem?_map, List.getElem?_range hp]
      show (atV s xs (upL (digs (s.set a (k : Int)) ((putP (s.set a (k : Int)) a q i).toNat : Int)) a m)).1 = _
      rw [Int.toNat_of_nonneg p0, e1, upL_inL (by rw [digs_len]; have := List.length_eraseIdx_of_lt ha; omega)]
      have := at_put ht ha (q := q) (i := i + m) (by omega) (by omega)
      rw [show ((i + m : Nat) : Int) = (i : Int) + m by omega] at this
      rw [this]
    rw [e2, List.getD]
    have hl : i + m < (lineL s xs a q).length := by rw [line_len]; omega
    rw [show m + i = i + m by omega, List.getElem?_eq_getElem hl]; rfl
  · rw [List.getElem?_eq_none (by rw [line_len, hgg]; omega), List.getElem?_eq_none (by rw [List.length_take]; omega)]
theorem part_tok {s xs : List Int} {a k : Nat} (m : Int) (ht : tokV s xs = true) (ha : a < s.length) (hk : 1 ≤ k) (hk2 : (k : Int) ≤ s.getD a 0) : tokV (s.set a (k : Int)) (movedL s xs (s.set a (k : Int)) a m) = true := by
  have ho := (tok_iff.1 ht).1
  have hx : s[a]? = some s[a] := List.getElem?_eq_getElem ha
  have hgd : s.getD a 0 = s[a] := by rw [List.getD, hx]; rfl
  have hog : okS (s.set a (k : Int)) = true := ok_set ho hx (by omega) (by omega)
  exact tok_iff.2 ⟨hog, by rw [moved_len, size_nat hog]⟩
theorem at_mem (s xs t : List Int) : (atV s xs t).1 = 0 ∨ ∃ i, (atV s xs t).1 = xs.getD i 0 := by
  unfold atV
  split
  · exact .inr ⟨_, rfl⟩
  · exact .inl rfl
theorem part_sm {M : Int} {s xs g : List Int} {a : Nat} {m : Int} (hM : 0 ≤ M) (h : Sm M xs) : Sm M (movedL s xs g a m) := by
  intro i hi
  rw [moved_len] at hi
  unfold movedL
  rw [List.getD, List.getElem?_map, List.getElem?_range hi]
  show -M ≤ (atV s xs _).1 ∧ (atV s xs _).1 ≤ M
  rcases at_mem s xs (upL (digs g i) a m) with e | ⟨j, e⟩
  · rw [e]; omega
  · rw [e]; exact h.getD hM j
theorem sm_i64 {xs : List Int} (h : Sm 1099511627776 xs) : I64s xs := by
  intro y hy
  obtain ⟨i, hi, rfl⟩ := List.mem_iff_getElem.1 hy
  have := h i hi
  rw [List.getD, List.getElem?_eq_getElem hi, Option.getD_some] at this
  omega

/-- ReduceParts. -/
theorem parts_all {s xs : List Int} {a k d : Nat} (hs : Sm 1099511627776 xs) (ht : tokV s xs = true) (ha : a < s.length) (hd : s.getD a 0 = (d : Int)) (hk : 1 ≤ k) (hkd : k < d) : ∃ x1 x2 kx ky ks kp kq kw : List Int,
    sliceV s xs a 0 k = (s.set a (k : Int), x1, 0) ∧ sliceV s xs a k d = (s.set a ((d : Int) - k), x2, 0) ∧ I64s x1 ∧ I64s x2 ∧
    sumV (s.set a (k : Int)) x1 a = (s.eraseIdx a, kx, 0) ∧ sumV (s.set a ((d : Int) - k)) x2 a = (s.eraseIdx a, ky, 0) ∧ sumV s xs a = (s.eraseIdx a, ks, 0) ∧ I64s kx ∧ I64s ky ∧
    twoV 10 (s.eraseIdx a) kx (s.eraseIdx a) ky = (s.eraseIdx a, ks, 0) ∧
    maxV (s.set a (k : Int)) x1 a = (s.eraseIdx a, kp, 0) ∧ maxV (s.set a ((d : Int) - k)) x2 a = (s.eraseIdx a, kq, 0) ∧ maxV s xs a = (s.eraseIdx a, kw, 0) ∧
    kp.length = kw.length ∧ kq.length = kw.length ∧ (∀ i, i < kw.length → kw.getD i 0 = max (kp.getD i 0) (kq.getD i 0)) ∧ kx.length = ks.length ∧ ky.length = ks.length ∧ kw.length ≤ 64 := by
  have ho := (tok_iff.1 ht).1
  have hsd := side_pos (ok_all ho) ha
  have hoe := ok_erase ho ha
  have hsz := size_nat hoe
  have hpe := ok_prod hoe
  obtain ⟨j, hj⟩ : ∃ j : Nat, (d : Int) - k = (j : Int) := ⟨d - k, by omega⟩
  have hi := sm_i64 hs
  have s1 : sliceV s xs a 0 k = (s.set a (k : Int), movedL s xs (s.set a (k : Int)) a 0, 0) := by
    unfold sliceV
    rw [if_neg (by simp [ht]), Int.toNat_natCast, if_neg (by omega), Int.sub_zero]
  have s2 : sliceV s xs a k d = (s.set a (j : Int), movedL s xs (s.set a (j : Int)) a k, 0) := by
    unfold sliceV
    rw [if_neg (by simp [ht]), Int.toNat_natCast, if_neg (by omega), hj]
  have a1 : a < (s.set a (k : Int)).length := by rw [List.length_set]; exact ha
  have a2 : a < (s.set a (j : Int)).length := by rw [List.length_set]; exact ha
  have t1 := part_tok 0 ht ha hk (k := k) (by omega)
  have t2 := part_tok (k : Int) ht ha (k := j) (by omega) (by omega)
  have m1 : Sm 1099511627776 (movedL s xs (s.set a (k : Int)) a 0) := part_sm (by omega) hs
  have m2 : Sm 1099511627776 (movedL s xs (s.set a (j : Int)) a k) := part_sm (by omega) hs
  obtain ⟨f1, n1⟩ := sum_form (by omega) (by omega) m1 t1 a1
  obtain ⟨f2, n2⟩ := sum_form (by omega) (by omega) m2 t2 a2
  obtain ⟨f3, n3⟩ := sum_form (by omega) (by omega) hs ht ha
  have g1 := gm_form (sm_i64 m1) t1 a1
  have g2 := gm_form (sm_i64 m2) t2 a2
  have g3 := gm_form hi ht ha
  rw [erase_set] at f1 n1 g1
  rw [erase_set] at f2 n2 g2
  have l1 : ∀ q, q < (sizeV (s.eraseIdx a)).toNat → lineL (s.set a (k : Int)) (movedL s xs (s.set a (k : Int)) a 0) a q = (lineL s xs a q).take k := fun q hq => by
    have := line_part (m := 0) ht ha hk (by omega) hq
    rw [List.drop_zero] at this
    exact this
  have l2 : ∀ q, q < (sizeV (s.eraseIdx a)).toNat → lineL (s.set a (j : Int)) (movedL s xs (s.set a (j : Int)) a k) a q = (lineL s xs a q).drop k := fun q hq => by
    rw [line_part (m := k) ht ha (by omega) (by omega) hq, List.take_of_length_le (by rw [List.length_drop, line_len]; omega)]
  have hadd : ∀ q, q < (sizeV (s.eraseIdx a)).toNat → lsum (lineL s xs a q) = lsum (lineL (s.set a (k : Int)) (movedL s xs (s.set a (k : Int)) a 0) a q) + lsum (lineL (s.set a (j : Int)) (movedL s xs (s.set a (j : Int)) a k) a q) := fun q hq => by
    rw [l1 q hq, l2 q hq, ← lsum_append, List.take_append_drop]
  have hmax : ∀ q, q < (sizeV (s.eraseIdx a)).toNat → gm (lineL s xs a q) = max (gm (lineL (s.set a (k : Int)) (movedL s xs (s.set a (k : Int)) a 0) a q)) (gm (lineL (s.set a (j : Int)) (movedL s xs (s.set a (j : Int)) a k) a q)) := fun q hq => by
    have hl := line_len s xs a q
    rw [l1 q hq, l2 q hq, ← gm_append, List.take_append_drop]
    · intro e; have := congrArg List.length e; rw [List.length_take, List.length_nil] at this; omega
    · intro e; have := congrArg List.length e; rw [List.length_drop, List.length_nil] at this; omega
  have hrg : ∀ (F : Nat → Int) q, q < (sizeV (s.eraseIdx a)).toNat → ((List.range (sizeV (s.eraseIdx a)).toNat).map F).getD q 0 = F q := fun F q hq => by
    rw [List.getD, List.getElem?_map, List.getElem?_range hq]; rfl
  have wide : ∀ {L : List Int}, Sm (16 * 1099511627776) L → I64s L := fun {L} h y hy => by
    obtain ⟨i, hi, rfl⟩ := List.mem_iff_getElem.1 hy
    have := h i hi
    rw [List.getD, List.getElem?_eq_getElem hi, Option.getD_some] at this
    omega
  rw [hj]
  refine ⟨_, _, _, _, _, _, _, _, s1, s2, sm_i64 m1, sm_i64 m2, f1, f2, f3, wide n1, wide n2, ?_, g1, g2, g3, by simp, by simp, fun i hi => ?_, by simp, by simp, by simp; have := size_le (s.eraseIdx a); omega⟩
  · refine two_is (by omega) (tok_line hoe) (tok_line hoe) (join_self hoe) (by simp) fun i hi => ?_
    unfold atN
    rw [src_id (tok_line (f := fun _ => 0) hoe) hi, hrg _ i hi, hrg _ i hi, hrg _ i hi]
    have b1 := n1 i (by simpa using hi)
    have b2 := n2 i (by simpa using hi)
    rw [hrg _ i hi] at b1 b2
    rw [hadd i hi]
    show addV _ _ = _
    unfold addV
    exact put_in (by omega) (by omega)
  · have hi' : i < (sizeV (s.eraseIdx a)).toNat := by simpa using hi
    rw [hrg _ i hi', hrg _ i hi', hrg _ i hi', hmax i hi']
end Go.Proofs.Ytpglchimghnpeaa
