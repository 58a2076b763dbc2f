/- Plain arithmetic under the laws of layer 2. No program stands here. -/
import Derived.Test.YtdekchfapblgeaaShapeJoinM
namespace Go.Proofs.ShM

/-! ### ShapeSizes -/
theorem ok_long_no {s : List Int} {n : Int} (h : okS s = false) : okS (s ++ [n]) = false := by
  cases e : okS (s ++ [n]) with
  | false => rfl
  | true =>
    obtain ⟨h1, h2, h3⟩ := ok_iff.1 e
    rw [prod_snoc] at h3
    simp only [List.all_append, List.all_cons, List.all_nil, Bool.and_true, Bool.and_eq_true] at h2
    have hn := sideB_iff.1 h2.2
    have hp := prod_pos h2.1
    have := Int.mul_le_mul_of_nonneg_left hn.1 (show 0 ≤ prodS s by omega)
    have : okS s = true := ok_iff.2 ⟨by simp at h1; omega, h2.1, by omega⟩
    rw [h] at this; cases this
theorem ok_more {s : List Int} (h : okS s = true) : okS (1 :: s) = decide (s.length < 3) := by
  obtain ⟨h1, h2, h3⟩ := ok_iff.1 h
  rw [Bool.eq_iff_iff, ok_iff, decide_eq_true_eq]
  simp only [List.length_cons, List.all_cons, h2, Bool.and_true, prodS, Int.one_mul]
  exact ⟨fun h => by omega, fun h => ⟨by omega, rfl, h3⟩⟩
theorem size_more {s : List Int} (h : okS s = true) (hl : s.length < 3) : sizeV (1 :: s) = sizeV s := by
  rw [size_ok (by rw [ok_more h]; simpa using hl), size_ok h]; simp [prodS]
theorem ok_snoc {s : List Int} {n : Int} (h : okS s = true) : okS (s ++ [n]) = true ↔ s.length < 3 ∧ 1 ≤ n ∧ n ≤ 16 ∧ sizeV s * n ≤ 64 := by
  obtain ⟨h1, h2, h3⟩ := ok_iff.1 h
  rw [ok_iff, prod_snoc, size_ok h]
  simp only [List.length_append, List.length_cons, List.length_nil, List.all_append, h2, List.all_cons, List.all_nil, Bool.and_true, Bool.true_and, sideB_iff]
  exact ⟨fun ⟨a, b, c⟩ => ⟨by omega, b.1, b.2, c⟩, fun ⟨a, b, c, d⟩ => ⟨by omega, ⟨b, c⟩, d⟩⟩
theorem size_snoc {s : List Int} {n : Int} (h : okS s = true) (h' : okS (s ++ [n]) = true) : sizeV (s ++ [n]) = sizeV s * n := by
  rw [size_ok h', size_ok h, prod_snoc]

/-! ### ShapeWide -/
theorem size_wide {s : List Int} (h : okS s = true) (hl : s.length ≤ 2) : sizeV (1 :: s) = sizeV s := size_more h (by omega)
theorem index_wide {s : List Int} {p : Int} (h : okS s = true) (hl : s.length ≤ 2) (h0 : 0 ≤ p) (h1 : p < sizeV s) : indexV (1 :: s) p = (0 :: digs s p, 0) := by
  rw [index_yes h0 (by rw [size_wide h hl]; exact h1)]
  rw [size_ok h] at h1
  simp only [digs]
  rw [Int.ediv_eq_zero_of_lt h0 h1, Int.emod_eq_of_lt h0 h1]
theorem digs_last (s : List Int) (x : Int) (hx : 1 ≤ x) : ∀ {p : Int}, s.all sideB = true → 0 ≤ p → p < prodS (s ++ [x]) → (digs (s ++ [x]) p)[s.length]? = some (p % x) := by
  induction s with
  | nil =>
    intro p _ h0 h1
    simp only [List.nil_append, prodS, Int.mul_one] at h1
    simp only [List.nil_append, digs, prodS, List.length_nil, Int.ediv_one]
    rw [Int.emod_eq_of_lt h0 h1]; rfl
  | cons y s ih =>
    intro p hs h0 h1
    simp only [List.all_cons, Bool.and_eq_true] at hs
    have hp : 1 ≤ prodS (s ++ [x]) := by
      rw [prod_snoc]
      have := Int.mul_le_mul (prod_pos hs.2) hx (by omega) (by have := prod_pos hs.2; omega)
      omega
    simp only [List.cons_append, digs, List.length_cons, List.getElem?_cons_succ]
    rw [ih hs.2 (Int.emod_nonneg _ (by omega)) (Int.emod_lt_of_pos _ (by omega)), prod_snoc, Int.emod_emod_of_dvd]
    exact Int.dvd_mul_left _ _
theorem digs_end {s : List Int} {k : Nat} {x p : Int} (h : okS s = true) (hk : k + 1 = s.length) (hx : s[k]? = some x) (h0 : 0 ≤ p) (h1 : p < sizeV s) : (digs s p)[k]? = some (p % x) := by
  have hs := side_of (ok_iff.1 h).2.1 hx
  have e : s = s.take k ++ [x] := by rw [← take_of hx, hk, List.take_length]
  have := digs_last (s.take k) x hs.1 (p := p) (all_take (ok_iff.1 h).2.1 k) h0 (by rw [← e, ← size_ok h]; exact h1)
  rw [← e] at this
  simpa [show min k s.length = k by omega] using this

/-! ### ShapeFits -/
theorem fits_self (a : List Int) : fitsV a a = okS a := by
  cases h : okS a with
  | true => exact fits_iff.2 (Jn.self h)
  | false =>
    cases e : fitsV a a with
    | false => rfl
    | true => have := (fits_iff.1 e).1; rw [h] at this; cases this
theorem fits_trans {a b c : List Int} (h : fitsV a b = true) (g : fitsV b c = true) : fitsV a c = true := fits_iff.2 ((fits_iff.1 h).trans (fits_iff.1 g))
theorem fits_anti {a b : List Int} (h : fitsV a b = true) (g : fitsV b a = true) : (a == b) = true := by
  rw [(fits_iff.1 h).anti (fits_iff.1 g)]; simp
theorem fits_sizes {a b : List Int} (h : fitsV a b = true) : sizeV a ≤ sizeV b ∧ a.length ≤ b.length := by
  have j := fits_iff.1 h
  rw [size_ok j.1, size_ok j.2.1]
  exact j.sizes

/-! ### ShapeThree -/
/-- The four answers of ShapeThree. -/
theorem three_cases (a b c : List Int) : ∃ x y z v : List Int, ∃ e f g h : Int, joinV a b = (x, e) ∧ joinV x c = (y, f) ∧ joinV b c = (z, g) ∧ joinV a z = (v, h) ∧
    (e = 20 ∨ (e = 0 ∧ f = 0 ∧ g = 20) ∨ (e = 0 ∧ f = 20 ∧ g = 20) ∨ (e = 0 ∧ f = 20 ∧ g = 0 ∧ h = 20) ∨ (e = 0 ∧ f = 0 ∧ g = 0 ∧ h = 0 ∧ (y == v) = true)) := by
  have pr : ∀ p : List Int × Int, ∃ x e, p = (x, e) := fun p => ⟨p.1, p.2, rfl⟩
  rcases join_cases a b with ⟨x, hx, _⟩ | hx
  · rcases join_cases b c with ⟨z, hz, _⟩ | hz
    · rcases join_cases x c with ⟨y, hy, _⟩ | hy
      · have k := (join_iff.1 hx).assoc (join_iff.1 hz) (join_iff.1 hy)
        exact ⟨x, y, z, y, 0, 0, 0, 0, hx, hy, hz, join_iff.2 k, by simp⟩
      · rcases join_cases a z with ⟨v, hv, _⟩ | hv
        · have k := join_iff.2 ((join_iff.1 hx).assoc' (join_iff.1 hz) (join_iff.1 hv))
          rw [hy] at k; simp at k
        · exact ⟨x, [], z, [], 0, 20, 0, 20, hx, hy, hz, hv, by simp⟩
    · obtain ⟨v, h, hv⟩ := pr (joinV a [])
      rcases join_cases x c with ⟨y, hy, _⟩ | hy
      · exact ⟨x, y, [], v, 0, 0, 20, h, hx, hy, hz, hv, by simp⟩
      · exact ⟨x, [], [], v, 0, 20, 20, h, hx, hy, hz, hv, by simp⟩
  · obtain ⟨y, f, hy⟩ := pr (joinV [] c)
    obtain ⟨z, g, hz⟩ := pr (joinV b c)
    obtain ⟨v, h, hv⟩ := pr (joinV a z)
    exact ⟨[], y, z, v, 20, f, g, h, hx, hy, hz, hv, .inl rfl⟩

/-! ### ShapePlaces -/
theorem places_in {s : List Int} {p : Int} (h0 : 0 ≤ p) (h1 : p < sizeV s) : placeV s (digs s p) = (p, 0) := place_found h0 h1 rfl
theorem places_lex {s : List Int} {a b : Int} (a0 : 0 ≤ a) (a1 : a < sizeV s) (b0 : 0 ≤ b) (b1 : b < sizeV s) : lexF false false (digs s a) (digs s b) = (decide (a < b), a != b) := by
  have ho := ok_of_lt a0 a1
  rw [size_ok ho] at a1 b1
  rw [lex_digs (ok_iff.1 ho).2.1 a0 a1 b0 b1]
  congr 1
  rw [Bool.eq_iff_iff]; simp
end Go.Proofs.ShM
