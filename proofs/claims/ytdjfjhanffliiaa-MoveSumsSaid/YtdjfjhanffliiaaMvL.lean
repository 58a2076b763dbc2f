/- Plain facts of layer 5's laws: a tensor turned. -/
import Derived.Test.YtdjfjhanffliiaaMvM
namespace Go.Proofs.ShM

theorem in_append {s s' t t' : List Int} (h : s.length = t.length) : inIdx (s ++ s') (t ++ t') = (inIdx s t && inIdx s' t') := by
  induction s generalizing t with
  | nil =>
    cases t with
    | nil => simp [inIdx]
    | cons b t => simp at h
  | cons a s ih =>
    cases t with
    | nil => simp at h
    | cons b t =>
      simp only [List.cons_append, inIdx]
      rw [ih (by simpa using h), Bool.and_assoc]
theorem in_rev {s t : List Int} (h : inIdx s t = true) : inIdx s.reverse t.reverse = true := by
  induction s generalizing t with
  | nil =>
    cases t with
    | nil => rfl
    | cons b t => simp [inIdx] at h
  | cons a s ih =>
    cases t with
    | nil => simp [inIdx] at h
    | cons b t =>
      simp only [inIdx, Bool.and_eq_true] at h
      obtain ⟨h1, h2⟩ := h
      have hl := in_len h2
      rw [List.reverse_cons, List.reverse_cons, in_append (by simp [hl]), ih h2]
      simp only [inIdx, Bool.true_and, Bool.and_true]
      exact h1
theorem ok_reverse {s : List Int} (h : okS s = true) : okS s.reverse = true := by
  obtain ⟨g1, g2, g3⟩ := ok_iff.1 h
  exact ok_iff.2 ⟨by simpa using g1, by rw [ok_rev]; exact g2, by rw [prod_rev]; exact g3⟩
theorem size_reverse {s : List Int} (h : okS s = true) : sizeV s.reverse = sizeV s := by rw [size_ok (ok_reverse h), size_ok h, prod_rev]
theorem at_in {s xs t : List Int} (h : tokV s xs = true) (hi : inIdx s t = true) : atV s xs t = (xs.getD (plc s t).toNat 0, 0) := by
  have hp : placeV s t = (plc s t, 0) := place_yes (tok_len h).1 hi
  unfold atV pinV
  rw [if_pos h, hp]
  simp
/-- The place, turned, of a place. -/
def turnP (s : List Int) (p : Int) : Int := plc s (digs s.reverse p).reverse
theorem turnP_in {s : List Int} (h : okS s = true) {p : Int} (h0 : 0 ≤ p) (h1 : p < prodS s) : 0 ≤ turnP s p ∧ turnP s p < prodS s ∧ digs s (turnP s p) = (digs s.reverse p).reverse := by
  have hr := ok_all (ok_reverse h)
  have h2 := (digs_in hr h0 (by rw [prod_rev]; exact h1)).1
  have h3 := in_rev h2
  rw [List.reverse_reverse] at h3
  exact plc_in (ok_all h) h3
theorem turnP_twice {s : List Int} (h : okS s = true) {p : Int} (h0 : 0 ≤ p) (h1 : p < prodS s) : turnP s (turnP s.reverse p) = p := by
  have g := turnP_in (ok_reverse h) h0 (by rw [prod_rev]; exact h1)
  have e : turnP s (turnP s.reverse p) = plc s (digs s.reverse (turnP s.reverse p)).reverse := rfl
  rw [e, g.2.2, List.reverse_reverse, List.reverse_reverse]
  exact (digs_in (ok_all h) h0 h1).2
theorem turnD_get {s xs : List Int} (h : tokV s xs = true) {i : Nat} (hi : i < xs.length) : (turnD s xs).getD i 0 = xs.getD (turnP s i).toNat 0 := by
  obtain ⟨ho, hn, _, _⟩ := tok_len h
  have hs := size_nat ho
  have hr := ok_all (ok_reverse ho)
  have h2 := in_rev (digs_in hr (p := (i : Int)) (by omega) (by rw [prod_rev]; omega)).1
  rw [List.reverse_reverse] at h2
  unfold turnD
  rw [List.getD, List.getElem?_map, List.getElem?_range hi]
  show (atV s xs (digs s.reverse i).reverse).1 = _
  rw [at_in h h2]
  rfl
theorem turn_tok {s xs : List Int} (h : tokV s xs = true) : tokV s.reverse (turnD s xs) = true := by
  obtain ⟨ho, h2⟩ := tok_iff.1 h
  exact tok_iff.2 ⟨ok_reverse ho, by rw [turnD_len, prod_rev]; exact h2⟩
theorem turn_is {s xs : List Int} (h : tokV s xs = true) : turnV s xs = (s.reverse, turnD s xs, 0) := by unfold turnV; rw [if_neg (by simp [h])]
/-- Turned twice a tensor is itself. -/
theorem turn_twice {s xs : List Int} (h : tokV s xs = true) : turnV s.reverse (turnD s xs) = (s, xs, 0) := by
  rw [turn_is (turn_tok h), List.reverse_reverse]
  congr 2
  obtain ⟨ho, hn, _, _⟩ := tok_len h
  have hs := size_nat ho
  refine ext0 (by rw [turnD_len, turnD_len]) fun i hi => ?_
  rw [turnD_len, turnD_len] at hi
  rw [turnD_get (turn_tok h) (by rw [turnD_len]; exact hi)]
  have g := turnP_in (ok_reverse ho) (p := (i : Int)) (by omega) (by rw [prod_rev]; omega)
  rw [prod_rev] at g
  rw [turnD_get h (by omega), Int.toNat_of_nonneg g.1, turnP_twice ho (by omega) (by omega)]
  simp
/-- Each number stands at its index, the last number first. -/
theorem turn_at {s xs t : List Int} (h : tokV s xs = true) : atV s.reverse (turnD s xs) t.reverse = atV s xs t := by
  cases hi : inIdx s t with
  | true =>
    rw [at_in h hi, at_in (turn_tok h) (in_rev hi)]
    obtain ⟨ho, hn, _, _⟩ := tok_len h
    have hs := size_nat ho
    have g := plc_in (ok_all (ok_reverse ho)) (in_rev hi)
    rw [prod_rev] at g
    rw [turnD_get h (by omega), Int.toNat_of_nonneg g.1]
    unfold turnP
    rw [g.2.2, List.reverse_reverse]
  | false =>
    have hi' : inIdx s.reverse t.reverse = false := by
      cases c : inIdx s.reverse t.reverse with
      | false => rfl
      | true => have := in_rev c; rw [List.reverse_reverse, List.reverse_reverse] at this; rw [this] at hi; cases hi
    rw [at_no h hi, at_no (turn_tok h) hi']
end Go.Proofs.ShM
