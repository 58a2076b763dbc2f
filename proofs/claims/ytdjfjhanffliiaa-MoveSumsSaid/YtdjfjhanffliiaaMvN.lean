/- Plain facts of layer 5's laws: parts of a tensor, index by index. -/
import Derived.Test.YtdjfjhanffliiaaMvL
namespace Go.Proofs.ShM

theorem in_iff {s : List Int} : ∀ {t : List Int}, inIdx s t = true ↔ t.length = s.length ∧ ∀ i, i < s.length → 0 ≤ t.getD i 0 ∧ t.getD i 0 < s.getD i 0 := by
  induction s with
  | nil =>
    intro t
    cases t with
    | nil => simp [inIdx]
    | cons b t => simp [inIdx]
  | cons a s ih =>
    intro t
    cases t with
    | nil => simp [inIdx]
    | cons b t =>
      simp only [inIdx, Bool.and_eq_true, ih, List.length_cons]
      constructor
      · rintro ⟨h1, h2, h3⟩
        refine ⟨by omega, fun i hi => ?_⟩
        cases i with
        | zero => simpa using h1
        | succ i => simpa using h3 i (by omega)
      · rintro ⟨h1, h2⟩
        refine ⟨by simpa using h2 0 (by omega), by omega, fun i hi => by simpa using h2 (i + 1) (by omega)⟩
theorem set_getD {l : List Int} {k i : Nat} {y : Int} (hk : k < l.length) : (l.set k y).getD i 0 = if i = k then y else l.getD i 0 := by
  unfold List.getD
  by_cases h : i = k
  · subst h; rw [List.getElem?_set_self hk, if_pos rfl]; rfl
  · rw [List.getElem?_set_ne (Ne.symm h), if_neg h]
theorem up_getD {u : List Int} {k i : Nat} {m : Int} (hk : k < u.length) : (upL u k m).getD i 0 = if i = k then u.getD k 0 + m else u.getD i 0 := set_getD hk
/-- An index of a shape with another side there, moved, is one of the shape just if it is there. -/
theorem in_up {s u : List Int} {k : Nat} {y m : Int} (hk : k < s.length) (hu : inIdx (s.set k y) u = true) : inIdx s (upL u k m) = true ↔ 0 ≤ u.getD k 0 + m ∧ u.getD k 0 + m < s.getD k 0 := by
  obtain ⟨h1, h2⟩ := in_iff.1 hu
  rw [List.length_set] at h1
  rw [in_iff]
  constructor
  · rintro ⟨_, h3⟩
    have := h3 k hk
    rw [up_getD (by omega), if_pos rfl] at this
    exact this
  · intro h
    refine ⟨by rw [upL_len]; exact h1, fun i hi => ?_⟩
    rw [up_getD (by omega)]
    by_cases hik : i = k
    · subst hik; rw [if_pos rfl]; exact h
    · rw [if_neg hik]
      have := h2 i (by rw [List.length_set]; exact hi)
      rw [set_getD hk, if_neg hik] at this
      exact this
theorem moved_getD {s xs g : List Int} {k : Nat} {m : Int} {i : Nat} (hi : i < (sizeV g).toNat) : (movedL s xs g k m).getD i 0 = (atV s xs (upL (digs g i) k m)).1 := by
  unfold movedL
  rw [List.getD, List.getElem?_map, List.getElem?_range hi]
  rfl
theorem moved_tok {s xs g : List Int} {k : Nat} {m : Int} (h : okS g = true) : tokV g (movedL s xs g k m) = true := tok_iff.2 ⟨h, by rw [moved_len, size_nat h]⟩
/-- What stands at an index of what was moved. -/
theorem moved_at {s xs g u : List Int} {k : Nat} {m : Int} (h : okS g = true) (hu : inIdx g u = true) : atV g (movedL s xs g k m) u = ((atV s xs (upL u k m)).1, 0) := by
  have hp := plc_in (ok_all h) hu
  have hs := size_nat h
  rw [at_in (moved_tok h) hu, moved_getD (by omega), Int.toNat_of_nonneg hp.1, hp.2.2]
/-- Two that have the same at each index are one. -/
theorem ext_at {g xs ys : List Int} (h1 : tokV g xs = true) (h2 : tokV g ys = true) (h : ∀ u, inIdx g u = true → atV g xs u = atV g ys u) : xs = ys := by
  obtain ⟨ho, hn, _, _⟩ := tok_len h1
  obtain ⟨_, hn2, _, _⟩ := tok_len h2
  have hs := size_nat ho
  refine ext0 (by omega) fun i hi => ?_
  have hd := digs_in (ok_all ho) (p := (i : Int)) (by omega) (by omega)
  have := h _ hd.1
  rw [at_in h1 hd.1, at_in h2 hd.1, hd.2] at this
  simpa using this
theorem at_err {s xs u : List Int} (h : tokV s xs = true) : atV s xs u = if inIdx s u = true then (xs.getD (plc s u).toNat 0, 0) else (0, 20) := by
  cases hi : inIdx s u with
  | true => rw [if_pos rfl, at_in h hi]
  | false => rw [if_neg (by simp), at_no h hi]
theorem up_up {u : List Int} {k : Nat} {m n : Int} (hk : k < u.length) : upL (upL u k m) k n = upL u k (m + n) := by
  unfold upL
  rw [List.set_set, set_getD hk, if_pos rfl, Int.add_assoc]
theorem up_zero {u : List Int} {k : Nat} (hk : k < u.length) : upL u k 0 = u := by
  refine ext0 (upL_len _ _ _) fun i _ => ?_
  rw [up_getD hk]
  by_cases h : i = k
  · subst h; rw [if_pos rfl]; omega
  · rw [if_neg h]

section
variable {s xs : List Int} {k : Nat} {x : Int}
/-- A part, index by index. -/
theorem slice_is {a b : Int} (h : tokV s xs = true) (hx : s[k]? = some x) (h1 : 0 ≤ a) (h2 : a < b) (h3 : b ≤ x) : sliceV s xs k a b = (s.set k (b - a), movedL s xs (s.set k (b - a)) k a, 0) := by
  have hk := (List.getElem?_eq_some_iff.1 hx).1
  have hgd : s.getD k 0 = x := by rw [List.getD, hx]; rfl
  unfold sliceV
  rw [if_neg (by simp [h]), Int.toNat_natCast, hgd, if_neg (by omega)]
theorem slice_at {a b : Int} {u : List Int} (ho : okS (s.set k (b - a)) = true) (h : tokV s xs = true) (hx : s[k]? = some x) (h1 : 0 ≤ a) (h3 : b ≤ x) (hu : inIdx (s.set k (b - a)) u = true) :
    inIdx s (upL u k a) = true ∧ atV (s.set k (b - a)) (movedL s xs (s.set k (b - a)) k a) u = atV s xs (upL u k a) := by
  have hk := (List.getElem?_eq_some_iff.1 hx).1
  have hgd : s.getD k 0 = x := by rw [List.getD, hx]; rfl
  have hb := (in_iff.1 hu).2 k (by rw [List.length_set]; exact hk)
  rw [set_getD hk, if_pos rfl] at hb
  have hin : inIdx s (upL u k a) = true := (in_up hk hu).2 (by rw [hgd]; omega)
  exact ⟨hin, by rw [moved_at ho hu, at_in h hin]⟩
end
end Go.Proofs.ShM
