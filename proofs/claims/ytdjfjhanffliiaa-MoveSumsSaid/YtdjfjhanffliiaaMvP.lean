/- Plain facts of layer 5's laws: two that are joined, and the other end of what was turned. -/
import Derived.Test.YtdjfjhanffliiaaMvO
namespace Go.Proofs.ShM
set_option linter.unusedVariables false

section
variable {s xs t ys h : List Int} {k : Nat}
theorem both_get {i : Nat} (hi : i < (sizeV h).toNat) : (bothL s xs t ys h k).getD i 0 = if (digs h i).getD k 0 < s.getD k 0 then (movedL s xs h k 0).getD i 0 else (movedL t ys h k (-(s.getD k 0))).getD i 0 := by
  unfold bothL
  rw [List.getD, List.getElem?_map, List.getElem?_range hi]
  rfl
theorem both_tok (ho : okS h = true) : tokV h (bothL s xs t ys h k) = true := tok_iff.2 ⟨ho, by unfold bothL; rw [List.length_map, List.length_range, size_nat ho]⟩
theorem both_at (ho : okS h = true) {u : List Int} (hu : inIdx h u = true) : atV h (bothL s xs t ys h k) u = (if u.getD k 0 < s.getD k 0 then (atV s xs (upL u k 0)).1 else (atV t ys (upL u k (-(s.getD k 0)))).1, 0) := by
  have hp := plc_in (ok_all ho) hu
  have hs := size_nat ho
  rw [at_in (both_tok ho) hu, both_get (by omega), Int.toNat_of_nonneg hp.1, hp.2.2]
  split
  · rw [moved_getD (by omega), Int.toNat_of_nonneg hp.1, hp.2.2]
  · rw [moved_getD (by omega), Int.toNat_of_nonneg hp.1, hp.2.2]
/-- The other sides are alike. -/
theorem other_set (hl : s.length = t.length) (h1 : s.set k 1 = t.set k 1) (y : Int) : t.set k y = s.set k y := by
  have := congrArg (fun l => l.set k y) h1
  simpa using this.symm
theorem set_self {l : List Int} (hk : k < l.length) : l.set k (l.getD k 0) = l := by
  refine ext0 (by simp) fun i hi => ?_
  rw [set_getD hk]
  by_cases e : i = k
  · subst e; rw [if_pos rfl]
  · rw [if_neg e]
theorem glue_is (h1 : tokV s xs = true) (h2 : tokV t ys = true) (hk : k < s.length) (hl : s.length = t.length) (h3 : s.set k 1 = t.set k 1) (ho : okS (s.set k (s.getD k 0 + t.getD k 0)) = true) :
    glueV s xs t ys k = (s.set k (s.getD k 0 + t.getD k 0), bothL s xs t ys (s.set k (s.getD k 0 + t.getD k 0)) k, 0) := by
  unfold glueV
  rw [if_neg (by simp [h1, h2]), Int.toNat_natCast, if_neg]
  rintro (g | g | g | g | g)
  · omega
  · omega
  · exact g hl
  · exact g h3
  · rw [ho] at g; cases g
/-- Joined of its two parts. -/
theorem glue_parts {m : Int} (h1 : tokV s xs = true) (hk : k < s.length) (hm1 : 0 < m) (hm2 : m < s.getD k 0) (o1 : okS (s.set k m) = true) (o2 : okS (s.set k (s.getD k 0 - m)) = true) :
    glueV (s.set k m) (movedL s xs (s.set k m) k 0) (s.set k (s.getD k 0 - m)) (movedL s xs (s.set k (s.getD k 0 - m)) k m) k = (s, xs, 0) := by
  have hos := (tok_len h1).1
  have hx : s[k]? = some (s.getD k 0) := by rw [List.getD, List.getElem?_eq_getElem hk]; rfl
  have e1 : (s.set k m).getD k 0 = m := by rw [set_getD hk, if_pos rfl]
  have e2 : (s.set k (s.getD k 0 - m)).getD k 0 = s.getD k 0 - m := by rw [set_getD hk, if_pos rfl]
  have es : (s.set k m).set k ((s.set k m).getD k 0 + (s.set k (s.getD k 0 - m)).getD k 0) = s := by
    rw [e1, e2, List.set_set, show m + (s.getD k 0 - m) = s.getD k 0 by omega, set_self hk]
  rw [glue_is (moved_tok o1) (moved_tok o2) (by rw [List.length_set]; exact hk) (by simp) (by simp) (by rw [es]; exact hos), es]
  congr 2
  refine ext_at (both_tok hos) h1 fun u hu => ?_
  have hul : u.length = s.length := (in_iff.1 hu).1
  have hb := (in_iff.1 hu).2 k hk
  rw [both_at hos hu, e1]
  by_cases c : u.getD k 0 < m
  · rw [if_pos c, up_zero (by omega)]
    have hu' : inIdx (s.set k m) u = true := by
      refine in_iff.2 ⟨by rw [List.length_set]; exact hul, fun i hi => ?_⟩
      rw [List.length_set] at hi
      rw [set_getD hk]
      by_cases e : i = k
      · rw [if_pos e]; subst e; exact ⟨hb.1, c⟩
      · rw [if_neg e]; exact (in_iff.1 hu).2 i hi
    rw [moved_at o1 hu', up_zero (by omega), at_in h1 hu]
  · rw [if_neg c]
    have hu' : inIdx (s.set k (s.getD k 0 - m)) (upL u k (-m)) = true := by
      refine in_iff.2 ⟨by rw [List.length_set, upL_len]; exact hul, fun i hi => ?_⟩
      rw [List.length_set] at hi
      rw [set_getD hk, up_getD (by omega)]
      by_cases e : i = k
      · rw [if_pos e, if_pos e]; omega
      · rw [if_neg e, if_neg e]; exact (in_iff.1 hu).2 i hi
    rw [moved_at o2 hu', up_up (by omega), show -m + m = 0 by omega, up_zero (by omega), at_in h1 hu]
/-- What was joined is cut into both again. -/
theorem glue_cut (h1 : tokV s xs = true) (h2 : tokV t ys = true) (hk : k < s.length) (hl : s.length = t.length) (h3 : s.set k 1 = t.set k 1) (ho : okS (s.set k (s.getD k 0 + t.getD k 0)) = true) :
    sliceV (s.set k (s.getD k 0 + t.getD k 0)) (bothL s xs t ys (s.set k (s.getD k 0 + t.getD k 0)) k) k 0 (s.getD k 0) = (s, xs, 0) ∧
    sliceV (s.set k (s.getD k 0 + t.getD k 0)) (bothL s xs t ys (s.set k (s.getD k 0 + t.getD k 0)) k) k (s.getD k 0) (s.getD k 0 + t.getD k 0) = (t, ys, 0) := by
  have hos := (tok_len h1).1
  have hot := (tok_len h2).1
  have hx : s[k]? = some (s.getD k 0) := by rw [List.getD, List.getElem?_eq_getElem hk]; rfl
  have hy : t[k]? = some (t.getD k 0) := by rw [List.getD, List.getElem?_eq_getElem (by omega)]; rfl
  have b1 := side_of (ok_all hos) hx
  have b2 := side_of (ok_all hot) hy
  obtain ⟨z, hz⟩ : ∃ z, s.getD k 0 + t.getD k 0 = z := ⟨_, rfl⟩
  rw [hz] at ho ⊢
  have hg : (s.set k z)[k]? = some z := List.getElem?_set_self hk
  have et : t = s.set k (t.getD k 0) := by rw [← other_set hl h3, set_self (by omega)]
  have T := both_tok (s := s) (xs := xs) (t := t) (ys := ys) (k := k) ho
  constructor
  · rw [slice_is T hg (by omega) (by omega) (by omega), List.set_set, show s.getD k 0 - 0 = s.getD k 0 by omega, set_self hk]
    congr 2
    refine ext_at (moved_tok hos) h1 fun u hu => ?_
    have hul : u.length = s.length := (in_iff.1 hu).1
    have hb := (in_iff.1 hu).2 k hk
    have A := slice_at (s := s.set k z) (k := k) (a := 0) (b := s.getD k 0) (u := u) (by rw [List.set_set, show s.getD k 0 - 0 = s.getD k 0 by omega, set_self hk]; exact hos) T hg (by omega) (by omega) (by rw [List.set_set, show s.getD k 0 - 0 = s.getD k 0 by omega, set_self hk]; exact hu)
    rw [List.set_set, show s.getD k 0 - 0 = s.getD k 0 by omega, set_self hk] at A
    rw [A.2]
    have A1 := A.1
    rw [up_zero (by omega)] at A1 ⊢
    rw [both_at ho A1, if_pos hb.2, up_zero (by omega), at_in h1 hu]
  · rw [slice_is T hg (by omega) (by omega) (by omega), List.set_set, show z - s.getD k 0 = t.getD k 0 by omega, ← et]
    congr 2
    refine ext_at (moved_tok hot) h2 fun u hu => ?_
    have hul : u.length = s.length := by rw [(in_iff.1 hu).1, hl]
    have hb := (in_iff.1 hu).2 k (by omega)
    have A := slice_at (s := s.set k z) (k := k) (a := s.getD k 0) (b := z) (u := u) (by rw [List.set_set, show z - s.getD k 0 = t.getD k 0 by omega, ← et]; exact hot) T hg (by omega) (by omega) (by rw [List.set_set, show z - s.getD k 0 = t.getD k 0 by omega, ← et]; exact hu)
    rw [List.set_set, show z - s.getD k 0 = t.getD k 0 by omega, ← et] at A
    rw [A.2, both_at ho A.1, if_neg (by rw [up_getD (by omega), if_pos rfl]; omega), up_up (by omega), show s.getD k 0 + -(s.getD k 0) = 0 by omega, up_zero (by omega), at_in h2 hu]
/-- The sum of both. -/
theorem both_sum (h1 : tokV s xs = true) (h2 : tokV t ys = true) (hk : k < s.length) (hl : s.length = t.length) (h3 : s.set k 1 = t.set k 1) (ho : okS (s.set k (s.getD k 0 + t.getD k 0)) = true) :
    totL (bothL s xs t ys (s.set k (s.getD k 0 + t.getD k 0)) k) = totL xs + totL ys := by
  have hos := (tok_len h1).1
  have hot := (tok_len h2).1
  have hx : s[k]? = some (s.getD k 0) := by rw [List.getD, List.getElem?_eq_getElem hk]; rfl
  have hy : t[k]? = some (t.getD k 0) := by rw [List.getD, List.getElem?_eq_getElem (by omega)]; rfl
  have b1 := side_of (ok_all hos) hx
  have b2 := side_of (ok_all hot) hy
  have m1 := moved_sum (a := 0) (y := s.getD k 0 + t.getD k 0) h1 hk ho (by omega) (by omega)
  have m2 := moved_sum (s := t) (xs := ys) (k := k) (a := s.getD k 0) (y := s.getD k 0 + t.getD k 0) h2 (by omega) (by rw [other_set hl h3]; exact ho) (by omega) (by omega)
  rw [other_set hl h3] at m2
  rw [show (-(0 : Int)) = 0 from rfl] at m1
  generalize hh : s.set k (s.getD k 0 + t.getD k 0) = h at *
  rw [← m1, ← m2]
  unfold totL
  rw [moved_len, moved_len, ← sg_add]
  rw [show (bothL s xs t ys h k).length = (sizeV h).toNat by unfold bothL; simp]
  refine sg_congr fun i hi => ?_
  have hsz := size_nat ho
  have hd := (digs_in (ok_all ho) (p := (i : Int)) (by omega) (by omega)).1
  have hdl : (digs h i).length = s.length := by rw [digs_len, ← hh, List.length_set]
  rw [both_get hi, moved_getD hi, moved_getD hi]
  by_cases c : (digs h i).getD k 0 < s.getD k 0
  · rw [if_pos c]
    have hz : (atV t ys (upL (digs h i) k (-(s.getD k 0)))).1 = 0 := by
      rw [at_get h2, if_neg]
      intro hin
      have := (in_iff.1 hin).2 k (by omega)
      rw [up_getD (by omega), if_pos rfl] at this
      omega
    rw [hz]; omega
  · rw [if_neg c]
    have hz : (atV s xs (upL (digs h i) k 0)).1 = 0 := by
      rw [at_get h1, if_neg]
      intro hin
      have := (in_iff.1 hin).2 k hk
      rw [up_getD (by omega), if_pos rfl] at this
      omega
    rw [hz]; omega
end

theorem rev_getD {l : List Int} {i : Nat} (hi : i < l.length) : l.reverse.getD i 0 = l.getD (l.length - 1 - i) 0 := by
  unfold List.getD
  rw [List.getElem?_reverse hi]
theorem rev_set {l : List Int} {k : Nat} (hk : k < l.length) (y : Int) : l.reverse.set (l.length - 1 - k) y = (l.set k y).reverse := by
  refine ext0 (by simp) fun i hi => ?_
  simp only [List.length_set, List.length_reverse] at hi
  have r2 : (l.set k y).reverse.getD i 0 = (l.set k y).getD (l.length - 1 - i) 0 := by
    have := rev_getD (l := l.set k y) (i := i) (by rw [List.length_set]; exact hi)
    rw [List.length_set] at this
    exact this
  rw [r2, set_getD (by rw [List.length_reverse]; omega), set_getD hk, rev_getD hi]
  by_cases e : i = l.length - 1 - k
  · rw [if_pos e, if_pos (by omega)]
  · rw [if_neg e, if_neg (by omega)]
theorem up_rev {u : List Int} {k : Nat} {m : Int} (hk : k < u.length) : (upL u (u.length - 1 - k) m).reverse = upL u.reverse k m := by
  unfold upL
  have e : u.reverse.getD k 0 = u.getD (u.length - 1 - k) 0 := rev_getD hk
  rw [e]
  have := rev_set (l := u.reverse) (k := k) (by rw [List.length_reverse]; exact hk) (u.getD (u.length - 1 - k) 0 + m)
  rw [List.reverse_reverse, List.length_reverse] at this
  rw [this, List.reverse_reverse]
/-- The other end of what was turned. -/
theorem slice_mirror {s xs : List Int} {k : Nat} {x a b : Int} (h : tokV s xs = true) (hx : s[k]? = some x) (h1 : 0 ≤ a) (h2 : a < b) (h3 : b ≤ x) (o1 : okS (s.set k (b - a)) = true) :
    sliceV s.reverse (turnD s xs) ((s.length - 1 - k : Nat) : Int) a b = turnV (s.set k (b - a)) (movedL s xs (s.set k (b - a)) k a) := by
  have hk := (List.getElem?_eq_some_iff.1 hx).1
  have hx' : s.reverse[s.length - 1 - k]? = some x := by
    rw [List.getElem?_reverse (by omega), show s.length - 1 - (s.length - 1 - k) = k by omega]; exact hx
  have hr := rev_set hk (b - a)
  have o2 := ok_reverse o1
  have ht := turn_tok h
  have hmt := moved_tok (s := s) (xs := xs) (k := k) (m := a) o1
  rw [slice_is ht hx' h1 h2 h3, turn_is hmt, hr]
  congr 2
  refine ext_at (moved_tok o2) (turn_tok hmt) fun u hu => ?_
  have hul : u.length = s.length := by have := (in_iff.1 hu).1; simpa using this
  have A := slice_at (s := s.reverse) (k := s.length - 1 - k) (a := a) (b := b) (u := u) (by rw [hr]; exact o2) ht hx' h1 h3 (by rw [hr]; exact hu)
  rw [hr] at A
  rw [A.2]
  have e1 := turn_at (t := (upL u (s.length - 1 - k) a).reverse) h
  rw [List.reverse_reverse] at e1
  have e2 := turn_at (t := u.reverse) hmt
  rw [List.reverse_reverse] at e2
  have hur : inIdx (s.set k (b - a)) u.reverse = true := by have := in_rev hu; rwa [List.reverse_reverse] at this
  have B := slice_at o1 h hx h1 h3 hur
  rw [e1, e2, B.2, ← hul, up_rev (by omega)]
end Go.Proofs.ShM
