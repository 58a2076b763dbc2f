/- Plain facts of layer 5's laws: parts of parts, parts laid back, joined, mirrored; sums. -/
import Derived.Test.YtdjfjhanffliiaaMvN
namespace Go.Proofs.ShM
set_option linter.unusedVariables false

/-- A sum over places of which some are told by a list, each of its places once. -/
theorem sg_embed {n m : Nat} {F f : Nat → Int} {c : Nat → Bool} {pi sig : Nat → Nat} (h1 : ∀ i, i < n → F i = if c i = true then f (pi i) else 0) (h2 : ∀ p, p < m → sig p < n ∧ c (sig p) = true ∧ pi (sig p) = p) (h3 : ∀ i, i < n → c i = true → pi i < m ∧ sig (pi i) = i) : sg n F = sg m f := by
  have e1 : sg n F = sg n fun i => sg m fun p => if sig p = i then f p else 0 := by
    refine sg_congr fun i hi => ?_
    rw [h1 i hi]
    cases hc : c i with
    | true =>
      obtain ⟨g1, g2⟩ := h3 i hi hc
      rw [if_pos rfl]
      have : sg m (fun p => if sig p = i then f p else 0) = sg m fun p => if pi i = p then f (pi i) else 0 := by
        refine sg_congr fun p hp => ?_
        by_cases e : sig p = i
        · have e' : pi i = p := by rw [← e]; exact (h2 p hp).2.2
          rw [if_pos e, if_pos e', e']
        · have e' : ¬ pi i = p := fun e' => e (by rw [← e']; exact g2)
          rw [if_neg e, if_neg e']
      rw [this, sg_one g1]
    | false =>
      rw [if_neg (by simp)]
      have : sg m (fun p => if sig p = i then f p else 0) = sg m fun _ => 0 := by
        refine sg_congr fun p hp => ?_
        rw [if_neg]
        intro e
        have := (h2 p hp).2.1
        rw [e, hc] at this
        cases this
      rw [this, sg_zero]
  rw [e1, sg_swap]
  exact sg_congr fun p hp => sg_one (h2 p hp).1 (f p)
def totL (l : List Int) : Int := sg l.length fun i => l.getD i 0
theorem turn_sum {s xs : List Int} (h : tokV s xs = true) : totL (turnD s xs) = totL xs := by
  obtain ⟨ho, hn, _, _⟩ := tok_len h
  have hs := size_nat ho
  unfold totL
  rw [turnD_len]
  have A : ∀ i : Nat, i < xs.length → 0 ≤ turnP s i ∧ turnP s i < prodS s := fun i hi => by
    have := turnP_in ho (p := (i : Int)) (by omega) (by omega); exact ⟨this.1, this.2.1⟩
  have B : ∀ i : Nat, i < xs.length → 0 ≤ turnP s.reverse i ∧ turnP s.reverse i < prodS s := fun i hi => by
    have := turnP_in (ok_reverse ho) (p := (i : Int)) (by omega) (by rw [prod_rev]; omega); rw [prod_rev] at this; exact ⟨this.1, this.2.1⟩
  refine sg_embed (c := fun _ => true) (pi := fun i => (turnP s i).toNat) (sig := fun p => (turnP s.reverse p).toNat) (fun i hi => by rw [if_pos rfl]; exact turnD_get h hi) (fun p hp => ?_) (fun i hi _ => ?_)
  · have b := B p hp
    refine ⟨by omega, rfl, ?_⟩
    try dsimp only
    rw [Int.toNat_of_nonneg b.1, turnP_twice ho (by omega) (by omega)]
    omega
  · have a := A i hi
    refine ⟨by omega, ?_⟩
    try dsimp only
    have := turnP_twice (ok_reverse ho) (p := (i : Int)) (by omega) (by rw [prod_rev]; omega)
    rw [List.reverse_reverse] at this
    rw [Int.toNat_of_nonneg a.1, this]
    omega
theorem at_get {s xs u : List Int} (h : tokV s xs = true) : (atV s xs u).1 = if inIdx s u = true then xs.getD (plc s u).toNat 0 else 0 := by
  rw [at_err h]
  split <;> rfl
/-- What is laid into a greater side has the same sum. -/
theorem moved_sum {s xs : List Int} {k : Nat} {a y : Int} (h : tokV s xs = true) (hk : k < s.length) (ho : okS (s.set k y) = true) (h1 : 0 ≤ a) (h2 : s.getD k 0 + a ≤ y) : totL (movedL s xs (s.set k y) k (-a)) = totL xs := by
  obtain ⟨hos, hn, _, _⟩ := tok_len h
  have hs := size_nat hos
  have hg := size_nat ho
  have hlu : ∀ i : Nat, (digs (s.set k y) i).length = s.length := fun i => by rw [digs_len, List.length_set]
  have hls : ∀ i : Nat, (digs s i).length = s.length := fun i => digs_len _ _
  unfold totL
  rw [moved_len]
  have IN : ∀ p : Nat, p < xs.length → inIdx (s.set k y) (upL (digs s p) k a) = true := by
    intro p hp
    have hd := (digs_in (ok_all hos) (p := (p : Int)) (by omega) (by omega)).1
    have hb := (in_iff.1 hd).2 k hk
    refine in_iff.2 ⟨by rw [upL_len, hls, List.length_set], fun i hi => ?_⟩
    rw [List.length_set] at hi
    rw [up_getD (by rw [hls]; exact hk), set_getD hk]
    by_cases e : i = k
    · rw [if_pos e, if_pos e]; omega
    · rw [if_neg e, if_neg e]; exact (in_iff.1 hd).2 i hi
  refine sg_embed (c := fun i => inIdx s (upL (digs (s.set k y) i) k (-a))) (pi := fun i => (plc s (upL (digs (s.set k y) i) k (-a))).toNat) (sig := fun p => (plc (s.set k y) (upL (digs s p) k a)).toNat) (fun i hi => ?_) (fun p hp => ?_) (fun i hi hc => ?_)
  · rw [moved_getD hi, at_get h]
  · have hd := digs_in (ok_all hos) (p := (p : Int)) (by omega) (by omega)
    have hq := plc_in (ok_all ho) (IN p hp)
    have e : upL (digs (s.set k y) ((plc (s.set k y) (upL (digs s p) k a)).toNat : Nat)) k (-a) = digs s p := by
      rw [Int.toNat_of_nonneg hq.1, hq.2.2, up_up (by rw [hls]; exact hk), show a + -a = 0 by omega, up_zero (by rw [hls]; exact hk)]
    refine ⟨by omega, ?_, ?_⟩
    · try dsimp only
      rw [e]; exact hd.1
    · try dsimp only
      rw [e, hd.2]; omega
  · have hd := digs_in (ok_all ho) (p := (i : Int)) (by omega) (by omega)
    have hq := plc_in (ok_all hos) hc
    refine ⟨by omega, ?_⟩
    try dsimp only
    rw [Int.toNat_of_nonneg hq.1, hq.2.2, up_up (by rw [hlu]; exact hk), show -a + a = 0 by omega, up_zero (by rw [hlu]; exact hk), hd.2]
    omega

section
variable {s xs : List Int} {k : Nat} {x : Int}
/-- A part of a part is a part. -/
theorem slice_slice {a b c : Int} (h : tokV s xs = true) (hx : s[k]? = some x) (h1 : 0 ≤ a) (h2 : a < b) (h3 : b ≤ x) (h4 : 0 ≤ c) (h5 : c < b - a) (o1 : okS (s.set k (b - a)) = true) (o2 : okS (s.set k (b - a - c)) = true) :
    sliceV (s.set k (b - a)) (movedL s xs (s.set k (b - a)) k a) k c (b - a) = sliceV s xs k (a + c) b := by
  have hk := (List.getElem?_eq_some_iff.1 hx).1
  have hx' : (s.set k (b - a))[k]? = some (b - a) := List.getElem?_set_self hk
  have ht := moved_tok (s := s) (xs := xs) (k := k) (m := a) o1
  rw [slice_is ht hx' h4 h5 (Int.le_refl _), slice_is h hx (by omega) (by omega) h3, List.set_set]
  have e : b - (a + c) = b - a - c := by omega
  rw [e]
  congr 2
  refine ext_at (moved_tok o2) (moved_tok o2) fun u hu => ?_
  have hul : u.length = s.length := by have := (in_iff.1 hu).1; rw [List.length_set] at this; exact this
  have A := slice_at (s := s.set k (b - a)) (k := k) (a := c) (b := b - a) (u := u) (by rw [List.set_set]; exact o2) ht hx' h4 (Int.le_refl _) (by rw [List.set_set]; exact hu)
  rw [List.set_set] at A
  rw [A.2]
  have B := slice_at o1 h hx h1 h3 A.1
  rw [B.2, up_up (by omega)]
  have C := slice_at (s := s) (k := k) (a := a + c) (b := b) (u := u) (by rw [e]; exact o2) h hx (by omega) h3 (by rw [e]; exact hu)
  rw [e] at C
  rw [C.2, show c + a = a + c by omega]
/-- A part that is laid back, and cut again. -/
theorem pad_slice {a y : Int} (h : tokV s xs = true) (hx : s[k]? = some x) (h1 : 0 ≤ a) (h2 : x + a ≤ y) (ho : okS (s.set k y) = true) :
    sliceV (s.set k y) (movedL s xs (s.set k y) k (-a)) k a (a + x) = (s, xs, 0) := by
  have hk := (List.getElem?_eq_some_iff.1 hx).1
  have hos := (tok_len h).1
  have hx1 := side_of (ok_all hos) hx
  have hx' : (s.set k y)[k]? = some y := List.getElem?_set_self hk
  have ht := moved_tok (s := s) (xs := xs) (k := k) (m := -a) ho
  have es : s.set k x = s := by
    refine List.ext_getElem? fun i => ?_
    by_cases e : i = k
    · subst e; rw [List.getElem?_set_self hk, hx]
    · rw [List.getElem?_set_ne (Ne.symm e)]
  rw [slice_is ht hx' h1 (by omega) (by omega), List.set_set, show a + x - a = x by omega, es]
  congr 2
  refine ext_at (moved_tok hos) h fun u hu => ?_
  have hul : u.length = s.length := (in_iff.1 hu).1
  have A := slice_at (s := s.set k y) (k := k) (a := a) (b := a + x) (u := u) (by rw [List.set_set, show a + x - a = x by omega, es]; exact hos) ht hx' h1 (by omega) (by rw [List.set_set, show a + x - a = x by omega, es]; exact hu)
  rw [List.set_set, show a + x - a = x by omega, es] at A
  rw [A.2, moved_at ho A.1, up_up (by omega), show a + -a = 0 by omega, up_zero (by omega), at_in h hu]
end
end Go.Proofs.ShM
