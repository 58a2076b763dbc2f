/- Plain arithmetic under the laws of layer 3. No program stands here. -/
import Derived.Test.YtdekchfapblgeaaTnMath
namespace Go.Proofs.ShM
open Go.Proofs.FixM (addV put_in put_out put_cases)

def I64s (xs : List Int) : Prop := ∀ x ∈ xs, -9223372036854775808 ≤ x ∧ x ≤ 9223372036854775807
theorem I64s.nil_ : I64s [] := fun x h => by cases h
theorem I64s.get {xs : List Int} (h : I64s xs) {i : Nat} {x : Int} (hx : xs[i]? = some x) : -9223372036854775808 ≤ x ∧ x ≤ 9223372036854775807 := h x (List.mem_of_getElem? hx)
theorem I64s.rep {n : Nat} {x : Int} (h : -9223372036854775808 ≤ x ∧ x ≤ 9223372036854775807) : I64s (List.replicate n x) := fun y hy => by
  obtain ⟨_, rfl⟩ := List.mem_replicate.1 hy; exact h
theorem I64s.set_ {xs : List Int} (h : I64s xs) (j : Nat) {x : Int} (hx : -9223372036854775808 ≤ x ∧ x ≤ 9223372036854775807) : I64s (xs.set j x) := fun y hy => by
  rcases List.mem_or_eq_of_mem_set hy with h' | rfl
  · exact h y h'
  · exact hx
theorem add_in {a b : Int} : -9223372036854775808 ≤ (addV a b).1 ∧ (addV a b).1 ≤ 9223372036854775807 := by
  unfold addV
  rcases put_cases (a + b) with ⟨h1, h2, e⟩ | ⟨_, e⟩
  · rw [e]; exact ⟨h1, h2⟩
  · rw [e]; simp
theorem fold_i64 (f : Nat → Nat) (d : List Int) : ∀ (zs : List Int) (k : Nat), I64s zs → I64s (foldG f zs k d).1 := by
  induction d with
  | nil => intro zs k h; exact h
  | cons x d ih =>
    intro zs k h
    simp only [foldG]
    split
    · exact ih _ _ (h.set_ _ add_in)
    · exact I64s.nil_

theorem tok_iff {s d : List Int} : tokV s d = true ↔ okS s = true ∧ (d.length : Int) = prodS s := by
  unfold tokV
  simp only [Bool.and_eq_true, decide_eq_true_eq]
  exact ⟨fun ⟨a, b⟩ => ⟨a, by rw [← size_ok a]; exact b⟩, fun ⟨a, b⟩ => ⟨a, by rw [size_ok a]; exact b⟩⟩
theorem tok_len {s d : List Int} (h : tokV s d = true) : okS s = true ∧ (sizeV s).toNat = d.length ∧ 1 ≤ d.length ∧ d.length ≤ 64 := by
  obtain ⟨a, b⟩ := tok_iff.1 h
  have := ok_prod a
  rw [size_ok a]
  exact ⟨a, by omega, by omega, by omega⟩

/-! ### Stretched -/
theorem spread_cases (s d g : List Int) : (tokV s d = false ∧ spreadV s d g = ([], [], 30)) ∨ (tokV s d = true ∧ fitsV s g = false ∧ spreadV s d g = ([], [], 20)) ∨
    (tokV s d = true ∧ fitsV s g = true ∧ spreadV s d g = (g, spreadL s d g (sizeV g).toNat, 0)) := by
  unfold spreadV
  cases tokV s d <;> cases fitsV s g <;> simp
theorem spread_get {s d g : List Int} {k i : Nat} (h : i < k) : (spreadL s d g k)[i]? = some (d.getD (srcI s g i).toNat 0) := by
  unfold spreadL; simp [h]
theorem spread_getD {s d g : List Int} {k i : Nat} (h : i < k) : (spreadL s d g k).getD i 0 = d.getD (srcI s g i).toNat 0 := by
  rw [List.getD_eq_getElem?_getD, spread_get h]; rfl
theorem spread_len (s d g : List Int) (k : Nat) : (spreadL s d g k).length = k := by simp [spreadL]
theorem size_nat {g : List Int} (h : okS g = true) : ((sizeV g).toNat : Int) = prodS g := by
  have := ok_prod h
  rw [size_ok h]; omega
theorem tok_spread {s d g : List Int} (k : fitsV s g = true) : tokV g (spreadL s d g (sizeV g).toNat) = true := by
  have := (fits_al k).2.1
  exact tok_iff.2 ⟨this, by rw [spread_len, size_nat this]⟩
theorem ext0 {a b : List Int} (h : a.length = b.length) (k : ∀ i, i < a.length → a.getD i 0 = b.getD i 0) : a = b := by
  refine List.ext_getElem h fun i h1 h2 => ?_
  have := k i h1
  simpa [List.getD_eq_getElem?_getD, h1, h2] using this
theorem spread_self {s d : List Int} (h : tokV s d = true) : spreadV s d s = (s, d, 0) := by
  obtain ⟨a, b⟩ := tok_iff.1 h
  have hn := size_nat a
  unfold spreadV
  rw [if_pos h, if_pos (by rw [fits_self]; exact a)]
  have : spreadL s d s (sizeV s).toNat = d := by
    refine ext0 (by rw [spread_len]; omega) fun i hi => ?_
    rw [spread_len] at hi
    rw [spread_getD hi, src_self a (by omega) (by omega)]
    rfl
  rw [this]
theorem spread_comp {s d g u : List Int} (k : fitsV s g = true) (l : fitsV g u = true) : spreadL g (spreadL s d g (sizeV g).toNat) u (sizeV u).toNat = spreadL s d u (sizeV u).toNat := by
  have hg := size_nat (fits_al k).2.1
  have hu := size_nat (fits_al l).2.1
  refine ext0 (by rw [spread_len, spread_len]) fun i hi => ?_
  rw [spread_len] at hi
  obtain ⟨h0, h1⟩ := src_in l (p := (i : Int)) (by omega) (by omega)
  rw [spread_getD hi, spread_getD hi, spread_getD (by omega), Int.toNat_of_nonneg h0, src_comp k l (by omega) (by omega)]
/-- TensorSpreads, behind what stays. -/
theorem spreads_two {s d g u : List Int} (h : tokV s d = true) (k : (spreadV s d g).2.2 = 0) (l : (spreadV (spreadV s d g).1 (spreadV s d g).2.1 u).2.2 = 0) :
    spreadV (spreadV s d g).1 (spreadV s d g).2.1 u = spreadV s d u ∧ d.length ≤ (spreadV s d g).2.1.length ∧ ∃ c : Nat, (spreadV s d g).2.1.length = c * d.length := by
  rcases spread_cases s d g with ⟨_, e⟩ | ⟨_, _, e⟩ | ⟨_, hf, e⟩
  · rw [e] at k; simp at k
  · rw [e] at k; simp at k
  · rw [e] at l ⊢
    simp only at l ⊢
    obtain ⟨a, b⟩ := tok_iff.1 h
    have hp := ok_prod a
    have hg := size_nat (fits_al hf).2.1
    have hc := count_src hf (Int.le_refl 0) (show 0 < prodS s by omega)
    refine ⟨?_, ?_, ?_⟩
    · rcases spread_cases g (spreadL s d g (sizeV g).toNat) u with ⟨e', _⟩ | ⟨_, _, e'⟩ | ⟨_, hf', e'⟩
      · rw [tok_spread hf] at e'; cases e'
      · rw [e'] at l; simp at l
      · rw [e', spread_comp hf hf']
        unfold spreadV
        rw [if_pos h, if_pos (fits_trans hf hf')]
    · have := (fits_iff.1 hf).sizes.1
      rw [spread_len]; omega
    · refine ⟨(sg (prodS g).toNat fun i => if srcI s g i = 0 then 1 else 0).toNat, ?_⟩
      generalize (sg (prodS g).toNat fun i => if srcI s g i = 0 then 1 else 0) = c at hc
      have hg1 := ok_prod (fits_al hf).2.1
      have c0 : 0 ≤ c := by
        rcases (show c < 0 ∨ 0 ≤ c by omega) with h | h
        · have := Int.mul_le_mul_of_nonneg_right (show c ≤ -1 by omega) (show 0 ≤ prodS s by omega)
          omega
        · exact h
      rw [spread_len]
      have : (((sizeV g).toNat : Nat) : Int) = ((c.toNat * d.length : Nat) : Int) := by
        rw [Int.natCast_mul, Int.toNat_of_nonneg c0, b, hg]; exact hc.symm
      exact Int.ofNat.inj this

/-! ### Folded -/
theorem fold_cases (g d s : List Int) : (tokV g d = false ∧ foldV g d s = ([], [], 30)) ∨ (tokV g d = true ∧ fitsV s g = false ∧ foldV g d s = ([], [], 20)) ∨
    (tokV g d = true ∧ fitsV s g = true ∧ (foldL s g d).2 ≠ 0 ∧ foldV g d s = ([], [], (foldL s g d).2)) ∨
    (tokV g d = true ∧ fitsV s g = true ∧ (foldL s g d).2 = 0 ∧ foldV g d s = (s, (foldL s g d).1, 0)) := by
  unfold foldV
  cases tokV g d <;> cases fitsV s g <;> by_cases h : (foldL s g d).2 = 0 <;> simp [h]
theorem foldV_i64 (g d s : List Int) : I64s (foldV g d s).2.1 := by
  rcases fold_cases g d s with ⟨_, e⟩ | ⟨_, _, e⟩ | ⟨_, _, _, e⟩ | ⟨_, _, _, e⟩
  · rw [e]; exact I64s.nil_
  · rw [e]; exact I64s.nil_
  · rw [e]; exact I64s.nil_
  · rw [e]; exact fold_i64 _ _ _ _ (I64s.rep (by omega))
theorem fold_own (f : Nat → Nat) (d : List Int) : ∀ (pre : List Int) (k : Nat), pre.length = k → (∀ i, i < d.length → f (k + i) = k + i) → I64s d → foldG f (pre ++ List.replicate d.length 0) k d = (pre ++ d, 0) := by
  induction d with
  | nil => intro pre k _ _ _; simp [foldG]
  | cons x d ih =>
    intro pre k hk hf hd
    have h0 := hf 0 (by simp)
    rw [Nat.add_zero] at h0
    have hx := hd x (by simp)
    have e0 : (pre ++ List.replicate (x :: d).length 0).getD k (0 : Int) = 0 := by
      rw [List.getD_eq_getElem?_getD, List.getElem?_append_right (by omega)]
      simp [← hk]
    have e1 : addV 0 x = (x, 0) := by unfold addV; rw [put_in (by omega) (by omega)]; congr 1; omega
    simp only [foldG, h0, e0, e1, if_true]
    have e2 : (pre ++ List.replicate (x :: d).length 0).set k x = (pre ++ [x]) ++ List.replicate d.length 0 := by
      rw [List.set_append_right _ _ (by omega), ← hk]
      simp [List.replicate_succ]
    rw [e2, ih (pre ++ [x]) (k + 1) (by simp [hk]) (fun i hi => by have := hf (i + 1) (by simpa using hi); rw [show k + 1 + i = k + (i + 1) by omega]; exact this) (fun y hy => hd y (by simp [hy]))]
    simp
theorem fold_self {s d : List Int} (h : tokV s d = true) (hd : I64s d) : foldV s d s = (s, d, 0) := by
  obtain ⟨a, b⟩ := tok_iff.1 h
  have hn := size_nat a
  have e : foldL s s d = (d, 0) := by
    unfold foldL
    rw [show (sizeV s).toNat = d.length by omega]
    have := fold_own (fun i => (srcI s s i).toNat) d [] 0 rfl (fun i hi => by
      show (srcI s s ((0 + i : Nat) : Int)).toNat = 0 + i
      rw [src_self a (by omega) (by omega)]; rfl) hd
    simpa using this
  unfold foldV
  rw [if_pos h, if_pos (by rw [fits_self]; exact a), e]
  rfl
/-- Each number of what is folded is the sum of those that come from it. -/
theorem foldL_sum {s g d : List Int} (h : fitsV s g = true) (k : (foldL s g d).2 = 0) :
    ((foldL s g d).1.length : Int) = prodS s ∧ ∀ p : Nat, (p : Int) < prodS s → (foldL s g d).1.getD p 0 = sg d.length fun i => if (srcI s g i).toNat = p then d.getD i 0 else 0 := by
  have hn := size_nat (fits_al h).1
  have e : foldL s g d = ((foldL s g d).1, 0) := Prod.ext rfl k
  obtain ⟨h1, h2⟩ := fold_sum _ d _ 0 _ e
  rw [List.length_replicate] at h1 h2
  refine ⟨by omega, fun p hp => ?_⟩
  rw [h2 p (by omega)]
  have : (List.replicate (sizeV s).toNat (0 : Int)).getD p 0 = 0 := by
    rw [List.getD_eq_getElem?_getD, List.getElem?_replicate]; split <;> rfl
  rw [this, Int.zero_add]
  exact sg_congr fun i _ => by rw [Nat.zero_add]
theorem foldL_small {s g d : List Int} (h : fitsV s g = true) (hd : (d.length : Int) = prodS g) (hb : ∀ i, i < d.length → -1099511627776 ≤ d.getD i 0 ∧ d.getD i 0 ≤ 1099511627776) : (foldL s g d).2 = 0 := by
  have hn := size_nat (fits_al h).1
  have hg := ok_prod (fits_al h).2.1
  refine fold_small _ d _ 0 1099511627776 (by omega) (fun p hp => ?_) hb (fun i hi => ?_) (by omega)
  · have : (List.replicate (sizeV s).toNat (0 : Int)).getD p 0 = 0 := by
      rw [List.getD_eq_getElem?_getD, List.getElem?_replicate]; split <;> rfl
    rw [this]; omega
  · have := src_in h (p := ((0 + i : Nat) : Int)) (by omega) (by omega)
    rw [List.length_replicate]
    show (srcI s g ((0 + i : Nat) : Int)).toNat < _
    omega
theorem fold_comp {t s u d : List Int} (h : fitsV s t = true) (k : fitsV u s = true) (hd : (d.length : Int) = prodS t) (e1 : (foldL s t d).2 = 0) (e2 : (foldL u s (foldL s t d).1).2 = 0) (e3 : (foldL u t d).2 = 0) :
    (foldL u s (foldL s t d).1).1 = (foldL u t d).1 := by
  obtain ⟨a1, a2⟩ := foldL_sum h e1
  obtain ⟨b1, b2⟩ := foldL_sum k e2
  obtain ⟨c1, c2⟩ := foldL_sum (fits_trans k h) e3
  refine ext0 (by omega) fun p hp => ?_
  rw [b2 p (by omega), c2 p (by omega)]
  have s1 : (sg (foldL s t d).1.length fun j => if (srcI u s j).toNat = p then (foldL s t d).1.getD j 0 else 0) =
      sg (foldL s t d).1.length fun j => sg d.length fun i => if (srcI s t i).toNat = j then (if (srcI u s j).toNat = p then d.getD i 0 else 0) else 0 := by
    refine sg_congr fun j hj => ?_
    split
    · exact a2 j (by omega)
    · exact (sg_zero _).symm.trans (sg_congr fun i _ => by simp)
  rw [s1, sg_swap]
  refine sg_congr fun i hi => ?_
  have hr := src_in h (p := (i : Int)) (by omega) (by omega)
  have s2 : (sg (foldL s t d).1.length fun j => if (srcI s t i).toNat = j then (if (srcI u s j).toNat = p then d.getD i 0 else 0) else 0) =
      sg (foldL s t d).1.length fun j => if (srcI s t i).toNat = j then (if (srcI u t i).toNat = p then d.getD i 0 else 0) else 0 := by
    refine sg_congr fun j _ => ?_
    split
    · rename_i e
      rw [← e, Int.toNat_of_nonneg hr.1, src_comp k h (by omega) (by omega)]
    · rfl
  rw [s2, sg_one (by omega)]
/-- TensorParts, where no number is great. -/
theorem parts_two {t d s u : List Int} (hb : ∀ i, i < d.length → -1099511627776 ≤ d.getD i 0 ∧ d.getD i 0 ≤ 1099511627776) (k : (foldV t d s).2.2 = 0) (l : (foldV (foldV t d s).1 (foldV t d s).2.1 u).2.2 = 0) :
    foldV (foldV t d s).1 (foldV t d s).2.1 u = foldV t d u ∧ tokV (foldV t d u).1 (foldV t d u).2.1 = true := by
  rcases fold_cases t d s with ⟨_, e⟩ | ⟨_, _, e⟩ | ⟨_, _, h, e⟩ | ⟨ht, hf, h1, e⟩
  · rw [e] at k; simp at k
  · rw [e] at k; simp at k
  · rw [e] at k; exact absurd k h
  · obtain ⟨_, hd⟩ := tok_iff.1 ht
    rw [e] at l ⊢
    simp only at l ⊢
    rcases fold_cases s (foldL s t d).1 u with ⟨_, e'⟩ | ⟨_, _, e'⟩ | ⟨_, _, h, e'⟩ | ⟨_, hf', h2, e'⟩
    · rw [e'] at l; simp at l
    · rw [e'] at l; simp at l
    · rw [e'] at l; exact absurd l h
    · have hh := fits_trans hf' hf
      have h3 := foldL_small hh hd hb
      have e3 : foldV t d u = (u, (foldL u t d).1, 0) := by
        unfold foldV; rw [if_pos ht, if_pos hh, if_pos h3]
      refine ⟨by rw [e', e3, fold_comp hf hf' hd h1 h2 h3], ?_⟩
      rw [e3]
      exact tok_iff.2 ⟨(fits_al hh).1, (foldL_sum hh h3).1⟩

/-! ### All the same -/
theorem rep_getD (n : Nat) (x : Int) (i : Nat) (h : i < n) : (List.replicate n x).getD i 0 = x := by
  rw [List.getD_eq_getElem?_getD, List.getElem?_replicate, if_pos h]; rfl
theorem full_tok {s : List Int} (n : Int) (h : okS s = true) : tokV s (List.replicate (sizeV s).toNat n) = true := tok_iff.2 ⟨h, by rw [List.length_replicate, size_nat h]⟩
theorem full_spread {s u : List Int} (n : Int) (h : fitsV s u = true) : spreadV s (List.replicate (sizeV s).toNat n) u = fullV u n := by
  obtain ⟨a, b, _, _⟩ := fits_al h
  have ha := size_nat a
  have hb := size_nat b
  unfold spreadV fullV
  rw [if_pos (full_tok n a), if_pos h, if_pos b]
  congr 2
  refine ext0 (by rw [spread_len, List.length_replicate]) fun i hi => ?_
  rw [spread_len] at hi
  have := src_in h (p := (i : Int)) (by omega) (by omega)
  rw [spread_getD hi, rep_getD _ _ _ hi, rep_getD _ _ _ (by omega)]
theorem full_fold {s u : List Int} {n : Int} (h : fitsV u s = true) (hn : -1099511627776 ≤ n ∧ n ≤ 1099511627776) :
    ∃ c : List Int, foldV s (List.replicate (sizeV s).toNat n) u = (u, c, 0) ∧ c.length = (sizeV u).toNat ∧ ∀ (i : Nat) (x : Int), c[i]? = some x → x * c.length = n * (sizeV s).toNat ∧ -70368744177664 ≤ x ∧ x ≤ 70368744177664 := by
  obtain ⟨b, a, _, _⟩ := fits_al h
  have ha := size_nat a
  have hb := size_nat b
  have hd : ((List.replicate (sizeV s).toNat n).length : Int) = prodS s := by rw [List.length_replicate]; exact ha
  have h3 := foldL_small h hd (fun i hi => by rw [List.length_replicate] at hi; rw [rep_getD _ _ _ hi]; exact hn)
  obtain ⟨f1, f2⟩ := foldL_sum h h3
  refine ⟨(foldL u s (List.replicate (sizeV s).toNat n)).1, ?_, by omega, fun i x hx => ?_⟩
  · unfold foldV; rw [if_pos (full_tok n a), if_pos h, if_pos h3]
  · have hi := (List.getElem?_eq_some_iff.1 hx).1
    have e := f2 i (by omega)
    rw [List.getD_eq_getElem?_getD, hx, Option.getD_some, List.length_replicate] at e
    have e2 : (sg (sizeV s).toNat fun j => if (srcI u s j).toNat = i then (List.replicate (sizeV s).toNat n).getD j 0 else 0) = (sg (prodS s).toNat fun j => if srcI u s j = i then 1 else 0) * n := by
      rw [← sg_mul, ← size_ok a]
      refine sg_congr fun j hj => ?_
      have := src_in h (p := (j : Int)) (by omega) (by omega)
      rw [rep_getD _ _ _ hj]
      by_cases hc : srcI u s j = i
      · rw [if_pos (by omega), if_pos hc]; simp
      · rw [if_neg (by omega), if_neg hc]; simp
    have hc := count_src h (p := (i : Int)) (by omega) (by omega)
    rw [e2] at e
    generalize (sg (prodS s).toNat fun j => if srcI u s j = i then (1 : Int) else 0) = c at e hc
    have p1 := ok_prod a
    have p2 := ok_prod b
    have c0 : 0 ≤ c := by
      rcases (show c < 0 ∨ 0 ≤ c by omega) with h | h
      · have := Int.mul_le_mul_of_nonneg_right (show c ≤ -1 by omega) (show 0 ≤ prodS u by omega)
        omega
      · exact h
    have c1 : c ≤ 64 := by
      have := Int.mul_le_mul_of_nonneg_left (show 1 ≤ prodS u by omega) c0
      omega
    subst e
    rw [f1, ha, ← hc]
    refine ⟨by rw [Int.mul_comm c n, Int.mul_assoc], ?_, ?_⟩
    · have := Int.mul_le_mul_of_nonneg_left hn.1 c0
      omega
    · have := Int.mul_le_mul_of_nonneg_left hn.2 c0
      omega

/-! ### At an index -/
theorem pin_at {s d : List Int} (h : tokV s d = true) {p : Int} (h0 : 0 ≤ p) (h1 : p < sizeV s) : pinV s d (digs s p) = (p, 0) := by
  unfold pinV; rw [if_pos h]; exact places_in h0 h1
theorem at_at {s d : List Int} (h : tokV s d = true) {p : Int} (h0 : 0 ≤ p) (h1 : p < sizeV s) : atV s d (digs s p) = (d.getD p.toNat 0, 0) := by
  unfold atV; rw [pin_at h h0 h1]; rfl
theorem with_at {s d : List Int} (h : tokV s d = true) {p : Int} (n : Int) (h0 : 0 ≤ p) (h1 : p < sizeV s) : withV s d (digs s p) n = (s, d.set p.toNat n, 0) := by
  unfold withV; rw [pin_at h h0 h1]; rfl
theorem tok_set {s d : List Int} (h : tokV s d = true) (k : Nat) (n : Int) : tokV s (d.set k n) = true := by
  obtain ⟨a, b⟩ := tok_iff.1 h
  exact tok_iff.2 ⟨a, by rw [List.length_set]; exact b⟩
/-- TensorIndex. -/
theorem at_spread {s d g t : List Int} (k : fitsV s g = true) (h : tokV s d = true) (hp : inIdx g t = true) :
    atV g (spreadL s d g (sizeV g).toNat) t = atV s d (maskL s (t.drop (g.length - s.length))) ∧ (atV s d (maskL s (t.drop (g.length - s.length)))).2 = 0 := by
  obtain ⟨a, b, c, _⟩ := fits_al k
  obtain ⟨p0, p1, p2⟩ := plc_in (ok_all b) hp
  have hn := size_nat b
  have e1 : pinV g (spreadL s d g (sizeV g).toNat) t = (plc g t, 0) := by
    unfold pinV; rw [if_pos (tok_spread k)]; exact place_yes b hp
  have e2 : pinV s d (maskL s (t.drop (g.length - s.length))) = (srcI s g (plc g t), 0) := by
    unfold pinV; rw [if_pos h]
    have := src_place k p0 p1
    rwa [p2] at this
  unfold atV
  rw [e1, e2]
  simp only [if_true]
  rw [spread_getD (by omega), Int.toNat_of_nonneg p0]
  simp
theorem at_no {g d t : List Int} (h : tokV g d = true) (hp : inIdx g t = false) : atV g d t = (0, 20) := by
  have e1 : pinV g d t = (0, 20) := by unfold pinV; rw [if_pos h]; exact place_no (.inr hp)
  unfold atV; rw [e1]; rfl
end Go.Proofs.ShM
