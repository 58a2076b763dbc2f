import Derived.Test.YtjkdcegmdfmjpaaGreatTk
import Derived.Test.YtjkdcegmdfmjpaaGreatMmAll
set_option maxHeartbeats 16000000
set_option maxRecDepth 100000
set_option linter.unusedVariables false
set_option linter.unusedSimpArgs false
namespace Go.Proofs.ShM
open Go.Proofs.FixM
section
variable {op : Int} {s xs : List Int}
theorem mapE_getL {f : Int → Int × Int} (h : (mapE f xs).2 = 0) {i : Nat} (hi : i < xs.length) : f (xs.getD i 0) = ((mapE f xs).1.getD i 0, 0) := by
 obtain ⟨h1, h2⟩ := mapE_ok h
 rw [h2]
 have e : xs.getD i 0 = xs[i] := by simp [List.getD, List.getElem?_eq_getElem hi]
 rw [e]
 have h3 := firstE_zero.1 h1 xs[i] (List.getElem_mem hi)
 refine Prod.ext ?_ h3
 simp [List.getD, List.getElem?_map, List.getElem?_eq_getElem hi]
theorem one_form (hop : 20 ≤ op ∧ op ≤ 23) (h : tokV s xs = true) : oneV op s xs = endT s (mapE (numV op) xs) := by
 unfold oneV endT
 rw [if_neg (by omega), if_neg (by simp [h])]
theorem one_notok (hop : 20 ≤ op ∧ op ≤ 23) (h : tokV s xs = false) : oneV op s xs = ([], [], 30) := by
 unfold oneV
 rw [if_neg (by omega), if_pos h]
theorem one_noop (hop : op < 20 ∨ 23 < op) : oneV op s xs = ([], [], 1) := by unfold oneV; rw [if_pos hop]
theorem one_err (op : Int) (s xs : List Int) (h : (oneV op s xs).2.2 ≠ 0) : oneV op s xs = ([], [], (oneV op s xs).2.2) := by
 by_cases hop : op < 20 ∨ 23 < op
 ·rw [one_noop hop]
 ·have hop' : 20 ≤ op ∧ op ≤ 23 := by omega
  cases h1 : tokV s xs with
  | false => rw [one_notok hop' h1]
  | true =>
   rw [one_form hop' h1] at h ⊢
   unfold endT at *
   by_cases c : (mapE (numV op) xs).2 = 0
   ·rw [if_pos c] at h; exact absurd rfl h
   ·rw [if_neg c]
theorem one_zero (hop : 20 ≤ op ∧ op ≤ 23) (h : (oneV op s xs).2.2 = 0) : ∃ Z, tokV s xs = true ∧ oneV op s xs = (s, Z, 0) ∧ Z.length = xs.length ∧ tokV s Z = true ∧ ∀ i, i < xs.length → numV op (xs.getD i 0) = (Z.getD i 0, 0) := by
 cases h1 : tokV s xs with
 | false => rw [one_notok hop h1] at h; cases h
 | true =>
  rw [one_form hop h1] at h
  obtain ⟨z, e⟩ := endT_zero h
  have hl := mapE_len z
  refine ⟨_, rfl, by rw [one_form hop h1, e], hl, ?_, fun i hi => mapE_getL z hi⟩
  obtain ⟨ho, h2⟩ := tok_iff.1 h1
  exact tok_iff.2 ⟨ho, by rw [hl]; exact h2⟩
theorem one_is {Z : List Int} (hop : 20 ≤ op ∧ op ≤ 23) (h : tokV s xs = true) (hl : Z.length = xs.length) (hz : ∀ i, i < xs.length → numV op (xs.getD i 0) = (Z.getD i 0, 0)) : oneV op s xs = (s, Z, 0) := by
 have he : firstE (numV op) xs = 0 := firstE_zero.2 fun x hx => by
  obtain ⟨i, hi, rfl⟩ := List.mem_iff_getElem.1 hx
  have := hz i hi
  rw [show xs.getD i 0 = xs[i] by simp [List.getD, List.getElem?_eq_getElem hi]] at this
  rw [this]
 have h0 : (mapE (numV op) xs).2 = 0 := by rw [mapE_e]; exact he
 rw [one_form hop h]
 have e := mapE_ok h0
 have hz2 : (mapE (numV op) xs).1 = Z := by
  refine ext0 (by rw [mapE_len h0, hl]) fun i hi => ?_
  have hi' : i < xs.length := by rw [mapE_len h0] at hi; exact hi
  have g1 := mapE_getL h0 hi'
  rw [hz i hi'] at g1
  injection g1 with g1 _
  exact g1.symm
 unfold endT
 rw [if_pos h0, hz2]
end
theorem scale_i64 {n k : Int} (h1 : 0 ≤ n) (h2 : n ≤ 9223372036854775807) : -9223372036854775808 ≤ (scaleV n k).1 ∧ (scaleV n k).1 ≤ 9223372036854775807 := by
 unfold scaleV
 split
 ·have hd : (0 : Int) < ((2 ^ (-k).toNat : Nat) : Int) := by have := Nat.two_pow_pos (-k).toNat; omega
  have g1 := Int.ediv_nonneg h1 (Int.le_of_lt hd)
  have g2 := Int.ediv_le_self ((2 ^ (-k).toNat : Nat) : Int) h1
  dsimp only
  omega
 ·exact put_i64 _
theorem num_i64 (op : Int) {x : Int} (h : -9223372036854775808 ≤ x ∧ x ≤ 9223372036854775807) : -9223372036854775808 ≤ (numV op x).1 ∧ (numV op x).1 ≤ 9223372036854775807 := by
 unfold numV
 split
 ·exact put_i64 _
 ·split
  ·dsimp only; omega
  ·split
   ·unfold powV
    exact scale_i64 (by omega) (by omega)
   ·split
    ·unfold sqrtV
     split
     ·simp
     ·have hb := sqR_lt (W := x.natAbs * 4294967296) (by omega)
      dsimp only
      omega
    ·simp
theorem one_i64 (op : Int) (s : List Int) {xs : List Int} (hx : I64s xs) : I64s (oneV op s xs).2.1 := by
 by_cases hop : op < 20 ∨ 23 < op
 ·rw [one_noop hop]; exact I64s.nil_
 ·have hop' : 20 ≤ op ∧ op ≤ 23 := by omega
  by_cases h : (oneV op s xs).2.2 = 0
  ·obtain ⟨Z, _, e, hl, _, hz⟩ := one_zero hop' h
   rw [e]
   intro x hxz
   obtain ⟨i, hi, rfl⟩ := List.mem_iff_getElem.1 hxz
   have h1 := hz i (by rw [← hl]; exact hi)
   rw [show Z.getD i 0 = Z[i] by simp [List.getD, List.getElem?_eq_getElem hi]] at h1
   have h3 := num_i64 op (getD_i64 hx i)
   rw [h1] at h3
   exact h3
  ·rw [one_err op s xs h]; exact I64s.nil_
theorem src_one {s : List Int} (h : okS s = true) {i : Nat} (hi : i < (sizeV s).toNat) : (srcI [] s i).toNat = 0 := by
 have hf : fitsV [] s = true := fits_iff.2 (Jn.nil_ h)
 have := size_nat h
 have h1 := src_in hf (p := (i : Int)) (by omega) (by omega)
 have h2 : prodS [] = 1 := rfl
 omega
end Go.Proofs.ShM
