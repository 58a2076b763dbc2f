/- Plain arithmetic under the law of order: sums, products, quotients and powers of a greater number are no lesser. No program stands here. -/
import Derived.Test.YtlnbphmeinjefaaFixMath
namespace Go.Proofs.FixM

theorem put_mono {m n : Int} (h : m ≤ n) (h1 : (put m).2 = 0) (h2 : (put n).2 = 0) : (put m).1 ≤ (put n).1 := by
  rcases put_cases m with ⟨_, _, e⟩ | ⟨_, e⟩ <;> rcases put_cases n with ⟨_, _, f⟩ | ⟨_, f⟩ <;> rw [e] at h1 <;> rw [f] at h2 <;> simp at h1 h2
  rw [e, f]; exact h
theorem or_of {e f : Int} {x : Bool} (h : e = 0 → f = 0 → x = true) : ((e != 0) || (f != 0) || x) = true := by
  by_cases h1 : e = 0
  · by_cases h2 : f = 0
    · rw [h h1 h2]; simp
    · simp [h2]
  · simp [h1]
theorem order_add {lo hi c : Int} (h : lo ≤ hi) : (((addV lo c).2 != 0) || ((addV hi c).2 != 0) || decide ((addV lo c).1 ≤ (addV hi c).1)) = true :=
  or_of fun h1 h2 => decide_eq_true (put_mono (by omega) h1 h2)
theorem or_of3 {e f : Int} {y x : Bool} (h : e = 0 → f = 0 → y = false → x = true) : ((e != 0) || (f != 0) || y || x) = true := by
  have := or_of (e := e) (f := f) (x := y || x) fun h1 h2 => by
    cases y
    · rw [h h1 h2 rfl]; rfl
    · rfl
  rw [← Bool.or_assoc] at this
  exact this
theorem order_mul {lo hi c : Int} (h : lo ≤ hi) : (((mulV lo c).2 != 0) || ((mulV hi c).2 != 0) || decide (c < 0) || decide ((mulV lo c).1 ≤ (mulV hi c).1)) = true :=
  or_of3 fun h1 h2 hc => decide_eq_true (put_mono (Int.ediv_le_ediv (by omega) (Int.mul_le_mul_of_nonneg_right h (by simpa using hc))) h1 h2)
theorem order_div {lo hi c : Int} (h : lo ≤ hi) : (((divV lo c).2 != 0) || ((divV hi c).2 != 0) || decide (c ≤ 0) || decide ((divV lo c).1 ≤ (divV hi c).1)) = true :=
  or_of3 fun h1 h2 hc => by
    have hc' : 0 < c := by simpa using hc
    refine decide_eq_true ?_
    unfold divV at *
    rw [if_neg (by omega)] at h1 h2
    rw [if_neg (by omega), if_neg (by omega)]
    rw [Int.fdiv_eq_ediv_of_nonneg _ (by omega)] at *
    rw [Int.fdiv_eq_ediv_of_nonneg _ (by omega)] at *
    exact put_mono (Int.ediv_le_ediv hc' (by omega)) h1 h2

/-- What scaleV tells where nothing is too great. -/
def gv (n : Nat) (k : Int) : Nat := if k < 0 then n / 2 ^ (-k).toNat else n * 2 ^ k.toNat
theorem gv_mono {m n : Nat} {j k : Int} (hm : m < 8589934592) (hn : 4294967296 ≤ n) (h : j < k ∨ (j = k ∧ m ≤ n)) : gv m j ≤ gv n k := by
  unfold gv
  rcases h with h | ⟨rfl, h⟩
  · by_cases c1 : j < 0
    · by_cases c2 : k < 0
      · rw [if_pos c1, if_pos c2]
        have h1 : m / 2 ^ (-j).toNat ≤ (2 * n) / 2 ^ (-j).toNat := Nat.div_le_div_right (by omega)
        have h2 : (2 * n) / 2 ^ (-j).toNat ≤ (2 * n) / 2 ^ ((-k).toNat + 1) := Nat.div_le_div_left (Nat.pow_le_pow_right (by omega) (by omega)) (Nat.two_pow_pos _)
        have h3 : (2 * n) / 2 ^ ((-k).toNat + 1) = n / 2 ^ (-k).toNat := by rw [Nat.pow_succ, Nat.mul_comm _ 2]; exact Nat.mul_div_mul_left _ _ (by omega)
        omega
      · rw [if_pos c1, if_neg c2]
        have h1 : m / 2 ^ (-j).toNat ≤ m / 2 ^ 1 := Nat.div_le_div_left (Nat.pow_le_pow_right (by omega) (by omega)) (by omega)
        have h2 : n * 1 ≤ n * 2 ^ k.toNat := Nat.mul_le_mul_left n (Nat.two_pow_pos _)
        omega
    · rw [if_neg c1, if_neg (by omega)]
      have h1 : m * 2 ^ j.toNat ≤ (n * 2) * 2 ^ j.toNat := Nat.mul_le_mul_right _ (by omega)
      have h2 : n * 2 ^ (j.toNat + 1) ≤ n * 2 ^ k.toNat := Nat.mul_le_mul_left n (Nat.pow_le_pow_right (by omega) (by omega))
      have h3 : n * 2 ^ (j.toNat + 1) = n * 2 * 2 ^ j.toNat := by rw [Nat.pow_succ, Nat.mul_comm (2 ^ j.toNat) 2, Nat.mul_assoc]
      omega
  · by_cases c1 : j < 0
    · rw [if_pos c1, if_pos c1]; exact Nat.div_le_div_right h
    · rw [if_neg c1, if_neg c1]; exact Nat.mul_le_mul_right _ h

theorem scale_gv (n : Nat) (k : Int) : scaleV n k = if k < 0 then (((gv n k : Nat) : Int), (0 : Int)) else put ((gv n k : Nat) : Int) := by
  unfold scaleV gv
  split
  · rw [← Int.natCast_ediv]
  · rw [← Int.natCast_mul]
theorem gv_low {n : Nat} {k : Int} (hk : k < 0) (hn : n < 8589934592) : gv n k < 8589934592 := by
  unfold gv
  rw [if_pos hk]
  exact Nat.lt_of_le_of_lt (Nat.div_le_self _ _) hn

theorem order_pow {lo hi : Int} (h : lo ≤ hi) : (((powV hi).2 != 0) || (((powV lo).2 == 0) && decide ((powV lo).1 ≤ (powV hi).1) && decide (0 ≤ (powV lo).1))) = true := by
  obtain ⟨m, hm⟩ : ∃ m : Nat, 4294967296 + lo % 4294967296 = (m : Int) := ⟨(4294967296 + lo % 4294967296).toNat, by omega⟩
  obtain ⟨n, hn⟩ : ∃ n : Nat, 4294967296 + hi % 4294967296 = (n : Int) := ⟨(4294967296 + hi % 4294967296).toNat, by omega⟩
  have e1 : powV lo = scaleV m (lo / 4294967296) := by unfold powV; rw [hm]
  have e2 : powV hi = scaleV n (hi / 4294967296) := by unfold powV; rw [hn]
  have mono : gv m (lo / 4294967296) ≤ gv n (hi / 4294967296) := gv_mono (by omega) (by omega) (by omega)
  have lowm : lo / 4294967296 < 0 → gv m (lo / 4294967296) < 8589934592 := fun c => gv_low c (by omega)
  rw [e1, e2, scale_gv, scale_gv]
  have jk : lo / 4294967296 ≤ hi / 4294967296 := by omega
  clear hm hn e1 e2 h
  generalize lo / 4294967296 = j at *
  generalize hi / 4294967296 = k at *
  generalize gv m j = x at *
  generalize gv n k = y at *
  by_cases c2 : k < 0
  · rw [if_pos c2, if_pos (show j < 0 by omega)]
    simp; omega
  · rw [if_neg c2]
    rcases put_cases (y : Int) with ⟨_, hy, f⟩ | ⟨_, f⟩
    · rw [f]
      by_cases c1 : j < 0
      · rw [if_pos c1]; simp; omega
      · rw [if_neg c1, put_in (by omega) (by omega)]; simp; omega
    · rw [f]; simp

end Go.Proofs.FixM
