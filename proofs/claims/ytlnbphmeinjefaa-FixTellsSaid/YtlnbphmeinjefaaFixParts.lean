/- Plain arithmetic under the document's division of two words by one, bit by bit. No program stands here. -/
namespace Go.Proofs.FixM

/-- m bits are still to come: T of them, at the head of the two words h and l; q and r are quotient and rest of what was taken. -/
structure PInv (N d m h l qh ql r : Nat) : Prop where
  ex : ∃ T, T < 2 ^ m ∧ h * 18446744073709551616 + l = T * 2 ^ (128 - m) ∧ N = ((qh * 18446744073709551616 + ql) * d + r) * 2 ^ m + T
  m128 : m ≤ 128
  rd : r < d
  hb : h < 18446744073709551616
  lb : l < 18446744073709551616
  qhb : qh < 18446744073709551616
  qlb : ql < 18446744073709551616

theorem pinit {h l d : Nat} (hd : 0 < d) (h1 : h < 18446744073709551616) (h2 : l < 18446744073709551616) : PInv (h * 18446744073709551616 + l) d 128 h l 0 0 0 :=
  ⟨⟨h * 18446744073709551616 + l, by omega, by omega, by omega⟩, by omega, hd, h1, h2, by omega, by omega⟩

theorem pdone {N d h l qh ql r : Nat} (i : PInv N d 0 h l qh ql r) : qh = N / d / 18446744073709551616 ∧ ql = N / d % 18446744073709551616 ∧ r = N % d := by
  obtain ⟨⟨T, t1, t2, t3⟩, m, rd, hb, lb, qhb, qlb⟩ := i
  have hT : T = 0 := by simpa using t1
  subst hT
  obtain ⟨Q, hQ⟩ : ∃ Q, Q = qh * 18446744073709551616 + ql := ⟨_, rfl⟩
  rw [← hQ] at t3
  have e : N = d * Q + r := by rw [t3, Nat.pow_zero, Nat.mul_one, Nat.add_zero, Nat.mul_comm d]
  have q : N / d = Q := by
    rw [e, Nat.mul_add_div (by omega), Nat.div_eq_of_lt rd]; omega
  have r' : N % d = r := by rw [e, Nat.mul_add_mod, Nat.mod_eq_of_lt rd]
  omega

theorem pw0 {h l : Nat} (lb : l < 18446744073709551616) (z : h / 9223372036854775808 = 0) :
    (h * 2 + l / 9223372036854775808) % 18446744073709551616 * 18446744073709551616 + l * 2 % 18446744073709551616 = 2 * (h * 18446744073709551616 + l) := by omega
theorem pw1 {h l : Nat} (lb : l < 18446744073709551616) (z : h / 9223372036854775808 = 1) :
    (h * 2 + l / 9223372036854775808) % 18446744073709551616 * 18446744073709551616 + l * 2 % 18446744073709551616 + 2 * 170141183460469231731687303715884105728 = 2 * (h * 18446744073709551616 + l) := by omega
theorem add_to_sub {a b c : Nat} (h : a + b = c) : a = c - b := by omega
/-- The highest bit, and what stays. -/
theorem ptop {N d m h l qh ql r : Nat} (i : PInv N d (m + 1) h l qh ql r) :
    ∃ T, T < 2 ^ m ∧ h / 9223372036854775808 ≤ 1 ∧ (h * 2 + l / 9223372036854775808) % 18446744073709551616 * 18446744073709551616 + l * 2 % 18446744073709551616 = T * 2 ^ (128 - m) ∧
      N = (2 * ((qh * 18446744073709551616 + ql) * d + r) + h / 9223372036854775808) * 2 ^ m + T := by
  obtain ⟨⟨T, t1, t2, t3⟩, m128, rd, hb, lb, qhb, qlb⟩ := i
  have e1 : 2 ^ (m + 1) = 2 * 2 ^ m := by rw [Nat.pow_succ, Nat.mul_comm]
  have e2 : 2 ^ (128 - m) = 2 * 2 ^ (128 - (m + 1)) := by rw [show 128 - m = (128 - (m + 1)) + 1 by omega, Nat.pow_succ, Nat.mul_comm]
  have e3 : 2 ^ m * 2 ^ (128 - m) = 340282366920938463463374607431768211456 := by rw [← Nat.pow_add, show m + (128 - m) = 128 by omega]
  rw [e1] at t1 t3
  have e4 : 2 ^ m * 2 ^ (128 - (m + 1)) = 170141183460469231731687303715884105728 := by rw [← Nat.pow_add, show m + (128 - (m + 1)) = 127 by omega]
  obtain ⟨P, hP⟩ : ∃ P, P = (qh * 18446744073709551616 + ql) * d + r := ⟨_, rfl⟩
  rw [← hP] at t3 ⊢
  obtain ⟨M, hM⟩ : ∃ M, M = 2 ^ m := ⟨_, rfl⟩
  obtain ⟨S, hS⟩ : ∃ S, S = 2 ^ (128 - (m + 1)) := ⟨_, rfl⟩
  rw [← hM] at t1 t3 e3 e4 ⊢
  rw [← hS] at t2 e2 e4
  rw [e2] at e3 ⊢
  have hb1 : h / 9223372036854775808 ≤ 1 := by omega
  by_cases c : T < M
  · have hl : h * 18446744073709551616 + l < 170141183460469231731687303715884105728 := by
      rw [t2, ← e4]
      refine Nat.mul_lt_mul_of_pos_right c ?_
      rw [hS]; exact Nat.two_pow_pos _
    have hz : h / 9223372036854775808 = 0 := by omega
    refine ⟨T, c, hb1, ?_, ?_⟩
    · exact (pw0 lb hz).trans ((congrArg (2 * ·) t2).trans (Nat.mul_left_comm T 2 S).symm)
    · have : 2 * P * M = P * (2 * M) := by rw [Nat.mul_comm 2 P, Nat.mul_assoc]
      rw [hz, Nat.add_zero, this]; exact t3
  · have hg : 170141183460469231731687303715884105728 ≤ h * 18446744073709551616 + l := by
      rw [t2, ← e4]; exact Nat.mul_le_mul_right S (by omega)
    have hz : h / 9223372036854775808 = 1 := by omega
    refine ⟨T - M, by omega, hb1, ?_, ?_⟩
    · have : (T - M) * (2 * S) = 2 * (T * S) - 2 * (M * S) := by rw [Nat.mul_left_comm, Nat.sub_mul, Nat.mul_sub]
      rw [e4] at this
      exact (add_to_sub ((pw1 lb hz).trans (congrArg (2 * ·) t2))).trans this.symm
    · rw [hz, Nat.add_mul, Nat.one_mul]
      have : 2 * P * M = P * (2 * M) := by rw [Nat.mul_comm 2 P, Nat.mul_assoc]
      rw [this]; omega

/-- The quotient has room for another bit. -/
theorem proom {N d m Q r b T : Nat} (hd : 0 < d) (hN : N < 340282366920938463463374607431768211456) (h : N = (2 * (Q * d + r) + b) * 2 ^ m + T) (c : d ≤ 2 * r + b) : 2 * Q + 1 < 340282366920938463463374607431768211456 := by
  have h1 : 1 ≤ 2 ^ m := Nat.two_pow_pos m
  have h2 := Nat.mul_le_mul_left (2 * (Q * d + r) + b) h1
  have h3 := Nat.mul_le_mul_left (2 * Q + 1) hd
  have h4 : (2 * Q + 1) * d = 2 * (Q * d) + d := by rw [Nat.add_mul, Nat.mul_assoc]; omega
  omega
theorem proom0 {N d m Q r b T : Nat} (hd : 0 < d) (hN : N < 340282366920938463463374607431768211456) (h : N = (2 * (Q * d + r) + b) * 2 ^ m + T) : 2 * Q < 340282366920938463463374607431768211456 := by
  have h1 : 1 ≤ 2 ^ m := Nat.two_pow_pos m
  have h2 := Nat.mul_le_mul_left (2 * (Q * d + r) + b) h1
  have h3 := Nat.mul_le_mul_left (2 * Q) hd
  have h4 : (2 * Q) * d = 2 * (Q * d) := by rw [Nat.mul_assoc]
  omega

theorem pyes_sum {Q d r b : Nat} (c : d ≤ 2 * r + b) : (2 * Q + 1) * d + (2 * r + b - d) = 2 * (Q * d + r) + b := by
  have h4 : (2 * Q + 1) * d = 2 * (Q * d) + d := by rw [Nat.add_mul, Nat.mul_assoc]; omega
  omega
theorem pno_sum {Q d r b : Nat} : (2 * Q) * d + (2 * r + b) = 2 * (Q * d + r) + b := by
  rw [Nat.mul_assoc]; omega

theorem pyes {N d m h l qh ql r : Nat} (hN : N < 340282366920938463463374607431768211456) (i : PInv N d (m + 1) h l qh ql r) (c : d ≤ 2 * r + h / 9223372036854775808) :
    PInv N d m ((h * 2 + l / 9223372036854775808) % 18446744073709551616) (l * 2 % 18446744073709551616) ((qh * 2 + ql / 9223372036854775808) % 18446744073709551616) (ql * 2 % 18446744073709551616 + 1) (2 * r + h / 9223372036854775808 - d) := by
  obtain ⟨T, t1, hb1, t2, t3⟩ := ptop i
  obtain ⟨_, m128, rd, hb, lb, qhb, qlb⟩ := i
  have ro := proom (by omega) hN t3 c
  have e : (qh * 2 + ql / 9223372036854775808) % 18446744073709551616 * 18446744073709551616 + (ql * 2 % 18446744073709551616 + 1) = 2 * (qh * 18446744073709551616 + ql) + 1 := by clear t3 t2 t1 hN c; omega
  refine ⟨⟨T, t1, t2, ?_⟩, by omega, ?_, by omega, by omega, by omega, by omega⟩
  · rw [e, pyes_sum c]; exact t3
  · clear t3 t2 t1 hN e ro; omega
theorem pno {N d m h l qh ql r : Nat} (hN : N < 340282366920938463463374607431768211456) (i : PInv N d (m + 1) h l qh ql r) (c : ¬ d ≤ 2 * r + h / 9223372036854775808) :
    PInv N d m ((h * 2 + l / 9223372036854775808) % 18446744073709551616) (l * 2 % 18446744073709551616) ((qh * 2 + ql / 9223372036854775808) % 18446744073709551616) (ql * 2 % 18446744073709551616) (2 * r + h / 9223372036854775808) := by
  obtain ⟨T, t1, hb1, t2, t3⟩ := ptop i
  obtain ⟨_, m128, rd, hb, lb, qhb, qlb⟩ := i
  have ro := proom0 (by omega) hN t3
  have e : (qh * 2 + ql / 9223372036854775808) % 18446744073709551616 * 18446744073709551616 + ql * 2 % 18446744073709551616 = 2 * (qh * 18446744073709551616 + ql) := by clear t3 t2 t1 hN c; omega
  refine ⟨⟨T, t1, t2, ?_⟩, by omega, by omega, by omega, by omega, by omega, by omega⟩
  rw [e, pno_sum]; exact t3

end Go.Proofs.FixM
