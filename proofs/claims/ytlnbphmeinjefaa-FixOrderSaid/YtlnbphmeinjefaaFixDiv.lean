/- Plain arithmetic under Div64: two words divided by one, by halves: a guess of the half is too great by two at most, and is lowered. No program stands here. -/
namespace Go.Proofs.FixM

/-- What is divided: U and a half u1 behind it, by n1 and n0 (two halves, the highest bit set). -/
structure KEnv (U u1 n1 n0 : Nat) : Prop where
  lt : U < n1 * 4294967296 + n0
  hu : u1 < 4294967296
  h0 : n0 < 4294967296
  hl : 2147483648 ≤ n1
  hh : n1 < 4294967296
/-- q is not too small, and r is what it leaves of U. -/
structure KInv (U u1 n1 n0 q r : Nat) : Prop where
  sum : q * n1 + r = U
  up : U * 4294967296 + u1 < (q + 1) * (n1 * 4294967296 + n0)
  rb : r < 4294967296
  qb : q ≤ 4294967297
/-- q is the quotient. -/
structure KDone (U u1 n1 n0 q : Nat) : Prop where
  lo : q * (n1 * 4294967296 + n0) ≤ U * 4294967296 + u1
  up : U * 4294967296 + u1 < (q + 1) * (n1 * 4294967296 + n0)

theorem kmul (q n1 n0 : Nat) : q * (n1 * 4294967296 + n0) = q * n1 * 4294967296 + q * n0 := by
  rw [Nat.mul_add, Nat.mul_assoc]

theorem kinit {U u1 n1 n0 : Nat} (e : KEnv U u1 n1 n0) : KInv U u1 n1 n0 (U / n1) (U % n1) := by
  obtain ⟨a, b, c, d, f⟩ := e
  have h1 := Nat.div_add_mod' U n1
  have h2 := Nat.mod_lt U (show 0 < n1 by omega)
  have h3 : U / n1 ≤ 4294967297 := by
    have : U / n1 < 4294967298 := by
      rw [Nat.div_lt_iff_lt_mul (by omega)]
      omega
    omega
  generalize hq : U / n1 = q at *
  generalize hr : U % n1 = r at *
  refine ⟨h1, ?_, by omega, h3⟩
  rw [kmul]
  have h4 : (q + 1) * n1 = q * n1 + n1 := by rw [Nat.add_mul]; omega
  have h5 : 0 ≤ (q + 1) * n0 := Nat.zero_le _
  generalize (q + 1) * n0 = z at *
  rw [h4]
  omega

theorem kstop {U u1 n1 n0 q r : Nat} (i : KInv U u1 n1 n0 q r) (h : q * n0 ≤ 4294967296 * r + u1) : KDone U u1 n1 n0 q := by
  obtain ⟨a, b, c, d⟩ := i
  refine ⟨?_, b⟩
  rw [kmul]
  omega

theorem kpos {u1 n0 q r : Nat} (h : 4294967296 ≤ q ∨ 4294967296 * r + u1 < q * n0) : 0 < q := by
  rcases Nat.eq_zero_or_pos q with rfl | c
  · rcases h with h | h
    · omega
    · rw [Nat.zero_mul] at h; omega
  · exact c

theorem klow {U u1 n1 n0 q r : Nat} (e : KEnv U u1 n1 n0) (i : KInv U u1 n1 n0 q r) (h : 4294967296 ≤ q ∨ 4294967296 * r + u1 < q * n0) :
    U * 4294967296 + u1 < q * (n1 * 4294967296 + n0) := by
  obtain ⟨a, b, c, d⟩ := i
  obtain ⟨e1, e2, e3, e4, e5⟩ := e
  rcases h with h | h
  · have := Nat.mul_le_mul_right (n1 * 4294967296 + n0) h
    omega
  · rw [kmul]; omega

theorem kmore {U u1 n1 n0 q r : Nat} (e : KEnv U u1 n1 n0) (i : KInv U u1 n1 n0 q r) (h : 4294967296 ≤ q ∨ 4294967296 * r + u1 < q * n0) (hr : r + n1 < 4294967296) :
    KInv U u1 n1 n0 (q - 1) (r + n1) := by
  have l := klow e i h
  have p := kpos h
  obtain ⟨k, rfl⟩ : ∃ k, q = k + 1 := ⟨q - 1, by omega⟩
  obtain ⟨a, b, c, d⟩ := i
  have h4 : (k + 1) * n1 = k * n1 + n1 := by rw [Nat.add_mul]; omega
  simp only [Nat.add_sub_cancel]
  exact ⟨by omega, l, hr, by omega⟩

theorem kbreak {U u1 n1 n0 q r : Nat} (e : KEnv U u1 n1 n0) (i : KInv U u1 n1 n0 q r) (h : 4294967296 ≤ q ∨ 4294967296 * r + u1 < q * n0) (hr : 4294967296 ≤ r + n1) :
    KDone U u1 n1 n0 (q - 1) := by
  have l := klow e i h
  have p := kpos h
  obtain ⟨k, rfl⟩ : ∃ k, q = k + 1 := ⟨q - 1, by omega⟩
  obtain ⟨a, b, c, d⟩ := i
  obtain ⟨e1, e2, e3, e4, e5⟩ := e
  have h4 : (k + 1) * n1 = k * n1 + n1 := by rw [Nat.add_mul]; omega
  have h5 : k * n0 ≤ 4294967296 * 4294967295 := Nat.mul_le_mul (by omega) (by omega)
  simp only [Nat.add_sub_cancel]
  refine ⟨?_, l⟩
  rw [kmul]
  omega

/-- The bounds that a round asks for. -/
theorem kbounds {U u1 n1 n0 q r : Nat} (e : KEnv U u1 n1 n0) (i : KInv U u1 n1 n0 q r) : q * n0 ≤ 4294967297 * 4294967295 ∧ q ≤ 4294967297 ∧ r < 4294967296 ∧ n0 < 4294967296 ∧ n1 < 4294967296 ∧ u1 < 4294967296 := by
  obtain ⟨a, b, c, d⟩ := i
  obtain ⟨e1, e2, e3, e4, e5⟩ := e
  have := Nat.mul_le_mul d (show n0 ≤ 4294967295 by omega)
  exact ⟨this, d, c, e3, e5, e2⟩

/-- What is left behind the first half. -/
theorem knext {U u1 u0 n1 n0 q : Nat} (e : KEnv U u1 n1 n0) (d : KDone U u1 n1 n0 q) (h0 : u0 < 4294967296) : KEnv (U * 4294967296 + u1 - q * (n1 * 4294967296 + n0)) u0 n1 n0 := by
  obtain ⟨a, b⟩ := d
  obtain ⟨e1, e2, e3, e4, e5⟩ := e
  have : (q + 1) * (n1 * 4294967296 + n0) = q * (n1 * 4294967296 + n0) + (n1 * 4294967296 + n0) := by rw [Nat.add_mul]; omega
  exact ⟨by omega, h0, e3, e4, e5⟩

theorem kquot {U u1 u0 n1 n0 q p : Nat} (e : KEnv U u1 n1 n0) (d : KDone U u1 n1 n0 q) (h0 : u0 < 4294967296) (d' : KDone (U * 4294967296 + u1 - q * (n1 * 4294967296 + n0)) u0 n1 n0 p) :
    q * 4294967296 + p = (U * 18446744073709551616 + (u1 * 4294967296 + u0)) / (n1 * 4294967296 + n0) ∧ q < 4294967296 ∧ p < 4294967296 := by
  have e' := knext e d h0
  obtain ⟨a, b⟩ := d
  obtain ⟨a', b'⟩ := d'
  obtain ⟨e1, e2, e3, e4, e5⟩ := e
  obtain ⟨f1, _, _, _, _⟩ := e'
  obtain ⟨Y, hY⟩ : ∃ Y, Y = n1 * 4294967296 + n0 := ⟨_, rfl⟩
  rw [← hY] at a b a' b' f1 e1 ⊢
  have g1 : (q + 1) * Y = q * Y + Y := by rw [Nat.add_mul]; omega
  have g2 : (p + 1) * Y = p * Y + Y := by rw [Nat.add_mul]; omega
  have g3 : (q * 4294967296 + p) * Y = q * Y * 4294967296 + p * Y := by rw [Nat.add_mul]; congr 1; rw [Nat.mul_assoc, Nat.mul_comm 4294967296 Y, ← Nat.mul_assoc]
  refine ⟨?_, ?_, ?_⟩
  · symm
    rw [Nat.div_eq_iff (by omega)]
    rw [g3]
    generalize q * Y = x at *
    generalize p * Y = z at *
    omega
  · rcases Nat.lt_or_ge q 4294967296 with c | c
    · exact c
    · have := Nat.mul_le_mul_right Y c
      omega
  · rcases Nat.lt_or_ge p 4294967296 with c | c
    · exact c
    · have := Nat.mul_le_mul_right Y c
      omega

/-! ### The shift -/

/-- Both shifted by s: the high word, the low word, and the quotient that stays. -/
theorem shift_words {hi lo y s : Nat} (h1 : hi < y) (h3 : lo < 18446744073709551616) (hs : s ≤ 63) (hy : y * 2 ^ s < 18446744073709551616) :
    hi * 2 ^ s < 18446744073709551616 ∧ hi * 2 ^ s % 2 ^ s = 0 ∧ lo / 2 ^ (64 - s) < 2 ^ s ∧
    (hi * 2 ^ s + lo / 2 ^ (64 - s)) * 18446744073709551616 + lo * 2 ^ s % 18446744073709551616 = (hi * 18446744073709551616 + lo) * 2 ^ s ∧
    hi * 2 ^ s + lo / 2 ^ (64 - s) < y * 2 ^ s ∧
    (hi * 18446744073709551616 + lo) * 2 ^ s / (y * 2 ^ s) = (hi * 18446744073709551616 + lo) / y := by
  have hp : 0 < 2 ^ s := Nat.two_pow_pos s
  have hle : 2 ^ (64 - s) * 2 ^ s = 18446744073709551616 := by rw [← Nat.pow_add, show 64 - s + s = 64 by omega]
  have hlt : hi * 2 ^ s < y * 2 ^ s := Nat.mul_lt_mul_of_pos_right h1 hp
  have hlo : lo / 2 ^ (64 - s) < 2 ^ s := by
    rw [Nat.div_lt_iff_lt_mul (Nat.two_pow_pos _), Nat.mul_comm, hle]; exact h3
  have hl2 : lo * 2 ^ s / 18446744073709551616 = lo / 2 ^ (64 - s) := by
    rw [← hle]; exact Nat.mul_div_mul_right _ _ hp
  have hl3 := Nat.div_add_mod (lo * 2 ^ s) 18446744073709551616
  rw [hl2] at hl3
  refine ⟨by omega, Nat.mul_mod_left _ _, hlo, ?_, ?_, Nat.mul_div_mul_right _ _ hp⟩
  · rw [Nat.add_mul (hi * 18446744073709551616)]
    have : hi * 18446744073709551616 * 2 ^ s = hi * 2 ^ s * 18446744073709551616 := by rw [Nat.mul_assoc, Nat.mul_comm 18446744073709551616, ← Nat.mul_assoc]
    rw [this]
    generalize lo * 2 ^ s % 18446744073709551616 = m at *
    generalize lo / 2 ^ (64 - s) = z at *
    generalize lo * 2 ^ s = b at *
    generalize hi * 2 ^ s = a at *
    omega
  · have h4 : (hi + 1) * 2 ^ s ≤ y * 2 ^ s := Nat.mul_le_mul_right _ h1
    have h5 : (hi + 1) * 2 ^ s = hi * 2 ^ s + 2 ^ s := by rw [Nat.add_mul]; omega
    omega

/-- The highest bit of what was shifted is set. -/
theorem shift_top {y L : Nat} (h1 : 1 ≤ L) (h2 : 2 ^ (L - 1) ≤ y) (h3 : y < 2 ^ L) (h4 : L ≤ 64) : 9223372036854775808 ≤ y * 2 ^ (64 - L) ∧ y * 2 ^ (64 - L) < 18446744073709551616 := by
  have e1 : 2 ^ (L - 1) * 2 ^ (64 - L) = 9223372036854775808 := by rw [← Nat.pow_add, show L - 1 + (64 - L) = 63 by omega]
  have e2 : 2 ^ L * 2 ^ (64 - L) = 18446744073709551616 := by rw [← Nat.pow_add, show L + (64 - L) = 64 by omega]
  have a := Nat.mul_le_mul_right (2 ^ (64 - L)) h2
  have b := Nat.mul_lt_mul_of_pos_right h3 (Nat.two_pow_pos (64 - L))
  omega

end Go.Proofs.FixM
