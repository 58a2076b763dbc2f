/- Plain arithmetic under layer 1 (fix): what the document says each call answers, and the steps of the ways by which the code reckons it. No program stands here. -/
namespace Go.Proofs.FixM

/-! ### What is answered -/

/-- Whether an int may be that. -/
def inR (n : Int) : Bool := decide (-9223372036854775808 ≤ n ∧ n ≤ 9223372036854775807)
/-- The number, or ErrOver. -/
def put (n : Int) : Int × Int := if inR n = true then (n, 0) else (0, 10)
def addV (a b : Int) : Int × Int := put (a + b)
def subV (a b : Int) : Int × Int := put (a - b)
def mulV (a b : Int) : Int × Int := put (a * b / 4294967296)
def divV (a b : Int) : Int × Int := if b = 0 then (0, 11) else put (Int.fdiv (a * 4294967296) b)
/-- n above 0, times 2 to the power of k, floored. -/
def scaleV (n k : Int) : Int × Int := if k < 0 then (n / ((2 ^ (-k).toNat : Nat) : Int), 0) else put (n * ((2 ^ k.toNat : Nat) : Int))
def powV (a : Int) : Int × Int := scaleV (4294967296 + a % 4294967296) (a / 4294967296)
def slopeV (a : Int) : Int × Int := scaleV 4294967296 (a / 4294967296)
/-- r is the greatest number whose square is not above n. -/
def IsRoot (n r : Nat) : Prop := r * r ≤ n ∧ n < (r + 1) * (r + 1)

theorem put_in {n : Int} (h1 : -9223372036854775808 ≤ n) (h2 : n ≤ 9223372036854775807) : put n = (n, 0) := by
  unfold put inR; rw [if_pos (by simp; omega)]
theorem put_out {n : Int} (h : n < -9223372036854775808 ∨ 9223372036854775807 < n) : put n = (0, 10) := by
  unfold put inR; rw [if_neg (by simp; omega)]
theorem put_cases (n : Int) : (-9223372036854775808 ≤ n ∧ n ≤ 9223372036854775807 ∧ put n = (n, 0)) ∨ ((n < -9223372036854775808 ∨ 9223372036854775807 < n) ∧ put n = (0, 10)) := by
  by_cases h : -9223372036854775808 ≤ n ∧ n ≤ 9223372036854775807
  · exact .inl ⟨h.1, h.2, put_in h.1 h.2⟩
  · exact .inr ⟨by omega, put_out (by omega)⟩

theorem IsRoot.unique {n r s : Nat} (h : IsRoot n r) (k : IsRoot n s) : r = s := by
  obtain ⟨h1, h2⟩ := h
  obtain ⟨k1, k2⟩ := k
  rcases Nat.lt_trichotomy r s with c | c | c
  · have := Nat.mul_le_mul (show r + 1 ≤ s from c) (show r + 1 ≤ s from c); omega
  · exact c
  · have := Nat.mul_le_mul (show s + 1 ≤ r from c) (show s + 1 ≤ r from c); omega

theorem IsRoot.mono {m n r s : Nat} (hmn : m ≤ n) (h : IsRoot m r) (k : IsRoot n s) : r ≤ s := by
  obtain ⟨h1, h2⟩ := h
  obtain ⟨k1, k2⟩ := k
  rcases Nat.lt_or_ge s r with c | c
  · have := Nat.mul_le_mul (show s + 1 ≤ r from c) (show s + 1 ≤ r from c); omega
  · exact c

/-! ### A root, bit by bit -/

/-- n and b: n is so many 2 b, so n ||| b is n + b. -/
theorem or_add {n k : Nat} (h : n % 2 ^ (k + 1) = 0) : n ||| 2 ^ k = n + 2 ^ k := by
  obtain ⟨q, rfl⟩ : ∃ q, n = 2 ^ (k + 1) * q := ⟨n / 2 ^ (k + 1), by have := Nat.div_add_mod n (2 ^ (k + 1)); omega⟩
  have := Nat.two_pow_add_eq_or_of_lt (i := k + 1) (b := 2 ^ k) (Nat.pow_lt_pow_right (by omega) (by omega)) q
  omega

theorem mod_half {n k : Nat} (h : n % 2 ^ (k + 1) = 0) : n % 2 ^ k = 0 := by
  have e : 2 ^ (k + 1) = 2 ^ k * 2 := Nat.pow_succ ..
  rw [e] at h
  exact Nat.mod_eq_zero_of_dvd (Nat.dvd_trans (Nat.dvd_mul_right _ _) (Nat.dvd_of_mod_eq_zero h))
theorem mod_add_half {n k : Nat} (h : n % 2 ^ (k + 1) = 0) : (n + 2 ^ k) % 2 ^ k = 0 := by
  rw [Nat.add_mod_right]; exact mod_half h

/-- The greatest number whose square is not above W, among n and the k bits below: bit by bit. -/
def rootB (W : Nat) : Nat → Nat → Nat
  | 0, n => n
  | k + 1, n => rootB W k (if W < (n + 2 ^ k) * (n + 2 ^ k) then n else n + 2 ^ k)
def sqR (W : Nat) : Nat := rootB W 48 0
structure RInv (W k n : Nat) : Prop where
  mod : n % 2 ^ k = 0
  lt : n + 2 ^ k ≤ 281474976710656
  eq : rootB W k n = sqR W

theorem rinit (W : Nat) : RInv W 48 0 := ⟨by omega, by omega, rfl⟩
theorem rno {W k n : Nat} (i : RInv W (k + 1) n) (h : W < (n + 2 ^ k) * (n + 2 ^ k)) : RInv W k n := by
  obtain ⟨a, b, c⟩ := i
  have e : 2 ^ (k + 1) = 2 ^ k * 2 := Nat.pow_succ ..
  refine ⟨mod_half a, by omega, ?_⟩
  rw [← c, rootB, if_pos h]
theorem ryes {W k n : Nat} (i : RInv W (k + 1) n) (h : ¬ W < (n + 2 ^ k) * (n + 2 ^ k)) : RInv W k (n + 2 ^ k) := by
  obtain ⟨a, b, c⟩ := i
  have e : 2 ^ (k + 1) = 2 ^ k * 2 := Nat.pow_succ ..
  refine ⟨mod_add_half a, by omega, ?_⟩
  rw [← c, rootB, if_neg h]

theorem rootB_is (W : Nat) : ∀ k n : Nat, n * n ≤ W → W < (n + 2 ^ k) * (n + 2 ^ k) → IsRoot W (rootB W k n)
  | 0, n, h1, h2 => ⟨h1, h2⟩
  | k + 1, n, h1, h2 => by
    have e : 2 ^ (k + 1) = 2 ^ k + 2 ^ k := by rw [Nat.pow_succ]; omega
    rw [rootB]
    by_cases h : W < (n + 2 ^ k) * (n + 2 ^ k)
    · rw [if_pos h]; exact rootB_is W k n h1 h
    · rw [if_neg h]; exact rootB_is W k (n + 2 ^ k) (by omega) (by rw [Nat.add_assoc, ← e]; exact h2)
theorem sqR_is {W : Nat} (h : W < 79228162514264337593543950336) : IsRoot W (sqR W) := rootB_is W 48 0 (by omega) (by omega)
theorem sqR_lt {W : Nat} (h : W < 79228162514264337593543950336) : sqR W < 281474976710656 := by
  obtain ⟨h1, _⟩ := sqR_is h
  rcases Nat.lt_or_ge (sqR W) 281474976710656 with c | c
  · exact c
  · have := Nat.mul_le_mul c c; omega
def sqrtV (a : Int) : Int × Int := if a < 0 then (0, 12) else ((sqR (a.natAbs * 4294967296) : Nat), 0)

/-! ### Signs and sizes -/

theorem natAbs_cast (a : Int) : ((a.natAbs : Nat) : Int) = if a < 0 then -a else a := by split <;> omega

/-- A product divided by One, floored, off the sizes. -/
theorem mul_floor (a b : Int) : a * b = if (decide (a < 0) != decide (b < 0)) = true then -((a.natAbs * b.natAbs : Nat) : Int) else ((a.natAbs * b.natAbs : Nat) : Int) := by
  rw [Int.natCast_mul]
  by_cases ha : a < 0 <;> by_cases hb : b < 0 <;> simp only [ha, hb, decide_true, decide_false] <;> simp only [natAbs_cast, ha, hb, if_true, if_false] <;> simp [Int.neg_mul, Int.mul_neg]

theorem neg_ediv_ceil (n d : Nat) (hd : 0 < d) : -(n : Int) / (d : Int) = -(((n + (d - 1)) / d : Nat) : Int) := by
  have h1 := Nat.div_add_mod (n + (d - 1)) d
  have h2 := Nat.mod_lt (n + (d - 1)) hd
  have h3 := Int.mul_ediv_add_emod (-(n : Int)) (d : Int)
  have h4 := Int.emod_nonneg (-(n : Int)) (b := (d : Int)) (by omega)
  have h5 := Int.emod_lt_of_pos (-(n : Int)) (b := (d : Int)) (by omega)
  generalize hq : (n + (d - 1)) / d = q at *
  generalize hr : (n + (d - 1)) % d = r at *
  generalize hp : -(n : Int) / (d : Int) = p at *
  generalize hs : -(n : Int) % (d : Int) = s at *
  have h6 : (d : Int) * (q : Int) + (r : Int) = (n : Int) + ((d : Int) - 1) := by
    have : ((d * q + r : Nat) : Int) = ((n + (d - 1) : Nat) : Int) := by rw [h1]
    rw [Int.natCast_add, Int.natCast_mul] at this
    omega
  have h7 : (d : Int) * (p + (q : Int)) = (d : Int) - 1 - r - s := by rw [Int.mul_add]; omega
  have h8 : p + (q : Int) = 0 := by
    rcases Int.lt_trichotomy (p + (q : Int)) 0 with c | c | c
    · have := Int.mul_le_mul_of_nonneg_left (show p + (q : Int) ≤ -1 by omega) (show (0 : Int) ≤ (d : Int) by omega)
      omega
    · exact c
    · have := Int.mul_le_mul_of_nonneg_left (show 1 ≤ p + (q : Int) by omega) (show (0 : Int) ≤ (d : Int) by omega)
      omega
  omega

end Go.Proofs.FixM
