/- What the document's own answers (fullerref01) are: products of two words, divisions bit by bit, signs. -/
import Derived.Test.YtlnbphmeinjefaaFixH
import Derived.Test.YtlnbphmeinjefaaFixParts
namespace Go.Proofs.Ytlnbphmeinjefaa
open Go.RowKit Go.Proofs.FixM

namespace FixR
theorem modc (a : Nat) : (a : Int) % 4294967296 = ((a % 4294967296 : Nat) : Int) := by omega
theorem val_int {k : IntKind} {a b : Int} (h : a = b) : Value.int k a = Value.int k b := by rw [h]
theorem tdivc (a : Nat) : (a : Int).tdiv 4294967296 = ((a / 4294967296 : Nat) : Int) := by rw [Int.tdiv_eq_ediv_of_nonneg (by omega)]; omega
theorem tmodc (a : Nat) : (a : Int).tmod 4294967296 = ((a % 4294967296 : Nat) : Int) := by rw [Int.tmod_eq_emod_of_nonneg (by omega)]; omega
theorem mulo (a : Nat) : (a : Int) * 4294967296 = ((a * 4294967296 : Nat) : Int) := by omega
theorem hi_math {p q r s : Nat} : p + q / 4294967296 + r / 4294967296 + (s / 4294967296 + q % 4294967296 + r % 4294967296) / 4294967296 = (p * (4294967296 * 4294967296) + (q + r) * 4294967296 + s) / 18446744073709551616 := by omega
theorem lo_math {p q r s : Nat} : (s / 4294967296 + q % 4294967296 + r % 4294967296) % 4294967296 * 4294967296 + s % 4294967296 = (p * (4294967296 * 4294967296) + (q + r) * 4294967296 + s) % 18446744073709551616 := by omega
theorem m10 (x : Nat) : x % 4294967296 * 4294967296 < 18446744073709551616 := by omega
theorem m11 (x y : Nat) : x % 4294967296 * 4294967296 + y % 4294967296 < 18446744073709551616 := by omega
theorem wide_math (a b : Nat) (ha : a < 18446744073709551616) (hb : b < 18446744073709551616) :
    a % 4294967296 * (b % 4294967296) < 18446744073709551616 ∧ a / 4294967296 * (b % 4294967296) < 18446744073709551616 ∧ a % 4294967296 * (b / 4294967296) < 18446744073709551616 ∧ a / 4294967296 * (b / 4294967296) < 18446744073709551616 ∧
    a % 4294967296 * (b % 4294967296) / 4294967296 + a / 4294967296 * (b % 4294967296) % 4294967296 < 18446744073709551616 ∧
    a % 4294967296 * (b % 4294967296) / 4294967296 + a / 4294967296 * (b % 4294967296) % 4294967296 + a % 4294967296 * (b / 4294967296) % 4294967296 < 18446744073709551616 ∧
    a / 4294967296 * (b / 4294967296) + a / 4294967296 * (b % 4294967296) / 4294967296 < 18446744073709551616 ∧
    a / 4294967296 * (b / 4294967296) + a / 4294967296 * (b % 4294967296) / 4294967296 + a % 4294967296 * (b / 4294967296) / 4294967296 < 18446744073709551616 ∧
    a / 4294967296 * (b / 4294967296) + a / 4294967296 * (b % 4294967296) / 4294967296 + a % 4294967296 * (b / 4294967296) / 4294967296 + (a % 4294967296 * (b % 4294967296) / 4294967296 + a / 4294967296 * (b % 4294967296) % 4294967296 + a % 4294967296 * (b / 4294967296) % 4294967296) / 4294967296 < 18446744073709551616 ∧
    (a % 4294967296 * (b % 4294967296) / 4294967296 + a / 4294967296 * (b % 4294967296) % 4294967296 + a % 4294967296 * (b / 4294967296) % 4294967296) % 4294967296 * 4294967296 < 18446744073709551616 ∧
    (a % 4294967296 * (b % 4294967296) / 4294967296 + a / 4294967296 * (b % 4294967296) % 4294967296 + a % 4294967296 * (b / 4294967296) % 4294967296) % 4294967296 * 4294967296 + a % 4294967296 * (b % 4294967296) % 4294967296 < 18446744073709551616 ∧
    a / 4294967296 * (b / 4294967296) + a / 4294967296 * (b % 4294967296) / 4294967296 + a % 4294967296 * (b / 4294967296) / 4294967296 + (a % 4294967296 * (b % 4294967296) / 4294967296 + a / 4294967296 * (b % 4294967296) % 4294967296 + a % 4294967296 * (b / 4294967296) % 4294967296) / 4294967296 = a * b / 18446744073709551616 ∧
    (a % 4294967296 * (b % 4294967296) / 4294967296 + a / 4294967296 * (b % 4294967296) % 4294967296 + a % 4294967296 * (b / 4294967296) % 4294967296) % 4294967296 * 4294967296 + a % 4294967296 * (b % 4294967296) % 4294967296 = a * b % 18446744073709551616 := by
  have e : a * b = (a / 4294967296) * (b / 4294967296) * (4294967296 * 4294967296) + ((a / 4294967296) * (b % 4294967296) + (a % 4294967296) * (b / 4294967296)) * 4294967296 + (a % 4294967296) * (b % 4294967296) := by
    rw [← Lib.split_mul, Nat.div_add_mod' a 4294967296, Nat.div_add_mod' b 4294967296]
  have h1 := Lib.half_mul_le (a := a / 4294967296) (b := b / 4294967296) (by omega) (by omega)
  have h2 := Lib.half_mul_le (a := a / 4294967296) (b := b % 4294967296) (by omega) (by omega)
  have h3 := Lib.half_mul_le (a := a % 4294967296) (b := b / 4294967296) (by omega) (by omega)
  have h4 := Lib.half_mul_le (a := a % 4294967296) (b := b % 4294967296) (by omega) (by omega)
  have hab : a * b < 18446744073709551616 * 18446744073709551616 := Nat.mul_lt_mul_of_lt_of_le ha (Nat.le_of_lt hb) (by omega)
  rw [e] at hab ⊢
  generalize (a / 4294967296) * (b / 4294967296) = p at *
  generalize (a / 4294967296) * (b % 4294967296) = q at *
  generalize (a % 4294967296) * (b / 4294967296) = r at *
  generalize (a % 4294967296) * (b % 4294967296) = s at *
  refine ⟨by omega, by omega, by omega, by omega, by omega, by omega, by omega, by omega, by rw [hi_math]; omega, m10 _, m11 _ _, hi_math, lo_math⟩
end FixR

set_option maxHeartbeats 1000000 in
theorem rwide_any (a b : Nat) (ha : a < 18446744073709551616) (hb : b < 18446744073709551616) (w : World) :
    Calls Try.prog 30 #[.int .u64 a, .int .u64 b] w fun e w' => e = .returned (.tuple #[.int .u64 ((a * b / 18446744073709551616 : Nat) : Int), .int .u64 ((a * b % 18446744073709551616 : Nat) : Int)]) ∧ w = w' := by
  obtain ⟨m1, m2, m3, m4, m5, m6, m7, m8, m9, m10, m11, m12, m13⟩ := FixR.wide_math a b ha hb
  have d1 := Nat.lt_of_le_of_lt (Nat.div_le_self (a % 4294967296 * (b % 4294967296)) 4294967296) m1
  have d2 := Nat.lt_of_le_of_lt (Nat.div_le_self (a / 4294967296 * (b % 4294967296)) 4294967296) m2
  have d3 := Nat.lt_of_le_of_lt (Nat.div_le_self (a % 4294967296 * (b / 4294967296)) 4294967296) m3
  have d4 := Nat.lt_of_le_of_lt (Nat.div_le_self (a % 4294967296 * (b % 4294967296) / 4294967296 + a / 4294967296 * (b % 4294967296) % 4294967296 + a % 4294967296 * (b / 4294967296) % 4294967296) 4294967296) m6
  go_enter Try.func30, Try.ntmps30
  go_wp2
  go_ret2
  refine ⟨ret2_int ?_ ?_, rfl⟩
  · simp only [FixR.modc, FixR.tdivc, FixR.tmodc, FixB.divc, FixB.mulc, FixB.addc, FixB.wrapc _ m1, FixB.wrapc _ m2, FixB.wrapc _ m3, FixB.wrapc _ m4, FixB.wrapc _ d1, FixB.wrapc _ d2, FixB.wrapc _ d3, FixB.wrapc _ d4, FixB.wrapc _ m5, FixB.wrapc _ m6, FixB.wrapc _ m7, FixB.wrapc _ m8, m12]
    exact FixB.wrapc _ (by rw [← m12]; exact m9)
  · simp only [FixR.modc, FixR.tdivc, FixR.tmodc, FixR.mulo, FixB.divc, FixB.mulc, FixB.addc, FixB.wrapc _ m1, FixB.wrapc _ m2, FixB.wrapc _ m3, FixB.wrapc _ d1, FixB.wrapc _ m5, FixB.wrapc _ m6, FixB.wrapc _ m10, m13]
    exact FixB.wrapc _ (by rw [← m13]; exact m11)

/-- A number of two words with its sign, of which something is left, or not: floored. -/
def signV (below rest : Bool) (n : Nat) : Int × Int := if below = true then put (-((n + (if rest = true then 1 else 0) : Nat) : Int)) else put ((n : Nat) : Int)

namespace FixR
theorem pos_big {h l : Nat} (c : 0 < (h : Int) ∨ 9223372036854775807 < (l : Int)) : put ((h * 18446744073709551616 + l : Nat) : Int) = (0, 10) := put_out (by omega)
theorem pos_fit {h l : Nat} (c1 : ¬ 0 < (h : Int)) (c2 : ¬ 9223372036854775807 < (l : Int)) : put ((h * 18446744073709551616 + l : Nat) : Int) = ((l : Int), 0) := by
  rw [show h * 18446744073709551616 + l = l by omega]; exact put_in (by omega) (by omega)
theorem sign_no (rest : Bool) (n : Nat) : signV false rest n = put ((n : Nat) : Int) := by unfold signV; rw [if_neg (by decide)]
theorem sign_rest (n : Nat) : signV true true n = put (-((n + 1 : Nat) : Int)) := by unfold signV; rw [if_pos rfl, if_pos rfl]
theorem sign_whole (n : Nat) : signV true false n = put (-((n : Nat) : Int)) := by unfold signV; rw [if_pos rfl, if_neg (by decide), Nat.add_zero]
end FixR

set_option maxHeartbeats 400000 in
theorem rsigned_no (high low : Nat) (rest : Bool) (w : World) :
    Calls Try.prog 32 #[.int .u64 high, .int .u64 low, .bool rest, .bool false] w (Two (put ((high * 18446744073709551616 + low : Nat) : Int)) w) := by
  by_cases c1 : 0 < (high : Int)
  · rw [FixR.pos_big (.inl c1)]
    go_enter Try.func32, Try.ntmps32
    go_wp2
    go_ret2
    exact ⟨rfl, Gr.refl _⟩
  · have c1' : (high : Int) ≤ 0 := by omega
    by_cases c2 : 9223372036854775807 < (low : Int)
    · rw [FixR.pos_big (.inr c2)]
      go_enter Try.func32, Try.ntmps32
      go_wp2
      go_ret2
      exact ⟨rfl, Gr.refl _⟩
    · rw [FixR.pos_fit c1 c2]
      have c2' : (low : Int) ≤ 9223372036854775807 := by omega
      clear c1 c2
      go_enter Try.func32, Try.ntmps32
      go_wp2
      go_ret2
      exact ⟨ret2_int (by go_arith) rfl, Gr.refl _⟩

namespace FixR
theorem neg_big {h l : Nat} (c : 0 < (h : Int) ∨ 9223372036854775808 < (l : Int)) : put (-((h * 18446744073709551616 + l : Nat) : Int)) = (0, 10) := put_out (by omega)
theorem neg_fit {h l : Nat} (c1 : ¬ 0 < (h : Int)) (c2 : ¬ 9223372036854775808 < (l : Int)) : put (-((h * 18446744073709551616 + l : Nat) : Int)) = (-(l : Int), 0) := by
  rw [show h * 18446744073709551616 + l = l by omega]; exact put_in (by omega) (by omega)
end FixR

set_option maxHeartbeats 400000 in
theorem rsigned_whole (high low : Nat) (w : World) :
    Calls Try.prog 32 #[.int .u64 high, .int .u64 low, .bool false, .bool true] w (Two (put (-((high * 18446744073709551616 + low : Nat) : Int))) w) := by
  by_cases c1 : 0 < (high : Int)
  · rw [FixR.neg_big (.inl c1)]
    go_enter Try.func32, Try.ntmps32
    go_wp2
    go_ret2
    exact ⟨rfl, Gr.refl _⟩
  · have c1' : (high : Int) ≤ 0 := by omega
    by_cases c2 : 9223372036854775808 < (low : Int)
    · rw [FixR.neg_big (.inr c2)]
      go_enter Try.func32, Try.ntmps32
      go_wp2
      go_ret2
      exact ⟨rfl, Gr.refl _⟩
    · rw [FixR.neg_fit c1 c2]
      by_cases c3 : (low : Int) = 0
      · have : low = 0 := by omega
        subst this
        clear c2 c3
        go_enter Try.func32, Try.ntmps32
        go_wp2
        go_ret2
        exact ⟨ret2_int (by simp) rfl, Gr.refl _⟩
      · have c3' : ((low : Int) == 0) = false := by rw [beq_eq_false_iff_ne]; exact c3
        have c4 : 0 < (low : Int) := by omega
        have c2' : (low : Int) ≤ 9223372036854775808 := by omega
        clear c3 c2 c1
        go_enter Try.func32, Try.ntmps32
        go_wp2
        go_ret2
        exact ⟨ret2_int (by go_arith) rfl, Gr.refl _⟩
end Go.Proofs.Ytlnbphmeinjefaa
