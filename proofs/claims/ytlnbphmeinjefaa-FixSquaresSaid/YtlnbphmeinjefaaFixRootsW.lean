/- A root's square is not above the number, times One, one part more makes it so, and a greater number has no lesser root; the root of a square is the number, or one part less: the laws' calls return true. -/
import Derived.Test.YtlnbphmeinjefaaFixW
namespace Go.Proofs.Ytlnbphmeinjefaa
open Go.RowKit Go.Proofs.FixM

namespace Roots
theorem val {a : Int} (h0 : ¬ a < 0) : sqrtV a = (((sqR (a.natAbs * 4294967296) : Nat) : Int), (0 : Int)) := if_neg h0
/-- What a root is, of a number that is no more than 2^62. -/
theorem is {a : Int} (h0 : 0 ≤ a) (h1 : a ≤ 9223372036854775807) : ∃ r : Int, sqrtV a = (r, 0) ∧ 0 ≤ r ∧ r * r ≤ a * 4294967296 ∧ a * 4294967296 < (r + 1) * (r + 1) ∧ r < 281474976710656 := by
  obtain ⟨n, rfl⟩ := Int.eq_ofNat_of_zero_le h0
  have v := val (a := (n : Int)) (by omega)
  rw [Int.natAbs_natCast] at v
  obtain ⟨i1, i2⟩ := sqR_is (W := n * 4294967296) (by omega)
  have i3 := sqR_lt (W := n * 4294967296) (by omega)
  generalize sqR (n * 4294967296) = r at *
  refine ⟨(r : Int), v, by omega, ?_, ?_, by omega⟩
  · rw [← Int.natCast_mul]; omega
  · rw [show (r : Int) + 1 = ((r + 1 : Nat) : Int) by omega, ← Int.natCast_mul]; omega
theorem sq_lt {x y : Int} (hx : 0 ≤ x) (hy : 0 ≤ y) (h : x * x < y * y) : x < y := by
  rcases Int.lt_or_le x y with c | c
  · exact c
  · have := Int.mul_le_mul c c hy hx; omega
end Roots

set_option maxHeartbeats 1000000 in
theorem roots_lt (a b x y : Int) (w : World) (a0 : 0 ≤ a) (a1 : a ≤ 4294967295) (b0 : 0 ≤ b) (b1 : b ≤ 4294967295) (hc : b < a)
    (x0 : 0 ≤ x) (x1 : x < 4294967296) (xy : x ≤ y)
    (f0 : 0 ≤ x * x) (f1 : x * x ≤ b * 4294967296) (f2 : b * 4294967296 < (x + 1) * (x + 1)) (f3 : (x + 1 = 4294967296) ∨ (¬ x + 1 = 4294967296 ∧ (x + 1) * (x + 1) ≤ 18446744065119617025))
    (G1 : Hid (∀ w', Calls Try.prog 21 #[.int .i64 b] w' (Two (x, 0) w')))
    (G2 : Hid (∀ w', Calls Try.prog 21 #[.int .i64 a] w' (Two (y, 0) w'))) :
    Calls Try.prog 7 #[.int .u32 a, .int .u32 b] w fun e w' => e = .returned (.bool true) ∧ Gr w w' := by
  rcases f3 with f3 | ⟨f3, f4⟩
  case' inl => have e1 : (x + 1 == 4294967296) = true := by rw [beq_iff_eq]; exact f3
               clear f3 f2
  case' inr => have e1 : (x + 1 == 4294967296) = false := by rw [beq_eq_false_iff_ne]; exact f3
               have f5 : 0 ≤ (x + 1) * (x + 1) := by omega
               clear f3
  all_goals
    go_enter Try.func7, Try.ntmps7
    go_wp2_with fail
    refine (awake_any _).mono ?_; rintro e w0 ⟨rfl, h0⟩
    go_wp2_with fail
    refine (G1.out _).mono ?_; rintro e w1 ⟨rfl, h1⟩
    go_wp2_with fail
    refine (G2.out _).mono ?_; rintro e w2 ⟨rfl, h2⟩
    go_wp2
    all_goals go_ret
    all_goals first
      | exact ⟨rfl, h0.trans (h1.trans h2)⟩
      | (exfalso; rename_i u v; clear v; simp at u; done)

set_option maxHeartbeats 1000000 in
theorem roots_ge (a b x y : Int) (w : World) (a0 : 0 ≤ a) (a1 : a ≤ 4294967295) (b0 : 0 ≤ b) (b1 : b ≤ 4294967295) (hc : a < b)
    (x0 : 0 ≤ x) (x1 : x < 4294967296) (xy : x ≤ y)
    (f0 : 0 ≤ x * x) (f1 : x * x ≤ a * 4294967296) (f2 : a * 4294967296 < (x + 1) * (x + 1)) (f3 : (x + 1 = 4294967296) ∨ (¬ x + 1 = 4294967296 ∧ (x + 1) * (x + 1) ≤ 18446744065119617025))
    (G1 : Hid (∀ w', Calls Try.prog 21 #[.int .i64 a] w' (Two (x, 0) w')))
    (G2 : Hid (∀ w', Calls Try.prog 21 #[.int .i64 b] w' (Two (y, 0) w'))) :
    Calls Try.prog 7 #[.int .u32 a, .int .u32 b] w fun e w' => e = .returned (.bool true) ∧ Gr w w' := by
  rcases f3 with f3 | ⟨f3, f4⟩
  case' inl => have e1 : (x + 1 == 4294967296) = true := by rw [beq_iff_eq]; exact f3
               clear f3 f2
  case' inr => have e1 : (x + 1 == 4294967296) = false := by rw [beq_eq_false_iff_ne]; exact f3
               have f5 : 0 ≤ (x + 1) * (x + 1) := by omega
               clear f3
  all_goals
    go_enter Try.func7, Try.ntmps7
    go_wp2_with fail
    refine (awake_any _).mono ?_; rintro e w0 ⟨rfl, h0⟩
    go_wp2_with fail
    refine (G1.out _).mono ?_; rintro e w1 ⟨rfl, h1⟩
    go_wp2_with fail
    refine (G2.out _).mono ?_; rintro e w2 ⟨rfl, h2⟩
    go_wp2
    all_goals go_ret
    all_goals first
      | exact ⟨rfl, h0.trans (h1.trans h2)⟩
      | (exfalso; rename_i u v; clear v; simp at u; done)

set_option maxHeartbeats 1000000 in
theorem roots_eq (a x : Int) (w : World) (a0 : 0 ≤ a) (a1 : a ≤ 4294967295)
    (x0 : 0 ≤ x) (x1 : x < 4294967296)
    (f0 : 0 ≤ x * x) (f1 : x * x ≤ a * 4294967296) (f2 : a * 4294967296 < (x + 1) * (x + 1)) (f3 : (x + 1 = 4294967296) ∨ (¬ x + 1 = 4294967296 ∧ (x + 1) * (x + 1) ≤ 18446744065119617025))
    (G1 : Hid (∀ w', Calls Try.prog 21 #[.int .i64 a] w' (Two (x, 0) w')))
    (G2 : Hid (∀ w', Calls Try.prog 21 #[.int .i64 a] w' (Two (x, 0) w'))) :
    Calls Try.prog 7 #[.int .u32 a, .int .u32 a] w fun e w' => e = .returned (.bool true) ∧ Gr w w' := by
  rcases f3 with f3 | ⟨f3, f4⟩
  case' inl => have e1 : (x + 1 == 4294967296) = true := by rw [beq_iff_eq]; exact f3
               clear f3 f2
  case' inr => have e1 : (x + 1 == 4294967296) = false := by rw [beq_eq_false_iff_ne]; exact f3
               have f5 : 0 ≤ (x + 1) * (x + 1) := by omega
               clear f3
  all_goals
    go_enter Try.func7, Try.ntmps7
    go_wp2_with fail
    refine (awake_any _).mono ?_; rintro e w0 ⟨rfl, h0⟩
    go_wp2_with fail
    refine (G1.out _).mono ?_; rintro e w1 ⟨rfl, h1⟩
    go_wp2_with fail
    refine (G2.out _).mono ?_; rintro e w2 ⟨rfl, h2⟩
    go_wp2
    all_goals go_ret
    all_goals first
      | exact ⟨rfl, h0.trans (h1.trans h2)⟩
      | (exfalso; rename_i u v; clear v; simp at u; done)

namespace Roots
theorem mono {a b x y : Int} (h : a ≤ b) (x0 : 0 ≤ x) (y0 : 0 ≤ y) (hx : x * x ≤ a * 4294967296) (hy : b * 4294967296 < (y + 1) * (y + 1)) : x ≤ y := by
  have := sq_lt x0 (show 0 ≤ y + 1 by omega) (show x * x < (y + 1) * (y + 1) by omega)
  omega
theorem top {x : Int} (x0 : 0 ≤ x) (x1 : x < 4294967296) : (x + 1 = 4294967296) ∨ (¬ x + 1 = 4294967296 ∧ (x + 1) * (x + 1) ≤ 18446744065119617025) := by
  by_cases c : x + 1 = 4294967296
  · exact .inl c
  · have h := Int.mul_le_mul (show x + 1 ≤ 4294967295 by omega) (show x + 1 ≤ 4294967295 by omega) (by omega) (by omega)
    exact .inr ⟨c, by omega⟩
end Roots

theorem roots_walk (a b : Int) (a0 : 0 ≤ a ∧ a ≤ 4294967295) (b0 : 0 ≤ b ∧ b ≤ 4294967295) (w : World) : Calls Try.prog 7 #[.int .u32 a, .int .u32 b] w fun e w' => e = .returned (.bool true) ∧ Gr w w' := by
  obtain ⟨x, ex, x0, x1, x2, _⟩ := Roots.is a0.1 (by omega)
  obtain ⟨y, ey, y0, y1, y2, _⟩ := Roots.is b0.1 (by omega)
  have xl : x < 4294967296 := Roots.sq_lt x0 (by omega) (by omega)
  have yl : y < 4294967296 := Roots.sq_lt y0 (by omega) (by omega)
  have ga := fun w' => sqrt_any a (by unfold I64; omega) w'
  have gb := fun w' => sqrt_any b (by unfold I64; omega) w'
  rw [ex] at ga
  rw [ey] at gb
  by_cases c : b < a
  · exact roots_lt a b y x w a0.1 a0.2 b0.1 b0.2 c y0 yl (Roots.mono (show b ≤ a by omega) y0 x0 y1 x2) (Int.mul_nonneg y0 y0) y1 y2 (Roots.top y0 yl) gb ga
  · by_cases c' : a < b
    · exact roots_ge a b x y w a0.1 a0.2 b0.1 b0.2 c' x0 xl (Roots.mono (show a ≤ b by omega) x0 y0 x1 y2) (Int.mul_nonneg x0 x0) x1 x2 (Roots.top x0 xl) ga gb
    · obtain rfl : a = b := by omega
      exact roots_eq a x w a0.1 a0.2 x0 xl (Int.mul_nonneg x0 x0) x1 x2 (Roots.top x0 xl) ga ga
end Go.Proofs.Ytlnbphmeinjefaa
