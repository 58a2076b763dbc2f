/- The root of a square, of a number that is not below One, is the number, or one part less, and of a number that is not below 0 no more: the law's call returns true. -/
import Derived.Test.YtlnbphmeinjefaaFixRootsW
namespace Go.Proofs.Ytlnbphmeinjefaa
open Go.RowKit Go.Proofs.FixM

namespace Squares
theorem le_of_sq {x y : Int} (hy : 0 ≤ y) (h : x * x ≤ y * y) : x ≤ y := by
  rcases Int.lt_or_le y x with c | c
  · have := Int.mul_le_mul (show y + 1 ≤ x by omega) (show y + 1 ≤ x by omega) (by omega) (by omega)
    have e : (y + 1) * (y + 1) = y * y + 2 * y + 1 := by rw [Int.add_mul, Int.mul_add, Int.mul_one, Int.one_mul]; omega
    omega
  · exact c
theorem near {a p r : Int} (a0 : 0 ≤ a) (r0 : 0 ≤ r) (hp : p * 4294967296 ≤ a * a) (hp2 : a * a < (p + 1) * 4294967296) (h1 : r * r ≤ p * 4294967296) (h2 : p * 4294967296 < (r + 1) * (r + 1)) :
    r ≤ a ∧ (a < 4294967296 ∨ a - 1 ≤ r) := by
  refine ⟨le_of_sq a0 (by omega), ?_⟩
  by_cases c : a < 4294967296
  · exact .inl c
  · right
    have e : (a - 1) * (a - 1) = a * a - 2 * a + 1 := by rw [Int.sub_mul, Int.mul_sub, Int.mul_one, Int.one_mul]; omega
    have := Roots.sq_lt (show 0 ≤ a - 1 by omega) (show 0 ≤ r + 1 by omega) (by omega)
    omega
end Squares

set_option maxHeartbeats 1000000 in
theorem squares_no (n m : Int) (w : World) (n0 : 0 ≤ n) (n1 : n ≤ 4294967295) (m0 : 30000 < m) (m1 : m ≤ 65535) :
    Calls Try.prog 9 #[.int .u32 n, .int .u16 m] w fun e w' => e = .returned (.bool true) ∧ Gr w w' := by
  go_enter Try.func9, Try.ntmps9
  go_wp2_with fail
  refine (awake_any _).mono ?_; rintro e w0 ⟨rfl, h0⟩
  go_wp2
  go_ret
  exact ⟨rfl, h0⟩

set_option maxHeartbeats 1000000 in
theorem squares_with (n m p r : Int) (w : World) (n0 : 0 ≤ n) (n1 : n ≤ 4294967295) (m0 : 0 ≤ m) (m1 : m ≤ 30000) (r0 : 0 ≤ r) (r1 : r ≤ n + m * 4294967296) (r2 : n + m * 4294967296 < 4294967296 ∨ (4294967296 ≤ n + m * 4294967296 ∧ n + m * 4294967296 - 1 ≤ r))
    (G1 : Hid (∀ w', Calls Try.prog 15 #[.int .i64 (n + m * 4294967296), .int .i64 (n + m * 4294967296)] w' (Two (p, 0) w')))
    (G2 : Hid (∀ w', Calls Try.prog 21 #[.int .i64 p] w' (Two (r, 0) w'))) :
    Calls Try.prog 9 #[.int .u32 n, .int .u16 m] w fun e w' => e = .returned (.bool true) ∧ Gr w w' := by
  rcases r2 with r2 | ⟨r2, r3⟩
  all_goals
    go_enter Try.func9, Try.ntmps9
    go_wp2_with fail
    refine (awake_any _).mono ?_; rintro e w0 ⟨rfl, h0⟩
    go_wp2_with fail
    refine (G1.out _).mono ?_; rintro e w1 ⟨rfl, h1⟩
    go_wp2_with fail
    refine (G2.out _).mono ?_; rintro e w2 ⟨rfl, h2⟩
    go_wp2
    all_goals go_ret
    all_goals first
      | exact ⟨rfl, h0.trans (h1.trans h2)⟩
      | (exfalso; rename_i u v; clear v; simp at u; done)

theorem squares_walk (n m : Int) (n0 : 0 ≤ n ∧ n ≤ 4294967295) (m0 : 0 ≤ m ∧ m ≤ 65535) (w : World) : Calls Try.prog 9 #[.int .u32 n, .int .u16 m] w fun e w' => e = .returned (.bool true) ∧ Gr w w' := by
  by_cases c : 30000 < m
  · exact squares_no n m w n0.1 n0.2 c m0.2
  · obtain ⟨a, ha⟩ : ∃ a, a = n + m * 4294967296 := ⟨_, rfl⟩
    obtain ⟨p, hp⟩ : ∃ p, p = a * a / 4294967296 := ⟨_, rfl⟩
    have a0 : 0 ≤ a := by omega
    have a1 : a ≤ 128853313945599 := by omega
    have aa0 : 0 ≤ a * a := Int.mul_nonneg a0 a0
    have aa1 := Int.mul_le_mul a1 a1 a0 (by omega)
    have p0 : 0 ≤ p := by omega
    have p1 : p ≤ 9223372036854775807 := by omega
    obtain ⟨r, er, r0, r1, r2, r3⟩ := Roots.is p0 p1
    obtain ⟨s1, s2⟩ := Squares.near a0 r0 (show p * 4294967296 ≤ a * a by omega) (by omega) r1 r2
    have em : mulV a a = (p, 0) := by
      unfold mulV
      rw [← hp]; exact put_in (by omega) (by omega)
    have ia : I64 a := by unfold I64; omega
    have ip : I64 p := by unfold I64; omega
    have G1 := fun w' => mul_any a a ia ia w'
    have G2 := fun w' => sqrt_any p ip w'
    rw [em] at G1
    rw [er] at G2
    rw [ha] at G1 s1 s2
    exact squares_with n m p r w n0.1 n0.2 m0.1 (by omega) r0 s1 (by omega) G1 G2
end Go.Proofs.Ytlnbphmeinjefaa
