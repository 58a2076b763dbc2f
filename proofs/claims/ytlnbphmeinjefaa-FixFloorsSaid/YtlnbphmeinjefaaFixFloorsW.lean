/- A quotient, times what was divided by, is not above what was divided, and with one part more it is, and so of products: the law's call returns true. -/
import Derived.Test.YtlnbphmeinjefaaFixW
namespace Go.Proofs.Ytlnbphmeinjefaa
open Go.RowKit Go.Proofs.FixM

namespace Floors
theorem fl {x d q : Int} (hd : 0 < d) (h : q = x / d) : q * d ≤ x ∧ x < (q + 1) * d := by
  have e := Int.mul_ediv_add_emod x d
  have l := Int.emod_lt_of_pos x hd
  have g := Int.emod_nonneg x (b := d) (by omega)
  rw [← h] at e
  have c : q * d = d * q := Int.mul_comm _ _
  have s : (q + 1) * d = q * d + d := by rw [Int.add_mul, Int.one_mul]
  omega
end Floors

set_option maxHeartbeats 1000000 in
theorem floors_with (a b c q p : Int) (w : World) (a0 : 0 ≤ a) (a1 : a ≤ 65535) (b0 : 0 ≤ b) (b1 : b ≤ 4294967295) (c0 : 0 ≤ c) (c1 : c ≤ 4294967295)
    (q0 : 0 ≤ q) (q1 : q ≤ 281474976710656) (p0 : 0 ≤ p) (p1 : p ≤ 281474976710656)
    (f0 : 0 ≤ q * (b + 1)) (f1 : q * (b + 1) ≤ a * 4294967296) (f2 : a * 4294967296 < (q + 1) * (b + 1)) (f3 : (q + 1) * (b + 1) ≤ 562949953421312)
    (g0 : 0 ≤ b * (c % 65536)) (g1 : b * (c % 65536) ≤ 281474976710656) (g2 : p * 4294967296 ≤ b * (c % 65536)) (g3 : b * (c % 65536) < (p + 1) * 4294967296)
    (G1 : Hid (∀ w', Calls Try.prog 17 #[.int .i64 a, .int .i64 (b + 1)] w' (Two (q, 0) w')))
    (G2 : Hid (∀ w', Calls Try.prog 15 #[.int .i64 b, .int .i64 (c % 65536)] w' (Two (p, 0) w'))) :
    Calls Try.prog 5 #[.int .u16 a, .int .u32 b, .int .u32 c] w fun e w' => e = .returned (.bool true) ∧ Gr w w' := by
  go_enter Try.func5, Try.ntmps5
  go_wp2_with fail
  refine (awake_any _).mono ?_; rintro e w0 ⟨rfl, h0⟩
  go_wp2_with fail
  refine (G1.out _).mono ?_; rintro e w1 ⟨rfl, h1⟩
  go_wp2_with fail
  refine (G2.out _).mono ?_; rintro e w2 ⟨rfl, h2⟩
  go_wp2
  all_goals go_ret
  all_goals exact ⟨rfl, h0.trans (h1.trans h2)⟩

theorem floors_walk (a b c : Int) (a0 : 0 ≤ a ∧ a ≤ 65535) (b0 : 0 ≤ b ∧ b ≤ 4294967295) (c0 : 0 ≤ c ∧ c ≤ 4294967295) (w : World) : Calls Try.prog 5 #[.int .u16 a, .int .u32 b, .int .u32 c] w fun e w' => e = .returned (.bool true) ∧ Gr w w' := by
  obtain ⟨q, hq⟩ : ∃ q, q = a * 4294967296 / (b + 1) := ⟨_, rfl⟩
  obtain ⟨p, hp⟩ : ∃ p, p = b * (c % 65536) / 4294967296 := ⟨_, rfl⟩
  obtain ⟨f1, f2⟩ := Floors.fl (by omega) hq
  obtain ⟨g1, g2⟩ := Floors.fl (by omega) hp
  have q0 : 0 ≤ q := by rw [hq]; exact Int.ediv_nonneg (by omega) (by omega)
  have p0 : 0 ≤ p := by rw [hp]; exact Int.ediv_nonneg (Int.mul_nonneg (by omega) (by omega)) (by omega)
  have s : (q + 1) * (b + 1) = q * (b + 1) + (b + 1) := by rw [Int.add_mul, Int.one_mul]
  have f0 : q ≤ q * (b + 1) := by have := Int.mul_nonneg q0 b0.1; rw [Int.mul_add, Int.mul_one]; omega
  have bc0 : 0 ≤ b * (c % 65536) := Int.mul_nonneg (by omega) (by omega)
  have bc1 : b * (c % 65536) ≤ 4294967295 * 65535 := Int.mul_le_mul b0.2 (by omega) (by omega) (by omega)
  have ed : divV a (b + 1) = (q, 0) := by
    unfold divV
    rw [if_neg (by omega), Int.fdiv_eq_ediv_of_nonneg _ (by omega), ← hq]; exact put_in (by omega) (by omega)
  have em : mulV b (c % 65536) = (p, 0) := by
    unfold mulV
    rw [← hp]; exact put_in (by omega) (by omega)
  refine floors_with a b c q p w a0.1 a0.2 b0.1 b0.2 c0.1 c0.2 q0 (by omega) p0 (by omega) (by omega) f1 f2 (by omega) bc0 (by omega) g1 g2 (fun w' => ?_) (fun w' => ?_)
  · rw [← ed]; exact div_any a (b + 1) (by unfold I64; omega) (by unfold I64; omega) w'
  · rw [← em]; exact mul_any b (c % 65536) (by unfold I64; omega) (by unfold I64; omega) w'
end Go.Proofs.Ytlnbphmeinjefaa
