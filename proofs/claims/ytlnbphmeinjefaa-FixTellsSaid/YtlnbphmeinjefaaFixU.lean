/- The document's own products and quotients are what the program's are. -/
import Derived.Test.YtlnbphmeinjefaaFixS
namespace Go.Proofs.Ytlnbphmeinjefaa
open Go.RowKit Go.Proofs.FixM

namespace FixU
theorem parts_of (n : Nat) : n / 4294967296 / 18446744073709551616 = n / 18446744073709551616 / 4294967296 ∧ n / 4294967296 % 18446744073709551616 = n / 18446744073709551616 % 4294967296 * 4294967296 + n % 18446744073709551616 / 4294967296 ∧ n % 4294967296 = n % 18446744073709551616 % 4294967296 := by
  refine ⟨by omega, by omega, by omega⟩
theorem zero_any (below : Bool) : tellV below 0 4294967296 = tellV false 0 4294967296 := by
  cases below
  · rfl
  · unfold tellV; rw [if_pos rfl, if_neg (by decide)]; decide
end FixU

set_option maxHeartbeats 1000000 in
theorem rmul_any (a b : Int) (ha : I64 a) (hb : I64 b) (w : World) :
    Calls Try.prog 16 #[.int .i64 a, .int .i64 b] w (Two (mulV a b) w) := by
  have la := abs_lt ha
  have lb := abs_lt hb
  have lm := abs_mul la lb
  have Ht := fun w' => rwide_any a.natAbs b.natAbs (by omega) (by omega) w'
  have SA := fun w' => rsize_any a ha w'
  have SB := fun w' => rsize_any b hb w'
  rw [← FixF.tell_mul]
  have HS := fun below w' => rsigned_any (a.natAbs * b.natAbs) 4294967296 below (by omega) (by omega) w'
  obtain ⟨q1, q2, q3⟩ := FixU.parts_of (a.natAbs * b.natAbs)
  rw [q1, q2, q3] at HS
  have hz : (a = 0 ∨ b = 0) → a.natAbs * b.natAbs = 0 := by rintro (rfl | rfl) <;> simp
  generalize a.natAbs * b.natAbs = n at *
  generalize a.natAbs = xa at *
  generalize b.natAbs = xb at *
  obtain ⟨hi, hhi⟩ : ∃ hi, hi = n / 18446744073709551616 := ⟨_, rfl⟩
  obtain ⟨lo, hlo⟩ : ∃ lo, lo = n % 18446744073709551616 := ⟨_, rfl⟩
  rw [← hhi, ← hlo] at HS Ht
  have b1 : (hi : Int) < 18446744073709551616 := by omega
  have b2 : (lo : Int) < 18446744073709551616 := by omega
  obtain ⟨x, hx⟩ : ∃ x, x = hi / 4294967296 := ⟨_, rfl⟩
  obtain ⟨y, hy⟩ : ∃ y, y = hi % 4294967296 * 4294967296 + lo / 4294967296 := ⟨_, rfl⟩
  obtain ⟨z, hz2⟩ : ∃ z, z = lo % 4294967296 := ⟨_, rfl⟩
  rw [← hx, ← hy, ← hz2] at HS
  have E1 : (hi : Int) / 4294967296 = (x : Int) := by omega
  have E2 : (hi : Int) % 4294967296 * 4294967296 + (lo : Int) / 4294967296 = (y : Int) := by omega
  have E3 : (lo : Int) % 4294967296 = (z : Int) := by omega
  have HZ := Lib.hid hz
  have H := Lib.hid (And.intro Ht HS)
  have HA := Lib.hid SA
  have HB := Lib.hid SB
  clear Ht HS SA SB ha hb hz la lb lm q1 q2 q3 hx hy hz2 hhi hlo
  have fin : tellV (decide (a < 0) != decide (b < 0)) n 4294967296 = tellV ((decide (a < 0) != decide (b < 0)) && ((a != 0) && (b != 0))) n 4294967296 := by
    by_cases z0 : a = 0 ∨ b = 0
    · rw [HZ.out z0, FixU.zero_any, FixU.zero_any (_ && _)]
    · rw [show (a != 0) = true by rw [bne_iff_ne]; omega, show (b != 0) = true by rw [bne_iff_ne]; omega, Bool.and_self, Bool.and_true]
  rw [fin]
  clear fin HZ
  obtain ⟨pa, d1⟩ : ∃ pa, decide (a < 0) = pa := ⟨_, rfl⟩
  obtain ⟨pb, d2⟩ : ∃ pb, decide (b < 0) = pb := ⟨_, rfl⟩
  obtain ⟨za, d3⟩ : ∃ za, (a != 0) = za := ⟨_, rfl⟩
  obtain ⟨zb, d4⟩ : ∃ zb, (b != 0) = zb := ⟨_, rfl⟩
  rw [d1, d2, d3, d4]
  cases pa <;> cases pb <;> cases za <;> cases zb
  all_goals
    go_enter Try.func16, Try.ntmps16
    go_wp2_with first
      | (go_at_call 31; ((with_reducible refine (HA.out _).mono ?_); rintro e w1 ⟨rfl, rfl⟩))
      | (go_at_call 31; ((with_reducible refine (HB.out _).mono ?_); rintro e w1 ⟨rfl, rfl⟩))
      | (go_at_call 30; refine (H.out.1 _).mono ?_; rintro e w1 ⟨rfl, rfl⟩)
      | (go_at_call 32; refine (H.out.2 _ _).mono ?_; rintro e w1 ⟨rfl, hg⟩)
    go_ret2
    exact ⟨rfl, hg⟩
end Go.Proofs.Ytlnbphmeinjefaa
