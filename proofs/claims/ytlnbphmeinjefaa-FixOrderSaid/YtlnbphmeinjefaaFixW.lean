/- The calls whose answers the document fixes are as it says (awake). -/
import Derived.Test.YtlnbphmeinjefaaFixH
namespace Go.Proofs.Ytlnbphmeinjefaa
open Go.RowKit Go.Proofs.FixM

namespace FixW
theorem v1 : mulV (-1) 1 = (-1, 0) := by decide +kernel
theorem v2 : divV 4294967296 8589934592 = (2147483648, 0) := by decide +kernel
theorem v3 : powV 6442450944 = (12884901888, 0) := by decide +kernel
theorem v4 : sqrtV 17179869184 = (8589934592, 0) := by decide +kernel
theorem v5 : addV 4611686018427387904 4611686018427387904 = (0, 10) := by decide +kernel
theorem v6 : divV 1 0 = (0, 11) := by decide +kernel
theorem v7 : sqrtV (-1) = (0, 12) := by decide +kernel
end FixW

set_option maxHeartbeats 1000000 in
theorem awake_any (w : World) : Calls Try.prog 10 #[] w fun e w' => e = .returned (.bool true) ∧ Gr w w' := by
  have H1 := fun w' => mul_any (-1) 1 (by unfold I64; omega) (by unfold I64; omega) w'
  have H2 := fun w' => div_any 4294967296 8589934592 (by unfold I64; omega) (by unfold I64; omega) w'
  have H3 := fun w' => pow_any 6442450944 (by unfold I64; omega) w'
  have H4 := fun w' => sqrt_any 17179869184 (by unfold I64; omega) w'
  have H5 := fun w' => add_any 4611686018427387904 4611686018427387904 (by unfold I64; omega) (by unfold I64; omega) w'
  have H6 := fun w' => div_any 1 0 (by unfold I64; omega) (by unfold I64; omega) w'
  have H7 := fun w' => sqrt_any (-1) (by unfold I64; omega) w'
  rw [FixW.v1] at H1
  rw [FixW.v2] at H2
  rw [FixW.v3] at H3
  rw [FixW.v4] at H4
  rw [FixW.v5] at H5
  rw [FixW.v6] at H6
  rw [FixW.v7] at H7
  have G1 := Lib.hid H1
  have G2 := Lib.hid H2
  have G3 := Lib.hid H3
  have G4 := Lib.hid H4
  have G5 := Lib.hid H5
  have G6 := Lib.hid H6
  have G7 := Lib.hid H7
  clear H1 H2 H3 H4 H5 H6 H7
  go_enter Try.func10, Try.ntmps10
  go_wp2_with fail
  refine (G1.out _).mono ?_; rintro e w1 ⟨rfl, h1⟩
  go_wp2_with fail
  refine (G2.out _).mono ?_; rintro e w2 ⟨rfl, h2⟩
  go_wp2_with fail
  refine (G3.out _).mono ?_; rintro e w3 ⟨rfl, h3⟩
  go_wp2_with fail
  refine (G4.out _).mono ?_; rintro e w4 ⟨rfl, h4⟩
  go_wp2_with fail
  refine (G5.out _).mono ?_; rintro e w5 ⟨rfl, rfl⟩
  go_wp2_with fail
  refine (G6.out _).mono ?_; rintro e w6 ⟨rfl, h6⟩
  go_wp2_with fail
  refine (G7.out _).mono ?_; rintro e w7 ⟨rfl, h7⟩
  go_wp2
  go_ret
  exact ⟨rfl, h1.trans (h2.trans (h3.trans (h4.trans (h6.trans h7))))⟩
end Go.Proofs.Ytlnbphmeinjefaa
