/- By One a product, and a quotient, is the number itself, by -One its other side, by 0 a product is 0: the law's call returns true. -/
import Derived.Test.YtlnbphmeinjefaaFixW
namespace Go.Proofs.Ytlnbphmeinjefaa
open Go.RowKit Go.Proofs.FixM

namespace Signs
theorem m1 {a : Int} (h : I64 a) : mulV a 4294967296 = (a, 0) := by
  unfold I64 at h
  unfold mulV
  rw [Int.mul_ediv_cancel _ (by omega)]; exact put_in (by omega) (by omega)
theorem d1 {a : Int} (h : I64 a) : divV a 4294967296 = (a, 0) := by
  unfold I64 at h
  unfold divV
  rw [if_neg (by omega), Int.mul_fdiv_cancel _ (by omega)]; exact put_in (by omega) (by omega)
theorem m2 (a : Int) : mulV a (-4294967296) = subV 0 a := by
  unfold mulV subV
  rw [show a * -4294967296 = (-a) * 4294967296 by omega, Int.mul_ediv_cancel _ (by omega), Int.zero_sub]
theorem d2 (a : Int) : divV a (-4294967296) = subV 0 a := by
  unfold divV subV
  rw [if_neg (by omega), show a * 4294967296 = (-a) * (-4294967296) by omega, Int.mul_fdiv_cancel _ (by omega), Int.zero_sub]
theorem m0 (a : Int) : mulV a 0 = (0, 0) := by
  unfold mulV
  rw [Int.mul_zero]; exact put_in (by omega) (by omega)
theorem d0 {a : Int} (h : a ≠ 0) : divV 0 a = (0, 0) := by
  unfold divV
  rw [if_neg h, Int.zero_mul, Int.zero_fdiv]; exact put_in (by omega) (by omega)
theorem d00 : divV 0 0 = (0, 11) := by decide +kernel
end Signs

set_option maxHeartbeats 1000000 in
theorem signs_walk (a : Int) (ha : I64 a) (w : World) : Calls Try.prog 6 #[.int .i64 a] w fun e w' => e = .returned (.bool true) ∧ Gr w w' := by
  have one : I64 4294967296 := by unfold I64; omega
  have mone : I64 (-4294967296) := by unfold I64; omega
  have zero : I64 0 := by unfold I64; omega
  have H1 := fun w' => mul_any a 4294967296 ha one w'
  have H2 := fun w' => div_any a 4294967296 ha one w'
  have H3 := fun w' => mul_any a (-4294967296) ha mone w'
  have H4 := fun w' => neg_any a ha w'
  have H5 := fun w' => mul_any a 0 ha zero w'
  have H6 := fun w' => div_any 0 a zero ha w'
  have H7 := fun w' => div_any a (-4294967296) ha mone w'
  rw [Signs.m1 ha] at H1
  rw [Signs.d1 ha] at H2
  rw [Signs.m2] at H3
  rw [Signs.m0] at H5
  rw [Signs.d2] at H7
  generalize subV 0 a = s at *
  have G1 := Lib.hid H1
  have G2 := Lib.hid H2
  have G3 := Lib.hid H3
  have G4 := Lib.hid H4
  have G5 := Lib.hid H5
  have G7 := Lib.hid H7
  clear H1 H2 H3 H4 H5 H7 one mone zero
  by_cases c : a = 0
  · have e1 : (a == 0) = true := by simp [c]
    have e2 : (a != 0) = false := by simp [c]
    rw [show divV 0 a = (0, 11) by rw [c]; exact Signs.d00] at H6
    have G6 := Lib.hid H6
    clear H6 c ha
    go_enter Try.func6, Try.ntmps6
    go_wp2_with fail
    refine (awake_any _).mono ?_; rintro e w0 ⟨rfl, h0⟩
    go_wp2_with fail
    refine (G1.out _).mono ?_; rintro e w1 ⟨rfl, h1⟩
    go_wp2_with fail
    refine (G2.out _).mono ?_; rintro e w2 ⟨rfl, h2⟩
    go_wp2_with fail
    refine (G3.out _).mono ?_; rintro e w3 ⟨rfl, h3⟩
    go_wp2_with fail
    refine (G4.out _).mono ?_; rintro e w4 ⟨rfl, rfl⟩
    go_wp2_with fail
    refine (G5.out _).mono ?_; rintro e w5 ⟨rfl, h5⟩
    go_wp2_with fail
    refine (G6.out _).mono ?_; rintro e w6 ⟨rfl, h6⟩
    go_wp2_with fail
    refine (G7.out _).mono ?_; rintro e w7 ⟨rfl, h7⟩
    go_wp2
    all_goals go_ret
    all_goals first
      | exact ⟨rfl, h0.trans (h1.trans (h2.trans (h3.trans (h5.trans (h6.trans h7)))))⟩
      | (exfalso; rename_i u v; clear v; simp at u; done)
      | (go_goals; trace_state; fail)
  · have e1 : (a == 0) = false := by simp [c]
    have e2 : (a != 0) = true := by simp [c]
    rw [Signs.d0 c] at H6
    have G6 := Lib.hid H6
    clear H6 c ha
    go_enter Try.func6, Try.ntmps6
    go_wp2_with fail
    refine (awake_any _).mono ?_; rintro e w0 ⟨rfl, h0⟩
    go_wp2_with fail
    refine (G1.out _).mono ?_; rintro e w1 ⟨rfl, h1⟩
    go_wp2_with fail
    refine (G2.out _).mono ?_; rintro e w2 ⟨rfl, h2⟩
    go_wp2_with fail
    refine (G3.out _).mono ?_; rintro e w3 ⟨rfl, h3⟩
    go_wp2_with fail
    refine (G4.out _).mono ?_; rintro e w4 ⟨rfl, rfl⟩
    go_wp2_with fail
    refine (G5.out _).mono ?_; rintro e w5 ⟨rfl, h5⟩
    go_wp2_with fail
    refine (G6.out _).mono ?_; rintro e w6 ⟨rfl, h6⟩
    go_wp2_with fail
    refine (G7.out _).mono ?_; rintro e w7 ⟨rfl, h7⟩
    go_wp2
    all_goals go_ret
    all_goals first
      | exact ⟨rfl, h0.trans (h1.trans (h2.trans (h3.trans (h5.trans (h6.trans h7)))))⟩
      | (exfalso; rename_i u v; clear v; simp at u; done)
      | (go_goals; trace_state; fail)
end Go.Proofs.Ytlnbphmeinjefaa
