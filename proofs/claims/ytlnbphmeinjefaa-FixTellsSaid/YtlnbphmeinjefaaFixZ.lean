/- The document's own powers and slopes are what the program's are. -/
import Derived.Test.YtlnbphmeinjefaaFixY
namespace Go.Proofs.Ytlnbphmeinjefaa
open Go.RowKit Go.Proofs.FixM

namespace FixZ
theorem pow_int (j : Nat) : ((2 ^ j : Nat) : Int) = 2 ^ j := by rw [Int.natCast_pow]; rfl
theorem up {n x : Int} {j : Nat} (e : x = n * ((2 ^ j : Nat) : Int)) : x * 2 = n * ((2 ^ (j + 1) : Nat) : Int) := by
  rw [e, Nat.pow_succ, Int.natCast_mul, Int.mul_assoc]; rfl
theorem down {n x : Int} {j : Nat} (e : x = n / ((2 ^ j : Nat) : Int)) : x / 2 = n / ((2 ^ (j + 1) : Nat) : Int) := by
  rw [e, Nat.pow_succ, Int.natCast_mul, Int.ediv_ediv_of_nonneg (Int.natCast_nonneg _)]; rfl
/-- What is doubled once more is too great: so is what was asked. -/
theorem over {n x k : Int} {j : Nat} (hn : 0 < n) (e : x = n * ((2 ^ j : Nat) : Int)) (hx : 4611686018427387903 < x) (hj : (j : Int) < k) : scaleV n k = (0, 10) := by
  rw [FixH.scale_hi (by omega)]
  have h1 : 2 ^ (j + 1) ≤ 2 ^ k.toNat := Nat.pow_le_pow_right (by omega) (by omega)
  have h2 : n * ((2 ^ (j + 1) : Nat) : Int) ≤ n * ((2 ^ k.toNat : Nat) : Int) := Int.mul_le_mul_of_nonneg_left (by omega) (by omega)
  rw [← up e] at h2
  exact put_out (.inr (by omega))
theorem done {n x k : Int} {j : Nat} (e : x = n * ((2 ^ j : Nat) : Int)) (h0 : 0 < x) (h1 : x ≤ 9223372036854775807) (hj : (j : Int) = k) : scaleV n k = (x, 0) := by
  rw [FixH.scale_hi (by omega), show k.toNat = j by omega, ← e]
  exact put_in (by omega) h1
theorem no64 {n x : Int} {j : Nat} (hn : 0 < n) (e : x = n * ((2 ^ j : Nat) : Int)) (h1 : x ≤ 9223372036854775807) (hj : j = 64) : False := by
  subst hj
  have : (1 : Int) * ((2 ^ 64 : Nat) : Int) ≤ n * ((2 ^ 64 : Nat) : Int) := Int.mul_le_mul_of_nonneg_right (by omega) (by omega)
  rw [← e] at this
  omega
theorem low {n x k : Int} {j : Nat} (hk : k < 0) (hn : 0 < n) (hn2 : n < 8589934592) (e : x = n / ((2 ^ j : Nat) : Int)) (h : (j : Int) = -k ∨ (j = 64 ∧ (64 : Int) ≤ -k)) : scaleV n k = (x, 0) := by
  rw [FixH.scale_lo hk, e]
  rcases h with h | ⟨h, h'⟩
  · rw [show (-k).toNat = j by omega]
  · have a := FixH.shr_min hn hn2 (-k).toNat
    have b := FixH.shr_min hn hn2 64
    rw [Nat.min_eq_right (by omega)] at a b
    rw [h, ← a, ← b]
end FixZ

set_option maxHeartbeats 1000000 in
theorem shifted_up (n k : Int) (h1 : 0 < n) (h2 : n < 8589934592) (h3 : 0 ≤ k) (w : World) :
    Calls Try.prog 38 #[.int .i64 n, .int .i64 k] w (Two (scaleV n k) w) := by
  generalize hp : scaleV n k = p
  have HP := Lib.hid hp; clear hp
  go_enter Try.func38, Try.ntmps38
  go_wp2
  go_loop [0, 6] (fun a c => ∃ j : Nat, ∃ x : Int, a = .int .i64 x ∧ c = .int .i64 j ∧ Hid (x = n * ((2 ^ j : Nat) : Int)) ∧ 0 < x ∧ Hid (x ≤ 9223372036854775807) ∧ (j : Int) ≤ k ∧ j ≤ 64) (fun _ c => (64 - intOf c).toNat)
  case atStart => exact ⟨0, n, rfl, rfl, Lib.hid (by simp), h1, Lib.hid (by omega), by omega, by omega⟩
  case round =>
    rename_i hw; clear hw
    obtain ⟨j, x, rfl, rfl, hx, x0, x1, jk, j64⟩ := hrel
    by_cases c1 : (j : Int) < k
    · by_cases c2 : (j : Int) < 64
      · by_cases c3 : 4611686018427387903 < x
        · have e := (FixZ.over h1 hx.out c3 c1).symm.trans HP.out
          subst e
          clear HP
          go_wp2
          go_ret2
          exact ⟨rfl, Gr.refl _⟩
        · have c3' : x ≤ 4611686018427387903 := by omega
          have hx2 := Lib.hid (FixZ.up hx.out)
          go_wp2
          go_round
          case rel => exact ⟨j + 1, x * 2, rfl, by go_num, hx2, by omega, Lib.hid (by omega), by omega, by omega⟩
          case measure => simp [intOf]; omega
      · exact (FixZ.no64 h1 hx.out x1.out (by omega)).elim
    · have e := (FixZ.done hx.out x0 x1.out (show (j : Int) = k by omega)).symm.trans HP.out
      subst e
      clear HP
      have dd : decide ((j : Int) < k) = false := decide_eq_false c1
      go_wp2
      go_rounds 1
      all_goals go_ret2
      all_goals exact ⟨rfl, Gr.refl _⟩

set_option maxHeartbeats 1000000 in
theorem shifted_down (n k : Int) (h1 : 0 < n) (h2 : n < 8589934592) (h3 : -2147483648 ≤ k) (h4 : k < 0) (w : World) :
    Calls Try.prog 38 #[.int .i64 n, .int .i64 k] w (Two (scaleV n k) w) := by
  generalize hp : scaleV n k = p
  have HP := Lib.hid hp; clear hp
  have dk : decide ((0 : Int) < k) = false := decide_eq_false (by omega)
  go_enter Try.func38, Try.ntmps38
  go_wp2
  go_rounds 1
  go_loop [0, 7] (fun a c => ∃ j : Nat, ∃ x : Int, a = .int .i64 x ∧ c = .int .i64 (-(j : Int)) ∧ Hid (x = n / ((2 ^ j : Nat) : Int)) ∧ 0 ≤ x ∧ x ≤ 8589934592 ∧ (j : Int) ≤ -k ∧ j ≤ 64) (fun _ c => (64 + intOf c).toNat)
  case atStart => exact ⟨0, n, rfl, rfl, Lib.hid (by simp), by omega, by omega, by omega, by omega⟩
  case round =>
    rename_i hw; clear hw
    obtain ⟨j, x, rfl, rfl, hx, x0, x1, jk, j64⟩ := hrel
    by_cases c1 : k < -(j : Int) ∧ -64 < -(j : Int)
    · obtain ⟨c1, c2⟩ := c1
      have hx2 := Lib.hid (FixZ.down hx.out)
      go_wp2
      go_round
      case rel => exact ⟨j + 1, x / 2, rfl, by go_num, hx2, by omega, by omega, by omega, by omega⟩
      case measure => simp [intOf]; omega
    · have e := (FixZ.low h4 h1 h2 hx.out (by omega)).symm.trans HP.out
      subst e
      clear HP
      by_cases c2 : k < -(j : Int)
      · have c3 : ¬ -64 < -(j : Int) := by omega
        clear c1
        go_wp2
        all_goals go_ret2
        all_goals exact ⟨rfl, Gr.refl _⟩
      · clear c1
        go_wp2
        all_goals go_ret2
        all_goals exact ⟨rfl, Gr.refl _⟩

theorem shifted_any (n k : Int) (h1 : 0 < n) (h2 : n < 8589934592) (h3 : -2147483648 ≤ k) (w : World) :
    Calls Try.prog 38 #[.int .i64 n, .int .i64 k] w (Two (scaleV n k) w) := by
  by_cases c : 0 ≤ k
  · exact shifted_up n k h1 h2 c w
  · exact shifted_down n k h1 h2 h3 (by omega) w

set_option maxHeartbeats 400000 in
theorem rpow_any (a : Int) (ha : I64 a) (w : World) :
    Calls Try.prog 24 #[.int .i64 a] w (Two (powV a) w) := by
  have Hs := fun w' => floor_any a ha w'
  unfold I64 at ha
  have Hc := fun w' => shifted_any (4294967296 + a % 4294967296) (a / 4294967296) (by omega) (by omega) (by omega) w'
  change ∀ w', Calls Try.prog 38 #[.int .i64 (4294967296 + a % 4294967296), .int .i64 (a / 4294967296)] w' (Two (powV a) w') at Hc
  generalize powV a = p at *
  have b1 : 0 ≤ a % 4294967296 := by omega
  have b2 : a % 4294967296 < 4294967296 := by omega
  generalize a % 4294967296 = f at *
  generalize a / 4294967296 = k at *
  have H := Lib.hid (And.intro Hs Hc); clear Hs Hc
  go_enter Try.func24, Try.ntmps24
  go_wp2_with first
    | (go_at_call 37; refine (H.out.1 _).mono ?_; rintro e w1 ⟨rfl, rfl⟩)
    | (go_at_call 38; refine (H.out.2 _).mono ?_; rintro e w1 ⟨rfl, hg⟩)
  go_ret2
  exact ⟨rfl, hg⟩

set_option maxHeartbeats 400000 in
theorem rslope_any (a : Int) (ha : I64 a) (w : World) :
    Calls Try.prog 26 #[.int .i64 a] w (Two (slopeV a) w) := by
  have Hs := fun w' => floor_any a ha w'
  unfold I64 at ha
  have Hc := fun w' => shifted_any 4294967296 (a / 4294967296) (by omega) (by omega) (by omega) w'
  change ∀ w', Calls Try.prog 38 #[.int .i64 4294967296, .int .i64 (a / 4294967296)] w' (Two (slopeV a) w') at Hc
  generalize slopeV a = p at *
  generalize a % 4294967296 = f at *
  generalize a / 4294967296 = k at *
  have H := Lib.hid (And.intro Hs Hc); clear Hs Hc
  go_enter Try.func26, Try.ntmps26
  go_wp2_with first
    | (go_at_call 37; refine (H.out.1 _).mono ?_; rintro e w1 ⟨rfl, rfl⟩)
    | (go_at_call 38; refine (H.out.2 _).mono ?_; rintro e w1 ⟨rfl, hg⟩)
  go_ret2
  exact ⟨rfl, hg⟩
end Go.Proofs.Ytlnbphmeinjefaa
