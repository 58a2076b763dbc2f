/- What powers and slopes of layer 1 answer. -/
import Derived.Test.YtlnbphmeinjefaaFixG
import Derived.Laws.Shifts
namespace Go.Proofs.Ytlnbphmeinjefaa
open Go.RowKit Go.Proofs.FixM

namespace FixH
theorem scale_lo {n k : Int} (h : k < 0) : scaleV n k = (n / ((2 ^ (-k).toNat : Nat) : Int), 0) := if_pos h
theorem scale_hi {n k : Int} (h : ¬ k < 0) : scaleV n k = put (n * ((2 ^ k.toNat : Nat) : Int)) := if_neg h
theorem shr_min {n : Int} (h1 : 0 < n) (h2 : n < 8589934592) (m : Nat) : n / 2 ^ min m 64 = n / ((2 ^ m : Nat) : Int) := by
  by_cases h : m ≤ 64
  · rw [Nat.min_eq_left h, Int.natCast_pow]; rfl
  · have hp : 2 ^ 64 ≤ 2 ^ m := Nat.pow_le_pow_right (by omega) (by omega)
    rw [Nat.min_eq_right (by omega), Int.ediv_eq_zero_of_lt (by omega) (by omega), Int.ediv_eq_zero_of_lt (by omega)]
    generalize 2 ^ m = z at *
    omega
theorem over {n : Int} {L : Nat} {k : Int} (hn : 0 < n) (l1 : 1 ≤ L) (l2 : 2 ^ (L - 1) ≤ n.toNat) (hk : 0 ≤ k) (h : 64 - (L : Int) ≤ k) : put (n * ((2 ^ k.toNat : Nat) : Int)) = (0, 10) := by
  have a := Nat.mul_le_mul_right (2 ^ k.toNat) l2
  rw [← Nat.pow_add] at a
  have b : 2 ^ 63 ≤ 2 ^ (L - 1 + k.toNat) := Nat.pow_le_pow_right (by omega) (by omega)
  have e : n * ((2 ^ k.toNat : Nat) : Int) = ((n.toNat * 2 ^ k.toNat : Nat) : Int) := by rw [Int.natCast_mul, Int.toNat_of_nonneg (by omega)]
  rw [e]
  generalize n.toNat * 2 ^ k.toNat = z at *
  exact put_out (by omega)
theorem fits {n : Int} {L : Nat} {k : Int} (hn : 0 < n) (l3 : n.toNat < 2 ^ L) (hk : 0 ≤ k) (h : k < 64 - (L : Int)) : put (n * ((2 ^ k.toNat : Nat) : Int)) = (wrap64 (n * 2 ^ k.toNat), 0) := by
  have a := Nat.mul_lt_mul_of_pos_right l3 (Nat.two_pow_pos k.toNat)
  rw [← Nat.pow_add] at a
  have b : 2 ^ (L + k.toNat) ≤ 2 ^ 63 := Nat.pow_le_pow_right (by omega) (by omega)
  have e : n * ((2 ^ k.toNat : Nat) : Int) = ((n.toNat * 2 ^ k.toNat : Nat) : Int) := by rw [Int.natCast_mul, Int.toNat_of_nonneg (by omega)]
  have e2 : n * 2 ^ k.toNat = ((n.toNat * 2 ^ k.toNat : Nat) : Int) := by rw [← e, Int.natCast_pow]; rfl
  rw [e2, e]
  clear e e2 l3
  obtain ⟨z, hz⟩ : ∃ z, z = n.toNat * 2 ^ k.toNat := ⟨_, rfl⟩
  rw [← hz] at a ⊢
  clear hz
  have hw : wrap64 (z : Int) = (z : Int) := by unfold wrap64; omega
  rw [hw]
  exact put_in (by omega) (by omega)
end FixH

set_option maxHeartbeats 400000 in
theorem scale_any (n k : Int) (h1 : 0 < n) (h2 : n < 8589934592) (h3 : -2147483648 ≤ k) (h4 : k ≤ 2147483647) (w : World) :
    Calls Try.prog 36 #[.int .i64 n, .int .i64 k] w (Two (scaleV n k) w) := by
  by_cases c : k < 0
  · rw [FixH.scale_lo c]
    have hk : k ≤ 0 := by omega
    have hk' : 0 ≤ -k := by omega
    have e := FixH.shr_min h1 h2 (-k).toNat
    generalize ((2 ^ (-k).toNat : Nat) : Int) = z at *
    have E := Lib.hid e; clear e
    go_enter Try.func36, Try.ntmps36
    go_wp2
    go_ret2
    exact ⟨ret2_int E.out rfl, Gr.refl _⟩
  · rw [FixH.scale_hi c]
    have Hl := fun w' => lead64_any n w' (by omega) (by omega)
    have lb := Lib.bitLen_le n.toNat 64 (by omega) (by omega)
    have lb2 := Lib.bitLenAux_bounds 64 n.toNat (by omega) (by omega)
    change 1 ≤ Lib.bitLen n.toNat ∧ 2 ^ (Lib.bitLen n.toNat - 1) ≤ n.toNat ∧ n.toNat < 2 ^ Lib.bitLen n.toNat at lb2
    generalize Lib.bitLen n.toNat = L at *
    have H := Lib.hid (And.intro Hl lb2); clear Hl lb2
    by_cases c2 : (64 - (L : Int)) ≤ k
    · have hP := FixH.over h1 H.out.2.1 H.out.2.2.1 (by omega) c2
      rw [hP]; clear hP
      go_enter Try.func36, Try.ntmps36
      go_wp2_with (go_at_call 45; refine (H.out.1 _).mono ?_; rintro e w1 ⟨rfl, rfl⟩)
      go_ret2
      exact ⟨rfl, Gr.refl _⟩
    · have hP := FixH.fits h1 H.out.2.2.2 (by omega) (show k < 64 - (L : Int) by omega)
      rw [hP]; clear hP
      have l1 := H.out.2.1
      go_enter Try.func36, Try.ntmps36
      go_wp2_with (go_at_call 45; refine (H.out.1 _).mono ?_; rintro e w1 ⟨rfl, rfl⟩)
      go_ret2
      exact ⟨rfl, Gr.refl _⟩

set_option maxHeartbeats 400000 in
theorem pow_any (a : Int) (ha : I64 a) (w : World) :
    Calls Try.prog 23 #[.int .i64 a] w (Two (powV a) w) := by
  have Hs := fun w' => split_any a ha w'
  unfold I64 at ha
  have Hc := fun w' => scale_any (4294967296 + a % 4294967296) (a / 4294967296) (by omega) (by omega) (by omega) (by omega) w'
  change ∀ w', Calls Try.prog 36 #[.int .i64 (4294967296 + a % 4294967296), .int .i64 (a / 4294967296)] w' (Two (powV a) w') at Hc
  generalize powV a = p at *
  have b1 : 0 ≤ a % 4294967296 := by omega
  have b2 : a % 4294967296 < 4294967296 := by omega
  generalize a % 4294967296 = f at *
  generalize a / 4294967296 = k at *
  have H := Lib.hid (And.intro Hs Hc); clear Hs Hc
  go_enter Try.func23, Try.ntmps23
  go_wp2_with first
    | (go_at_call 35; refine (H.out.1 _).mono ?_; rintro e w1 ⟨rfl, rfl⟩)
    | (go_at_call 36; refine (H.out.2 _).mono ?_; rintro e w1 ⟨rfl, hg⟩)
  go_ret2
  exact ⟨rfl, hg⟩

set_option maxHeartbeats 400000 in
theorem slope_any (a : Int) (ha : I64 a) (w : World) :
    Calls Try.prog 25 #[.int .i64 a] w (Two (slopeV a) w) := by
  have Hs := fun w' => split_any a ha w'
  unfold I64 at ha
  have Hc := fun w' => scale_any 4294967296 (a / 4294967296) (by omega) (by omega) (by omega) (by omega) w'
  change ∀ w', Calls Try.prog 36 #[.int .i64 4294967296, .int .i64 (a / 4294967296)] w' (Two (slopeV a) w') at Hc
  generalize slopeV a = p at *
  generalize a % 4294967296 = f at *
  generalize a / 4294967296 = k at *
  have H := Lib.hid (And.intro Hs Hc); clear Hs Hc
  go_enter Try.func25, Try.ntmps25
  go_wp2_with first
    | (go_at_call 35; refine (H.out.1 _).mono ?_; rintro e w1 ⟨rfl, rfl⟩)
    | (go_at_call 36; refine (H.out.2 _).mono ?_; rintro e w1 ⟨rfl, hg⟩)
  go_ret2
  exact ⟨rfl, hg⟩
end Go.Proofs.Ytlnbphmeinjefaa
