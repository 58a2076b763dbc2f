/- The document's own quotients and roots are what the program's are. -/
import Derived.Test.YtlnbphmeinjefaaFixV
namespace Go.Proofs.Ytlnbphmeinjefaa
open Go.RowKit Go.Proofs.FixM

namespace FixX
theorem zero_d (below : Bool) {d : Nat} (hd : 0 < d) : tellV below 0 d = put 0 := by
  cases below
  · unfold tellV; rw [if_neg (by decide), Nat.zero_div]; rfl
  · unfold tellV; rw [if_pos rfl, Nat.zero_add, Nat.div_eq_of_lt (by omega)]; rfl
theorem scaled (n : Nat) : n / 4294967296 * 18446744073709551616 + n % 4294967296 * 4294967296 = n * 4294967296 := by omega
end FixX

set_option maxHeartbeats 400000 in
theorem rdiv_zero (a : Int) (w : World) : Calls Try.prog 18 #[.int .i64 a, .int .i64 0] w (Two (divV a 0) w) := by
  rw [show divV a 0 = (0, 11) from if_pos rfl]
  go_enter Try.func18, Try.ntmps18
  go_wp2
  go_ret2
  exact ⟨rfl, Gr.refl _⟩

set_option maxHeartbeats 1000000 in
theorem rdiv_pos (a b : Int) (ha : I64 a) (hb : I64 b) (hz : b ≠ 0) (w : World) :
    Calls Try.prog 18 #[.int .i64 a, .int .i64 b] w (Two (divV a b) w) := by
  have la := abs_lt ha
  have lb := abs_lt hb
  have lz : 0 < b.natAbs := by omega
  have HP := fun w' => parts_any (a.natAbs / 4294967296) (a.natAbs % 4294967296 * 4294967296) b.natAbs lz (by omega) (by omega) (by omega) w'
  rw [FixX.scaled] at HP
  have hq : a.natAbs * 4294967296 / b.natAbs < 170141183460469231731687303715884105728 := Nat.lt_of_le_of_lt (Nat.div_le_self _ _) (by omega)
  have HS := fun below w' => rsigned_any (a.natAbs * 4294967296) b.natAbs below lz hq w'
  have SA := fun w' => rsize_any a ha w'
  have SB := fun w' => rsize_any b hb w'
  rw [← FixF.tell_div a b hz]
  have fin : tellV (decide (a < 0) != decide (b < 0)) (a.natAbs * 4294967296) b.natAbs = tellV ((decide (a < 0) != decide (b < 0)) && (a != 0)) (a.natAbs * 4294967296) b.natAbs := by
    by_cases z0 : a = 0
    · rw [show a.natAbs * 4294967296 = 0 by omega, FixX.zero_d _ lz, FixX.zero_d _ lz]
    · rw [show (a != 0) = true by rw [bne_iff_ne]; exact z0, Bool.and_true]
  rw [fin]
  clear fin hq lz
  have hz' : (b == 0) = false := by rw [beq_eq_false_iff_ne]; exact hz
  obtain ⟨x, hx⟩ : ∃ x, x = a.natAbs / 4294967296 := ⟨_, rfl⟩
  obtain ⟨y, hy⟩ : ∃ y, y = a.natAbs % 4294967296 * 4294967296 := ⟨_, rfl⟩
  rw [← hx, ← hy] at HP
  unfold PartsPost at HP
  have E1 : (a.natAbs : Int) / 4294967296 = (x : Int) := by omega
  have E2 : (a.natAbs : Int) % 4294967296 * 4294967296 = (y : Int) := by omega
  have B1 : Hid ((a.natAbs : Int) ≤ 9223372036854775808) := Lib.hid (by omega)
  clear la lb hx hy
  generalize a.natAbs * 4294967296 / b.natAbs / 18446744073709551616 = q1 at *
  generalize a.natAbs * 4294967296 / b.natAbs % 18446744073709551616 = q0 at *
  generalize a.natAbs * 4294967296 % b.natAbs = rr at *
  generalize a.natAbs * 4294967296 = n at *
  generalize a.natAbs = xa at *
  generalize b.natAbs = xb at *
  have b1 : (xa : Int) ≤ 9223372036854775808 := B1.out
  have HA := Lib.hid SA
  have HB := Lib.hid SB
  have H := Lib.hid (And.intro HP HS)
  clear SA SB HP HS ha hb hz
  obtain ⟨pa, d1⟩ : ∃ pa, decide (a < 0) = pa := ⟨_, rfl⟩
  obtain ⟨pb, d2⟩ : ∃ pb, decide (b < 0) = pb := ⟨_, rfl⟩
  obtain ⟨za, d3⟩ : ∃ za, (a != 0) = za := ⟨_, rfl⟩
  rw [d1, d2, d3]
  cases pa <;> cases pb <;> cases za
  all_goals
    go_enter Try.func18, Try.ntmps18
    go_wp2_with first
      | (go_at_call 31; ((with_reducible refine (HA.out _).mono ?_); rintro e w1 ⟨rfl, rfl⟩))
      | (go_at_call 31; ((with_reducible refine (HB.out _).mono ?_); rintro e w1 ⟨rfl, rfl⟩))
      | (go_at_call 33; refine (H.out.1 _).mono ?_; rintro e w1 ⟨rfl, rfl⟩)
      | (go_at_call 32; refine (H.out.2 _ _).mono ?_; rintro e w1 ⟨rfl, hg⟩)
    go_ret2
    exact ⟨rfl, hg⟩

theorem rdiv_any (a b : Int) (ha : I64 a) (hb : I64 b) (w : World) :
    Calls Try.prog 18 #[.int .i64 a, .int .i64 b] w (Two (divV a b) w) := by
  by_cases hz : b = 0
  · subst hz; exact rdiv_zero a w
  · exact rdiv_pos a b ha hb hz w
end Go.Proofs.Ytlnbphmeinjefaa
