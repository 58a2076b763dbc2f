/- The document's own roots, powers and slopes are what the program's are. -/
import Derived.Test.YtlnbphmeinjefaaFixX
namespace Go.Proofs.Ytlnbphmeinjefaa
open Go.RowKit Go.Proofs.FixM

namespace FixY
theorem test {P n : Nat} : decide (¬ n * 4294967296 < P) = (decide (P / 18446744073709551616 < n / 4294967296) || ((((P / 18446744073709551616 : Nat) : Int) == ((n / 4294967296 : Nat) : Int)) && decide (P % 18446744073709551616 ≤ n % 4294967296 * 4294967296))) := by
  have h1 : n * 4294967296 / 18446744073709551616 = n / 4294967296 := by omega
  have h2 : n * 4294967296 % 18446744073709551616 = n % 4294967296 * 4294967296 := by omega
  have e1 := Nat.div_add_mod P 18446744073709551616
  have e2 := Nat.div_add_mod (n * 4294967296) 18446744073709551616
  have l1 := Nat.mod_lt P (show 0 < 18446744073709551616 by omega)
  have l2 := Nat.mod_lt (n * 4294967296) (show 0 < 18446744073709551616 by omega)
  rw [h1, h2] at e2
  rw [h2] at l2
  clear h1 h2
  rw [Bool.eq_iff_iff]
  simp only [decide_eq_true_eq, Bool.or_eq_true, Bool.and_eq_true, beq_iff_eq]
  omega
end FixY

set_option maxHeartbeats 1000000 in
theorem rsqrt_pos (n : Nat) (hn : n ≤ 9223372036854775807) (w : World) :
    Calls Try.prog 22 #[.int .i64 n] w (Two (((sqR (n * 4294967296) : Nat) : Int), 0) w) := by
  have hlt := sqR_lt (W := n * 4294967296) (by omega)
  have HI := Lib.hid (rinit (n * 4294967296))
  have HL := Lib.hid (And.intro hlt hn); clear hlt
  obtain ⟨nh, hnh⟩ : ∃ nh, nh = n / 4294967296 := ⟨_, rfl⟩
  obtain ⟨nl, hnl⟩ : ∃ nl, nl = n % 4294967296 * 4294967296 := ⟨_, rfl⟩
  have E1 : (n : Int) / 4294967296 = (nh : Int) := by omega
  have E2 : (n : Int) % 4294967296 * 4294967296 = (nl : Int) := by omega
  have HT : ∀ P, decide (¬ n * 4294967296 < P) = (decide (P / 18446744073709551616 < nh) || ((((P / 18446744073709551616 : Nat) : Int) == (nh : Int)) && decide (P % 18446744073709551616 ≤ nl))) := fun P => by rw [hnh, hnl]; exact FixY.test
  have HTT := Lib.hid HT
  have i1 : (n : Int) ≤ 9223372036854775807 := by omega
  clear HT hnh hnl hn
  generalize n * 4294967296 = W at *
  go_enter Try.func22, Try.ntmps22
  go_wp2
  go_loop [5, 6] (fun a c => ∃ k m b : Nat, a = .int .u64 m ∧ c = .int .u64 b ∧ Hid (b = 2 ^ k / 2) ∧ RInv W k m) (fun _ c => (intOf c).toNat)
  case atStart => exact ⟨48, 0, 140737488355328, rfl, rfl, Lib.hid (by decide), HI.out⟩
  case round =>
    rename_i hw; clear hw
    obtain ⟨k, m, b, rfl, rfl, hb, inv⟩ := hrel
    cases k with
    | zero =>
      obtain rfl : b = 0 := hb.out
      have he : m = sqR W := inv.eq
      have HE := Lib.hid he; clear he inv hb
      go_wp2
      go_ret2
      refine ⟨ret2_int ?_ rfl, Gr.refl _⟩
      have := HE.out; have := HL.out.1
      go_arith
    | succ k =>
      have e2 : b = 2 ^ k := by have := hb.out; rw [Nat.pow_succ] at this; omega
      have hb0 : 0 < b := by rw [e2]; exact Nat.two_pow_pos k
      have hm1 : m + b < 281474976710656 := by have := inv.lt; rw [Nat.pow_succ, ← e2] at this; omega
      have h2 : (b : Int) / 2 = ((b / 2 : Nat) : Int) := by omega
      have hb' : Hid (b / 2 = 2 ^ k / 2) := by rw [e2]; exact Lib.hid rfl
      have HW := fun w' => rwide_any (m + b) (m + b) (by omega) (by omega) w'
      have key := HTT.out ((m + b) * (m + b))
      have yes := fun (c : ¬ W < (m + b) * (m + b)) => (by have := ryes inv (by rw [← e2]; exact c); rwa [← e2] at this : RInv W k (m + b))
      have no := fun (c : W < (m + b) * (m + b)) => rno inv (by rw [← e2]; exact c)
      obtain ⟨t, ht⟩ : ∃ t, t = decide (¬ W < (m + b) * (m + b)) := ⟨_, rfl⟩
      rw [← ht] at key
      have nx : RInv W k (if t = true then m + b else m) := by
        rw [ht]
        by_cases c : W < (m + b) * (m + b)
        · rw [if_neg (by simpa using c)]; exact no c
        · rw [if_pos (by simpa using c)]; exact yes c
      clear yes no ht inv hb e2
      generalize (m + b) * (m + b) / 18446744073709551616 = hi at *
      generalize (m + b) * (m + b) % 18446744073709551616 = lo at *
      obtain ⟨p1, q1⟩ : ∃ p, decide (hi < nh) = p := ⟨_, rfl⟩
      obtain ⟨p2, q2⟩ : ∃ p, ((hi : Int) == (nh : Int)) = p := ⟨_, rfl⟩
      obtain ⟨p3, q3⟩ : ∃ p, decide (lo ≤ nl) = p := ⟨_, rfl⟩
      rw [q1, q2, q3] at key
      rw [key] at nx
      have eM : (m : Int) + (b : Int) = ((m + b : Nat) : Int) := by omega
      have lm : (m : Int) ≤ 281474976710656 := by omega
      have lb : (b : Int) ≤ 281474976710656 := by omega
      have hB := Lib.hid (show b / 2 < b by omega)
      have HWh := Lib.hid HW
      clear key HW hm1
      obtain ⟨b2, hb2⟩ : ∃ b2, b2 = b / 2 := ⟨_, rfl⟩
      rw [← hb2] at h2 hb' hB
      clear hb2
      generalize m + b = z at *
      have NX := Lib.hid nx; clear nx
      cases p1 <;> cases p2 <;> cases p3
      all_goals
        go_wp2_with (go_at_call 30; refine (HWh.out _).mono ?_; rintro e w1 ⟨rfl, rfl⟩)
        go_round
        case rel => first | exact ⟨k, z, b2, rfl, rfl, hb', NX.out⟩ | exact ⟨k, m, b2, rfl, rfl, hb', NX.out⟩
        case measure => have := hB.out; simp [intOf]; omega

theorem rsqrt_any (a : Int) (ha : I64 a) (w : World) : Calls Try.prog 22 #[.int .i64 a] w (Two (sqrtV a) w) := by
  by_cases c : a < 0
  · rw [show sqrtV a = (0, 12) from if_pos c]
    clear ha
    go_enter Try.func22, Try.ntmps22
    go_wp2
    go_ret2
    exact ⟨rfl, Gr.refl _⟩
  · obtain ⟨n, rfl⟩ := Int.eq_ofNat_of_zero_le (show 0 ≤ a by omega)
    rw [show sqrtV (n : Int) = (((sqR ((n : Int).natAbs * 4294967296) : Nat) : Int), (0 : Int)) from if_neg c, Int.natAbs_natCast]
    exact rsqrt_pos n (by unfold I64 at ha; omega) w
end Go.Proofs.Ytlnbphmeinjefaa
