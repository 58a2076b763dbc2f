/- What the document's own answers are: a number below 0 of which something is left, one up. -/
import Derived.Test.YtlnbphmeinjefaaFixR
namespace Go.Proofs.Ytlnbphmeinjefaa
open Go.RowKit Go.Proofs.FixM

namespace FixR
theorem up_big {h l : Nat} (c : 0 < (h : Int) ∨ 9223372036854775807 < (l : Int)) : put (-((h * 18446744073709551616 + l + 1 : Nat) : Int)) = (0, 10) := put_out (by omega)
theorem up_fit {h l : Nat} (c1 : ¬ 0 < (h : Int)) (c2 : ¬ 9223372036854775807 < (l : Int)) : put (-((h * 18446744073709551616 + l + 1 : Nat) : Int)) = (-(l : Int) - 1, 0) := by
  rw [show h * 18446744073709551616 + l + 1 = l + 1 by omega, show -((l + 1 : Nat) : Int) = -(l : Int) - 1 by omega]; exact put_in (by omega) (by omega)
end FixR

set_option maxHeartbeats 400000 in
theorem rsigned_up (high low : Nat) (h1 : high < 18446744073709551615) (h2 : low < 18446744073709551616) (w : World) :
    Calls Try.prog 32 #[.int .u64 high, .int .u64 low, .bool true, .bool true] w (Two (put (-((high * 18446744073709551616 + low + 1 : Nat) : Int))) w) := by
  by_cases c0 : low = 18446744073709551615
  · rw [FixR.up_big (.inr (by omega))]
    have e1 : IntKind.u64.wrap ((low : Int) + 1) = 0 := by rw [IntKind.wrap_u64]; omega
    have e2 : IntKind.u64.wrap ((high : Int) + 1) = ((high + 1 : Nat) : Int) := by rw [IntKind.wrap_u64]; omega
    obtain ⟨z, hz⟩ : ∃ z, z = high + 1 := ⟨_, rfl⟩
    rw [← hz] at e2
    have c1 : 0 < (z : Int) := by omega
    clear h1 h2 c0 hz
    go_enter Try.func32, Try.ntmps32
    go_wp2
    go_ret2
    exact ⟨rfl, Gr.refl _⟩
  · have e1 : IntKind.u64.wrap ((low : Int) + 1) = ((low + 1 : Nat) : Int) := by rw [IntKind.wrap_u64]; omega
    obtain ⟨z, hz⟩ : ∃ z, z = low + 1 := ⟨_, rfl⟩
    rw [← hz] at e1
    have d0 : ((z : Int) == 0) = false := by rw [beq_eq_false_iff_ne]; omega
    by_cases c1 : 0 < (high : Int)
    · rw [FixR.up_big (.inl c1)]
      clear h1 h2 c0 hz
      go_enter Try.func32, Try.ntmps32
      go_wp2
      go_ret2
      exact ⟨rfl, Gr.refl _⟩
    · have c1' : (high : Int) ≤ 0 := by omega
      by_cases c2 : 9223372036854775808 < (z : Int)
      · rw [FixR.up_big (.inr (by omega))]
        clear h1 h2 c0 hz c1
        go_enter Try.func32, Try.ntmps32
        go_wp2
        go_ret2
        exact ⟨rfl, Gr.refl _⟩
      · rw [FixR.up_fit c1 (by omega)]
        have c2' : (z : Int) ≤ 9223372036854775808 := by omega
        have c4 : 0 < (z : Int) := by omega
        have H := Lib.hid (show -(low : Int) - 1 = -(z : Int) by omega)
        clear h1 h2 c0 hz c1 c2
        go_enter Try.func32, Try.ntmps32
        go_wp2
        go_ret2
        refine ⟨ret2_int ?_ rfl, Gr.refl _⟩
        have := H.out
        rw [this]
        clear H e1 this d0
        go_arith

namespace FixS
/-- What the program's teller says: the quotient, and whether something is left. -/
theorem up0 {n d q : Nat} (hd : 0 < d) (e : d * q = n) : (n + (d - 1)) / d = q := by
  rw [← e, Nat.mul_add_div hd, Nat.div_eq_of_lt (by omega), Nat.add_zero]
theorem up1 {n d q r : Nat} (hd : 0 < d) (e : d * q + r = n) (l : r < d) (p : 0 < r) : (n + (d - 1)) / d = q + 1 := by
  have : n + (d - 1) = d * (q + 1) + (r - 1) := by rw [Nat.mul_add]; omega
  rw [this, Nat.mul_add_div hd, Nat.div_eq_of_lt (by omega), Nat.add_zero]
theorem tell_of (n d : Nat) (hd : 0 < d) : tellV true n d = if n % d = 0 then put (-((n / d : Nat) : Int)) else put (-((n / d + 1 : Nat) : Int)) := by
  unfold tellV
  rw [if_pos rfl]
  have e := Nat.div_add_mod n d
  have l := Nat.mod_lt n hd
  split
  · rename_i z; rw [z] at e; rw [up0 hd e]
  · rename_i z; rw [up1 hd e l (by omega)]
theorem tell_no' (n d : Nat) : tellV false n d = put ((n / d : Nat) : Int) := by unfold tellV; rw [if_neg (by decide)]
end FixS

/-- The document's signed number of a quotient: as the teller's. -/
theorem rsigned_any (n d : Nat) (below : Bool) (hd : 0 < d) (h : n / d < 170141183460469231731687303715884105728) (w : World) :
    Calls Try.prog 32 #[.int .u64 ((n / d / 18446744073709551616 : Nat) : Int), .int .u64 ((n / d % 18446744073709551616 : Nat) : Int), .bool (decide (0 < n % d)), .bool below] w (Two (tellV below n d) w) := by
  have e := Nat.div_add_mod' (n / d) 18446744073709551616
  cases below with
  | false =>
    rw [FixS.tell_no']
    have := rsigned_no (n / d / 18446744073709551616) (n / d % 18446744073709551616) (decide (0 < n % d)) w
    rwa [e] at this
  | true =>
    rw [FixS.tell_of n d hd]
    by_cases c : n % d = 0
    · rw [if_pos c]
      have := rsigned_whole (n / d / 18446744073709551616) (n / d % 18446744073709551616) w
      rw [e] at this
      rw [show decide (0 < n % d) = false by simp [c]]
      exact this
    · rw [if_neg c]
      have := rsigned_up (n / d / 18446744073709551616) (n / d % 18446744073709551616) (by omega) (by omega) w
      rw [e] at this
      rw [show decide (0 < n % d) = true by simp; omega]
      exact this
end Go.Proofs.Ytlnbphmeinjefaa
