/- Numbers of a size have bytes that stand as they do: the law's call returns true. -/
import Derived.Test.YtngdblojglcfpaaPkBack
namespace Go.Proofs.Ytngdblojglcfpaa
open Go.RowKit Go.Proofs.ShM Go.Proofs.PkM
set_option linter.unusedVariables false

theorem may_not {n size : Int} (h : mayB n size = false) : sizB size = false ∨ (size = 1 ∧ (n < 0 ∨ 255 < n)) ∨ (size = 2 ∧ (n < 0 ∨ 65535 < n)) := by
  unfold mayB at h
  unfold sizB
  simp at h ⊢
  omega
theorem put_ends (b : List Int) (n size : Int) : (∃ r, putV b n size = (r, 0) ∧ mayB n size = true ∧ r = b ++ byteL n size.toNat) ∨ (putV b n size = ([], 40) ∧ mayB n size = false) := by
  rcases put_cases8 b n size with ⟨h, g⟩ | ⟨h, g⟩
  · exact Or.inl ⟨_, g, h, rfl⟩
  · exact Or.inr ⟨g, h⟩

set_option maxHeartbeats 8000000 in
set_option maxRecDepth 100000 in
theorem pord_none (A : Option Addr) (c p : Nat) (m n size : Int) (r1 r2 : List Int) (e1 e2 : Int) (k1 k2 : Nat) (w : World) (f1 : ¬ (300 : Int) < (p : Int)) (he : e1 = 40 ∨ (e1 = 0 ∧ e2 = 40))
    (h : (¬ size = 1 ∧ ¬ size = 2 ∧ ¬ size = 8) ∨ (size = 1 ∧ (m < 0 ∨ (¬ m < 0 ∧ n < 0) ∨ (¬ m < 0 ∧ ¬ n < 0 ∧ 256 ≤ m) ∨ (¬ m < 0 ∧ ¬ n < 0 ∧ ¬ 256 ≤ m ∧ 256 ≤ n))) ∨ (size = 2 ∧ (m < 0 ∨ (¬ m < 0 ∧ n < 0) ∨ (¬ m < 0 ∧ ¬ n < 0 ∧ 65536 ≤ m) ∨ (¬ m < 0 ∧ ¬ n < 0 ∧ ¬ 65536 ≤ m ∧ 65536 ≤ n))))
    (HAW : Hid (∀ w : World, Calls Try.prog 8 #[] w fun e w' => e = .returned (.bool true) ∧ Kp w w'))
    (C1 : Hid (∀ W, Kp w W → Calls Try.prog 9 #[.slice A p c, .int .i64 m, .int .i64 size] W (RetB r1 e1 k1 W)))
    (C2 : Hid (∀ W, Kp w W → Calls Try.prog 9 #[.slice A p c, .int .i64 n, .int .i64 size] W (RetB r2 e2 k2 W))) :
    Calls Try.prog 4 #[.slice A p c, .int .i64 m, .int .i64 n, .int .i64 size] w fun e w' => e = .returned (.bool true) ∧ Kp w w' := by
  go_enter Try.func4, Try.ntmps4
  go_wp2_with fail
  refine (HAW.out _).mono ?_; rintro e0 w1 ⟨rfl, k1⟩
  have K := Lib.hid k1
  clear k1
  go_wp2_with fail
  refine (C1.out _ K.out).mono ?_; rintro e0 w2 ⟨A1, c1, rfl, ra, la, k2⟩
  have K := Lib.hid (K.out.tr k2)
  clear k2
  go_wp2_with fail
  refine (C2.out _ K.out).mono ?_; rintro e0 w3 ⟨A2, c2, rfl, rb, lb, k3⟩
  have K := Lib.hid (K.out.tr k3)
  clear k3 ra rb
  rcases he with rfl | ⟨rfl, rfl⟩ <;> rcases h with ⟨h1, h2, h3⟩ | ⟨rfl, h1 | ⟨h1, h2⟩ | ⟨h1, h2, h3⟩ | ⟨h1, h2, h3, h4⟩⟩ | ⟨rfl, h1 | ⟨h1, h2⟩ | ⟨h1, h2, h3⟩ | ⟨h1, h2, h3, h4⟩⟩
  all_goals
    go_wp2
    go_ret
    exact ⟨rfl, K.out⟩
end Go.Proofs.Ytngdblojglcfpaa
