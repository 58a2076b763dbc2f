/- Of three shapes it does not matter which two are joined first: the law's call returns true. -/
import Derived.Test.YtggdhfdklmmgjaaShJoinsW
import Derived.Test.YtggdhfdklmmgjaaShLawM
namespace Go.Proofs.Ytggdhfdklmmgjaa
open Go.RowKit Go.Proofs.ShM

section
variable {A B C : Option Addr} {c d t : Nat} {a b l : List Int} {w : World}
/-- A join of a list that some call made. -/
theorem join_first (g : Rd w B b) {r : List Int} {e : Int} (hr : joinV l b = (r, e)) : Hid (∀ W A c, Kp w W → Rd W A l → Calls Try.prog 15 #[.slice A l.length c, .slice B b.length d] W (RetL r e W)) :=
  fun _ _ _ k h => join_n l b h (g.kp k) rfl rfl hr
theorem join_second (h : Rd w A a) {r : List Int} {e : Int} (hr : joinV a l = (r, e)) : Hid (∀ W B d, Kp w W → Rd W B l → Calls Try.prog 15 #[.slice A a.length c, .slice B l.length d] W (RetL r e W)) :=
  fun _ _ _ k g => join_n a l (h.kp k) g rfl rfl hr
end

set_option maxHeartbeats 1000000 in
theorem three_with (A B C : Option Addr) (c d t n m o : Nat) (w : World) (h1 : n ≤ 100) (h2 : m ≤ 100) (h3 : o ≤ 100) (x y z v : List Int) (e f g h : Int)
    (C1 : Hid (∀ W, Kp w W → Calls Try.prog 15 #[.slice A n c, .slice B m d] W (RetL x e W)))
    (C2 : Hid (∀ W A c, Kp w W → Rd W A x → Calls Try.prog 15 #[.slice A x.length c, .slice C o t] W (RetL y f W)))
    (C3 : Hid (∀ W, Kp w W → Calls Try.prog 15 #[.slice B m d, .slice C o t] W (RetL z g W)))
    (C4 : Hid (∀ W B d, Kp w W → Rd W B z → Calls Try.prog 15 #[.slice A n c, .slice B z.length d] W (RetL v h W)))
    (hc : e = 20 ∨ (e = 0 ∧ f = 0 ∧ g = 20) ∨ (e = 0 ∧ f = 20 ∧ g = 20) ∨ (e = 0 ∧ f = 20 ∧ g = 0 ∧ h = 20)) :
    Calls Try.prog 6 #[.slice A n c, .slice B m d, .slice C o t] w fun e w' => e = .returned (.bool true) ∧ Kp w w' := by
  rcases hc with rfl | ⟨rfl, rfl, rfl⟩ | ⟨rfl, rfl, rfl⟩ | ⟨rfl, rfl, rfl, rfl⟩
  all_goals
    go_enter Try.func6, Try.ntmps6
    go_wp2_with fail
    refine (shawake_any _).mono ?_; rintro e0 w0 ⟨rfl, k0⟩
    go_wp2_with fail
    refine (C1.out _ k0).mono ?_; rintro e1 w1 ⟨A1, c1, rfl, r1, k1⟩
    have K1 := Lib.hid (k0.tr k1); have R1 := Lib.hid r1.rd; clear k0 k1 r1
    go_wp2_with fail
    refine (C2.out _ _ _ K1.out R1.out).mono ?_; rintro e1 w2 ⟨A2, c2, rfl, r2, k2⟩
    have K2 := Lib.hid (K1.out.tr k2); have R2 := Lib.hid r2.rd; clear k2 K1 r2
    go_wp2_with fail
    refine (C3.out _ K2.out).mono ?_; rintro e1 w3 ⟨A3, c3, rfl, r3, k3⟩
    have K3 := Lib.hid (K2.out.tr k3); have R3 := Lib.hid (And.intro (R2.out.kp k3) r3.rd); clear k3 K2 r3 R2
    go_wp2_with fail
    refine (C4.out _ _ _ K3.out R3.out.2).mono ?_; rintro e1 w4 ⟨A4, c4, rfl, r4, k4⟩
    have K4 := Lib.hid (K3.out.tr k4); have R4 := Lib.hid (And.intro (R3.out.1.kp k4) r4.rd); clear k4 K3 r4 R3
    go_wp2
    go_ret
    exact ⟨rfl, K4.out⟩

set_option maxHeartbeats 1000000 in
theorem three_all (A B C : Option Addr) (c d t n m o : Nat) (w : World) (h1 : n ≤ 100) (h2 : m ≤ 100) (h3 : o ≤ 100) (x y z v : List Int)
    (C1 : Hid (∀ W, Kp w W → Calls Try.prog 15 #[.slice A n c, .slice B m d] W (RetL x 0 W)))
    (C2 : Hid (∀ W A c, Kp w W → Rd W A x → Calls Try.prog 15 #[.slice A x.length c, .slice C o t] W (RetL y 0 W)))
    (C3 : Hid (∀ W, Kp w W → Calls Try.prog 15 #[.slice B m d, .slice C o t] W (RetL z 0 W)))
    (C4 : Hid (∀ W B d, Kp w W → Rd W B z → Calls Try.prog 15 #[.slice A n c, .slice B z.length d] W (RetL v 0 W)))
    (HS : Hid ((y == v) = true)) :
    Calls Try.prog 6 #[.slice A n c, .slice B m d, .slice C o t] w fun e w' => e = .returned (.bool true) ∧ Kp w w' := by
  go_enter Try.func6, Try.ntmps6
  go_wp2_with fail
  refine (shawake_any _).mono ?_; rintro e0 w0 ⟨rfl, k0⟩
  go_wp2_with fail
  refine (C1.out _ k0).mono ?_; rintro e1 w1 ⟨A1, c1, rfl, r1, k1⟩
  have K1 := Lib.hid (k0.tr k1); have R1 := Lib.hid r1.rd; clear k0 k1 r1
  go_wp2_with fail
  refine (C2.out _ _ _ K1.out R1.out).mono ?_; rintro e1 w2 ⟨A2, c2, rfl, r2, k2⟩
  have K2 := Lib.hid (K1.out.tr k2); have R2 := Lib.hid r2.rd; clear k2 K1 r2
  go_wp2_with fail
  refine (C3.out _ K2.out).mono ?_; rintro e1 w3 ⟨A3, c3, rfl, r3, k3⟩
  have K3 := Lib.hid (K2.out.tr k3); have R3 := Lib.hid (And.intro (R2.out.kp k3) r3.rd); clear k3 K2 r3 R2
  go_wp2_with fail
  refine (C4.out _ _ _ K3.out R3.out.2).mono ?_; rintro e1 w4 ⟨A4, c4, rfl, r4, k4⟩
  have K4 := Lib.hid (K3.out.tr k4); have R4 := Lib.hid (And.intro (R3.out.1.kp k4) r4.rd); clear k4 K3 r4 R3
  go_wp2_with fail
  refine (same_b R4.out.1 R4.out.2 HS.out).mono ?_; rintro e1 w5 ⟨rfl, k5⟩
  have K5 := Lib.hid (K4.out.tr k5); clear k5 K4
  go_wp2
  go_ret
  exact ⟨rfl, K5.out⟩

theorem shthree_far (A B C : Option Addr) (c d t n m o : Nat) (w : World) (h0 : n ≤ 9223372036854775807) (h0' : m ≤ 9223372036854775807) (h0'' : o ≤ 9223372036854775807) (h : 100 < n ∨ 100 < m ∨ 100 < o) :
    Calls Try.prog 6 #[.slice A n c, .slice B m d, .slice C o t] w fun e w' => e = .returned (.bool true) ∧ Kp w w' := by
  by_cases h1 : 100 < n
  all_goals by_cases h2 : 100 < m
  all_goals by_cases h3 : 100 < o
  all_goals
    first
    | exact absurd h (by omega)
    | (clear h
       go_enter Try.func6, Try.ntmps6
       go_wp2_with (go_at_call 10; refine (shawake_any _).mono ?_; rintro e0 w0 ⟨rfl, k0⟩)
       go_ret
       exact ⟨rfl, k0⟩)

theorem shthree_walk (A B C : Option Addr) (c d t : Nat) (a b l : List Int) (w : World) (h : Rd w A a) (g : Rd w B b) (k : Rd w C l) :
    Calls Try.prog 6 #[.slice A a.length c, .slice B b.length d, .slice C l.length t] w fun e w' => e = .returned (.bool true) ∧ Kp w w' := by
  by_cases hf : 100 < a.length ∨ 100 < b.length ∨ 100 < l.length
  · exact shthree_far A B C c d t _ _ _ w h.len g.len k.len hf
  · obtain ⟨x, y, z, v, e1, e2, e3, e4, j1, j2, j3, j4, hc⟩ := three_cases a b l
    rcases hc with hc | hc | hc | hc | ⟨rfl, rfl, rfl, rfl, hs⟩
    · exact three_with A B C c d t _ _ _ w (by omega) (by omega) (by omega) x y z v e1 e2 e3 e4 (join_k h g j1) (join_first k j2) (join_k g k j3) (join_second h j4) (.inl hc)
    · exact three_with A B C c d t _ _ _ w (by omega) (by omega) (by omega) x y z v e1 e2 e3 e4 (join_k h g j1) (join_first k j2) (join_k g k j3) (join_second h j4) (.inr (.inl hc))
    · exact three_with A B C c d t _ _ _ w (by omega) (by omega) (by omega) x y z v e1 e2 e3 e4 (join_k h g j1) (join_first k j2) (join_k g k j3) (join_second h j4) (.inr (.inr (.inl hc)))
    · exact three_with A B C c d t _ _ _ w (by omega) (by omega) (by omega) x y z v e1 e2 e3 e4 (join_k h g j1) (join_first k j2) (join_k g k j3) (join_second h j4) (.inr (.inr (.inr hc)))
    · exact three_all A B C c d t _ _ _ w (by omega) (by omega) (by omega) x y z v (join_k h g j1) (join_first k j2) (join_k g k j3) (join_second h j4) hs
end Go.Proofs.Ytggdhfdklmmgjaa
