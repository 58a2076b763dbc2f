/- A shape fits itself, and what fits a shape that fits a third one fits that: the law's call returns true. -/
import Derived.Test.YtggdhfdklmmgjaaShJoinsW
import Derived.Test.YtggdhfdklmmgjaaShLawM
namespace Go.Proofs.Ytggdhfdklmmgjaa
open Go.RowKit Go.Proofs.ShM

theorem size_k {A : Option Addr} {c : Nat} {a : List Int} {w : World} (h : Rd w A a) {r : Int} (hr : sizeV a = r) : Hid (∀ W, Kp w W → Calls Try.prog 20 #[.slice A a.length c] W fun e w' => e = .returned (.int .i64 r) ∧ W = w') :=
  fun _ k => size_n a (h.kp k) rfl hr
theorem same_k {A B : Option Addr} {c d : Nat} {a b : List Int} {w : World} (h : Rd w A a) (g : Rd w B b) {r : Bool} (hr : (a == b) = r) : Hid (∀ W, Kp w W → Calls Try.prog 17 #[.slice A a.length c, .slice B b.length d] W (RetB r W)) :=
  fun _ k => same_b (h.kp k) (g.kp k) hr

set_option maxHeartbeats 2000000 in
theorem fits_with (A B C : Option Addr) (c d t n m o : Nat) (w : World) (h1 : n ≤ 100) (h2 : m ≤ 100) (h3 : o ≤ 100) (f1 f2 f3 f4 s k : Bool) (p q : Int)
    (C1 : Hid (∀ W, Kp w W → Calls Try.prog 22 #[.slice A n c, .slice B m d] W (RetB f1 W)))
    (C2 : Hid (∀ W, Kp w W → Calls Try.prog 22 #[.slice B m d, .slice C o t] W (RetB f2 W)))
    (C3 : Hid (∀ W, Kp w W → Calls Try.prog 22 #[.slice A n c, .slice C o t] W (RetB f3 W)))
    (C4 : Hid (∀ W, Kp w W → Calls Try.prog 22 #[.slice B m d, .slice A n c] W (RetB f4 W)))
    (C5 : Hid (∀ W, Kp w W → Calls Try.prog 17 #[.slice A n c, .slice B m d] W (RetB s W)))
    (C6 : Hid (∀ W, Kp w W → Calls Try.prog 20 #[.slice A n c] W fun e w' => e = .returned (.int .i64 p) ∧ W = w'))
    (C7 : Hid (∀ W, Kp w W → Calls Try.prog 20 #[.slice B m d] W fun e w' => e = .returned (.int .i64 q) ∧ W = w'))
    (C8 : Hid (∀ W, Kp w W → Calls Try.prog 22 #[.slice A n c, .slice A n c] W (RetB k W)))
    (C9 : Hid (∀ W, Kp w W → Calls Try.prog 18 #[.slice A n c] W (RetB k W)))
    (hc : f1 = false ∨ (f1 = true ∧ (p ≤ q ∧ n ≤ m) ∧ (f2 = false ∨ (f2 = true ∧ f3 = true)) ∧ (f4 = false ∨ (f4 = true ∧ s = true)))) :
    Calls Try.prog 9 #[.slice A n c, .slice B m d, .slice C o t] w fun e w' => e = .returned (.bool true) ∧ Kp w w' := by
  rcases hc with rfl | ⟨rfl, ⟨hpq, hnm⟩, hc, hd⟩
  · go_enter Try.func9, Try.ntmps9
    go_wp2_with fail
    refine (shawake_any _).mono ?_; rintro e0 w0 ⟨rfl, k0⟩
    go_wp2_with fail
    refine (C1.out _ k0).mono ?_; rintro e1 w1 ⟨rfl, k1⟩
    have K1 := Lib.hid (k0.tr k1); clear k0 k1
    go_wp2_with fail
    refine (C1.out _ K1.out).mono ?_; rintro e1 w2 ⟨rfl, k2⟩
    have K2 := Lib.hid (K1.out.tr k2); clear k2 K1
    go_wp2_with fail
    refine (C1.out _ K2.out).mono ?_; rintro e1 w3 ⟨rfl, k3⟩
    have K3 := Lib.hid (K2.out.tr k3); clear k3 K2
    go_wp2_with fail
    refine (C8.out _ K3.out).mono ?_; rintro e1 w4 ⟨rfl, k4⟩
    have K4 := Lib.hid (K3.out.tr k4); clear k4 K3
    go_wp2_with fail
    refine (C9.out _ K4.out).mono ?_; rintro e1 w5 ⟨rfl, k5⟩
    have K5 := Lib.hid (K4.out.tr k5); clear k5 K4
    go_wp2
    go_ret
    exact ⟨rfl, K5.out⟩
  · rcases hc with rfl | ⟨rfl, rfl⟩ <;> rcases hd with rfl | ⟨rfl, rfl⟩
    all_goals
      go_enter Try.func9, Try.ntmps9
      go_wp2_with fail
      refine (shawake_any _).mono ?_; rintro e0 w0 ⟨rfl, k0⟩
      go_wp2_with fail
      refine (C1.out _ k0).mono ?_; rintro e1 w1 ⟨rfl, k1⟩
      have K1 := Lib.hid (k0.tr k1); clear k0 k1
      go_wp2_with fail
      refine (C2.out _ K1.out).mono ?_; rintro e1 w2 ⟨rfl, k2⟩
      have K2 := Lib.hid (K1.out.tr k2); clear k2 K1
      go_wp2_with fail
      first
      | ((with_reducible refine (C3.out _ K2.out).mono ?_); rintro e1 w3 ⟨rfl, k3⟩
         have K2 := Lib.hid (K2.out.tr k3); clear k3
         go_wp2_with fail
         refine (C1.out _ K2.out).mono ?_; rintro e1 w4 ⟨rfl, k4⟩
         have K4 := Lib.hid (K2.out.tr k4); clear k4 K2)
      | (refine (C1.out _ K2.out).mono ?_; rintro e1 w4 ⟨rfl, k4⟩
         have K4 := Lib.hid (K2.out.tr k4); clear k4 K2)
      go_wp2_with fail
      refine (C4.out _ K4.out).mono ?_; rintro e1 w5 ⟨rfl, k5⟩
      have K5 := Lib.hid (K4.out.tr k5); clear k5 K4
      go_wp2_with fail
      first
      | ((with_reducible refine (C5.out _ K5.out).mono ?_); rintro e1 w6 ⟨rfl, k6⟩
         have K5 := Lib.hid (K5.out.tr k6); clear k6
         go_wp2_with fail
         refine (C1.out _ K5.out).mono ?_; rintro e1 w7 ⟨rfl, k7⟩
         have K7 := Lib.hid (K5.out.tr k7); clear k7 K5)
      | (refine (C1.out _ K5.out).mono ?_; rintro e1 w7 ⟨rfl, k7⟩
         have K7 := Lib.hid (K5.out.tr k7); clear k7 K5)
      go_wp2_with fail
      refine (C6.out _ K7.out).mono ?_; rintro e1 w8 ⟨rfl, rfl⟩
      go_wp2_with fail
      refine (C7.out _ K7.out).mono ?_; rintro e1 w8 ⟨rfl, rfl⟩
      go_wp2_with fail
      refine (C8.out _ K7.out).mono ?_; rintro e1 w9 ⟨rfl, k9⟩
      have K9 := Lib.hid (K7.out.tr k9); clear k9 K7
      go_wp2_with fail
      refine (C9.out _ K9.out).mono ?_; rintro e1 w10 ⟨rfl, k10⟩
      have K10 := Lib.hid (K9.out.tr k10); clear k10 K9
      go_wp2
      go_ret
      exact ⟨rfl, K10.out⟩

theorem shfits_far (A B C : Option Addr) (c d t n m o : Nat) (w : World) (h0 : n ≤ 9223372036854775807) (h0' : m ≤ 9223372036854775807) (h0'' : o ≤ 9223372036854775807) (h : 100 < n ∨ 100 < m ∨ 100 < o) :
    Calls Try.prog 9 #[.slice A n c, .slice B m d, .slice C o t] w fun e w' => e = .returned (.bool true) ∧ Kp w w' := by
  by_cases h1 : 100 < n
  all_goals by_cases h2 : 100 < m
  all_goals by_cases h3 : 100 < o
  all_goals
    first
    | exact absurd h (by omega)
    | (clear h
       go_enter Try.func9, Try.ntmps9
       go_wp2_with (go_at_call 10; refine (shawake_any _).mono ?_; rintro e0 w0 ⟨rfl, k0⟩)
       go_ret
       exact ⟨rfl, k0⟩)

theorem shfits_walk (A B C : Option Addr) (c d t : Nat) (a b l : List Int) (w : World) (h : Rd w A a) (g : Rd w B b) (k : Rd w C l) :
    Calls Try.prog 9 #[.slice A a.length c, .slice B b.length d, .slice C l.length t] w fun e w' => e = .returned (.bool true) ∧ Kp w w' := by
  by_cases hf : 100 < a.length ∨ 100 < b.length ∨ 100 < l.length
  · exact shfits_far A B C c d t _ _ _ w h.len g.len k.len hf
  · refine fits_with A B C c d t _ _ _ w (by omega) (by omega) (by omega) _ _ _ _ _ _ _ _ (fits_k h g rfl) (fits_k g k rfl) (fits_k h k rfl) (fits_k g h rfl) (same_k h g rfl) (size_k h rfl) (size_k g rfl) (fits_k h h (fits_self a)) (check_k h rfl) ?_
    cases e1 : fitsV a b with
    | false => exact .inl rfl
    | true =>
      refine .inr ⟨rfl, fits_sizes e1, ?_, ?_⟩
      · cases e2 : fitsV b l with
        | false => exact .inl rfl
        | true => exact .inr ⟨rfl, fits_trans e1 e2⟩
      · cases e4 : fitsV b a with
        | false => exact .inl rfl
        | true => exact .inr ⟨rfl, fits_anti e1 e4⟩
end Go.Proofs.Ytggdhfdklmmgjaa
