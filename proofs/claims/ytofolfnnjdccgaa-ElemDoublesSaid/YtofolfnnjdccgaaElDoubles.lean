/- A tensor and itself are twice it, a difference is the other side of the one turned, and roots, squared, are not above: the law's call returns true. -/
import Derived.Test.YtofolfnnjdccgaaElAw
import Derived.Test.YtofolfnnjdccgaaElQ
namespace Go.Proofs.Ytofolfnnjdccgaa
open Go.RowKit Go.Proofs.ShM
set_option linter.unusedVariables false

set_option maxHeartbeats 4000000 in
set_option maxRecDepth 100000 in
theorem edoubles_far0 (A B C D : Option Addr) (n c m d o e q f : Nat) (w : World) (zn : n ≤ 9223372036854775807) (zm : m ≤ 9223372036854775807) (hf : 100 < n ∨ 100 < m) :
    Calls Try.prog 7 #[.agg #[.slice A n c, .slice B m d], .agg #[.slice C o e, .slice D q f]] w fun e w' => e = .returned (.bool true) ∧ Kp w w' := by
  have HN : Hid (∀ W, Calls Try.prog 11 #[.agg #[.slice A n c, .slice B m d]] W fun e w' => e = .returned (.bool false) ∧ Kp W w') := fun W => few_no zn zm hf
  clear hf
  go_enter Try.func7, Try.ntmps7
  go_wp2_with fail
  refine (elawake_any _).mono ?_; rintro e0 w0 ⟨rfl, k0⟩
  have K := Lib.hid (((Kp.alloc_ _ _).al _).tr k0)
  have T0B : Hid (Bk w0 (w.heap.size) A n c B m d) := ((Bk.new rfl).alloc_ _).kp k0
  have T1B : Hid (Bk w0 (w.heap.size + 1) C o e D q f) := (Bk.new (by simp)).kp k0
  clear k0
  have zt0b0 := T0B.out.c0
  have zt0b1 := T0B.out.c1
  have zt0b2 := T0B.out.lt
  have zt1b0 := T1B.out.c0
  have zt1b1 := T1B.out.c1
  have zt1b2 := T1B.out.lt
  go_wp2_with fail
  refine (HN.out _).mono ?_; rintro e0 w1 ⟨rfl, k1⟩
  have K := Lib.hid (K.out.tr k1)
  have T0B := Lib.hid (T0B.out.kp k1)
  have T1B := Lib.hid (T1B.out.kp k1)
  clear k1 zt0b0 zt0b1 zt0b2 zt1b0 zt1b1 zt1b2
  have zt0b0 := T0B.out.c0
  have zt0b1 := T0B.out.c1
  have zt0b2 := T0B.out.lt
  have zt1b0 := T1B.out.c0
  have zt1b1 := T1B.out.c1
  have zt1b2 := T1B.out.lt
  go_wp2
  go_ret
  exact ⟨rfl, K.out⟩

set_option maxHeartbeats 4000000 in
set_option maxRecDepth 100000 in
theorem edoubles_far1 (A B C D : Option Addr) (n c m d o e q f : Nat) (w : World) (hn : n ≤ 100) (hm : m ≤ 100) (zo : o ≤ 9223372036854775807) (zq : q ≤ 9223372036854775807) (hf : 100 < o ∨ 100 < q) :
    Calls Try.prog 7 #[.agg #[.slice A n c, .slice B m d], .agg #[.slice C o e, .slice D q f]] w fun e w' => e = .returned (.bool true) ∧ Kp w w' := by
  have HN : Hid (∀ W, Calls Try.prog 11 #[.agg #[.slice C o e, .slice D q f]] W fun e w' => e = .returned (.bool false) ∧ Kp W w') := fun W => few_no zo zq hf
  clear hf
  go_enter Try.func7, Try.ntmps7
  go_wp2_with fail
  refine (elawake_any _).mono ?_; rintro e0 w0 ⟨rfl, k0⟩
  have K := Lib.hid (((Kp.alloc_ _ _).al _).tr k0)
  have T0B : Hid (Bk w0 (w.heap.size) A n c B m d) := ((Bk.new rfl).alloc_ _).kp k0
  have T1B : Hid (Bk w0 (w.heap.size + 1) C o e D q f) := (Bk.new (by simp)).kp k0
  clear k0
  have zt0b0 := T0B.out.c0
  have zt0b1 := T0B.out.c1
  have zt0b2 := T0B.out.lt
  have zt1b0 := T1B.out.c0
  have zt1b1 := T1B.out.c1
  have zt1b2 := T1B.out.lt
  go_wp2_with fail
  refine (few_yes hn hm).mono ?_; rintro e0 w1 ⟨rfl, k1⟩
  have K := Lib.hid (K.out.tr k1)
  have T0B := Lib.hid (T0B.out.kp k1)
  have T1B := Lib.hid (T1B.out.kp k1)
  clear k1 zt0b0 zt0b1 zt0b2 zt1b0 zt1b1 zt1b2
  have zt0b0 := T0B.out.c0
  have zt0b1 := T0B.out.c1
  have zt0b2 := T0B.out.lt
  have zt1b0 := T1B.out.c0
  have zt1b1 := T1B.out.c1
  have zt1b2 := T1B.out.lt
  go_wp2_with fail
  refine (HN.out _).mono ?_; rintro e0 w2 ⟨rfl, k2⟩
  have K := Lib.hid (K.out.tr k2)
  have T0B := Lib.hid (T0B.out.kp k2)
  have T1B := Lib.hid (T1B.out.kp k2)
  clear k2 zt0b0 zt0b1 zt0b2 zt1b0 zt1b1 zt1b2
  have zt0b0 := T0B.out.c0
  have zt0b1 := T0B.out.c1
  have zt0b2 := T0B.out.lt
  have zt1b0 := T1B.out.c0
  have zt1b1 := T1B.out.c1
  have zt1b2 := T1B.out.lt
  go_wp2
  go_ret
  exact ⟨rfl, K.out⟩

set_option maxHeartbeats 4000000 in
set_option maxRecDepth 100000 in
theorem edoubles_far2 (A B C D : Option Addr) (n c m d o e q f : Nat) (w : World) (hn : n ≤ 100) (hm : m ≤ 100) (ho : o ≤ 100) (hq : q ≤ 100) (HC0 : Hid (∀ W, Kp w W → Calls Try.prog 17 #[.agg #[.slice A n c, .slice B m d]] W fun e w' => e = .returned (.bool false) ∧ Kp W w')) :
    Calls Try.prog 7 #[.agg #[.slice A n c, .slice B m d], .agg #[.slice C o e, .slice D q f]] w fun e w' => e = .returned (.bool true) ∧ Kp w w' := by
  go_enter Try.func7, Try.ntmps7
  go_wp2_with fail
  refine (elawake_any _).mono ?_; rintro e0 w0 ⟨rfl, k0⟩
  have K := Lib.hid (((Kp.alloc_ _ _).al _).tr k0)
  have T0B : Hid (Bk w0 (w.heap.size) A n c B m d) := ((Bk.new rfl).alloc_ _).kp k0
  have T1B : Hid (Bk w0 (w.heap.size + 1) C o e D q f) := (Bk.new (by simp)).kp k0
  clear k0
  have zt0b0 := T0B.out.c0
  have zt0b1 := T0B.out.c1
  have zt0b2 := T0B.out.lt
  have zt1b0 := T1B.out.c0
  have zt1b1 := T1B.out.c1
  have zt1b2 := T1B.out.lt
  go_wp2_with fail
  refine (few_yes hn hm).mono ?_; rintro e0 w1 ⟨rfl, k1⟩
  have K := Lib.hid (K.out.tr k1)
  have T0B := Lib.hid (T0B.out.kp k1)
  have T1B := Lib.hid (T1B.out.kp k1)
  clear k1 zt0b0 zt0b1 zt0b2 zt1b0 zt1b1 zt1b2
  have zt0b0 := T0B.out.c0
  have zt0b1 := T0B.out.c1
  have zt0b2 := T0B.out.lt
  have zt1b0 := T1B.out.c0
  have zt1b1 := T1B.out.c1
  have zt1b2 := T1B.out.lt
  go_wp2_with fail
  refine (few_yes ho hq).mono ?_; rintro e0 w2 ⟨rfl, k2⟩
  have K := Lib.hid (K.out.tr k2)
  have T0B := Lib.hid (T0B.out.kp k2)
  have T1B := Lib.hid (T1B.out.kp k2)
  clear k2 zt0b0 zt0b1 zt0b2 zt1b0 zt1b1 zt1b2
  have zt0b0 := T0B.out.c0
  have zt0b1 := T0B.out.c1
  have zt0b2 := T0B.out.lt
  have zt1b0 := T1B.out.c0
  have zt1b1 := T1B.out.c1
  have zt1b2 := T1B.out.lt
  go_wp2_with fail
  refine (HC0.out _ K.out).mono ?_; rintro e0 w3 ⟨rfl, k3⟩
  have K := Lib.hid (K.out.tr k3)
  have T0B := Lib.hid (T0B.out.kp k3)
  have T1B := Lib.hid (T1B.out.kp k3)
  clear k3 zt0b0 zt0b1 zt0b2 zt1b0 zt1b1 zt1b2
  have zt0b0 := T0B.out.c0
  have zt0b1 := T0B.out.c1
  have zt0b2 := T0B.out.lt
  have zt1b0 := T1B.out.c0
  have zt1b1 := T1B.out.c1
  have zt1b2 := T1B.out.lt
  go_wp2
  go_ret
  exact ⟨rfl, K.out⟩

set_option maxHeartbeats 4000000 in
set_option maxRecDepth 100000 in
theorem edoubles_far3 (A B C D : Option Addr) (n c m d o e q f : Nat) (w : World) (hn : n ≤ 100) (hm : m ≤ 100) (ho : o ≤ 100) (hq : q ≤ 100) (HC0 : Hid (∀ W, Kp w W → Calls Try.prog 17 #[.agg #[.slice A n c, .slice B m d]] W fun e w' => e = .returned (.bool true) ∧ Kp W w')) (HC1 : Hid (∀ W, Kp w W → Calls Try.prog 17 #[.agg #[.slice C o e, .slice D q f]] W fun e w' => e = .returned (.bool false) ∧ Kp W w')) :
    Calls Try.prog 7 #[.agg #[.slice A n c, .slice B m d], .agg #[.slice C o e, .slice D q f]] w fun e w' => e = .returned (.bool true) ∧ Kp w w' := by
  go_enter Try.func7, Try.ntmps7
  go_wp2_with fail
  refine (elawake_any _).mono ?_; rintro e0 w0 ⟨rfl, k0⟩
  have K := Lib.hid (((Kp.alloc_ _ _).al _).tr k0)
  have T0B : Hid (Bk w0 (w.heap.size) A n c B m d) := ((Bk.new rfl).alloc_ _).kp k0
  have T1B : Hid (Bk w0 (w.heap.size + 1) C o e D q f) := (Bk.new (by simp)).kp k0
  clear k0
  have zt0b0 := T0B.out.c0
  have zt0b1 := T0B.out.c1
  have zt0b2 := T0B.out.lt
  have zt1b0 := T1B.out.c0
  have zt1b1 := T1B.out.c1
  have zt1b2 := T1B.out.lt
  go_wp2_with fail
  refine (few_yes hn hm).mono ?_; rintro e0 w1 ⟨rfl, k1⟩
  have K := Lib.hid (K.out.tr k1)
  have T0B := Lib.hid (T0B.out.kp k1)
  have T1B := Lib.hid (T1B.out.kp k1)
  clear k1 zt0b0 zt0b1 zt0b2 zt1b0 zt1b1 zt1b2
  have zt0b0 := T0B.out.c0
  have zt0b1 := T0B.out.c1
  have zt0b2 := T0B.out.lt
  have zt1b0 := T1B.out.c0
  have zt1b1 := T1B.out.c1
  have zt1b2 := T1B.out.lt
  go_wp2_with fail
  refine (few_yes ho hq).mono ?_; rintro e0 w2 ⟨rfl, k2⟩
  have K := Lib.hid (K.out.tr k2)
  have T0B := Lib.hid (T0B.out.kp k2)
  have T1B := Lib.hid (T1B.out.kp k2)
  clear k2 zt0b0 zt0b1 zt0b2 zt1b0 zt1b1 zt1b2
  have zt0b0 := T0B.out.c0
  have zt0b1 := T0B.out.c1
  have zt0b2 := T0B.out.lt
  have zt1b0 := T1B.out.c0
  have zt1b1 := T1B.out.c1
  have zt1b2 := T1B.out.lt
  go_wp2_with fail
  refine (HC0.out _ K.out).mono ?_; rintro e0 w3 ⟨rfl, k3⟩
  have K := Lib.hid (K.out.tr k3)
  have T0B := Lib.hid (T0B.out.kp k3)
  have T1B := Lib.hid (T1B.out.kp k3)
  clear k3 zt0b0 zt0b1 zt0b2 zt1b0 zt1b1 zt1b2
  have zt0b0 := T0B.out.c0
  have zt0b1 := T0B.out.c1
  have zt0b2 := T0B.out.lt
  have zt1b0 := T1B.out.c0
  have zt1b1 := T1B.out.c1
  have zt1b2 := T1B.out.lt
  go_wp2_with fail
  refine (HC1.out _ K.out).mono ?_; rintro e0 w4 ⟨rfl, k4⟩
  have K := Lib.hid (K.out.tr k4)
  have T0B := Lib.hid (T0B.out.kp k4)
  have T1B := Lib.hid (T1B.out.kp k4)
  clear k4 zt0b0 zt0b1 zt0b2 zt1b0 zt1b1 zt1b2
  have zt0b0 := T0B.out.c0
  have zt0b1 := T0B.out.c1
  have zt0b2 := T0B.out.lt
  have zt1b0 := T1B.out.c0
  have zt1b1 := T1B.out.c1
  have zt1b2 := T1B.out.lt
  go_wp2
  go_ret
  exact ⟨rfl, K.out⟩

set_option maxHeartbeats 8000000 in
set_option maxRecDepth 100000 in
theorem edoubles_with (A B C D : Option Addr) (n c m d o e q f : Nat) (w : World) (hn : n ≤ 100) (hm : m ≤ 100) (ho : o ≤ 100) (hq : q ≤ 100) (HC0 : Hid (∀ W, Kp w W → Calls Try.prog 17 #[.agg #[.slice A n c, .slice B m d]] W fun e w' => e = .returned (.bool true) ∧ Kp W w')) (HC1 : Hid (∀ W, Kp w W → Calls Try.prog 17 #[.agg #[.slice C o e, .slice D q f]] W fun e w' => e = .returned (.bool true) ∧ Kp W w')) (s xs l1 k1 l3 k3 l4 k4 l5 k5 l6 k6 l7 k7 : List Int) (a1 b1 a3 b3 a4 b4 a5 b5 a6 b6 a7 b7 : Nat) (e1 e3 e4 e5 e6 e7 : Int) (hm64 : m ≤ 64)
    (L0 : Hid (s.length = n ∧ xs.length = m)) (L1 : Hid (l1.length = a1 ∧ k1.length = b1)) (L3 : Hid (l3.length = a3 ∧ k3.length = b3)) (HT : Hid (TR w A s B xs))
    (HE : Hid (e3 = 0 → e4 = 0 → e5 = 0 ∧ l3 = l5 ∧ k3 = k5 ∧ a3 = a5 ∧ b3 = b5))
    (HQ : Hid (e6 = 0 → e7 = 0 ∧ m = b7 ∧ k7.length = m ∧ ∀ (k : Nat) (x : Int), xs[k]? = some x → 0 ≤ x ∧ ∃ y, k7[k]? = some y ∧ y ≤ x))
    (C1 : Hid (∀ W, Kp w W → Calls Try.prog 14 #[.int .i64 10, .agg #[.slice A n c, .slice B m d], .agg #[.slice A n c, .slice B m d]] W (RetU l1 k1 a1 b1 e1 W)))
    (C2 : Hid (∀ W B0 d0, Kp w W → TR W none [] B0 [8589934592] → Calls Try.prog 14 #[.int .i64 12, .agg #[.slice A n c, .slice B m d], .agg #[.slice none 0 0, .slice B0 1 d0]] W (RetU l1 k1 a1 b1 e1 W)))
    (C3 : Hid (∀ W, Kp w W → Calls Try.prog 14 #[.int .i64 11, .agg #[.slice A n c, .slice B m d], .agg #[.slice C o e, .slice D q f]] W (RetU l3 k3 a3 b3 e3 W)))
    (C4 : Hid (∀ W, Kp w W → Calls Try.prog 14 #[.int .i64 11, .agg #[.slice C o e, .slice D q f], .agg #[.slice A n c, .slice B m d]] W (RetU l4 k4 a4 b4 e4 W)))
    (C5 : Hid (∀ W A0 B0 c0 d0, Kp w W → TR W A0 l4 B0 k4 → Calls Try.prog 12 #[.int .i64 20, .agg #[.slice A0 a4 c0, .slice B0 b4 d0]] W (RetU l5 k5 a5 b5 e5 W)))
    (C6 : Hid (∀ W, Kp w W → Calls Try.prog 12 #[.int .i64 23, .agg #[.slice A n c, .slice B m d]] W (RetU l6 k6 a6 b6 e6 W)))
    (C7 : Hid (∀ W A0 B0 c0 d0, Kp w W → TR W A0 l6 B0 k6 → Calls Try.prog 14 #[.int .i64 12, .agg #[.slice A0 a6 c0, .slice B0 b6 d0], .agg #[.slice A0 a6 c0, .slice B0 b6 d0]] W (RetU l7 k7 a7 b7 e7 W))) :
    Calls Try.prog 7 #[.agg #[.slice A n c, .slice B m d], .agg #[.slice C o e, .slice D q f]] w fun e w' => e = .returned (.bool true) ∧ Kp w w' := by
  go_enter Try.func7, Try.ntmps7
  go_wp2_with fail
  refine (elawake_any _).mono ?_; rintro e0 w0 ⟨rfl, k0⟩
  have K := Lib.hid (((Kp.alloc_ _ _).al _).tr k0)
  have T0B : Hid (Bk w0 (w.heap.size) A n c B m d) := ((Bk.new rfl).alloc_ _).kp k0
  have T1B : Hid (Bk w0 (w.heap.size + 1) C o e D q f) := (Bk.new (by simp)).kp k0
  clear k0
  have zt0b0 := T0B.out.c0
  have zt0b1 := T0B.out.c1
  have zt0b2 := T0B.out.lt
  have zt1b0 := T1B.out.c0
  have zt1b1 := T1B.out.c1
  have zt1b2 := T1B.out.lt
  go_wp2_with fail
  refine (few_yes hn hm).mono ?_; rintro e0 w1 ⟨rfl, k1⟩
  have K := Lib.hid (K.out.tr k1)
  have T0B := Lib.hid (T0B.out.kp k1)
  have T1B := Lib.hid (T1B.out.kp k1)
  clear k1 zt0b0 zt0b1 zt0b2 zt1b0 zt1b1 zt1b2
  have zt0b0 := T0B.out.c0
  have zt0b1 := T0B.out.c1
  have zt0b2 := T0B.out.lt
  have zt1b0 := T1B.out.c0
  have zt1b1 := T1B.out.c1
  have zt1b2 := T1B.out.lt
  go_wp2_with fail
  refine (few_yes ho hq).mono ?_; rintro e0 w2 ⟨rfl, k2⟩
  have K := Lib.hid (K.out.tr k2)
  have T0B := Lib.hid (T0B.out.kp k2)
  have T1B := Lib.hid (T1B.out.kp k2)
  clear k2 zt0b0 zt0b1 zt0b2 zt1b0 zt1b1 zt1b2
  have zt0b0 := T0B.out.c0
  have zt0b1 := T0B.out.c1
  have zt0b2 := T0B.out.lt
  have zt1b0 := T1B.out.c0
  have zt1b1 := T1B.out.c1
  have zt1b2 := T1B.out.lt
  go_wp2_with fail
  refine (HC0.out _ K.out).mono ?_; rintro e0 w3 ⟨rfl, k3⟩
  have K := Lib.hid (K.out.tr k3)
  have T0B := Lib.hid (T0B.out.kp k3)
  have T1B := Lib.hid (T1B.out.kp k3)
  clear k3 zt0b0 zt0b1 zt0b2 zt1b0 zt1b1 zt1b2
  have zt0b0 := T0B.out.c0
  have zt0b1 := T0B.out.c1
  have zt0b2 := T0B.out.lt
  have zt1b0 := T1B.out.c0
  have zt1b1 := T1B.out.c1
  have zt1b2 := T1B.out.lt
  go_wp2_with fail
  refine (HC1.out _ K.out).mono ?_; rintro e0 w4 ⟨rfl, k4⟩
  have K := Lib.hid (K.out.tr k4)
  have T0B := Lib.hid (T0B.out.kp k4)
  have T1B := Lib.hid (T1B.out.kp k4)
  clear k4 zt0b0 zt0b1 zt0b2 zt1b0 zt1b1 zt1b2
  have zt0b0 := T0B.out.c0
  have zt0b1 := T0B.out.c1
  have zt0b2 := T0B.out.lt
  have zt1b0 := T1B.out.c0
  have zt1b1 := T1B.out.c1
  have zt1b2 := T1B.out.lt
  go_wp2_with fail
  refine (C1.out _ K.out).mono ?_; rintro e0 w5 ⟨A5, c5, B5, d5, rfl, r5, k5⟩
  have K := Lib.hid (K.out.tr k5)
  have T0B := Lib.hid (T0B.out.kp k5)
  have T1B := Lib.hid (T1B.out.kp k5)
  have S := Lib.hid r5
  clear k5 r5 zt0b0 zt0b1 zt0b2 zt1b0 zt1b1 zt1b2
  have zt0b0 := T0B.out.c0
  have zt0b1 := T0B.out.c1
  have zt0b2 := T0B.out.lt
  go_wp2_with fail
  refine (C2.out _ _ _ ((K.out.al _).al _) ⟨Rd.nil _ _, Rd.one_ (by simp)⟩).mono ?_; rintro e0 w6 ⟨A6, c6, B6, d6, rfl, r6, k6⟩
  have K := Lib.hid (((K.out.al _).al _).tr k6)
  have T0B := Lib.hid (((T0B.out.alloc_ _).alloc_ _).kp k6)
  have T1B := Lib.hid (((T1B.out.alloc_ _).alloc_ _).kp k6)
  have S := Lib.hid (((S.out.alloc_ _).alloc_ _).kp k6)
  have SB : Hid (Bk w6 w5.heap.size A5 a1 c5 B5 b1 d5) := ((Bk.new rfl).alloc_ _).kp k6
  have T := Lib.hid r6
  clear k6 r6 zt0b0 zt0b1 zt0b2
  have zt0b0 := T0B.out.c0
  have zt0b1 := T0B.out.c1
  have zt0b2 := T0B.out.lt
  have zt1b0 := T1B.out.c0
  have zt1b1 := T1B.out.c1
  have zt1b2 := T1B.out.lt
  go_wp2_with fail
  refine (C3.out _ (K.out.al _)).mono ?_; rintro e0 w7 ⟨A7, c7, B7, d7, rfl, r7, k7⟩
  have K := Lib.hid ((K.out.al _).tr k7)
  have T0B := Lib.hid ((T0B.out.alloc_ _).kp k7)
  have T1B := Lib.hid ((T1B.out.alloc_ _).kp k7)
  have SB := Lib.hid ((SB.out.alloc_ _).kp k7)
  have S := Lib.hid ((S.out.alloc_ _).kp k7)
  have T := Lib.hid ((T.out.alloc_ _).kp k7)
  have TB : Hid (Bk w7 w6.heap.size A6 a1 c6 B6 b1 d6) := (Bk.new rfl).kp k7
  have D := Lib.hid r7
  clear k7 r7 zt0b0 zt0b1 zt0b2 zt1b0 zt1b1 zt1b2
  have zt0b0 := T0B.out.c0
  have zt0b1 := T0B.out.c1
  have zt0b2 := T0B.out.lt
  have zt1b0 := T1B.out.c0
  have zt1b1 := T1B.out.c1
  have zt1b2 := T1B.out.lt
  go_wp2_with fail
  refine (C4.out _ (K.out.al _)).mono ?_; rintro e0 w8 ⟨A8, c8, B8, d8, rfl, r8, k8⟩
  have K := Lib.hid ((K.out.al _).tr k8)
  have T0B := Lib.hid ((T0B.out.alloc_ _).kp k8)
  have T1B := Lib.hid ((T1B.out.alloc_ _).kp k8)
  have SB := Lib.hid ((SB.out.alloc_ _).kp k8)
  have TB := Lib.hid ((TB.out.alloc_ _).kp k8)
  have S := Lib.hid ((S.out.alloc_ _).kp k8)
  have T := Lib.hid ((T.out.alloc_ _).kp k8)
  have D := Lib.hid ((D.out.alloc_ _).kp k8)
  have DB : Hid (Bk w8 w7.heap.size A7 a3 c7 B7 b3 d7) := (Bk.new rfl).kp k8
  have E := Lib.hid r8
  clear k8 r8 zt0b0 zt0b1 zt0b2 zt1b0 zt1b1 zt1b2
  go_wp2_with fail
  refine (C5.out _ _ _ _ _ (K.out.al _) (E.out.alloc_ _)).mono ?_; rintro e0 w9 ⟨A9, c9, B9, d9, rfl, r9, k9⟩
  have K := Lib.hid ((K.out.al _).tr k9)
  have T0B := Lib.hid ((T0B.out.alloc_ _).kp k9)
  have T1B := Lib.hid ((T1B.out.alloc_ _).kp k9)
  have SB := Lib.hid ((SB.out.alloc_ _).kp k9)
  have TB := Lib.hid ((TB.out.alloc_ _).kp k9)
  have DB := Lib.hid ((DB.out.alloc_ _).kp k9)
  have S := Lib.hid ((S.out.alloc_ _).kp k9)
  have T := Lib.hid ((T.out.alloc_ _).kp k9)
  have D := Lib.hid ((D.out.alloc_ _).kp k9)
  have E := Lib.hid ((E.out.alloc_ _).kp k9)
  have EB : Hid (Bk w9 w8.heap.size A8 a4 c8 B8 b4 d8) := (Bk.new rfl).kp k9
  have N := Lib.hid r9
  clear k9 r9
  have zt0b0 := T0B.out.c0
  have zt0b1 := T0B.out.c1
  have zt0b2 := T0B.out.lt
  go_wp2_with fail
  refine (C6.out _ (K.out.al _)).mono ?_; rintro e0 w10 ⟨A10, c10, B10, d10, rfl, r10, k10⟩
  have K := Lib.hid ((K.out.al _).tr k10)
  have T0B := Lib.hid ((T0B.out.alloc_ _).kp k10)
  have T1B := Lib.hid ((T1B.out.alloc_ _).kp k10)
  have SB := Lib.hid ((SB.out.alloc_ _).kp k10)
  have TB := Lib.hid ((TB.out.alloc_ _).kp k10)
  have DB := Lib.hid ((DB.out.alloc_ _).kp k10)
  have EB := Lib.hid ((EB.out.alloc_ _).kp k10)
  have S := Lib.hid ((S.out.alloc_ _).kp k10)
  have T := Lib.hid ((T.out.alloc_ _).kp k10)
  have D := Lib.hid ((D.out.alloc_ _).kp k10)
  have E := Lib.hid ((E.out.alloc_ _).kp k10)
  have N := Lib.hid ((N.out.alloc_ _).kp k10)
  have NB : Hid (Bk w10 w9.heap.size A9 a5 c9 B9 b5 d9) := (Bk.new rfl).kp k10
  have R := Lib.hid r10
  clear k10 r10 zt0b0 zt0b1 zt0b2
  go_wp2_with fail
  refine (C7.out _ _ _ _ _ (K.out.al _) (R.out.alloc_ _)).mono ?_; rintro e0 w11 ⟨A11, c11, B11, d11, rfl, r11, k11⟩
  have K := Lib.hid ((K.out.al _).tr k11)
  have T0B := Lib.hid ((T0B.out.alloc_ _).kp k11)
  have T1B := Lib.hid ((T1B.out.alloc_ _).kp k11)
  have SB := Lib.hid ((SB.out.alloc_ _).kp k11)
  have TB := Lib.hid ((TB.out.alloc_ _).kp k11)
  have DB := Lib.hid ((DB.out.alloc_ _).kp k11)
  have EB := Lib.hid ((EB.out.alloc_ _).kp k11)
  have NB := Lib.hid ((NB.out.alloc_ _).kp k11)
  have S := Lib.hid ((S.out.alloc_ _).kp k11)
  have T := Lib.hid ((T.out.alloc_ _).kp k11)
  have D := Lib.hid ((D.out.alloc_ _).kp k11)
  have E := Lib.hid ((E.out.alloc_ _).kp k11)
  have N := Lib.hid ((N.out.alloc_ _).kp k11)
  have R := Lib.hid ((R.out.alloc_ _).kp k11)
  have RB : Hid (Bk w11 w10.heap.size A10 a6 c10 B10 b6 d10) := (Bk.new rfl).kp k11
  have Q := Lib.hid r11
  clear k11 r11
  by_cases h6 : e6 = 0
  · obtain ⟨u1, u2, u3, HK⟩ := HQ.out h6
    subst u1 u2 h6
    have HK := Lib.hid HK
    have HL := Lib.hid u3
    clear u3
    have zt0b0 := T0B.out.c0
    have zt0b1 := T0B.out.c1
    have zt0b2 := T0B.out.lt
    go_upto_region 14 with fail
    obtain ⟨W0, HW0⟩ : ∃ W0, Hid (W0 = w11.alloc (.cells #[.slice A11 a7 c11, .slice B11 m d11] 24)) := ⟨_, rfl⟩
    have hkx : Kp w11 W0 := by rw [HW0.out]; exact Kp.alloc_ _ _
    have QB : Hid (Bk W0 w11.heap.size A11 a7 c11 B11 m d11) := by show Bk _ _ _ _ _ _ _ _; rw [HW0.out]; exact Bk.new rfl
    rw [← HW0.out]
    have K := Lib.hid (K.out.tr hkx)
    have T0B := Lib.hid (T0B.out.kp hkx)
    have T1B := Lib.hid (T1B.out.kp hkx)
    have SB := Lib.hid (SB.out.kp hkx)
    have TB := Lib.hid (TB.out.kp hkx)
    have DB := Lib.hid (DB.out.kp hkx)
    have EB := Lib.hid (EB.out.kp hkx)
    have NB := Lib.hid (NB.out.kp hkx)
    have RB := Lib.hid (RB.out.kp hkx)
    have S := Lib.hid (S.out.kp hkx)
    have T := Lib.hid (T.out.kp hkx)
    have D := Lib.hid (D.out.kp hkx)
    have E := Lib.hid (E.out.kp hkx)
    have N := Lib.hid (N.out.kp hkx)
    have R := Lib.hid (R.out.kp hkx)
    have Q := Lib.hid (Q.out.kp hkx)
    clear hkx HW0 zt0b0 zt0b1 zt0b2
    go_loopw [20] (fun i wr => ∃ k : Nat, i = .int .i64 k ∧ Hid (k ≤ m) ∧ Hid (Kp W0 wr)) (fun i _ => m - (intOf i).toNat)
    case atStart => exact ⟨0, rfl, Lib.hid (Nat.zero_le _), Kp.refl _⟩
    case round =>
      obtain ⟨k, rfl, hkm, hk0⟩ := hrel
      have hkm' : k ≤ m := hkm.out
      have K := Lib.hid (K.out.tr hk0.out)
      have T0B := Lib.hid (T0B.out.kp hk0.out)
      have T1B := Lib.hid (T1B.out.kp hk0.out)
      have SB := Lib.hid (SB.out.kp hk0.out)
      have TB := Lib.hid (TB.out.kp hk0.out)
      have DB := Lib.hid (DB.out.kp hk0.out)
      have EB := Lib.hid (EB.out.kp hk0.out)
      have NB := Lib.hid (NB.out.kp hk0.out)
      have RB := Lib.hid (RB.out.kp hk0.out)
      have QB := Lib.hid (QB.out.kp hk0.out)
      have S := Lib.hid (S.out.kp hk0.out)
      have T := Lib.hid (T.out.kp hk0.out)
      have D := Lib.hid (D.out.kp hk0.out)
      have E := Lib.hid (E.out.kp hk0.out)
      have N := Lib.hid (N.out.kp hk0.out)
      have R := Lib.hid (R.out.kp hk0.out)
      have Q := Lib.hid (Q.out.kp hk0.out)
      have t0 := T0B.out.c1
      by_cases hlt : k < m
      · have hlx : k < xs.length := by rw [L0.out.2]; exact hlt
        obtain ⟨ad, x, rfl, hbl, hx, hc⟩ := (HT.out.kp K.out).d.at_ hlx
        obtain ⟨ar, y, rfl, hbl2, hy, hc2⟩ := Q.out.d.at_ (k := k) (by rw [HL.out]; exact hlt)
        obtain ⟨g1, y', g2, g3⟩ := HK.out k x hx
        obtain rfl : y = y' := by rw [hy] at g2; exact Option.some.inj g2
        have r0 := QB.out.c1
        have j1 : (0 : Int) ≤ (k : Int) := by omega
        have j2 : (k : Int) < (m : Int) := by omega
        have y1 : (decide (x < 0)) = false := by simp; omega
        have y2 : (decide (x < y)) = false := by simp; omega
        clear hx hy hlx g1 g2 g3
        go_wp2
        go_quiet (fail)
        go_wp2
        go_roundw
        case rel => exact ⟨k + 1, by go_num, Lib.hid hlt, hk0.out.tr (Kp.drewN_ _ _)⟩
        case measure => simp [intOf]; omega
      · have hkm2 : k = m := by omega
        subst hkm2
        have zsb0 := SB.out.c0
        have zsb1 := SB.out.c1
        have zsb2 := SB.out.lt
        have ztb0 := TB.out.c0
        have ztb1 := TB.out.c1
        have ztb2 := TB.out.lt
        go_wp2_with fail
        refine (tsame_u S.out T.out L1.out.1 L1.out.2).mono ?_; rintro e0 w12 ⟨rfl, k12⟩
        have K := Lib.hid (K.out.tr k12)
        have T0B := Lib.hid (T0B.out.kp k12)
        have T1B := Lib.hid (T1B.out.kp k12)
        have SB := Lib.hid (SB.out.kp k12)
        have TB := Lib.hid (TB.out.kp k12)
        have DB := Lib.hid (DB.out.kp k12)
        have EB := Lib.hid (EB.out.kp k12)
        have NB := Lib.hid (NB.out.kp k12)
        have RB := Lib.hid (RB.out.kp k12)
        have QB := Lib.hid (QB.out.kp k12)
        have S := Lib.hid (S.out.kp k12)
        have T := Lib.hid (T.out.kp k12)
        have D := Lib.hid (D.out.kp k12)
        have E := Lib.hid (E.out.kp k12)
        have N := Lib.hid (N.out.kp k12)
        have R := Lib.hid (R.out.kp k12)
        have Q := Lib.hid (Q.out.kp k12)
        clear k12 zsb0 zsb1 zsb2 ztb0 ztb1 ztb2
        have zdb0 := DB.out.c0
        have zdb1 := DB.out.c1
        have zdb2 := DB.out.lt
        have znb0 := NB.out.c0
        have znb1 := NB.out.c1
        have znb2 := NB.out.lt
        by_cases h3 : e3 = 0
        · by_cases h4 : e4 = 0
          · obtain ⟨q1, q2, q3, q4, q5⟩ := HE.out h3 h4
            subst h3 h4 q1 q2 q3 q4 q5
            go_wp2_with fail
            refine (tsame_u D.out N.out L3.out.1 L3.out.2).mono ?_; rintro e0 w13 ⟨rfl, k13⟩
            have K := Lib.hid (K.out.tr k13)
            have T0B := Lib.hid (T0B.out.kp k13)
            have T1B := Lib.hid (T1B.out.kp k13)
            have SB := Lib.hid (SB.out.kp k13)
            have TB := Lib.hid (TB.out.kp k13)
            have DB := Lib.hid (DB.out.kp k13)
            have EB := Lib.hid (EB.out.kp k13)
            have NB := Lib.hid (NB.out.kp k13)
            have RB := Lib.hid (RB.out.kp k13)
            have QB := Lib.hid (QB.out.kp k13)
            have S := Lib.hid (S.out.kp k13)
            have T := Lib.hid (T.out.kp k13)
            have D := Lib.hid (D.out.kp k13)
            have E := Lib.hid (E.out.kp k13)
            have N := Lib.hid (N.out.kp k13)
            have R := Lib.hid (R.out.kp k13)
            have Q := Lib.hid (Q.out.kp k13)
            clear k13 zdb0 zdb1 zdb2 znb0 znb1 znb2
            go_wp2
            go_ret
            exact ⟨rfl, K.out⟩
          · subst h3
            go_wp2
            go_ret
            exact ⟨rfl, K.out⟩
        · skip
          go_wp2
          go_ret
          exact ⟨rfl, K.out⟩
  · have h6' : (e6 == 0) = false := by simpa using h6
    have zt0b0 := T0B.out.c0
    have zt0b1 := T0B.out.c1
    have zt0b2 := T0B.out.lt
    go_upto_region 14 with fail
    obtain ⟨W0, HW0⟩ : ∃ W0, Hid (W0 = w11.alloc (.cells #[.slice A11 a7 c11, .slice B11 b7 d11] 24)) := ⟨_, rfl⟩
    have hkx : Kp w11 W0 := by rw [HW0.out]; exact Kp.alloc_ _ _
    have QB : Hid (Bk W0 w11.heap.size A11 a7 c11 B11 b7 d11) := by show Bk _ _ _ _ _ _ _ _; rw [HW0.out]; exact Bk.new rfl
    rw [← HW0.out]
    have K := Lib.hid (K.out.tr hkx)
    have T0B := Lib.hid (T0B.out.kp hkx)
    have T1B := Lib.hid (T1B.out.kp hkx)
    have SB := Lib.hid (SB.out.kp hkx)
    have TB := Lib.hid (TB.out.kp hkx)
    have DB := Lib.hid (DB.out.kp hkx)
    have EB := Lib.hid (EB.out.kp hkx)
    have NB := Lib.hid (NB.out.kp hkx)
    have RB := Lib.hid (RB.out.kp hkx)
    have S := Lib.hid (S.out.kp hkx)
    have T := Lib.hid (T.out.kp hkx)
    have D := Lib.hid (D.out.kp hkx)
    have E := Lib.hid (E.out.kp hkx)
    have N := Lib.hid (N.out.kp hkx)
    have R := Lib.hid (R.out.kp hkx)
    have Q := Lib.hid (Q.out.kp hkx)
    clear hkx HW0 zt0b0 zt0b1 zt0b2
    go_loopw [20] (fun i wr => i = .int .i64 0 ∧ Hid (Kp W0 wr)) (fun i _ => 0)
    case atStart => exact ⟨rfl, Kp.refl _⟩
    case round =>
      obtain ⟨rfl, hk0⟩ := hrel
      have K := Lib.hid (K.out.tr hk0.out)
      have T0B := Lib.hid (T0B.out.kp hk0.out)
      have T1B := Lib.hid (T1B.out.kp hk0.out)
      have SB := Lib.hid (SB.out.kp hk0.out)
      have TB := Lib.hid (TB.out.kp hk0.out)
      have DB := Lib.hid (DB.out.kp hk0.out)
      have EB := Lib.hid (EB.out.kp hk0.out)
      have NB := Lib.hid (NB.out.kp hk0.out)
      have RB := Lib.hid (RB.out.kp hk0.out)
      have QB := Lib.hid (QB.out.kp hk0.out)
      have S := Lib.hid (S.out.kp hk0.out)
      have T := Lib.hid (T.out.kp hk0.out)
      have D := Lib.hid (D.out.kp hk0.out)
      have E := Lib.hid (E.out.kp hk0.out)
      have N := Lib.hid (N.out.kp hk0.out)
      have R := Lib.hid (R.out.kp hk0.out)
      have Q := Lib.hid (Q.out.kp hk0.out)
      have t0 := T0B.out.c1
      by_cases hlt : 0 < m
      · have j2 : (0 : Int) < (m : Int) := by omega
        have zsb0 := SB.out.c0
        have zsb1 := SB.out.c1
        have zsb2 := SB.out.lt
        have ztb0 := TB.out.c0
        have ztb1 := TB.out.c1
        have ztb2 := TB.out.lt
        go_wp2_with fail
        refine (tsame_u S.out T.out L1.out.1 L1.out.2).mono ?_; rintro e0 w12 ⟨rfl, k12⟩
        have K := Lib.hid (K.out.tr k12)
        have T0B := Lib.hid (T0B.out.kp k12)
        have T1B := Lib.hid (T1B.out.kp k12)
        have SB := Lib.hid (SB.out.kp k12)
        have TB := Lib.hid (TB.out.kp k12)
        have DB := Lib.hid (DB.out.kp k12)
        have EB := Lib.hid (EB.out.kp k12)
        have NB := Lib.hid (NB.out.kp k12)
        have RB := Lib.hid (RB.out.kp k12)
        have QB := Lib.hid (QB.out.kp k12)
        have S := Lib.hid (S.out.kp k12)
        have T := Lib.hid (T.out.kp k12)
        have D := Lib.hid (D.out.kp k12)
        have E := Lib.hid (E.out.kp k12)
        have N := Lib.hid (N.out.kp k12)
        have R := Lib.hid (R.out.kp k12)
        have Q := Lib.hid (Q.out.kp k12)
        clear k12 zsb0 zsb1 zsb2 ztb0 ztb1 ztb2
        have zdb0 := DB.out.c0
        have zdb1 := DB.out.c1
        have zdb2 := DB.out.lt
        have znb0 := NB.out.c0
        have znb1 := NB.out.c1
        have znb2 := NB.out.lt
        by_cases h3 : e3 = 0
        · by_cases h4 : e4 = 0
          · obtain ⟨q1, q2, q3, q4, q5⟩ := HE.out h3 h4
            subst h3 h4 q1 q2 q3 q4 q5
            go_wp2_with fail
            refine (tsame_u D.out N.out L3.out.1 L3.out.2).mono ?_; rintro e0 w13 ⟨rfl, k13⟩
            have K := Lib.hid (K.out.tr k13)
            have T0B := Lib.hid (T0B.out.kp k13)
            have T1B := Lib.hid (T1B.out.kp k13)
            have SB := Lib.hid (SB.out.kp k13)
            have TB := Lib.hid (TB.out.kp k13)
            have DB := Lib.hid (DB.out.kp k13)
            have EB := Lib.hid (EB.out.kp k13)
            have NB := Lib.hid (NB.out.kp k13)
            have RB := Lib.hid (RB.out.kp k13)
            have QB := Lib.hid (QB.out.kp k13)
            have S := Lib.hid (S.out.kp k13)
            have T := Lib.hid (T.out.kp k13)
            have D := Lib.hid (D.out.kp k13)
            have E := Lib.hid (E.out.kp k13)
            have N := Lib.hid (N.out.kp k13)
            have R := Lib.hid (R.out.kp k13)
            have Q := Lib.hid (Q.out.kp k13)
            clear k13 zdb0 zdb1 zdb2 znb0 znb1 znb2
            go_wp2
            go_ret
            exact ⟨rfl, K.out⟩
          · subst h3
            go_wp2
            go_ret
            exact ⟨rfl, K.out⟩
        · skip
          go_wp2
          go_ret
          exact ⟨rfl, K.out⟩
      · have hm0 : m = 0 := by omega
        subst hm0
        have zsb0 := SB.out.c0
        have zsb1 := SB.out.c1
        have zsb2 := SB.out.lt
        have ztb0 := TB.out.c0
        have ztb1 := TB.out.c1
        have ztb2 := TB.out.lt
        go_wp2_with fail
        refine (tsame_u S.out T.out L1.out.1 L1.out.2).mono ?_; rintro e0 w12 ⟨rfl, k12⟩
        have K := Lib.hid (K.out.tr k12)
        have T0B := Lib.hid (T0B.out.kp k12)
        have T1B := Lib.hid (T1B.out.kp k12)
        have SB := Lib.hid (SB.out.kp k12)
        have TB := Lib.hid (TB.out.kp k12)
        have DB := Lib.hid (DB.out.kp k12)
        have EB := Lib.hid (EB.out.kp k12)
        have NB := Lib.hid (NB.out.kp k12)
        have RB := Lib.hid (RB.out.kp k12)
        have QB := Lib.hid (QB.out.kp k12)
        have S := Lib.hid (S.out.kp k12)
        have T := Lib.hid (T.out.kp k12)
        have D := Lib.hid (D.out.kp k12)
        have E := Lib.hid (E.out.kp k12)
        have N := Lib.hid (N.out.kp k12)
        have R := Lib.hid (R.out.kp k12)
        have Q := Lib.hid (Q.out.kp k12)
        clear k12 zsb0 zsb1 zsb2 ztb0 ztb1 ztb2
        have zdb0 := DB.out.c0
        have zdb1 := DB.out.c1
        have zdb2 := DB.out.lt
        have znb0 := NB.out.c0
        have znb1 := NB.out.c1
        have znb2 := NB.out.lt
        by_cases h3 : e3 = 0
        · by_cases h4 : e4 = 0
          · obtain ⟨q1, q2, q3, q4, q5⟩ := HE.out h3 h4
            subst h3 h4 q1 q2 q3 q4 q5
            go_wp2_with fail
            refine (tsame_u D.out N.out L3.out.1 L3.out.2).mono ?_; rintro e0 w13 ⟨rfl, k13⟩
            have K := Lib.hid (K.out.tr k13)
            have T0B := Lib.hid (T0B.out.kp k13)
            have T1B := Lib.hid (T1B.out.kp k13)
            have SB := Lib.hid (SB.out.kp k13)
            have TB := Lib.hid (TB.out.kp k13)
            have DB := Lib.hid (DB.out.kp k13)
            have EB := Lib.hid (EB.out.kp k13)
            have NB := Lib.hid (NB.out.kp k13)
            have RB := Lib.hid (RB.out.kp k13)
            have QB := Lib.hid (QB.out.kp k13)
            have S := Lib.hid (S.out.kp k13)
            have T := Lib.hid (T.out.kp k13)
            have D := Lib.hid (D.out.kp k13)
            have E := Lib.hid (E.out.kp k13)
            have N := Lib.hid (N.out.kp k13)
            have R := Lib.hid (R.out.kp k13)
            have Q := Lib.hid (Q.out.kp k13)
            clear k13 zdb0 zdb1 zdb2 znb0 znb1 znb2
            go_wp2
            go_ret
            exact ⟨rfl, K.out⟩
          · subst h3
            go_wp2
            go_ret
            exact ⟨rfl, K.out⟩
        · skip
          go_wp2
          go_ret
          exact ⟨rfl, K.out⟩

theorem edoubles_walk (A B C D : Option Addr) (c d e f : Nat) (s xs t ys : List Int) (w : World) (R0 : TR w A s B xs) (I0 : I64s xs) (R1 : TR w C t D ys) (I1 : I64s ys) :
    Calls Try.prog 7 #[.agg #[.slice A s.length c, .slice B xs.length d], .agg #[.slice C t.length e, .slice D ys.length f]] w fun e w' => e = .returned (.bool true) ∧ Kp w w' := by
  by_cases f0 : 100 < s.length ∨ 100 < xs.length
  · exact edoubles_far0 A B C D _ c _ d _ e _ f w  R0.s.len R0.d.len f0
  by_cases f1 : 100 < t.length ∨ 100 < ys.length
  · exact edoubles_far1 A B C D _ c _ d _ e _ f w (by omega) (by omega) R1.s.len R1.d.len f1
  by_cases b0 : tokV s xs = false
  · exact edoubles_far2 A B C D _ c _ d _ e _ f w (by omega) (by omega) (by omega) (by omega) (Lib.hid fun W k => tcheck_u s xs (R0.kp k) rfl rfl b0)
  have b0 : tokV s xs = true := by simpa using b0
  by_cases b1 : tokV t ys = false
  · exact edoubles_far3 A B C D _ c _ d _ e _ f w (by omega) (by omega) (by omega) (by omega) (Lib.hid fun W k => tcheck_u s xs (R0.kp k) rfl rfl b0) (Lib.hid fun W k => tcheck_u t ys (R1.kp k) rfl rfl b1)
  have b1 : tokV t ys = true := by simpa using b1
  obtain ⟨l1, k1, e1, r1⟩ : ∃ l k e, twoV 10 s xs s xs = (l, k, e) := ⟨_, _, _, rfl⟩
  obtain ⟨l3, k3, e3, r3⟩ : ∃ l k e, twoV 11 s xs t ys = (l, k, e) := ⟨_, _, _, rfl⟩
  obtain ⟨l4, k4, e4, r4⟩ : ∃ l k e, twoV 11 t ys s xs = (l, k, e) := ⟨_, _, _, rfl⟩
  obtain ⟨l5, k5, e5, r5⟩ : ∃ l k e, oneV 20 l4 k4 = (l, k, e) := ⟨_, _, _, rfl⟩
  obtain ⟨l6, k6, e6, r6⟩ : ∃ l k e, oneV 23 s xs = (l, k, e) := ⟨_, _, _, rfl⟩
  obtain ⟨l7, k7, e7, r7⟩ : ∃ l k e, twoV 12 l6 k6 l6 k6 = (l, k, e) := ⟨_, _, _, rfl⟩
  have hi4 : I64s k4 := by have := two_i64 11 t ys s xs; rw [r4] at this; exact this
  have hi6 : I64s k6 := by have := one_i64 23 s I0; rw [r6] at this; exact this
  have hi1 : I64s [8589934592] := by unfold I64s; decide
  refine edoubles_with A B C D _ c _ d _ e _ f w (by omega) (by omega) (by omega) (by omega) (Lib.hid fun W k => tcheck_u s xs (R0.kp k) rfl rfl b0) (Lib.hid fun W k => tcheck_u t ys (R1.kp k) rfl rfl b1) s xs l1 k1 l3 k3 l4 k4 l5 k5 l6 k6 l7 k7 _ _ _ _ _ _ _ _ _ _ _ _ e1 e3 e4 e5 e6 e7 (tok_len b0).2.2.2 (Lib.hid ⟨rfl, rfl⟩) (Lib.hid ⟨rfl, rfl⟩) (Lib.hid ⟨rfl, rfl⟩) (Lib.hid R0) (Lib.hid ?_) (Lib.hid ?_)
    (Lib.hid fun W k => two_u s xs s xs (R0.kp k) (R0.kp k) I0 I0 rfl rfl rfl rfl r1 rfl rfl)
    (Lib.hid fun W B0 d0 k r => two_u s xs [] [8589934592] (R0.kp k) r I0 hi1 rfl rfl rfl rfl (by rw [← double_two b0]; exact r1) rfl rfl)
    (Lib.hid fun W k => two_u s xs t ys (R0.kp k) (R1.kp k) I0 I1 rfl rfl rfl rfl r3 rfl rfl)
    (Lib.hid fun W k => two_u t ys s xs (R1.kp k) (R0.kp k) I1 I0 rfl rfl rfl rfl r4 rfl rfl)
    (Lib.hid fun W A0 B0 c0 d0 k r => one_u l4 k4 r hi4 rfl rfl r5 rfl rfl)
    (Lib.hid fun W k => one_u s xs (R0.kp k) I0 rfl rfl r6 rfl rfl)
    (Lib.hid fun W A0 B0 c0 d0 k r => two_u l6 k6 l6 k6 r r hi6 hi6 rfl rfl rfl rfl r7 rfl rfl)
  · intro z3 z4
    have h := sub_turn (s := s) (xs := xs) (t := t) (ys := ys) (by rw [r3]; exact z3) (by rw [r4]; exact z4)
    rw [r4, r3] at h
    dsimp only at h
    rw [r5] at h
    subst z3
    obtain ⟨rfl, rfl, rfl⟩ : l5 = l3 ∧ k5 = k3 ∧ e5 = 0 := by simpa using h
    exact ⟨rfl, rfl, rfl, rfl, rfl⟩
  · intro z6
    obtain ⟨rs, q1, Q, q2, q3, q4⟩ := root_two I0 (by rw [r6]; exact z6)
    rw [q1] at r6
    obtain ⟨rfl, rfl, rfl⟩ : s = l6 ∧ rs = k6 ∧ 0 = e6 := by simpa using r6
    rw [q2] at r7
    obtain ⟨rfl, rfl, rfl⟩ : s = l7 ∧ Q = k7 ∧ 0 = e7 := by simpa using r7
    refine ⟨rfl, q3.symm, q3, fun k x hx => ?_⟩
    obtain ⟨g1, g2⟩ := q4 k x hx
    exact ⟨g1, g2⟩
end Go.Proofs.Ytofolfnnjdccgaa
