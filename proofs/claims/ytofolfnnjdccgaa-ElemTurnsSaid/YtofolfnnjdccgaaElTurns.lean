/- Sums and products do not hang on which is first, a tensor less itself is 0 throughout, what is added is taken away again: the law's call returns true. -/
import Derived.Test.YtofolfnnjdccgaaElAw
import Derived.Test.YtofolfnnjdccgaaElL
namespace Go.Proofs.Ytofolfnnjdccgaa
open Go.RowKit Go.Proofs.ShM
set_option linter.unusedVariables false

set_option maxHeartbeats 4000000 in
set_option maxRecDepth 100000 in
theorem eturns_far0 (A B C D : Option Addr) (n c m d o e q f : Nat) (w : World) (zn : n ≤ 9223372036854775807) (zm : m ≤ 9223372036854775807) (hf : 100 < n ∨ 100 < m) :
    Calls Try.prog 4 #[.agg #[.slice A n c, .slice B m d], .agg #[.slice C o e, .slice D q f]] w fun e w' => e = .returned (.bool true) ∧ Kp w w' := by
  have HN : Hid (∀ W, Calls Try.prog 11 #[.agg #[.slice A n c, .slice B m d]] W fun e w' => e = .returned (.bool false) ∧ Kp W w') := fun W => few_no zn zm hf
  clear hf
  go_enter Try.func4, Try.ntmps4
  go_wp2_with fail
  refine (elawake_any _).mono ?_; rintro e0 w0 ⟨rfl, k0⟩
  have K := Lib.hid (((Kp.alloc_ _ _).al _).tr k0)
  have T0B : Hid (Bk w0 (w.heap.size) A n c B m d) := ((Bk.new rfl).alloc_ _).kp k0
  have T1B : Hid (Bk w0 (w.heap.size + 1) C o e D q f) := (Bk.new (by simp)).kp k0
  clear k0
  have zt0b0 := T0B.out.c0
  have zt0b1 := T0B.out.c1
  have zt0b2 := T0B.out.lt
  have zt1b0 := T1B.out.c0
  have zt1b1 := T1B.out.c1
  have zt1b2 := T1B.out.lt
  go_wp2_with fail
  refine (HN.out _).mono ?_; rintro e0 w1 ⟨rfl, k1⟩
  have K := Lib.hid (K.out.tr k1)
  have T0B := Lib.hid (T0B.out.kp k1)
  have T1B := Lib.hid (T1B.out.kp k1)
  clear k1 zt0b0 zt0b1 zt0b2 zt1b0 zt1b1 zt1b2
  have zt0b0 := T0B.out.c0
  have zt0b1 := T0B.out.c1
  have zt0b2 := T0B.out.lt
  have zt1b0 := T1B.out.c0
  have zt1b1 := T1B.out.c1
  have zt1b2 := T1B.out.lt
  go_wp2
  go_ret
  exact ⟨rfl, K.out⟩

set_option maxHeartbeats 4000000 in
set_option maxRecDepth 100000 in
theorem eturns_far1 (A B C D : Option Addr) (n c m d o e q f : Nat) (w : World) (hn : n ≤ 100) (hm : m ≤ 100) (zo : o ≤ 9223372036854775807) (zq : q ≤ 9223372036854775807) (hf : 100 < o ∨ 100 < q) :
    Calls Try.prog 4 #[.agg #[.slice A n c, .slice B m d], .agg #[.slice C o e, .slice D q f]] w fun e w' => e = .returned (.bool true) ∧ Kp w w' := by
  have HN : Hid (∀ W, Calls Try.prog 11 #[.agg #[.slice C o e, .slice D q f]] W fun e w' => e = .returned (.bool false) ∧ Kp W w') := fun W => few_no zo zq hf
  clear hf
  go_enter Try.func4, Try.ntmps4
  go_wp2_with fail
  refine (elawake_any _).mono ?_; rintro e0 w0 ⟨rfl, k0⟩
  have K := Lib.hid (((Kp.alloc_ _ _).al _).tr k0)
  have T0B : Hid (Bk w0 (w.heap.size) A n c B m d) := ((Bk.new rfl).alloc_ _).kp k0
  have T1B : Hid (Bk w0 (w.heap.size + 1) C o e D q f) := (Bk.new (by simp)).kp k0
  clear k0
  have zt0b0 := T0B.out.c0
  have zt0b1 := T0B.out.c1
  have zt0b2 := T0B.out.lt
  have zt1b0 := T1B.out.c0
  have zt1b1 := T1B.out.c1
  have zt1b2 := T1B.out.lt
  go_wp2_with fail
  refine (few_yes hn hm).mono ?_; rintro e0 w1 ⟨rfl, k1⟩
  have K := Lib.hid (K.out.tr k1)
  have T0B := Lib.hid (T0B.out.kp k1)
  have T1B := Lib.hid (T1B.out.kp k1)
  clear k1 zt0b0 zt0b1 zt0b2 zt1b0 zt1b1 zt1b2
  have zt0b0 := T0B.out.c0
  have zt0b1 := T0B.out.c1
  have zt0b2 := T0B.out.lt
  have zt1b0 := T1B.out.c0
  have zt1b1 := T1B.out.c1
  have zt1b2 := T1B.out.lt
  go_wp2_with fail
  refine (HN.out _).mono ?_; rintro e0 w2 ⟨rfl, k2⟩
  have K := Lib.hid (K.out.tr k2)
  have T0B := Lib.hid (T0B.out.kp k2)
  have T1B := Lib.hid (T1B.out.kp k2)
  clear k2 zt0b0 zt0b1 zt0b2 zt1b0 zt1b1 zt1b2
  have zt0b0 := T0B.out.c0
  have zt0b1 := T0B.out.c1
  have zt0b2 := T0B.out.lt
  have zt1b0 := T1B.out.c0
  have zt1b1 := T1B.out.c1
  have zt1b2 := T1B.out.lt
  go_wp2
  go_ret
  exact ⟨rfl, K.out⟩

set_option maxHeartbeats 4000000 in
set_option maxRecDepth 100000 in
theorem eturns_far2 (A B C D : Option Addr) (n c m d o e q f : Nat) (w : World) (hn : n ≤ 100) (hm : m ≤ 100) (ho : o ≤ 100) (hq : q ≤ 100) (HC0 : Hid (∀ W, Kp w W → Calls Try.prog 17 #[.agg #[.slice A n c, .slice B m d]] W fun e w' => e = .returned (.bool false) ∧ Kp W w')) :
    Calls Try.prog 4 #[.agg #[.slice A n c, .slice B m d], .agg #[.slice C o e, .slice D q f]] w fun e w' => e = .returned (.bool true) ∧ Kp w w' := by
  go_enter Try.func4, Try.ntmps4
  go_wp2_with fail
  refine (elawake_any _).mono ?_; rintro e0 w0 ⟨rfl, k0⟩
  have K := Lib.hid (((Kp.alloc_ _ _).al _).tr k0)
  have T0B : Hid (Bk w0 (w.heap.size) A n c B m d) := ((Bk.new rfl).alloc_ _).kp k0
  have T1B : Hid (Bk w0 (w.heap.size + 1) C o e D q f) := (Bk.new (by simp)).kp k0
  clear k0
  have zt0b0 := T0B.out.c0
  have zt0b1 := T0B.out.c1
  have zt0b2 := T0B.out.lt
  have zt1b0 := T1B.out.c0
  have zt1b1 := T1B.out.c1
  have zt1b2 := T1B.out.lt
  go_wp2_with fail
  refine (few_yes hn hm).mono ?_; rintro e0 w1 ⟨rfl, k1⟩
  have K := Lib.hid (K.out.tr k1)
  have T0B := Lib.hid (T0B.out.kp k1)
  have T1B := Lib.hid (T1B.out.kp k1)
  clear k1 zt0b0 zt0b1 zt0b2 zt1b0 zt1b1 zt1b2
  have zt0b0 := T0B.out.c0
  have zt0b1 := T0B.out.c1
  have zt0b2 := T0B.out.lt
  have zt1b0 := T1B.out.c0
  have zt1b1 := T1B.out.c1
  have zt1b2 := T1B.out.lt
  go_wp2_with fail
  refine (few_yes ho hq).mono ?_; rintro e0 w2 ⟨rfl, k2⟩
  have K := Lib.hid (K.out.tr k2)
  have T0B := Lib.hid (T0B.out.kp k2)
  have T1B := Lib.hid (T1B.out.kp k2)
  clear k2 zt0b0 zt0b1 zt0b2 zt1b0 zt1b1 zt1b2
  have zt0b0 := T0B.out.c0
  have zt0b1 := T0B.out.c1
  have zt0b2 := T0B.out.lt
  have zt1b0 := T1B.out.c0
  have zt1b1 := T1B.out.c1
  have zt1b2 := T1B.out.lt
  go_wp2_with fail
  refine (HC0.out _ K.out).mono ?_; rintro e0 w3 ⟨rfl, k3⟩
  have K := Lib.hid (K.out.tr k3)
  have T0B := Lib.hid (T0B.out.kp k3)
  have T1B := Lib.hid (T1B.out.kp k3)
  clear k3 zt0b0 zt0b1 zt0b2 zt1b0 zt1b1 zt1b2
  have zt0b0 := T0B.out.c0
  have zt0b1 := T0B.out.c1
  have zt0b2 := T0B.out.lt
  have zt1b0 := T1B.out.c0
  have zt1b1 := T1B.out.c1
  have zt1b2 := T1B.out.lt
  go_wp2
  go_ret
  exact ⟨rfl, K.out⟩

set_option maxHeartbeats 4000000 in
set_option maxRecDepth 100000 in
theorem eturns_far3 (A B C D : Option Addr) (n c m d o e q f : Nat) (w : World) (hn : n ≤ 100) (hm : m ≤ 100) (ho : o ≤ 100) (hq : q ≤ 100) (HC0 : Hid (∀ W, Kp w W → Calls Try.prog 17 #[.agg #[.slice A n c, .slice B m d]] W fun e w' => e = .returned (.bool true) ∧ Kp W w')) (HC1 : Hid (∀ W, Kp w W → Calls Try.prog 17 #[.agg #[.slice C o e, .slice D q f]] W fun e w' => e = .returned (.bool false) ∧ Kp W w')) :
    Calls Try.prog 4 #[.agg #[.slice A n c, .slice B m d], .agg #[.slice C o e, .slice D q f]] w fun e w' => e = .returned (.bool true) ∧ Kp w w' := by
  go_enter Try.func4, Try.ntmps4
  go_wp2_with fail
  refine (elawake_any _).mono ?_; rintro e0 w0 ⟨rfl, k0⟩
  have K := Lib.hid (((Kp.alloc_ _ _).al _).tr k0)
  have T0B : Hid (Bk w0 (w.heap.size) A n c B m d) := ((Bk.new rfl).alloc_ _).kp k0
  have T1B : Hid (Bk w0 (w.heap.size + 1) C o e D q f) := (Bk.new (by simp)).kp k0
  clear k0
  have zt0b0 := T0B.out.c0
  have zt0b1 := T0B.out.c1
  have zt0b2 := T0B.out.lt
  have zt1b0 := T1B.out.c0
  have zt1b1 := T1B.out.c1
  have zt1b2 := T1B.out.lt
  go_wp2_with fail
  refine (few_yes hn hm).mono ?_; rintro e0 w1 ⟨rfl, k1⟩
  have K := Lib.hid (K.out.tr k1)
  have T0B := Lib.hid (T0B.out.kp k1)
  have T1B := Lib.hid (T1B.out.kp k1)
  clear k1 zt0b0 zt0b1 zt0b2 zt1b0 zt1b1 zt1b2
  have zt0b0 := T0B.out.c0
  have zt0b1 := T0B.out.c1
  have zt0b2 := T0B.out.lt
  have zt1b0 := T1B.out.c0
  have zt1b1 := T1B.out.c1
  have zt1b2 := T1B.out.lt
  go_wp2_with fail
  refine (few_yes ho hq).mono ?_; rintro e0 w2 ⟨rfl, k2⟩
  have K := Lib.hid (K.out.tr k2)
  have T0B := Lib.hid (T0B.out.kp k2)
  have T1B := Lib.hid (T1B.out.kp k2)
  clear k2 zt0b0 zt0b1 zt0b2 zt1b0 zt1b1 zt1b2
  have zt0b0 := T0B.out.c0
  have zt0b1 := T0B.out.c1
  have zt0b2 := T0B.out.lt
  have zt1b0 := T1B.out.c0
  have zt1b1 := T1B.out.c1
  have zt1b2 := T1B.out.lt
  go_wp2_with fail
  refine (HC0.out _ K.out).mono ?_; rintro e0 w3 ⟨rfl, k3⟩
  have K := Lib.hid (K.out.tr k3)
  have T0B := Lib.hid (T0B.out.kp k3)
  have T1B := Lib.hid (T1B.out.kp k3)
  clear k3 zt0b0 zt0b1 zt0b2 zt1b0 zt1b1 zt1b2
  have zt0b0 := T0B.out.c0
  have zt0b1 := T0B.out.c1
  have zt0b2 := T0B.out.lt
  have zt1b0 := T1B.out.c0
  have zt1b1 := T1B.out.c1
  have zt1b2 := T1B.out.lt
  go_wp2_with fail
  refine (HC1.out _ K.out).mono ?_; rintro e0 w4 ⟨rfl, k4⟩
  have K := Lib.hid (K.out.tr k4)
  have T0B := Lib.hid (T0B.out.kp k4)
  have T1B := Lib.hid (T1B.out.kp k4)
  clear k4 zt0b0 zt0b1 zt0b2 zt1b0 zt1b1 zt1b2
  have zt0b0 := T0B.out.c0
  have zt0b1 := T0B.out.c1
  have zt0b2 := T0B.out.lt
  have zt1b0 := T1B.out.c0
  have zt1b1 := T1B.out.c1
  have zt1b2 := T1B.out.lt
  go_wp2
  go_ret
  exact ⟨rfl, K.out⟩

set_option maxHeartbeats 8000000 in
set_option maxRecDepth 100000 in
theorem eturns_with (A B C D : Option Addr) (n c m d o e q f : Nat) (w : World) (hn : n ≤ 100) (hm : m ≤ 100) (ho : o ≤ 100) (hq : q ≤ 100) (HC0 : Hid (∀ W, Kp w W → Calls Try.prog 17 #[.agg #[.slice A n c, .slice B m d]] W fun e w' => e = .returned (.bool true) ∧ Kp W w')) (HC1 : Hid (∀ W, Kp w W → Calls Try.prog 17 #[.agg #[.slice C o e, .slice D q f]] W fun e w' => e = .returned (.bool true) ∧ Kp W w')) (s l1 k1 l2 k2 k5 l7 k7 l8 k8 : List Int) (a1 b1 a2 b2 a7 b7 a8 b8 : Nat) (e1 e2 e7 e8 : Int)
    (L1 : Hid (l1.length = a1 ∧ k1.length = b1)) (L2 : Hid (l2.length = a2 ∧ k2.length = b2)) (L5 : Hid (s.length = n ∧ k5.length = m)) (L7 : Hid (l7.length = a7 ∧ k7.length = b7))
    (HE : Hid (e1 = 0 → e7 = 0 ∧ e8 = 0 ∧ l7 = l8 ∧ k7 = k8 ∧ a7 = a8 ∧ b7 = b8))
    (C1 : Hid (∀ W, Kp w W → Calls Try.prog 14 #[.int .i64 10, .agg #[.slice A n c, .slice B m d], .agg #[.slice C o e, .slice D q f]] W (RetU l1 k1 a1 b1 e1 W)))
    (C2 : Hid (∀ W, Kp w W → Calls Try.prog 14 #[.int .i64 10, .agg #[.slice C o e, .slice D q f], .agg #[.slice A n c, .slice B m d]] W (RetU l1 k1 a1 b1 e1 W)))
    (C3 : Hid (∀ W, Kp w W → Calls Try.prog 14 #[.int .i64 12, .agg #[.slice A n c, .slice B m d], .agg #[.slice C o e, .slice D q f]] W (RetU l2 k2 a2 b2 e2 W)))
    (C4 : Hid (∀ W, Kp w W → Calls Try.prog 14 #[.int .i64 12, .agg #[.slice C o e, .slice D q f], .agg #[.slice A n c, .slice B m d]] W (RetU l2 k2 a2 b2 e2 W)))
    (C5 : Hid (∀ W, Kp w W → Calls Try.prog 14 #[.int .i64 11, .agg #[.slice A n c, .slice B m d], .agg #[.slice A n c, .slice B m d]] W (RetU s k5 n m 0 W)))
    (C6 : Hid (∀ W, Kp w W → Calls Try.prog 18 #[.slice A n c, .int .i64 0] W (RetU s k5 n m 0 W)))
    (C7 : Hid (∀ W A0 B0 c0 d0, Kp w W → TR W A0 l1 B0 k1 → Calls Try.prog 14 #[.int .i64 11, .agg #[.slice A0 a1 c0, .slice B0 b1 d0], .agg #[.slice C o e, .slice D q f]] W (RetU l7 k7 a7 b7 e7 W)))
    (C8 : Hid (∀ W A0 c0, Kp w W → Rd W A0 l1 → Calls Try.prog 19 #[.agg #[.slice A n c, .slice B m d], .slice A0 a1 c0] W (RetU l8 k8 a8 b8 e8 W))) :
    Calls Try.prog 4 #[.agg #[.slice A n c, .slice B m d], .agg #[.slice C o e, .slice D q f]] w fun e w' => e = .returned (.bool true) ∧ Kp w w' := by
  go_enter Try.func4, Try.ntmps4
  go_wp2_with fail
  refine (elawake_any _).mono ?_; rintro e0 w0 ⟨rfl, k0⟩
  have K := Lib.hid (((Kp.alloc_ _ _).al _).tr k0)
  have T0B : Hid (Bk w0 (w.heap.size) A n c B m d) := ((Bk.new rfl).alloc_ _).kp k0
  have T1B : Hid (Bk w0 (w.heap.size + 1) C o e D q f) := (Bk.new (by simp)).kp k0
  clear k0
  have zt0b0 := T0B.out.c0
  have zt0b1 := T0B.out.c1
  have zt0b2 := T0B.out.lt
  have zt1b0 := T1B.out.c0
  have zt1b1 := T1B.out.c1
  have zt1b2 := T1B.out.lt
  go_wp2_with fail
  refine (few_yes hn hm).mono ?_; rintro e0 w1 ⟨rfl, k1⟩
  have K := Lib.hid (K.out.tr k1)
  have T0B := Lib.hid (T0B.out.kp k1)
  have T1B := Lib.hid (T1B.out.kp k1)
  clear k1 zt0b0 zt0b1 zt0b2 zt1b0 zt1b1 zt1b2
  have zt0b0 := T0B.out.c0
  have zt0b1 := T0B.out.c1
  have zt0b2 := T0B.out.lt
  have zt1b0 := T1B.out.c0
  have zt1b1 := T1B.out.c1
  have zt1b2 := T1B.out.lt
  go_wp2_with fail
  refine (few_yes ho hq).mono ?_; rintro e0 w2 ⟨rfl, k2⟩
  have K := Lib.hid (K.out.tr k2)
  have T0B := Lib.hid (T0B.out.kp k2)
  have T1B := Lib.hid (T1B.out.kp k2)
  clear k2 zt0b0 zt0b1 zt0b2 zt1b0 zt1b1 zt1b2
  have zt0b0 := T0B.out.c0
  have zt0b1 := T0B.out.c1
  have zt0b2 := T0B.out.lt
  have zt1b0 := T1B.out.c0
  have zt1b1 := T1B.out.c1
  have zt1b2 := T1B.out.lt
  go_wp2_with fail
  refine (HC0.out _ K.out).mono ?_; rintro e0 w3 ⟨rfl, k3⟩
  have K := Lib.hid (K.out.tr k3)
  have T0B := Lib.hid (T0B.out.kp k3)
  have T1B := Lib.hid (T1B.out.kp k3)
  clear k3 zt0b0 zt0b1 zt0b2 zt1b0 zt1b1 zt1b2
  have zt0b0 := T0B.out.c0
  have zt0b1 := T0B.out.c1
  have zt0b2 := T0B.out.lt
  have zt1b0 := T1B.out.c0
  have zt1b1 := T1B.out.c1
  have zt1b2 := T1B.out.lt
  go_wp2_with fail
  refine (HC1.out _ K.out).mono ?_; rintro e0 w4 ⟨rfl, k4⟩
  have K := Lib.hid (K.out.tr k4)
  have T0B := Lib.hid (T0B.out.kp k4)
  have T1B := Lib.hid (T1B.out.kp k4)
  clear k4 zt0b0 zt0b1 zt0b2 zt1b0 zt1b1 zt1b2
  have zt0b0 := T0B.out.c0
  have zt0b1 := T0B.out.c1
  have zt0b2 := T0B.out.lt
  have zt1b0 := T1B.out.c0
  have zt1b1 := T1B.out.c1
  have zt1b2 := T1B.out.lt
  go_wp2_with fail
  refine (C1.out _ K.out).mono ?_; rintro e0 w5 ⟨A5, c5, B5, d5, rfl, r5, k5⟩
  have K := Lib.hid (K.out.tr k5)
  have T0B := Lib.hid (T0B.out.kp k5)
  have T1B := Lib.hid (T1B.out.kp k5)
  have X := Lib.hid r5
  clear k5 r5 zt0b0 zt0b1 zt0b2 zt1b0 zt1b1 zt1b2
  have zt0b0 := T0B.out.c0
  have zt0b1 := T0B.out.c1
  have zt0b2 := T0B.out.lt
  have zt1b0 := T1B.out.c0
  have zt1b1 := T1B.out.c1
  have zt1b2 := T1B.out.lt
  go_wp2_with fail
  refine (C2.out _ (K.out.al _)).mono ?_; rintro e0 w6 ⟨A6, c6, B6, d6, rfl, r6, k6⟩
  have K := Lib.hid ((K.out.al _).tr k6)
  have T0B := Lib.hid ((T0B.out.alloc_ _).kp k6)
  have T1B := Lib.hid ((T1B.out.alloc_ _).kp k6)
  have X := Lib.hid ((X.out.alloc_ _).kp k6)
  have XB : Hid (Bk w6 w5.heap.size A5 a1 c5 B5 b1 d5) := (Bk.new rfl).kp k6
  have Y := Lib.hid r6
  clear k6 r6 zt0b0 zt0b1 zt0b2 zt1b0 zt1b1 zt1b2
  have zt0b0 := T0B.out.c0
  have zt0b1 := T0B.out.c1
  have zt0b2 := T0B.out.lt
  have zt1b0 := T1B.out.c0
  have zt1b1 := T1B.out.c1
  have zt1b2 := T1B.out.lt
  have zxb0 := XB.out.c0
  have zxb1 := XB.out.c1
  have zxb2 := XB.out.lt
  go_wp2_with fail
  refine (C3.out _ (K.out.al _)).mono ?_; rintro e0 w7 ⟨A7, c7, B7, d7, rfl, r7, k7⟩
  have K := Lib.hid ((K.out.al _).tr k7)
  have T0B := Lib.hid ((T0B.out.alloc_ _).kp k7)
  have T1B := Lib.hid ((T1B.out.alloc_ _).kp k7)
  have XB := Lib.hid ((XB.out.alloc_ _).kp k7)
  have X := Lib.hid ((X.out.alloc_ _).kp k7)
  have Y := Lib.hid ((Y.out.alloc_ _).kp k7)
  have YB : Hid (Bk w7 w6.heap.size A6 a1 c6 B6 b1 d6) := (Bk.new rfl).kp k7
  have P := Lib.hid r7
  clear k7 r7 zt0b0 zt0b1 zt0b2 zt1b0 zt1b1 zt1b2 zxb0 zxb1 zxb2
  have zt0b0 := T0B.out.c0
  have zt0b1 := T0B.out.c1
  have zt0b2 := T0B.out.lt
  have zt1b0 := T1B.out.c0
  have zt1b1 := T1B.out.c1
  have zt1b2 := T1B.out.lt
  go_wp2_with fail
  refine (C4.out _ (K.out.al _)).mono ?_; rintro e0 w8 ⟨A8, c8, B8, d8, rfl, r8, k8⟩
  have K := Lib.hid ((K.out.al _).tr k8)
  have T0B := Lib.hid ((T0B.out.alloc_ _).kp k8)
  have T1B := Lib.hid ((T1B.out.alloc_ _).kp k8)
  have XB := Lib.hid ((XB.out.alloc_ _).kp k8)
  have YB := Lib.hid ((YB.out.alloc_ _).kp k8)
  have X := Lib.hid ((X.out.alloc_ _).kp k8)
  have Y := Lib.hid ((Y.out.alloc_ _).kp k8)
  have P := Lib.hid ((P.out.alloc_ _).kp k8)
  have PB : Hid (Bk w8 w7.heap.size A7 a2 c7 B7 b2 d7) := (Bk.new rfl).kp k8
  have Q := Lib.hid r8
  clear k8 r8 zt0b0 zt0b1 zt0b2 zt1b0 zt1b1 zt1b2
  have zt0b0 := T0B.out.c0
  have zt0b1 := T0B.out.c1
  have zt0b2 := T0B.out.lt
  go_wp2_with fail
  refine (C5.out _ (K.out.al _)).mono ?_; rintro e0 w9 ⟨A9, c9, B9, d9, rfl, r9, k9⟩
  have K := Lib.hid ((K.out.al _).tr k9)
  have T0B := Lib.hid ((T0B.out.alloc_ _).kp k9)
  have T1B := Lib.hid ((T1B.out.alloc_ _).kp k9)
  have XB := Lib.hid ((XB.out.alloc_ _).kp k9)
  have YB := Lib.hid ((YB.out.alloc_ _).kp k9)
  have PB := Lib.hid ((PB.out.alloc_ _).kp k9)
  have X := Lib.hid ((X.out.alloc_ _).kp k9)
  have Y := Lib.hid ((Y.out.alloc_ _).kp k9)
  have P := Lib.hid ((P.out.alloc_ _).kp k9)
  have Q := Lib.hid ((Q.out.alloc_ _).kp k9)
  have QB : Hid (Bk w9 w8.heap.size A8 a2 c8 B8 b2 d8) := (Bk.new rfl).kp k9
  have Z := Lib.hid r9
  clear k9 r9 zt0b0 zt0b1 zt0b2
  have zt0b0 := T0B.out.c0
  have zt0b1 := T0B.out.c1
  have zt0b2 := T0B.out.lt
  go_wp2_with fail
  refine (C6.out _ (K.out.al _)).mono ?_; rintro e0 w10 ⟨A10, c10, B10, d10, rfl, r10, k10⟩
  have K := Lib.hid ((K.out.al _).tr k10)
  have T0B := Lib.hid ((T0B.out.alloc_ _).kp k10)
  have T1B := Lib.hid ((T1B.out.alloc_ _).kp k10)
  have XB := Lib.hid ((XB.out.alloc_ _).kp k10)
  have YB := Lib.hid ((YB.out.alloc_ _).kp k10)
  have PB := Lib.hid ((PB.out.alloc_ _).kp k10)
  have QB := Lib.hid ((QB.out.alloc_ _).kp k10)
  have X := Lib.hid ((X.out.alloc_ _).kp k10)
  have Y := Lib.hid ((Y.out.alloc_ _).kp k10)
  have P := Lib.hid ((P.out.alloc_ _).kp k10)
  have Q := Lib.hid ((Q.out.alloc_ _).kp k10)
  have Z := Lib.hid ((Z.out.alloc_ _).kp k10)
  have ZB : Hid (Bk w10 w9.heap.size A9 n c9 B9 m d9) := (Bk.new rfl).kp k10
  have N := Lib.hid r10
  clear k10 r10 zt0b0 zt0b1 zt0b2
  have zxb0 := XB.out.c0
  have zxb1 := XB.out.c1
  have zxb2 := XB.out.lt
  have zt1b0 := T1B.out.c0
  have zt1b1 := T1B.out.c1
  have zt1b2 := T1B.out.lt
  go_wp2_with fail
  refine (C7.out _ _ _ _ _ (K.out.al _) (X.out.alloc_ _)).mono ?_; rintro e0 w11 ⟨A11, c11, B11, d11, rfl, r11, k11⟩
  have K := Lib.hid ((K.out.al _).tr k11)
  have T0B := Lib.hid ((T0B.out.alloc_ _).kp k11)
  have T1B := Lib.hid ((T1B.out.alloc_ _).kp k11)
  have XB := Lib.hid ((XB.out.alloc_ _).kp k11)
  have YB := Lib.hid ((YB.out.alloc_ _).kp k11)
  have PB := Lib.hid ((PB.out.alloc_ _).kp k11)
  have QB := Lib.hid ((QB.out.alloc_ _).kp k11)
  have ZB := Lib.hid ((ZB.out.alloc_ _).kp k11)
  have X := Lib.hid ((X.out.alloc_ _).kp k11)
  have Y := Lib.hid ((Y.out.alloc_ _).kp k11)
  have P := Lib.hid ((P.out.alloc_ _).kp k11)
  have Q := Lib.hid ((Q.out.alloc_ _).kp k11)
  have Z := Lib.hid ((Z.out.alloc_ _).kp k11)
  have N := Lib.hid ((N.out.alloc_ _).kp k11)
  have NB : Hid (Bk w11 w10.heap.size A10 n c10 B10 m d10) := (Bk.new rfl).kp k11
  have R := Lib.hid r11
  clear k11 r11 zxb0 zxb1 zxb2 zt1b0 zt1b1 zt1b2
  have zt0b0 := T0B.out.c0
  have zt0b1 := T0B.out.c1
  have zt0b2 := T0B.out.lt
  have zxb0 := XB.out.c0
  have zxb1 := XB.out.c1
  have zxb2 := XB.out.lt
  go_wp2_with fail
  refine (C8.out _ _ _ (K.out.al _) (X.out.alloc_ _).s).mono ?_; rintro e0 w12 ⟨A12, c12, B12, d12, rfl, r12, k12⟩
  have K := Lib.hid ((K.out.al _).tr k12)
  have T0B := Lib.hid ((T0B.out.alloc_ _).kp k12)
  have T1B := Lib.hid ((T1B.out.alloc_ _).kp k12)
  have XB := Lib.hid ((XB.out.alloc_ _).kp k12)
  have YB := Lib.hid ((YB.out.alloc_ _).kp k12)
  have PB := Lib.hid ((PB.out.alloc_ _).kp k12)
  have QB := Lib.hid ((QB.out.alloc_ _).kp k12)
  have ZB := Lib.hid ((ZB.out.alloc_ _).kp k12)
  have NB := Lib.hid ((NB.out.alloc_ _).kp k12)
  have X := Lib.hid ((X.out.alloc_ _).kp k12)
  have Y := Lib.hid ((Y.out.alloc_ _).kp k12)
  have P := Lib.hid ((P.out.alloc_ _).kp k12)
  have Q := Lib.hid ((Q.out.alloc_ _).kp k12)
  have Z := Lib.hid ((Z.out.alloc_ _).kp k12)
  have N := Lib.hid ((N.out.alloc_ _).kp k12)
  have R := Lib.hid ((R.out.alloc_ _).kp k12)
  have RB : Hid (Bk w12 w11.heap.size A11 a7 c11 B11 b7 d11) := (Bk.new rfl).kp k12
  have V := Lib.hid r12
  clear k12 r12 zt0b0 zt0b1 zt0b2 zxb0 zxb1 zxb2
  have zrb0 := RB.out.c0
  have zrb1 := RB.out.c1
  have zrb2 := RB.out.lt
  have zxb0 := XB.out.c0
  have zxb1 := XB.out.c1
  have zxb2 := XB.out.lt
  have zyb0 := YB.out.c0
  have zyb1 := YB.out.c1
  have zyb2 := YB.out.lt
  by_cases h1 : e1 = 0
  · obtain ⟨q1, q2, q3, q4, q5, q6⟩ := HE.out h1
    subst h1 q1 q2 q3 q4 q5 q6
    go_wp2_with fail
    refine (tsame_u (R.out.alloc_ _) (V.out.alloc_ _) L7.out.1 L7.out.2).mono ?_; rintro e0 w13 ⟨rfl, k13⟩
    have K := Lib.hid ((K.out.al _).tr k13)
    have T0B := Lib.hid ((T0B.out.alloc_ _).kp k13)
    have T1B := Lib.hid ((T1B.out.alloc_ _).kp k13)
    have XB := Lib.hid ((XB.out.alloc_ _).kp k13)
    have YB := Lib.hid ((YB.out.alloc_ _).kp k13)
    have PB := Lib.hid ((PB.out.alloc_ _).kp k13)
    have QB := Lib.hid ((QB.out.alloc_ _).kp k13)
    have ZB := Lib.hid ((ZB.out.alloc_ _).kp k13)
    have NB := Lib.hid ((NB.out.alloc_ _).kp k13)
    have RB := Lib.hid ((RB.out.alloc_ _).kp k13)
    have X := Lib.hid ((X.out.alloc_ _).kp k13)
    have Y := Lib.hid ((Y.out.alloc_ _).kp k13)
    have P := Lib.hid ((P.out.alloc_ _).kp k13)
    have Q := Lib.hid ((Q.out.alloc_ _).kp k13)
    have Z := Lib.hid ((Z.out.alloc_ _).kp k13)
    have N := Lib.hid ((N.out.alloc_ _).kp k13)
    have R := Lib.hid ((R.out.alloc_ _).kp k13)
    have V := Lib.hid ((V.out.alloc_ _).kp k13)
    have VB : Hid (Bk w13 w12.heap.size A12 a7 c12 B12 b7 d12) := (Bk.new rfl).kp k13
    clear k13 zrb0 zrb1 zrb2 zxb0 zxb1 zxb2 zyb0 zyb1 zyb2
    have zxb0 := XB.out.c0
    have zxb1 := XB.out.c1
    have zxb2 := XB.out.lt
    have zyb0 := YB.out.c0
    have zyb1 := YB.out.c1
    have zyb2 := YB.out.lt
    go_wp2_with fail
    refine (tsame_u X.out Y.out L1.out.1 L1.out.2).mono ?_; rintro e0 w14 ⟨rfl, k14⟩
    have K := Lib.hid (K.out.tr k14)
    have T0B := Lib.hid (T0B.out.kp k14)
    have T1B := Lib.hid (T1B.out.kp k14)
    have XB := Lib.hid (XB.out.kp k14)
    have YB := Lib.hid (YB.out.kp k14)
    have PB := Lib.hid (PB.out.kp k14)
    have QB := Lib.hid (QB.out.kp k14)
    have ZB := Lib.hid (ZB.out.kp k14)
    have NB := Lib.hid (NB.out.kp k14)
    have RB := Lib.hid (RB.out.kp k14)
    have VB := Lib.hid (VB.out.kp k14)
    have X := Lib.hid (X.out.kp k14)
    have Y := Lib.hid (Y.out.kp k14)
    have P := Lib.hid (P.out.kp k14)
    have Q := Lib.hid (Q.out.kp k14)
    have Z := Lib.hid (Z.out.kp k14)
    have N := Lib.hid (N.out.kp k14)
    have R := Lib.hid (R.out.kp k14)
    have V := Lib.hid (V.out.kp k14)
    clear k14 zxb0 zxb1 zxb2 zyb0 zyb1 zyb2
    have zpb0 := PB.out.c0
    have zpb1 := PB.out.c1
    have zpb2 := PB.out.lt
    have zqb0 := QB.out.c0
    have zqb1 := QB.out.c1
    have zqb2 := QB.out.lt
    go_wp2_with fail
    refine (tsame_u P.out Q.out L2.out.1 L2.out.2).mono ?_; rintro e0 w15 ⟨rfl, k15⟩
    have K := Lib.hid (K.out.tr k15)
    have T0B := Lib.hid (T0B.out.kp k15)
    have T1B := Lib.hid (T1B.out.kp k15)
    have XB := Lib.hid (XB.out.kp k15)
    have YB := Lib.hid (YB.out.kp k15)
    have PB := Lib.hid (PB.out.kp k15)
    have QB := Lib.hid (QB.out.kp k15)
    have ZB := Lib.hid (ZB.out.kp k15)
    have NB := Lib.hid (NB.out.kp k15)
    have RB := Lib.hid (RB.out.kp k15)
    have VB := Lib.hid (VB.out.kp k15)
    have X := Lib.hid (X.out.kp k15)
    have Y := Lib.hid (Y.out.kp k15)
    have P := Lib.hid (P.out.kp k15)
    have Q := Lib.hid (Q.out.kp k15)
    have Z := Lib.hid (Z.out.kp k15)
    have N := Lib.hid (N.out.kp k15)
    have R := Lib.hid (R.out.kp k15)
    have V := Lib.hid (V.out.kp k15)
    clear k15 zpb0 zpb1 zpb2 zqb0 zqb1 zqb2
    have zzb0 := ZB.out.c0
    have zzb1 := ZB.out.c1
    have zzb2 := ZB.out.lt
    have znb0 := NB.out.c0
    have znb1 := NB.out.c1
    have znb2 := NB.out.lt
    go_wp2_with fail
    refine (tsame_u Z.out N.out L5.out.1 L5.out.2).mono ?_; rintro e0 w16 ⟨rfl, k16⟩
    have K := Lib.hid (K.out.tr k16)
    have T0B := Lib.hid (T0B.out.kp k16)
    have T1B := Lib.hid (T1B.out.kp k16)
    have XB := Lib.hid (XB.out.kp k16)
    have YB := Lib.hid (YB.out.kp k16)
    have PB := Lib.hid (PB.out.kp k16)
    have QB := Lib.hid (QB.out.kp k16)
    have ZB := Lib.hid (ZB.out.kp k16)
    have NB := Lib.hid (NB.out.kp k16)
    have RB := Lib.hid (RB.out.kp k16)
    have VB := Lib.hid (VB.out.kp k16)
    have X := Lib.hid (X.out.kp k16)
    have Y := Lib.hid (Y.out.kp k16)
    have P := Lib.hid (P.out.kp k16)
    have Q := Lib.hid (Q.out.kp k16)
    have Z := Lib.hid (Z.out.kp k16)
    have N := Lib.hid (N.out.kp k16)
    have R := Lib.hid (R.out.kp k16)
    have V := Lib.hid (V.out.kp k16)
    clear k16 zzb0 zzb1 zzb2 znb0 znb1 znb2
    go_wp2
    go_ret
    exact ⟨rfl, K.out⟩
  · skip
    go_wp2_with fail
    refine (tsame_u (X.out.alloc_ _) (Y.out.alloc_ _) L1.out.1 L1.out.2).mono ?_; rintro e0 w13 ⟨rfl, k13⟩
    have K := Lib.hid ((K.out.al _).tr k13)
    have T0B := Lib.hid ((T0B.out.alloc_ _).kp k13)
    have T1B := Lib.hid ((T1B.out.alloc_ _).kp k13)
    have XB := Lib.hid ((XB.out.alloc_ _).kp k13)
    have YB := Lib.hid ((YB.out.alloc_ _).kp k13)
    have PB := Lib.hid ((PB.out.alloc_ _).kp k13)
    have QB := Lib.hid ((QB.out.alloc_ _).kp k13)
    have ZB := Lib.hid ((ZB.out.alloc_ _).kp k13)
    have NB := Lib.hid ((NB.out.alloc_ _).kp k13)
    have RB := Lib.hid ((RB.out.alloc_ _).kp k13)
    have X := Lib.hid ((X.out.alloc_ _).kp k13)
    have Y := Lib.hid ((Y.out.alloc_ _).kp k13)
    have P := Lib.hid ((P.out.alloc_ _).kp k13)
    have Q := Lib.hid ((Q.out.alloc_ _).kp k13)
    have Z := Lib.hid ((Z.out.alloc_ _).kp k13)
    have N := Lib.hid ((N.out.alloc_ _).kp k13)
    have R := Lib.hid ((R.out.alloc_ _).kp k13)
    have V := Lib.hid ((V.out.alloc_ _).kp k13)
    have VB : Hid (Bk w13 w12.heap.size A12 a8 c12 B12 b8 d12) := (Bk.new rfl).kp k13
    clear k13 zrb0 zrb1 zrb2 zxb0 zxb1 zxb2 zyb0 zyb1 zyb2
    have zpb0 := PB.out.c0
    have zpb1 := PB.out.c1
    have zpb2 := PB.out.lt
    have zqb0 := QB.out.c0
    have zqb1 := QB.out.c1
    have zqb2 := QB.out.lt
    go_wp2_with fail
    refine (tsame_u P.out Q.out L2.out.1 L2.out.2).mono ?_; rintro e0 w14 ⟨rfl, k14⟩
    have K := Lib.hid (K.out.tr k14)
    have T0B := Lib.hid (T0B.out.kp k14)
    have T1B := Lib.hid (T1B.out.kp k14)
    have XB := Lib.hid (XB.out.kp k14)
    have YB := Lib.hid (YB.out.kp k14)
    have PB := Lib.hid (PB.out.kp k14)
    have QB := Lib.hid (QB.out.kp k14)
    have ZB := Lib.hid (ZB.out.kp k14)
    have NB := Lib.hid (NB.out.kp k14)
    have RB := Lib.hid (RB.out.kp k14)
    have VB := Lib.hid (VB.out.kp k14)
    have X := Lib.hid (X.out.kp k14)
    have Y := Lib.hid (Y.out.kp k14)
    have P := Lib.hid (P.out.kp k14)
    have Q := Lib.hid (Q.out.kp k14)
    have Z := Lib.hid (Z.out.kp k14)
    have N := Lib.hid (N.out.kp k14)
    have R := Lib.hid (R.out.kp k14)
    have V := Lib.hid (V.out.kp k14)
    clear k14 zpb0 zpb1 zpb2 zqb0 zqb1 zqb2
    have zzb0 := ZB.out.c0
    have zzb1 := ZB.out.c1
    have zzb2 := ZB.out.lt
    have znb0 := NB.out.c0
    have znb1 := NB.out.c1
    have znb2 := NB.out.lt
    go_wp2_with fail
    refine (tsame_u Z.out N.out L5.out.1 L5.out.2).mono ?_; rintro e0 w15 ⟨rfl, k15⟩
    have K := Lib.hid (K.out.tr k15)
    have T0B := Lib.hid (T0B.out.kp k15)
    have T1B := Lib.hid (T1B.out.kp k15)
    have XB := Lib.hid (XB.out.kp k15)
    have YB := Lib.hid (YB.out.kp k15)
    have PB := Lib.hid (PB.out.kp k15)
    have QB := Lib.hid (QB.out.kp k15)
    have ZB := Lib.hid (ZB.out.kp k15)
    have NB := Lib.hid (NB.out.kp k15)
    have RB := Lib.hid (RB.out.kp k15)
    have VB := Lib.hid (VB.out.kp k15)
    have X := Lib.hid (X.out.kp k15)
    have Y := Lib.hid (Y.out.kp k15)
    have P := Lib.hid (P.out.kp k15)
    have Q := Lib.hid (Q.out.kp k15)
    have Z := Lib.hid (Z.out.kp k15)
    have N := Lib.hid (N.out.kp k15)
    have R := Lib.hid (R.out.kp k15)
    have V := Lib.hid (V.out.kp k15)
    clear k15 zzb0 zzb1 zzb2 znb0 znb1 znb2
    go_wp2
    go_ret
    exact ⟨rfl, K.out⟩

theorem eturns_walk (A B C D : Option Addr) (c d e f : Nat) (s xs t ys : List Int) (w : World) (R0 : TR w A s B xs) (I0 : I64s xs) (R1 : TR w C t D ys) (I1 : I64s ys) :
    Calls Try.prog 4 #[.agg #[.slice A s.length c, .slice B xs.length d], .agg #[.slice C t.length e, .slice D ys.length f]] w fun e w' => e = .returned (.bool true) ∧ Kp w w' := by
  by_cases f0 : 100 < s.length ∨ 100 < xs.length
  · exact eturns_far0 A B C D _ c _ d _ e _ f w  R0.s.len R0.d.len f0
  by_cases f1 : 100 < t.length ∨ 100 < ys.length
  · exact eturns_far1 A B C D _ c _ d _ e _ f w (by omega) (by omega) R1.s.len R1.d.len f1
  by_cases b0 : tokV s xs = false
  · exact eturns_far2 A B C D _ c _ d _ e _ f w (by omega) (by omega) (by omega) (by omega) (Lib.hid fun W k => tcheck_u s xs (R0.kp k) rfl rfl b0)
  have b0 : tokV s xs = true := by simpa using b0
  by_cases b1 : tokV t ys = false
  · exact eturns_far3 A B C D _ c _ d _ e _ f w (by omega) (by omega) (by omega) (by omega) (Lib.hid fun W k => tcheck_u s xs (R0.kp k) rfl rfl b0) (Lib.hid fun W k => tcheck_u t ys (R1.kp k) rfl rfl b1)
  have b1 : tokV t ys = true := by simpa using b1
  obtain ⟨l1, k1, e1, r1⟩ : ∃ l k e, twoV 10 s xs t ys = (l, k, e) := ⟨_, _, _, rfl⟩
  obtain ⟨l2, k2, e2, r2⟩ : ∃ l k e, twoV 12 s xs t ys = (l, k, e) := ⟨_, _, _, rfl⟩
  obtain ⟨l7, k7, e7, r7⟩ : ∃ l k e, twoV 11 l1 k1 t ys = (l, k, e) := ⟨_, _, _, rfl⟩
  obtain ⟨l8, k8, e8, r8⟩ : ∃ l k e, spreadV s xs l1 = (l, k, e) := ⟨_, _, _, rfl⟩
  have hfull : fullV s 0 = (s, List.replicate (sizeV s).toNat 0, 0) := by unfold fullV; rw [if_pos (tok_len b0).1]
  have hrl : (List.replicate (sizeV s).toNat (0 : Int)).length = xs.length := by rw [List.length_replicate, (tok_len b0).2.1]
  have hi1 : I64s k1 := by have := two_i64 10 s xs t ys; rw [r1] at this; exact this
  refine eturns_with A B C D _ c _ d _ e _ f w (by omega) (by omega) (by omega) (by omega) (Lib.hid fun W k => tcheck_u s xs (R0.kp k) rfl rfl b0) (Lib.hid fun W k => tcheck_u t ys (R1.kp k) rfl rfl b1) s l1 k1 l2 k2 (List.replicate (sizeV s).toNat 0) l7 k7 l8 k8 _ _ _ _ _ _ _ _ e1 e2 e7 e8 (Lib.hid ⟨rfl, rfl⟩) (Lib.hid ⟨rfl, rfl⟩) (Lib.hid ⟨rfl, hrl⟩) (Lib.hid ⟨rfl, rfl⟩) (Lib.hid ?_)
    (Lib.hid fun W k => two_u s xs t ys (R0.kp k) (R1.kp k) I0 I1 rfl rfl rfl rfl r1 rfl rfl) (Lib.hid fun W k => two_u t ys s xs (R1.kp k) (R0.kp k) I1 I0 rfl rfl rfl rfl (by rw [two_comm (.inl rfl) b1 b0]; exact r1) rfl rfl)
    (Lib.hid fun W k => two_u s xs t ys (R0.kp k) (R1.kp k) I0 I1 rfl rfl rfl rfl r2 rfl rfl) (Lib.hid fun W k => two_u t ys s xs (R1.kp k) (R0.kp k) I1 I0 rfl rfl rfl rfl (by rw [two_comm (.inr rfl) b1 b0]; exact r2) rfl rfl)
    (Lib.hid fun W k => two_u s xs s xs (R0.kp k) (R0.kp k) I0 I0 rfl rfl rfl rfl (two_self b0) rfl hrl)
    (Lib.hid fun W k => full_u s 0 (R0.kp k).s rfl hfull rfl hrl)
    (Lib.hid fun W A0 B0 c0 d0 k r => two_u l1 k1 t ys r (R1.kp k) hi1 I1 rfl rfl rfl rfl r7 rfl rfl)
    (Lib.hid fun W A0 c0 k r => spread_u s xs l1 (R0.kp k) r rfl rfl rfl r8 rfl rfl)
  intro z
  have hz : (twoV 10 s xs t ys).2.2 = 0 := by rw [r1]; exact z
  obtain ⟨j, Z, q1, q2, q3⟩ := two_back I0 hz
  rw [q1] at r1
  obtain ⟨rfl, rfl, rfl⟩ : j = l1 ∧ Z = k1 ∧ 0 = e1 := by simpa using r1
  rw [q2] at r7
  rw [q3] at r8
  obtain ⟨rfl, rfl, rfl⟩ : j = l7 ∧ _ = k7 ∧ 0 = e7 := by simpa using r7
  obtain ⟨rfl, rfl, rfl⟩ : j = l8 ∧ _ = k8 ∧ 0 = e8 := by simpa using r8
  exact ⟨rfl, rfl, rfl, rfl, rfl, rfl⟩
end Go.Proofs.Ytofolfnnjdccgaa
