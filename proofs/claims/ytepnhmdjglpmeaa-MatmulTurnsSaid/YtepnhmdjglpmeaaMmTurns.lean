/- Turned, a product is that of both turned, the second one first: the law's call returns true. -/
import Derived.Test.YtepnhmdjglpmeaaMmG
import Derived.Test.YtepnhmdjglpmeaaMmL
namespace Go.Proofs.Ytepnhmdjglpmeaa
open Go.RowKit Go.Proofs.ShM
set_option linter.unusedVariables false
set_option linter.unusedSimpArgs false

set_option maxHeartbeats 4000000 in
set_option maxRecDepth 100000 in
theorem mmturns_far0 (A B C D : Option Addr) (n c m d o e q f : Nat) (w : World) (zn : n ≤ 9223372036854775807) (zm : m ≤ 9223372036854775807) (hf : 100 < n ∨ 100 < m) :
    Calls Try.prog 5 #[.agg #[.slice A n c, .slice B m d], .agg #[.slice C o e, .slice D q f]] w fun e w' => e = .returned (.bool true) ∧ Kp w w' := by
  have HN : Hid (∀ W, Calls Try.prog 10 #[.agg #[.slice A n c, .slice B m d]] W fun e w' => e = .returned (.bool false) ∧ Kp W w') := fun W => few_no zn zm hf
  clear hf
  go_enter Try.func5, Try.ntmps5
  go_wp2_with fail
  refine (mmawake_any _).mono ?_; rintro e0 w0 ⟨rfl, k0⟩
  have K := Lib.hid (((Kp.alloc_ _ _).al _).tr k0)
  have T0B : Hid (Bk w0 (w.heap.size) A n c B m d) := ((Bk.new rfl).alloc_ _).kp k0
  have T1B : Hid (Bk w0 (w.heap.size + 1) C o e D q f) := (Bk.new (by simp)).kp k0
  clear k0
  have zt0b0 := T0B.out.c0
  have zt0b1 := T0B.out.c1
  have zt0b2 := T0B.out.lt
  have zt1b0 := T1B.out.c0
  have zt1b1 := T1B.out.c1
  have zt1b2 := T1B.out.lt
  go_wp2_with fail
  refine (HN.out _).mono ?_; rintro e0 w1 ⟨rfl, k1⟩
  have K := Lib.hid (K.out.tr k1)
  have T0B := Lib.hid (T0B.out.kp k1)
  have T1B := Lib.hid (T1B.out.kp k1)
  clear k1 zt0b0 zt0b1 zt0b2 zt1b0 zt1b1 zt1b2
  have zt0b0 := T0B.out.c0
  have zt0b1 := T0B.out.c1
  have zt0b2 := T0B.out.lt
  have zt1b0 := T1B.out.c0
  have zt1b1 := T1B.out.c1
  have zt1b2 := T1B.out.lt
  go_wp2
  go_ret
  exact ⟨rfl, K.out⟩

set_option maxHeartbeats 4000000 in
set_option maxRecDepth 100000 in
theorem mmturns_far1 (A B C D : Option Addr) (n c m d o e q f : Nat) (w : World) (hn : n ≤ 100) (hm : m ≤ 100) (zo : o ≤ 9223372036854775807) (zq : q ≤ 9223372036854775807) (hf : 100 < o ∨ 100 < q) :
    Calls Try.prog 5 #[.agg #[.slice A n c, .slice B m d], .agg #[.slice C o e, .slice D q f]] w fun e w' => e = .returned (.bool true) ∧ Kp w w' := by
  have HN : Hid (∀ W, Calls Try.prog 10 #[.agg #[.slice C o e, .slice D q f]] W fun e w' => e = .returned (.bool false) ∧ Kp W w') := fun W => few_no zo zq hf
  clear hf
  go_enter Try.func5, Try.ntmps5
  go_wp2_with fail
  refine (mmawake_any _).mono ?_; rintro e0 w0 ⟨rfl, k0⟩
  have K := Lib.hid (((Kp.alloc_ _ _).al _).tr k0)
  have T0B : Hid (Bk w0 (w.heap.size) A n c B m d) := ((Bk.new rfl).alloc_ _).kp k0
  have T1B : Hid (Bk w0 (w.heap.size + 1) C o e D q f) := (Bk.new (by simp)).kp k0
  clear k0
  have zt0b0 := T0B.out.c0
  have zt0b1 := T0B.out.c1
  have zt0b2 := T0B.out.lt
  have zt1b0 := T1B.out.c0
  have zt1b1 := T1B.out.c1
  have zt1b2 := T1B.out.lt
  go_wp2_with fail
  refine (few_yes hn hm).mono ?_; rintro e0 w1 ⟨rfl, k1⟩
  have K := Lib.hid (K.out.tr k1)
  have T0B := Lib.hid (T0B.out.kp k1)
  have T1B := Lib.hid (T1B.out.kp k1)
  clear k1 zt0b0 zt0b1 zt0b2 zt1b0 zt1b1 zt1b2
  have zt0b0 := T0B.out.c0
  have zt0b1 := T0B.out.c1
  have zt0b2 := T0B.out.lt
  have zt1b0 := T1B.out.c0
  have zt1b1 := T1B.out.c1
  have zt1b2 := T1B.out.lt
  go_wp2_with fail
  refine (HN.out _).mono ?_; rintro e0 w2 ⟨rfl, k2⟩
  have K := Lib.hid (K.out.tr k2)
  have T0B := Lib.hid (T0B.out.kp k2)
  have T1B := Lib.hid (T1B.out.kp k2)
  clear k2 zt0b0 zt0b1 zt0b2 zt1b0 zt1b1 zt1b2
  have zt0b0 := T0B.out.c0
  have zt0b1 := T0B.out.c1
  have zt0b2 := T0B.out.lt
  have zt1b0 := T1B.out.c0
  have zt1b1 := T1B.out.c1
  have zt1b2 := T1B.out.lt
  go_wp2
  go_ret
  exact ⟨rfl, K.out⟩

set_option maxHeartbeats 4000000 in
set_option maxRecDepth 100000 in
theorem mmturns_far2 (A B C D : Option Addr) (n c m d o e q f : Nat) (w : World) (hn : n ≤ 100) (hm : m ≤ 100) (ho : o ≤ 100) (hq : q ≤ 100) (HC0 : Hid (∀ W, Kp w W → Calls Try.prog 18 #[.agg #[.slice A n c, .slice B m d]] W fun e w' => e = .returned (.bool false) ∧ Kp W w')) :
    Calls Try.prog 5 #[.agg #[.slice A n c, .slice B m d], .agg #[.slice C o e, .slice D q f]] w fun e w' => e = .returned (.bool true) ∧ Kp w w' := by
  go_enter Try.func5, Try.ntmps5
  go_wp2_with fail
  refine (mmawake_any _).mono ?_; rintro e0 w0 ⟨rfl, k0⟩
  have K := Lib.hid (((Kp.alloc_ _ _).al _).tr k0)
  have T0B : Hid (Bk w0 (w.heap.size) A n c B m d) := ((Bk.new rfl).alloc_ _).kp k0
  have T1B : Hid (Bk w0 (w.heap.size + 1) C o e D q f) := (Bk.new (by simp)).kp k0
  clear k0
  have zt0b0 := T0B.out.c0
  have zt0b1 := T0B.out.c1
  have zt0b2 := T0B.out.lt
  have zt1b0 := T1B.out.c0
  have zt1b1 := T1B.out.c1
  have zt1b2 := T1B.out.lt
  go_wp2_with fail
  refine (few_yes hn hm).mono ?_; rintro e0 w1 ⟨rfl, k1⟩
  have K := Lib.hid (K.out.tr k1)
  have T0B := Lib.hid (T0B.out.kp k1)
  have T1B := Lib.hid (T1B.out.kp k1)
  clear k1 zt0b0 zt0b1 zt0b2 zt1b0 zt1b1 zt1b2
  have zt0b0 := T0B.out.c0
  have zt0b1 := T0B.out.c1
  have zt0b2 := T0B.out.lt
  have zt1b0 := T1B.out.c0
  have zt1b1 := T1B.out.c1
  have zt1b2 := T1B.out.lt
  go_wp2_with fail
  refine (few_yes ho hq).mono ?_; rintro e0 w2 ⟨rfl, k2⟩
  have K := Lib.hid (K.out.tr k2)
  have T0B := Lib.hid (T0B.out.kp k2)
  have T1B := Lib.hid (T1B.out.kp k2)
  clear k2 zt0b0 zt0b1 zt0b2 zt1b0 zt1b1 zt1b2
  have zt0b0 := T0B.out.c0
  have zt0b1 := T0B.out.c1
  have zt0b2 := T0B.out.lt
  have zt1b0 := T1B.out.c0
  have zt1b1 := T1B.out.c1
  have zt1b2 := T1B.out.lt
  go_wp2_with fail
  refine (HC0.out _ K.out).mono ?_; rintro e0 w3 ⟨rfl, k3⟩
  have K := Lib.hid (K.out.tr k3)
  have T0B := Lib.hid (T0B.out.kp k3)
  have T1B := Lib.hid (T1B.out.kp k3)
  clear k3 zt0b0 zt0b1 zt0b2 zt1b0 zt1b1 zt1b2
  have zt0b0 := T0B.out.c0
  have zt0b1 := T0B.out.c1
  have zt0b2 := T0B.out.lt
  have zt1b0 := T1B.out.c0
  have zt1b1 := T1B.out.c1
  have zt1b2 := T1B.out.lt
  go_wp2
  go_ret
  exact ⟨rfl, K.out⟩

set_option maxHeartbeats 4000000 in
set_option maxRecDepth 100000 in
theorem mmturns_far3 (A B C D : Option Addr) (n c m d o e q f : Nat) (w : World) (hn : n ≤ 100) (hm : m ≤ 100) (ho : o ≤ 100) (hq : q ≤ 100) (HC0 : Hid (∀ W, Kp w W → Calls Try.prog 18 #[.agg #[.slice A n c, .slice B m d]] W fun e w' => e = .returned (.bool true) ∧ Kp W w')) (HC1 : Hid (∀ W, Kp w W → Calls Try.prog 18 #[.agg #[.slice C o e, .slice D q f]] W fun e w' => e = .returned (.bool false) ∧ Kp W w')) :
    Calls Try.prog 5 #[.agg #[.slice A n c, .slice B m d], .agg #[.slice C o e, .slice D q f]] w fun e w' => e = .returned (.bool true) ∧ Kp w w' := by
  go_enter Try.func5, Try.ntmps5
  go_wp2_with fail
  refine (mmawake_any _).mono ?_; rintro e0 w0 ⟨rfl, k0⟩
  have K := Lib.hid (((Kp.alloc_ _ _).al _).tr k0)
  have T0B : Hid (Bk w0 (w.heap.size) A n c B m d) := ((Bk.new rfl).alloc_ _).kp k0
  have T1B : Hid (Bk w0 (w.heap.size + 1) C o e D q f) := (Bk.new (by simp)).kp k0
  clear k0
  have zt0b0 := T0B.out.c0
  have zt0b1 := T0B.out.c1
  have zt0b2 := T0B.out.lt
  have zt1b0 := T1B.out.c0
  have zt1b1 := T1B.out.c1
  have zt1b2 := T1B.out.lt
  go_wp2_with fail
  refine (few_yes hn hm).mono ?_; rintro e0 w1 ⟨rfl, k1⟩
  have K := Lib.hid (K.out.tr k1)
  have T0B := Lib.hid (T0B.out.kp k1)
  have T1B := Lib.hid (T1B.out.kp k1)
  clear k1 zt0b0 zt0b1 zt0b2 zt1b0 zt1b1 zt1b2
  have zt0b0 := T0B.out.c0
  have zt0b1 := T0B.out.c1
  have zt0b2 := T0B.out.lt
  have zt1b0 := T1B.out.c0
  have zt1b1 := T1B.out.c1
  have zt1b2 := T1B.out.lt
  go_wp2_with fail
  refine (few_yes ho hq).mono ?_; rintro e0 w2 ⟨rfl, k2⟩
  have K := Lib.hid (K.out.tr k2)
  have T0B := Lib.hid (T0B.out.kp k2)
  have T1B := Lib.hid (T1B.out.kp k2)
  clear k2 zt0b0 zt0b1 zt0b2 zt1b0 zt1b1 zt1b2
  have zt0b0 := T0B.out.c0
  have zt0b1 := T0B.out.c1
  have zt0b2 := T0B.out.lt
  have zt1b0 := T1B.out.c0
  have zt1b1 := T1B.out.c1
  have zt1b2 := T1B.out.lt
  go_wp2_with fail
  refine (HC0.out _ K.out).mono ?_; rintro e0 w3 ⟨rfl, k3⟩
  have K := Lib.hid (K.out.tr k3)
  have T0B := Lib.hid (T0B.out.kp k3)
  have T1B := Lib.hid (T1B.out.kp k3)
  clear k3 zt0b0 zt0b1 zt0b2 zt1b0 zt1b1 zt1b2
  have zt0b0 := T0B.out.c0
  have zt0b1 := T0B.out.c1
  have zt0b2 := T0B.out.lt
  have zt1b0 := T1B.out.c0
  have zt1b1 := T1B.out.c1
  have zt1b2 := T1B.out.lt
  go_wp2_with fail
  refine (HC1.out _ K.out).mono ?_; rintro e0 w4 ⟨rfl, k4⟩
  have K := Lib.hid (K.out.tr k4)
  have T0B := Lib.hid (T0B.out.kp k4)
  have T1B := Lib.hid (T1B.out.kp k4)
  clear k4 zt0b0 zt0b1 zt0b2 zt1b0 zt1b1 zt1b2
  have zt0b0 := T0B.out.c0
  have zt0b1 := T0B.out.c1
  have zt0b2 := T0B.out.lt
  have zt1b0 := T1B.out.c0
  have zt1b1 := T1B.out.c1
  have zt1b2 := T1B.out.lt
  go_wp2
  go_ret
  exact ⟨rfl, K.out⟩

set_option maxHeartbeats 8000000 in
set_option maxRecDepth 100000 in
theorem mmturns_with (A B C D : Option Addr) (n c m d o e q f : Nat) (w : World) (hn : n ≤ 100) (hm : m ≤ 100) (ho : o ≤ 100) (hq : q ≤ 100) (HC0 : Hid (∀ W, Kp w W → Calls Try.prog 18 #[.agg #[.slice A n c, .slice B m d]] W fun e w' => e = .returned (.bool true) ∧ Kp W w')) (HC1 : Hid (∀ W, Kp w W → Calls Try.prog 18 #[.agg #[.slice C o e, .slice D q f]] W fun e w' => e = .returned (.bool true) ∧ Kp W w')) (l1 k1 l2 k2 l3 k3 l4 k4 l5 k5 : List Int) (a1 b1 a2 b2 a3 b3 a4 b4 a5 b5 : Nat) (e1 e2 e3 e4 e5 : Int)
    (L2 : Hid (l2.length = a2 ∧ k2.length = b2)) (HE : (e1 = 20 ∧ e5 = 20) ∨ (e1 = 10 ∧ e5 = 10 ∧ n = 2 ∧ o = 2) ∨ (e1 = 0 ∧ e5 = 0 ∧ e2 = 0 ∧ n = 2 ∧ o = 2 ∧ l2 = l5 ∧ k2 = k5 ∧ a2 = a5 ∧ b2 = b5))
    (C1 : Hid (∀ W, Kp w W → Calls Try.prog 11 #[.agg #[.slice A n c, .slice B m d], .agg #[.slice C o e, .slice D q f]] W (RetU l1 k1 a1 b1 e1 W)))
    (C2 : Hid (∀ W A0 B0 c0 d0, Kp w W → TR W A0 l1 B0 k1 → Calls Try.prog 20 #[.agg #[.slice A0 a1 c0, .slice B0 b1 d0]] W (RetU l2 k2 a2 b2 e2 W)))
    (C3 : Hid (∀ W, Kp w W → Calls Try.prog 20 #[.agg #[.slice A n c, .slice B m d]] W (RetU l3 k3 a3 b3 e3 W)))
    (C4 : Hid (∀ W, Kp w W → Calls Try.prog 20 #[.agg #[.slice C o e, .slice D q f]] W (RetU l4 k4 a4 b4 e4 W)))
    (C5 : Hid (∀ W A0 B0 c0 d0 A1 B1 c1 d1, Kp w W → TR W A0 l4 B0 k4 → TR W A1 l3 B1 k3 → Calls Try.prog 11 #[.agg #[.slice A0 a4 c0, .slice B0 b4 d0], .agg #[.slice A1 a3 c1, .slice B1 b3 d1]] W (RetU l5 k5 a5 b5 e5 W))) :
    Calls Try.prog 5 #[.agg #[.slice A n c, .slice B m d], .agg #[.slice C o e, .slice D q f]] w fun e w' => e = .returned (.bool true) ∧ Kp w w' := by
  have HE2 := Lib.hid HE
  clear HE
  go_enter Try.func5, Try.ntmps5
  go_wp2_with fail
  refine (mmawake_any _).mono ?_; rintro e0 w0 ⟨rfl, k0⟩
  have K := Lib.hid (((Kp.alloc_ _ _).al _).tr k0)
  have T0B : Hid (Bk w0 (w.heap.size) A n c B m d) := ((Bk.new rfl).alloc_ _).kp k0
  have T1B : Hid (Bk w0 (w.heap.size + 1) C o e D q f) := (Bk.new (by simp)).kp k0
  clear k0
  have zt0b0 := T0B.out.c0
  have zt0b1 := T0B.out.c1
  have zt0b2 := T0B.out.lt
  have zt1b0 := T1B.out.c0
  have zt1b1 := T1B.out.c1
  have zt1b2 := T1B.out.lt
  go_wp2_with fail
  refine (few_yes hn hm).mono ?_; rintro e0 w1 ⟨rfl, k1⟩
  have K := Lib.hid (K.out.tr k1)
  have T0B := Lib.hid (T0B.out.kp k1)
  have T1B := Lib.hid (T1B.out.kp k1)
  clear k1 zt0b0 zt0b1 zt0b2 zt1b0 zt1b1 zt1b2
  have zt0b0 := T0B.out.c0
  have zt0b1 := T0B.out.c1
  have zt0b2 := T0B.out.lt
  have zt1b0 := T1B.out.c0
  have zt1b1 := T1B.out.c1
  have zt1b2 := T1B.out.lt
  go_wp2_with fail
  refine (few_yes ho hq).mono ?_; rintro e0 w2 ⟨rfl, k2⟩
  have K := Lib.hid (K.out.tr k2)
  have T0B := Lib.hid (T0B.out.kp k2)
  have T1B := Lib.hid (T1B.out.kp k2)
  clear k2 zt0b0 zt0b1 zt0b2 zt1b0 zt1b1 zt1b2
  have zt0b0 := T0B.out.c0
  have zt0b1 := T0B.out.c1
  have zt0b2 := T0B.out.lt
  have zt1b0 := T1B.out.c0
  have zt1b1 := T1B.out.c1
  have zt1b2 := T1B.out.lt
  go_wp2_with fail
  refine (HC0.out _ K.out).mono ?_; rintro e0 w3 ⟨rfl, k3⟩
  have K := Lib.hid (K.out.tr k3)
  have T0B := Lib.hid (T0B.out.kp k3)
  have T1B := Lib.hid (T1B.out.kp k3)
  clear k3 zt0b0 zt0b1 zt0b2 zt1b0 zt1b1 zt1b2
  have zt0b0 := T0B.out.c0
  have zt0b1 := T0B.out.c1
  have zt0b2 := T0B.out.lt
  have zt1b0 := T1B.out.c0
  have zt1b1 := T1B.out.c1
  have zt1b2 := T1B.out.lt
  go_wp2_with fail
  refine (HC1.out _ K.out).mono ?_; rintro e0 w4 ⟨rfl, k4⟩
  have K := Lib.hid (K.out.tr k4)
  have T0B := Lib.hid (T0B.out.kp k4)
  have T1B := Lib.hid (T1B.out.kp k4)
  clear k4 zt0b0 zt0b1 zt0b2 zt1b0 zt1b1 zt1b2
  have zt0b0 := T0B.out.c0
  have zt0b1 := T0B.out.c1
  have zt0b2 := T0B.out.lt
  have zt1b0 := T1B.out.c0
  have zt1b1 := T1B.out.c1
  have zt1b2 := T1B.out.lt
  go_wp2_with fail
  refine (C1.out _ K.out).mono ?_; rintro e0 w5 ⟨A5, c5, B5, d5, rfl, r5, k5⟩
  have K := Lib.hid (K.out.tr k5)
  have T0B := Lib.hid (T0B.out.kp k5)
  have T1B := Lib.hid (T1B.out.kp k5)
  have P := Lib.hid r5
  clear k5 r5 zt0b0 zt0b1 zt0b2 zt1b0 zt1b1 zt1b2
  go_wp2_with fail
  refine (C2.out _ _ _ _ _ (K.out.al _) (P.out.alloc_ _)).mono ?_; rintro e0 w6 ⟨A6, c6, B6, d6, rfl, r6, k6⟩
  have K := Lib.hid ((K.out.al _).tr k6)
  have T0B := Lib.hid ((T0B.out.alloc_ _).kp k6)
  have T1B := Lib.hid ((T1B.out.alloc_ _).kp k6)
  have P := Lib.hid ((P.out.alloc_ _).kp k6)
  have PB : Hid (Bk w6 w5.heap.size A5 a1 c5 B5 b1 d5) := (Bk.new rfl).kp k6
  have T := Lib.hid r6
  clear k6 r6
  have zt0b0 := T0B.out.c0
  have zt0b1 := T0B.out.c1
  have zt0b2 := T0B.out.lt
  go_wp2_with fail
  refine (C3.out _ (K.out.al _)).mono ?_; rintro e0 w7 ⟨A7, c7, B7, d7, rfl, r7, k7⟩
  have K := Lib.hid ((K.out.al _).tr k7)
  have T0B := Lib.hid ((T0B.out.alloc_ _).kp k7)
  have T1B := Lib.hid ((T1B.out.alloc_ _).kp k7)
  have PB := Lib.hid ((PB.out.alloc_ _).kp k7)
  have P := Lib.hid ((P.out.alloc_ _).kp k7)
  have T := Lib.hid ((T.out.alloc_ _).kp k7)
  have TB : Hid (Bk w7 w6.heap.size A6 a2 c6 B6 b2 d6) := (Bk.new rfl).kp k7
  have X := Lib.hid r7
  clear k7 r7 zt0b0 zt0b1 zt0b2
  have zt1b0 := T1B.out.c0
  have zt1b1 := T1B.out.c1
  have zt1b2 := T1B.out.lt
  go_wp2_with fail
  refine (C4.out _ (K.out.al _)).mono ?_; rintro e0 w8 ⟨A8, c8, B8, d8, rfl, r8, k8⟩
  have K := Lib.hid ((K.out.al _).tr k8)
  have T0B := Lib.hid ((T0B.out.alloc_ _).kp k8)
  have T1B := Lib.hid ((T1B.out.alloc_ _).kp k8)
  have PB := Lib.hid ((PB.out.alloc_ _).kp k8)
  have TB := Lib.hid ((TB.out.alloc_ _).kp k8)
  have P := Lib.hid ((P.out.alloc_ _).kp k8)
  have T := Lib.hid ((T.out.alloc_ _).kp k8)
  have X := Lib.hid ((X.out.alloc_ _).kp k8)
  have XB : Hid (Bk w8 w7.heap.size A7 a3 c7 B7 b3 d7) := (Bk.new rfl).kp k8
  have Y := Lib.hid r8
  clear k8 r8 zt1b0 zt1b1 zt1b2
  have zxb0 := XB.out.c0
  have zxb1 := XB.out.c1
  have zxb2 := XB.out.lt
  go_wp2_with fail
  refine (C5.out _ _ _ _ _ _ _ _ _ (K.out.al _) (Y.out.alloc_ _) (X.out.alloc_ _)).mono ?_; rintro e0 w9 ⟨A9, c9, B9, d9, rfl, r9, k9⟩
  have K := Lib.hid ((K.out.al _).tr k9)
  have T0B := Lib.hid ((T0B.out.alloc_ _).kp k9)
  have T1B := Lib.hid ((T1B.out.alloc_ _).kp k9)
  have PB := Lib.hid ((PB.out.alloc_ _).kp k9)
  have TB := Lib.hid ((TB.out.alloc_ _).kp k9)
  have XB := Lib.hid ((XB.out.alloc_ _).kp k9)
  have P := Lib.hid ((P.out.alloc_ _).kp k9)
  have T := Lib.hid ((T.out.alloc_ _).kp k9)
  have YB : Hid (Bk w9 w8.heap.size A8 a4 c8 B8 b4 d8) := (Bk.new rfl).kp k9
  have Q := Lib.hid r9
  clear k9 r9 zxb0 zxb1 zxb2 X Y
  have zt0b0 := T0B.out.c0
  have zt0b1 := T0B.out.c1
  have zt0b2 := T0B.out.lt
  have zt1b0 := T1B.out.c0
  have zt1b1 := T1B.out.c1
  have zt1b2 := T1B.out.lt
  have ztb0 := TB.out.c0
  have ztb1 := TB.out.c1
  have ztb2 := TB.out.lt
  rcases HE2.out with ⟨h1, h5⟩ | ⟨h1, h5, hn2, ho2⟩ | ⟨h1, h5, h2, hn2, ho2, z1, z2, z3, z4⟩
  · subst h1 h5
    go_wp2
    go_ret
    exact ⟨rfl, K.out.al _⟩
  · subst h1 h5 hn2 ho2
    go_wp2
    go_ret
    exact ⟨rfl, K.out.al _⟩
  · subst h1 h5 h2 hn2 ho2 z1 z2 z3 z4
    go_wp2_with fail
    refine (tsame_u (T.out.alloc_ _) (Q.out.alloc_ _) L2.out.1 L2.out.2).mono ?_; rintro e0 w10 ⟨rfl, k10⟩
    have K := Lib.hid ((K.out.al _).tr k10)
    have T0B := Lib.hid ((T0B.out.alloc_ _).kp k10)
    have T1B := Lib.hid ((T1B.out.alloc_ _).kp k10)
    have PB := Lib.hid ((PB.out.alloc_ _).kp k10)
    have TB := Lib.hid ((TB.out.alloc_ _).kp k10)
    have XB := Lib.hid ((XB.out.alloc_ _).kp k10)
    have YB := Lib.hid ((YB.out.alloc_ _).kp k10)
    have P := Lib.hid ((P.out.alloc_ _).kp k10)
    have T := Lib.hid ((T.out.alloc_ _).kp k10)
    have Q := Lib.hid ((Q.out.alloc_ _).kp k10)
    have QB : Hid (Bk w10 w9.heap.size A9 a2 c9 B9 b2 d9) := (Bk.new rfl).kp k10
    clear k10 zt0b0 zt0b1 zt0b2 zt1b0 zt1b1 zt1b2 ztb0 ztb1 ztb2
    go_wp2
    go_ret
    exact ⟨rfl, K.out⟩

theorem mmturns_walk (A B C D : Option Addr) (c d e f : Nat) (s xs t ys : List Int) (w : World) (R0 : TR w A s B xs) (I0 : I64s xs) (R1 : TR w C t D ys) (I1 : I64s ys) :
    Calls Try.prog 5 #[.agg #[.slice A s.length c, .slice B xs.length d], .agg #[.slice C t.length e, .slice D ys.length f]] w fun e w' => e = .returned (.bool true) ∧ Kp w w' := by
  by_cases f0 : 100 < s.length ∨ 100 < xs.length
  · exact mmturns_far0 A B C D _ c _ d _ e _ f w  R0.s.len R0.d.len f0
  by_cases f1 : 100 < t.length ∨ 100 < ys.length
  · exact mmturns_far1 A B C D _ c _ d _ e _ f w (by omega) (by omega) R1.s.len R1.d.len f1
  by_cases b0 : tokV s xs = false
  · exact mmturns_far2 A B C D _ c _ d _ e _ f w (by omega) (by omega) (by omega) (by omega) (Lib.hid fun W k => tcheck_u s xs (R0.kp k) rfl rfl b0)
  have b0 : tokV s xs = true := by simpa using b0
  by_cases b1 : tokV t ys = false
  · exact mmturns_far3 A B C D _ c _ d _ e _ f w (by omega) (by omega) (by omega) (by omega) (Lib.hid fun W k => tcheck_u s xs (R0.kp k) rfl rfl b0) (Lib.hid fun W k => tcheck_u t ys (R1.kp k) rfl rfl b1)
  have b1 : tokV t ys = true := by simpa using b1
  rcases mat_turn b0 b1 with ⟨r1, r5⟩ | ⟨hs, ht, r1, r5⟩ | ⟨hs, ht, l, k, l2, k2, r1, r5, r2, hl, hl2, hkk⟩
  · exact mmturns_with A B C D _ c _ d _ e _ f w (by omega) (by omega) (by omega) (by omega) (Lib.hid fun W k => tcheck_u s xs (R0.kp k) rfl rfl b0) (Lib.hid fun W k => tcheck_u t ys (R1.kp k) rfl rfl b1) [] [] [] [] s.reverse (turnD s xs) t.reverse (turnD t ys) [] [] _ _ _ _ _ _ _ _ _ _ 20 30 0 0 20 (Lib.hid ⟨rfl, rfl⟩) (Or.inl ⟨rfl, rfl⟩)
      (Lib.hid fun W k => pmat_u s xs t ys (R0.kp k) (R1.kp k) I0 I1 rfl rfl rfl rfl r1 rfl rfl) (Lib.hid fun W A0 B0 c0 d0 k r => pturn_u _ _ r rfl rfl (by decide) rfl rfl)
      (Lib.hid fun W k => pturn_u s xs (R0.kp k) rfl rfl (turn_is b0) rfl rfl) (Lib.hid fun W k => pturn_u t ys (R1.kp k) rfl rfl (turn_is b1) rfl rfl)
      (Lib.hid fun W A0 B0 c0 d0 A1 B1 c1 d1 k r q => pmat_u _ _ _ _ r q (turn_i64 I1) (turn_i64 I0) rfl rfl rfl rfl r5 rfl rfl)
  · exact mmturns_with A B C D _ c _ d _ e _ f w (by omega) (by omega) (by omega) (by omega) (Lib.hid fun W k => tcheck_u s xs (R0.kp k) rfl rfl b0) (Lib.hid fun W k => tcheck_u t ys (R1.kp k) rfl rfl b1) [] [] [] [] s.reverse (turnD s xs) t.reverse (turnD t ys) [] [] _ _ _ _ _ _ _ _ _ _ 10 30 0 0 10 (Lib.hid ⟨rfl, rfl⟩) (Or.inr (Or.inl ⟨rfl, rfl, hs, ht⟩))
      (Lib.hid fun W k => pmat_u s xs t ys (R0.kp k) (R1.kp k) I0 I1 rfl rfl rfl rfl r1 rfl rfl) (Lib.hid fun W A0 B0 c0 d0 k r => pturn_u _ _ r rfl rfl (by decide) rfl rfl)
      (Lib.hid fun W k => pturn_u s xs (R0.kp k) rfl rfl (turn_is b0) rfl rfl) (Lib.hid fun W k => pturn_u t ys (R1.kp k) rfl rfl (turn_is b1) rfl rfl)
      (Lib.hid fun W A0 B0 c0 d0 A1 B1 c1 d1 k r q => pmat_u _ _ _ _ r q (turn_i64 I1) (turn_i64 I0) rfl rfl rfl rfl r5 rfl rfl)
  · exact mmturns_with A B C D _ c _ d _ e _ f w (by omega) (by omega) (by omega) (by omega) (Lib.hid fun W k => tcheck_u s xs (R0.kp k) rfl rfl b0) (Lib.hid fun W k => tcheck_u t ys (R1.kp k) rfl rfl b1) l k l2 k2 s.reverse (turnD s xs) t.reverse (turnD t ys) l2 k2 _ _ _ _ _ _ _ _ _ _ 0 0 0 0 0 (Lib.hid ⟨rfl, rfl⟩) (Or.inr (Or.inr ⟨rfl, rfl, rfl, hs, ht, rfl, rfl, rfl, rfl⟩))
      (Lib.hid fun W k => pmat_u s xs t ys (R0.kp k) (R1.kp k) I0 I1 rfl rfl rfl rfl r1 rfl rfl) (Lib.hid fun W A0 B0 c0 d0 k r => pturn_u _ _ r rfl rfl r2 rfl rfl)
      (Lib.hid fun W k => pturn_u s xs (R0.kp k) rfl rfl (turn_is b0) rfl rfl) (Lib.hid fun W k => pturn_u t ys (R1.kp k) rfl rfl (turn_is b1) rfl rfl)
      (Lib.hid fun W A0 B0 c0 d0 A1 B1 c1 d1 k r q => pmat_u _ _ _ _ r q (turn_i64 I1) (turn_i64 I0) rfl rfl rfl rfl r5 rfl rfl)
end Go.Proofs.Ytepnhmdjglpmeaa
