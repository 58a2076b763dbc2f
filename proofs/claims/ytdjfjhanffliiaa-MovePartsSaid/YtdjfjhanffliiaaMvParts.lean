/- A tensor is joined of its two parts at whatever place of a side, and what was joined is cut into both again: the law's call returns true. -/
import Derived.Test.YtdjfjhanffliiaaMvCe
namespace Go.Proofs.Ytdjfjhanffliiaa
open Go.RowKit Go.Proofs.ShM
set_option linter.unusedVariables false
set_option linter.unusedSimpArgs false

set_option maxHeartbeats 4000000 in
set_option maxRecDepth 100000 in
theorem mparts_far0 (A B C D : Option Addr) (n c m d o e q f : Nat) (q1 q2 : Int) (w : World) (zn : n ≤ 9223372036854775807) (zm : m ≤ 9223372036854775807) (hf : 100 < n ∨ 100 < m) :
    Calls Try.prog 5 #[.agg #[.slice A n c, .slice B m d], .agg #[.slice C o e, .slice D q f], .int .i64 q1, .int .i64 q2] w fun e w' => e = .returned (.bool true) ∧ Kp w w' := by
  have HN : Hid (∀ W, Calls Try.prog 10 #[.agg #[.slice A n c, .slice B m d]] W fun e w' => e = .returned (.bool false) ∧ Kp W w') := fun W => few_no zn zm hf
  clear hf
  go_enter Try.func5, Try.ntmps5
  go_wp2_with fail
  refine (mvawake_any _).mono ?_; rintro e0 w0 ⟨rfl, k0⟩
  have K := Lib.hid (((Kp.alloc_ _ _).al _).tr k0)
  have T0B : Hid (Bk w0 (w.heap.size) A n c B m d) := ((Bk.new rfl).alloc_ _).kp k0
  have T1B : Hid (Bk w0 (w.heap.size + 1) C o e D q f) := (Bk.new (by simp)).kp k0
  clear k0
  have zt0b0 := T0B.out.c0
  have zt0b1 := T0B.out.c1
  have zt0b2 := T0B.out.lt
  have zt1b0 := T1B.out.c0
  have zt1b1 := T1B.out.c1
  have zt1b2 := T1B.out.lt
  go_wp2_with fail
  refine (HN.out _).mono ?_; rintro e0 w1 ⟨rfl, k1⟩
  have K := Lib.hid (K.out.tr k1)
  have T0B := Lib.hid (T0B.out.kp k1)
  have T1B := Lib.hid (T1B.out.kp k1)
  clear k1 zt0b0 zt0b1 zt0b2 zt1b0 zt1b1 zt1b2
  have zt0b0 := T0B.out.c0
  have zt0b1 := T0B.out.c1
  have zt0b2 := T0B.out.lt
  have zt1b0 := T1B.out.c0
  have zt1b1 := T1B.out.c1
  have zt1b2 := T1B.out.lt
  go_wp2
  go_ret
  exact ⟨rfl, K.out⟩

set_option maxHeartbeats 4000000 in
set_option maxRecDepth 100000 in
theorem mparts_far1 (A B C D : Option Addr) (n c m d o e q f : Nat) (q1 q2 : Int) (w : World) (hn : n ≤ 100) (hm : m ≤ 100) (zo : o ≤ 9223372036854775807) (zq : q ≤ 9223372036854775807) (hf : 100 < o ∨ 100 < q) :
    Calls Try.prog 5 #[.agg #[.slice A n c, .slice B m d], .agg #[.slice C o e, .slice D q f], .int .i64 q1, .int .i64 q2] w fun e w' => e = .returned (.bool true) ∧ Kp w w' := by
  have HN : Hid (∀ W, Calls Try.prog 10 #[.agg #[.slice C o e, .slice D q f]] W fun e w' => e = .returned (.bool false) ∧ Kp W w') := fun W => few_no zo zq hf
  clear hf
  go_enter Try.func5, Try.ntmps5
  go_wp2_with fail
  refine (mvawake_any _).mono ?_; rintro e0 w0 ⟨rfl, k0⟩
  have K := Lib.hid (((Kp.alloc_ _ _).al _).tr k0)
  have T0B : Hid (Bk w0 (w.heap.size) A n c B m d) := ((Bk.new rfl).alloc_ _).kp k0
  have T1B : Hid (Bk w0 (w.heap.size + 1) C o e D q f) := (Bk.new (by simp)).kp k0
  clear k0
  have zt0b0 := T0B.out.c0
  have zt0b1 := T0B.out.c1
  have zt0b2 := T0B.out.lt
  have zt1b0 := T1B.out.c0
  have zt1b1 := T1B.out.c1
  have zt1b2 := T1B.out.lt
  go_wp2_with fail
  refine (few_yes hn hm).mono ?_; rintro e0 w1 ⟨rfl, k1⟩
  have K := Lib.hid (K.out.tr k1)
  have T0B := Lib.hid (T0B.out.kp k1)
  have T1B := Lib.hid (T1B.out.kp k1)
  clear k1 zt0b0 zt0b1 zt0b2 zt1b0 zt1b1 zt1b2
  have zt0b0 := T0B.out.c0
  have zt0b1 := T0B.out.c1
  have zt0b2 := T0B.out.lt
  have zt1b0 := T1B.out.c0
  have zt1b1 := T1B.out.c1
  have zt1b2 := T1B.out.lt
  go_wp2_with fail
  refine (HN.out _).mono ?_; rintro e0 w2 ⟨rfl, k2⟩
  have K := Lib.hid (K.out.tr k2)
  have T0B := Lib.hid (T0B.out.kp k2)
  have T1B := Lib.hid (T1B.out.kp k2)
  clear k2 zt0b0 zt0b1 zt0b2 zt1b0 zt1b1 zt1b2
  have zt0b0 := T0B.out.c0
  have zt0b1 := T0B.out.c1
  have zt0b2 := T0B.out.lt
  have zt1b0 := T1B.out.c0
  have zt1b1 := T1B.out.c1
  have zt1b2 := T1B.out.lt
  go_wp2
  go_ret
  exact ⟨rfl, K.out⟩

set_option maxHeartbeats 4000000 in
set_option maxRecDepth 100000 in
theorem mparts_far2 (A B C D : Option Addr) (n c m d o e q f : Nat) (q1 q2 : Int) (w : World) (hn : n ≤ 100) (hm : m ≤ 100) (ho : o ≤ 100) (hq : q ≤ 100) (HC0 : Hid (∀ W, Kp w W → Calls Try.prog 22 #[.agg #[.slice A n c, .slice B m d]] W fun e w' => e = .returned (.bool false) ∧ Kp W w')) :
    Calls Try.prog 5 #[.agg #[.slice A n c, .slice B m d], .agg #[.slice C o e, .slice D q f], .int .i64 q1, .int .i64 q2] w fun e w' => e = .returned (.bool true) ∧ Kp w w' := by
  go_enter Try.func5, Try.ntmps5
  go_wp2_with fail
  refine (mvawake_any _).mono ?_; rintro e0 w0 ⟨rfl, k0⟩
  have K := Lib.hid (((Kp.alloc_ _ _).al _).tr k0)
  have T0B : Hid (Bk w0 (w.heap.size) A n c B m d) := ((Bk.new rfl).alloc_ _).kp k0
  have T1B : Hid (Bk w0 (w.heap.size + 1) C o e D q f) := (Bk.new (by simp)).kp k0
  clear k0
  have zt0b0 := T0B.out.c0
  have zt0b1 := T0B.out.c1
  have zt0b2 := T0B.out.lt
  have zt1b0 := T1B.out.c0
  have zt1b1 := T1B.out.c1
  have zt1b2 := T1B.out.lt
  go_wp2_with fail
  refine (few_yes hn hm).mono ?_; rintro e0 w1 ⟨rfl, k1⟩
  have K := Lib.hid (K.out.tr k1)
  have T0B := Lib.hid (T0B.out.kp k1)
  have T1B := Lib.hid (T1B.out.kp k1)
  clear k1 zt0b0 zt0b1 zt0b2 zt1b0 zt1b1 zt1b2
  have zt0b0 := T0B.out.c0
  have zt0b1 := T0B.out.c1
  have zt0b2 := T0B.out.lt
  have zt1b0 := T1B.out.c0
  have zt1b1 := T1B.out.c1
  have zt1b2 := T1B.out.lt
  go_wp2_with fail
  refine (few_yes ho hq).mono ?_; rintro e0 w2 ⟨rfl, k2⟩
  have K := Lib.hid (K.out.tr k2)
  have T0B := Lib.hid (T0B.out.kp k2)
  have T1B := Lib.hid (T1B.out.kp k2)
  clear k2 zt0b0 zt0b1 zt0b2 zt1b0 zt1b1 zt1b2
  have zt0b0 := T0B.out.c0
  have zt0b1 := T0B.out.c1
  have zt0b2 := T0B.out.lt
  have zt1b0 := T1B.out.c0
  have zt1b1 := T1B.out.c1
  have zt1b2 := T1B.out.lt
  go_wp2_with fail
  refine (HC0.out _ K.out).mono ?_; rintro e0 w3 ⟨rfl, k3⟩
  have K := Lib.hid (K.out.tr k3)
  have T0B := Lib.hid (T0B.out.kp k3)
  have T1B := Lib.hid (T1B.out.kp k3)
  clear k3 zt0b0 zt0b1 zt0b2 zt1b0 zt1b1 zt1b2
  have zt0b0 := T0B.out.c0
  have zt0b1 := T0B.out.c1
  have zt0b2 := T0B.out.lt
  have zt1b0 := T1B.out.c0
  have zt1b1 := T1B.out.c1
  have zt1b2 := T1B.out.lt
  go_wp2
  go_ret
  exact ⟨rfl, K.out⟩

set_option maxHeartbeats 8000000 in
set_option maxRecDepth 100000 in
theorem mparts_far3 (A B C D : Option Addr) (n c m d o e q f : Nat) (q1 q2 : Int) (w : World) (hn : n ≤ 100) (hm : m ≤ 100) (ho : o ≤ 100) (hq : q ≤ 100) (HC0 : Hid (∀ W, Kp w W → Calls Try.prog 22 #[.agg #[.slice A n c, .slice B m d]] W fun e w' => e = .returned (.bool true) ∧ Kp W w')) (hx : q1 < 0) :
    Calls Try.prog 5 #[.agg #[.slice A n c, .slice B m d], .agg #[.slice C o e, .slice D q f], .int .i64 q1, .int .i64 q2] w fun e w' => e = .returned (.bool true) ∧ Kp w w' := by
  go_enter Try.func5, Try.ntmps5
  go_wp2_with fail
  refine (mvawake_any _).mono ?_; rintro e0 w0 ⟨rfl, k0⟩
  have K := Lib.hid (((Kp.alloc_ _ _).al _).tr k0)
  have T0B : Hid (Bk w0 (w.heap.size) A n c B m d) := ((Bk.new rfl).alloc_ _).kp k0
  have T1B : Hid (Bk w0 (w.heap.size + 1) C o e D q f) := (Bk.new (by simp)).kp k0
  clear k0
  have zt0b0 := T0B.out.c0
  have zt0b1 := T0B.out.c1
  have zt0b2 := T0B.out.lt
  have zt1b0 := T1B.out.c0
  have zt1b1 := T1B.out.c1
  have zt1b2 := T1B.out.lt
  go_wp2_with fail
  refine (few_yes hn hm).mono ?_; rintro e0 w1 ⟨rfl, k1⟩
  have K := Lib.hid (K.out.tr k1)
  have T0B := Lib.hid (T0B.out.kp k1)
  have T1B := Lib.hid (T1B.out.kp k1)
  clear k1 zt0b0 zt0b1 zt0b2 zt1b0 zt1b1 zt1b2
  have zt0b0 := T0B.out.c0
  have zt0b1 := T0B.out.c1
  have zt0b2 := T0B.out.lt
  have zt1b0 := T1B.out.c0
  have zt1b1 := T1B.out.c1
  have zt1b2 := T1B.out.lt
  go_wp2_with fail
  refine (few_yes ho hq).mono ?_; rintro e0 w2 ⟨rfl, k2⟩
  have K := Lib.hid (K.out.tr k2)
  have T0B := Lib.hid (T0B.out.kp k2)
  have T1B := Lib.hid (T1B.out.kp k2)
  clear k2 zt0b0 zt0b1 zt0b2 zt1b0 zt1b1 zt1b2
  have zt0b0 := T0B.out.c0
  have zt0b1 := T0B.out.c1
  have zt0b2 := T0B.out.lt
  have zt1b0 := T1B.out.c0
  have zt1b1 := T1B.out.c1
  have zt1b2 := T1B.out.lt
  go_wp2_with fail
  refine (HC0.out _ K.out).mono ?_; rintro e0 w3 ⟨rfl, k3⟩
  have K := Lib.hid (K.out.tr k3)
  have T0B := Lib.hid (T0B.out.kp k3)
  have T1B := Lib.hid (T1B.out.kp k3)
  clear k3 zt0b0 zt0b1 zt0b2 zt1b0 zt1b1 zt1b2
  have zt0b0 := T0B.out.c0
  have zt0b1 := T0B.out.c1
  have zt0b2 := T0B.out.lt
  have zt1b0 := T1B.out.c0
  have zt1b1 := T1B.out.c1
  have zt1b2 := T1B.out.lt
  go_wp2
  go_ret
  exact ⟨rfl, K.out⟩

set_option maxHeartbeats 8000000 in
set_option maxRecDepth 100000 in
theorem mparts_far4 (A B C D : Option Addr) (n c m d o e q f : Nat) (q1 q2 : Int) (w : World) (hn : n ≤ 100) (hm : m ≤ 100) (ho : o ≤ 100) (hq : q ≤ 100) (HC0 : Hid (∀ W, Kp w W → Calls Try.prog 22 #[.agg #[.slice A n c, .slice B m d]] W fun e w' => e = .returned (.bool true) ∧ Kp W w')) (hx0 : ¬ q1 < 0) (hx : (n : Int) ≤ q1) :
    Calls Try.prog 5 #[.agg #[.slice A n c, .slice B m d], .agg #[.slice C o e, .slice D q f], .int .i64 q1, .int .i64 q2] w fun e w' => e = .returned (.bool true) ∧ Kp w w' := by
  go_enter Try.func5, Try.ntmps5
  go_wp2_with fail
  refine (mvawake_any _).mono ?_; rintro e0 w0 ⟨rfl, k0⟩
  have K := Lib.hid (((Kp.alloc_ _ _).al _).tr k0)
  have T0B : Hid (Bk w0 (w.heap.size) A n c B m d) := ((Bk.new rfl).alloc_ _).kp k0
  have T1B : Hid (Bk w0 (w.heap.size + 1) C o e D q f) := (Bk.new (by simp)).kp k0
  clear k0
  have zt0b0 := T0B.out.c0
  have zt0b1 := T0B.out.c1
  have zt0b2 := T0B.out.lt
  have zt1b0 := T1B.out.c0
  have zt1b1 := T1B.out.c1
  have zt1b2 := T1B.out.lt
  go_wp2_with fail
  refine (few_yes hn hm).mono ?_; rintro e0 w1 ⟨rfl, k1⟩
  have K := Lib.hid (K.out.tr k1)
  have T0B := Lib.hid (T0B.out.kp k1)
  have T1B := Lib.hid (T1B.out.kp k1)
  clear k1 zt0b0 zt0b1 zt0b2 zt1b0 zt1b1 zt1b2
  have zt0b0 := T0B.out.c0
  have zt0b1 := T0B.out.c1
  have zt0b2 := T0B.out.lt
  have zt1b0 := T1B.out.c0
  have zt1b1 := T1B.out.c1
  have zt1b2 := T1B.out.lt
  go_wp2_with fail
  refine (few_yes ho hq).mono ?_; rintro e0 w2 ⟨rfl, k2⟩
  have K := Lib.hid (K.out.tr k2)
  have T0B := Lib.hid (T0B.out.kp k2)
  have T1B := Lib.hid (T1B.out.kp k2)
  clear k2 zt0b0 zt0b1 zt0b2 zt1b0 zt1b1 zt1b2
  have zt0b0 := T0B.out.c0
  have zt0b1 := T0B.out.c1
  have zt0b2 := T0B.out.lt
  have zt1b0 := T1B.out.c0
  have zt1b1 := T1B.out.c1
  have zt1b2 := T1B.out.lt
  go_wp2_with fail
  refine (HC0.out _ K.out).mono ?_; rintro e0 w3 ⟨rfl, k3⟩
  have K := Lib.hid (K.out.tr k3)
  have T0B := Lib.hid (T0B.out.kp k3)
  have T1B := Lib.hid (T1B.out.kp k3)
  clear k3 zt0b0 zt0b1 zt0b2 zt1b0 zt1b1 zt1b2
  have zt0b0 := T0B.out.c0
  have zt0b1 := T0B.out.c1
  have zt0b2 := T0B.out.lt
  have zt1b0 := T1B.out.c0
  have zt1b1 := T1B.out.c1
  have zt1b2 := T1B.out.lt
  go_wp2
  go_ret
  exact ⟨rfl, K.out⟩

set_option maxHeartbeats 8000000 in
set_option maxRecDepth 100000 in
theorem mparts_with (A B C D : Option Addr) (n c m d o e q f : Nat) (k : Nat) (q2 : Int) (w : World) (hn : n ≤ 100) (hm : m ≤ 100) (ho : o ≤ 100) (hq : q ≤ 100) (HC0 : Hid (∀ W, Kp w W → Calls Try.prog 22 #[.agg #[.slice A n c, .slice B m d]] W fun e w' => e = .returned (.bool true) ∧ Kp W w')) (s xs t ys l1 k1 l2 k2 l3 k3 g jk : List Int) (a1 b1 a2 b2 a3 b3 a4 b4 : Nat) (e1 e2 e3 e4 sd jv : Int) (hk : k < n)
    (L0 : Hid (s.length = n ∧ xs.length = m ∧ t.length = o ∧ ys.length = q)) (HT : Hid (TR w A s B xs)) (HU : Hid (TR w C t D ys)) (HSX : Hid (s[k]? = some sd))
    (HCU : Hid (q2 < 1 ∨ sd ≤ q2 ∨ (e1 = 0 ∧ e2 = 0 ∧ e3 = 0 ∧ s = l3 ∧ xs = k3 ∧ n = a3 ∧ m = b3))) (HJ : Hid (e4 = 0 → n = a4 ∧ g.length = a4 ∧ g[k]? = some jv))
    (C1 : Hid (∀ W, Kp w W → Calls Try.prog 16 #[.agg #[.slice A n c, .slice B m d], .int .i64 (k : Int), .int .i64 0, .int .i64 q2] W (RetU l1 k1 a1 b1 e1 W)))
    (C2 : Hid (∀ W, Kp w W → Calls Try.prog 16 #[.agg #[.slice A n c, .slice B m d], .int .i64 (k : Int), .int .i64 q2, .int .i64 sd] W (RetU l2 k2 a2 b2 e2 W)))
    (C3 : Hid (∀ W A0 B0 c0 d0 A1 B1 c1 d1, Kp w W → TR W A0 l1 B0 k1 → TR W A1 l2 B1 k2 → Calls Try.prog 20 #[.agg #[.slice A0 a1 c0, .slice B0 b1 d0], .agg #[.slice A1 a2 c1, .slice B1 b2 d1], .int .i64 (k : Int)] W (RetU l3 k3 a3 b3 e3 W)))
    (C4 : Hid (∀ W, Kp w W → Calls Try.prog 20 #[.agg #[.slice A n c, .slice B m d], .agg #[.slice C o e, .slice D q f], .int .i64 (k : Int)] W (RetU g jk a4 b4 e4 W)))
    (C5 : Hid (∀ W A0 B0 c0 d0, e4 = 0 → Kp w W → TR W A0 g B0 jk → Calls Try.prog 16 #[.agg #[.slice A0 a4 c0, .slice B0 b4 d0], .int .i64 (k : Int), .int .i64 0, .int .i64 sd] W (RetU s xs n m 0 W)))
    (C6 : Hid (∀ W A0 B0 c0 d0, e4 = 0 → Kp w W → TR W A0 g B0 jk → Calls Try.prog 16 #[.agg #[.slice A0 a4 c0, .slice B0 b4 d0], .int .i64 (k : Int), .int .i64 sd, .int .i64 jv] W (RetU t ys o q 0 W))) :
    Calls Try.prog 5 #[.agg #[.slice A n c, .slice B m d], .agg #[.slice C o e, .slice D q f], .int .i64 (k : Int), .int .i64 q2] w fun e w' => e = .returned (.bool true) ∧ Kp w w' := by
  have j1 : (0 : Int) ≤ (k : Int) := by omega
  have j2 : (k : Int) < (n : Int) := by omega
  have hx0 : ¬ (k : Int) < 0 := by omega
  have hx1 : ¬ (n : Int) ≤ (k : Int) := by omega
  have hxn : ¬ n ≤ k := by omega
  obtain ⟨ad, CA, rfl⟩ := ce_of HT.out.s HSX.out
  go_enter Try.func5, Try.ntmps5
  go_wp2_with fail
  refine (mvawake_any _).mono ?_; rintro e0 w0 ⟨rfl, k0⟩
  have K := Lib.hid (((Kp.alloc_ _ _).al _).tr k0)
  have CA := Lib.hid (((CA.out.alloc_ _).alloc_ _).kp k0)
  have HT := Lib.hid (((HT.out.alloc_ _).alloc_ _).kp k0)
  have HU := Lib.hid (((HU.out.alloc_ _).alloc_ _).kp k0)
  have T0B : Hid (Bk w0 (w.heap.size) (some ad) n c B m d) := ((Bk.new rfl).alloc_ _).kp k0
  have T1B : Hid (Bk w0 (w.heap.size + 1) C o e D q f) := (Bk.new (by simp)).kp k0
  clear k0
  have zt0b0 := T0B.out.c0
  have zt0b1 := T0B.out.c1
  have zt0b2 := T0B.out.lt
  have zt1b0 := T1B.out.c0
  have zt1b1 := T1B.out.c1
  have zt1b2 := T1B.out.lt
  go_wp2_with fail
  refine (few_yes hn hm).mono ?_; rintro e0 w1 ⟨rfl, k1⟩
  have K := Lib.hid (K.out.tr k1)
  have T0B := Lib.hid (T0B.out.kp k1)
  have T1B := Lib.hid (T1B.out.kp k1)
  have CA := Lib.hid (CA.out.kp k1)
  have HT := Lib.hid (HT.out.kp k1)
  have HU := Lib.hid (HU.out.kp k1)
  clear k1 zt0b0 zt0b1 zt0b2 zt1b0 zt1b1 zt1b2
  have zt0b0 := T0B.out.c0
  have zt0b1 := T0B.out.c1
  have zt0b2 := T0B.out.lt
  have zt1b0 := T1B.out.c0
  have zt1b1 := T1B.out.c1
  have zt1b2 := T1B.out.lt
  go_wp2_with fail
  refine (few_yes ho hq).mono ?_; rintro e0 w2 ⟨rfl, k2⟩
  have K := Lib.hid (K.out.tr k2)
  have T0B := Lib.hid (T0B.out.kp k2)
  have T1B := Lib.hid (T1B.out.kp k2)
  have CA := Lib.hid (CA.out.kp k2)
  have HT := Lib.hid (HT.out.kp k2)
  have HU := Lib.hid (HU.out.kp k2)
  clear k2 zt0b0 zt0b1 zt0b2 zt1b0 zt1b1 zt1b2
  have zt0b0 := T0B.out.c0
  have zt0b1 := T0B.out.c1
  have zt0b2 := T0B.out.lt
  have zt1b0 := T1B.out.c0
  have zt1b1 := T1B.out.c1
  have zt1b2 := T1B.out.lt
  go_wp2_with fail
  refine (HC0.out _ K.out).mono ?_; rintro e0 w3 ⟨rfl, k3⟩
  have K := Lib.hid (K.out.tr k3)
  have T0B := Lib.hid (T0B.out.kp k3)
  have T1B := Lib.hid (T1B.out.kp k3)
  have CA := Lib.hid (CA.out.kp k3)
  have HT := Lib.hid (HT.out.kp k3)
  have HU := Lib.hid (HU.out.kp k3)
  clear k3 zt0b0 zt0b1 zt0b2 zt1b0 zt1b1 zt1b2
  have zt0b0 := T0B.out.c0
  have zt0b1 := T0B.out.c1
  have zt0b2 := T0B.out.lt
  have zt1b0 := T1B.out.c0
  have zt1b1 := T1B.out.c1
  have zt1b2 := T1B.out.lt
  have hce := CA.out.1
  go_wp2_with fail
  refine (C1.out _ K.out).mono ?_; rintro e0 w4 ⟨A4, c4, B4, d4, rfl, r4, k4⟩
  have K := Lib.hid (K.out.tr k4)
  have T0B := Lib.hid (T0B.out.kp k4)
  have T1B := Lib.hid (T1B.out.kp k4)
  have CA := Lib.hid (CA.out.kp k4)
  have HT := Lib.hid (HT.out.kp k4)
  have HU := Lib.hid (HU.out.kp k4)
  have P1 := Lib.hid r4
  clear k4 r4 zt0b0 zt0b1 zt0b2 zt1b0 zt1b1 zt1b2 hce
  have zt0b0 := T0B.out.c0
  have zt0b1 := T0B.out.c1
  have zt0b2 := T0B.out.lt
  go_wp2_with fail
  refine (C2.out _ (K.out.al _)).mono ?_; rintro e0 w5 ⟨A5, c5, B5, d5, rfl, r5, k5⟩
  have K := Lib.hid ((K.out.al _).tr k5)
  have T0B := Lib.hid ((T0B.out.alloc_ _).kp k5)
  have T1B := Lib.hid ((T1B.out.alloc_ _).kp k5)
  have CA := Lib.hid ((CA.out.alloc_ _).kp k5)
  have HT := Lib.hid ((HT.out.alloc_ _).kp k5)
  have HU := Lib.hid ((HU.out.alloc_ _).kp k5)
  have P1 := Lib.hid ((P1.out.alloc_ _).kp k5)
  have P1B : Hid (Bk w5 w4.heap.size A4 a1 c4 B4 b1 d4) := (Bk.new rfl).kp k5
  have P2 := Lib.hid r5
  clear k5 r5 zt0b0 zt0b1 zt0b2
  have zp1b0 := P1B.out.c0
  have zp1b1 := P1B.out.c1
  have zp1b2 := P1B.out.lt
  go_wp2_with fail
  refine (C3.out _ _ _ _ _ _ _ _ _ (K.out.al _) (P1.out.alloc_ _) (P2.out.alloc_ _)).mono ?_; rintro e0 w6 ⟨A6, c6, B6, d6, rfl, r6, k6⟩
  have K := Lib.hid ((K.out.al _).tr k6)
  have T0B := Lib.hid ((T0B.out.alloc_ _).kp k6)
  have T1B := Lib.hid ((T1B.out.alloc_ _).kp k6)
  have CA := Lib.hid ((CA.out.alloc_ _).kp k6)
  have HT := Lib.hid ((HT.out.alloc_ _).kp k6)
  have HU := Lib.hid ((HU.out.alloc_ _).kp k6)
  have P2B : Hid (Bk w6 w5.heap.size A5 a2 c5 B5 b2 d5) := (Bk.new rfl).kp k6
  have P3 := Lib.hid r6
  clear k6 r6 zp1b0 zp1b1 zp1b2 P1 P2 P1B
  have zt0b0 := T0B.out.c0
  have zt0b1 := T0B.out.c1
  have zt0b2 := T0B.out.lt
  have zt1b0 := T1B.out.c0
  have zt1b1 := T1B.out.c1
  have zt1b2 := T1B.out.lt
  rcases HCU.out with hc1 | hc2 | hc3
  · skip
    go_wp2_with fail
    refine (C4.out _ (K.out.al _)).mono ?_; rintro e0 w7 ⟨A7, c7, B7, d7, rfl, r7, k7⟩
    have K := Lib.hid ((K.out.al _).tr k7)
    have T0B := Lib.hid ((T0B.out.alloc_ _).kp k7)
    have T1B := Lib.hid ((T1B.out.alloc_ _).kp k7)
    have P2B := Lib.hid ((P2B.out.alloc_ _).kp k7)
    have CA := Lib.hid ((CA.out.alloc_ _).kp k7)
    have HT := Lib.hid ((HT.out.alloc_ _).kp k7)
    have HU := Lib.hid ((HU.out.alloc_ _).kp k7)
    have P3 := Lib.hid ((P3.out.alloc_ _).kp k7)
    have P3B : Hid (Bk w7 w6.heap.size A6 a3 c6 B6 b3 d6) := (Bk.new rfl).kp k7
    have J := Lib.hid r7
    clear k7 r7 zt0b0 zt0b1 zt0b2 zt1b0 zt1b1 zt1b2
    have zt0b0 := T0B.out.c0
    have zt0b1 := T0B.out.c1
    have zt0b2 := T0B.out.lt
    by_cases h4 : e4 = 0
    · obtain ⟨ja, jl, jx⟩ := HJ.out h4
      subst h4 ja
      obtain ⟨aj, CJ, ej⟩ := ce_of J.out.s jx
      subst ej
      clear jx jl
      go_wp2_with fail
      refine (C5.out _ _ _ _ _ (by simp) (K.out.al _) (J.out.alloc_ _)).mono ?_; rintro e0 w8 ⟨A8, c8, B8, d8, rfl, r8, k8⟩
      have K := Lib.hid ((K.out.al _).tr k8)
      have T0B := Lib.hid ((T0B.out.alloc_ _).kp k8)
      have T1B := Lib.hid ((T1B.out.alloc_ _).kp k8)
      have P2B := Lib.hid ((P2B.out.alloc_ _).kp k8)
      have P3B := Lib.hid ((P3B.out.alloc_ _).kp k8)
      have CA := Lib.hid ((CA.out.alloc_ _).kp k8)
      have HT := Lib.hid ((HT.out.alloc_ _).kp k8)
      have HU := Lib.hid ((HU.out.alloc_ _).kp k8)
      have P3 := Lib.hid ((P3.out.alloc_ _).kp k8)
      have J := Lib.hid ((J.out.alloc_ _).kp k8)
      have CJ := Lib.hid ((CJ.out.alloc_ _).kp k8)
      have JB : Hid (Bk w8 w7.heap.size (some aj) n c7 B7 b4 d7) := (Bk.new rfl).kp k8
      have X := Lib.hid r8
      clear k8 r8 zt0b0 zt0b1 zt0b2
      go_upto_region 15 with fail
      obtain ⟨W8, HW8⟩ : ∃ W8, Hid (W8 = w8.alloc (.cells #[.slice A8 n c8, .slice B8 m d8] 24)) := ⟨_, rfl⟩
      have hkx : Kp w8 W8 := by rw [HW8.out]; exact Kp.alloc_ _ _
      have XB : Hid (Bk W8 w8.heap.size A8 n c8 B8 m d8) := by show Bk _ _ _ _ _ _ _ _; rw [HW8.out]; exact Bk.new rfl
      rw [← HW8.out]
      have K := Lib.hid (K.out.tr hkx)
      have T0B := Lib.hid (T0B.out.kp hkx)
      have T1B := Lib.hid (T1B.out.kp hkx)
      have P2B := Lib.hid (P2B.out.kp hkx)
      have P3B := Lib.hid (P3B.out.kp hkx)
      have JB := Lib.hid (JB.out.kp hkx)
      have CA := Lib.hid (CA.out.kp hkx)
      have HT := Lib.hid (HT.out.kp hkx)
      have HU := Lib.hid (HU.out.kp hkx)
      have P3 := Lib.hid (P3.out.kp hkx)
      have J := Lib.hid (J.out.kp hkx)
      have CJ := Lib.hid (CJ.out.kp hkx)
      have X := Lib.hid (X.out.kp hkx)
      clear hkx HW8 
      go_cut [22, 23] (fun vb ve wx => ve = .int .i64 0 ∧ ∃ b9 A9 c9 B9 d9, vb = .pointer (some ⟨b9, 0, none⟩) ∧ Hid (Bk wx b9 A9 o c9 B9 q d9) ∧ Hid (TR wx A9 t B9 ys) ∧ Hid (Kp W8 wx))
      case first =>
        have hdr8 : Hid (Kp W8 W8.drew) := Below.drew (Kp.refl _)
        have HKX : Hid (∀ V, Kp W8 V → V.cell? ⟨w7.heap.size, 0, none⟩ = some (.slice (some aj) n c7) ∧ V.cell? ⟨w7.heap.size, 1, none⟩ = some (.slice B7 b4 d7) ∧ V.cell? (aj.add k) = some (.int .i64 jv)) := fun V kV => ⟨(JB.out.kp kV).c0, (JB.out.kp kV).c1, (CJ.out.kp kV).1⟩
        have s0 := HKX.out _ hdr8.out
        refine wp_region_held_drew (S := fun V => V.cell? ⟨w7.heap.size, 0, none⟩ = some (.slice (some aj) n c7) ∧ V.cell? ⟨w7.heap.size, 1, none⟩ = some (.slice B7 b4 d7) ∧ V.cell? (aj.add k) = some (.int .i64 jv)) (by kernel_rfl) s0 (fun hHeld => ?_)
        refine wpAnyH_take (i := 0) (v := .agg #[.slice (some aj) n c7, .slice B7 b4 d7]) rfl (by kernel_rfl) (by kernel_rfl) (by kernel_rfl) (fun _ _ _ h => h) (Or.inl ⟨by rfl, fun V hSV => ?_⟩) hHeld ?_
        · (try dsimp only at hSV); go_simp
        try simp only [Act.put, List.setIfInBounds_toArray, List.set_cons_zero, List.set_cons_succ]
        refine wpAnyH_take (i := 1) (v := .int .i64 (k : Int)) rfl (by kernel_rfl) (by kernel_rfl) (by kernel_rfl) (fun _ _ _ h => h) (Or.inl ⟨by rfl, fun V hSV => ?_⟩) hHeld ?_
        · (try dsimp only at hSV); go_simp
        try simp only [Act.put, List.setIfInBounds_toArray, List.set_cons_zero, List.set_cons_succ]
        refine wpAnyH_take (i := 2) (v := .int .i64 sd) rfl (by kernel_rfl) (by kernel_rfl) (by kernel_rfl) (fun _ _ _ h => h) (Or.inl ⟨by rfl, fun V hSV => ?_⟩) hHeld ?_
        · (try dsimp only at hSV); go_simp
        try simp only [Act.put, List.setIfInBounds_toArray, List.set_cons_zero, List.set_cons_succ]
        refine wpAnyH_take (i := 3) (v := .pointer (some ⟨w7.heap.size, 0, none⟩)) rfl (by kernel_rfl) (by kernel_rfl) (by kernel_rfl) (fun _ _ _ h => h) (Or.inl ⟨by rfl, fun V hSV => ?_⟩) hHeld ?_
        · (try dsimp only at hSV); go_simp
        try simp only [Act.put, List.setIfInBounds_toArray, List.set_cons_zero, List.set_cons_succ]
        refine wpAnyH_take (i := 4) (v := .slice (some aj) n c7) rfl (by kernel_rfl) (by kernel_rfl) (by kernel_rfl) (fun _ _ _ h => h) (Or.inl ⟨by rfl, fun V hSV => ?_⟩) hHeld ?_
        · (try dsimp only at hSV); go_simp
        try simp only [Act.put, List.setIfInBounds_toArray, List.set_cons_zero, List.set_cons_succ]
        refine wpAnyH_take (i := 5) (v := .int .i64 (k : Int)) rfl (by kernel_rfl) (by kernel_rfl) (by kernel_rfl) (fun _ _ _ h => h) (Or.inl ⟨by rfl, fun V hSV => ?_⟩) hHeld ?_
        · (try dsimp only at hSV); go_simp
        try simp only [Act.put, List.setIfInBounds_toArray, List.set_cons_zero, List.set_cons_succ]
        refine wpAnyH_take (i := 6) (v := .pointer (some (aj.add k))) rfl (by kernel_rfl) (by kernel_rfl) (by kernel_rfl) (fun _ _ _ h => h) (Or.inl ⟨by rfl, fun V hSV => ?_⟩) hHeld ?_
        · (try dsimp only at hSV); go_simp
        try simp only [Act.put, List.setIfInBounds_toArray, List.set_cons_zero, List.set_cons_succ]
        refine wpAnyH_take (i := 7) (v := .int .i64 jv) rfl (by kernel_rfl) (by kernel_rfl) (by kernel_rfl) (fun _ _ _ h => h) (Or.inl ⟨by rfl, fun V hSV => ?_⟩) hHeld ?_
        · (try dsimp only at hSV); go_simp
        try simp only [Act.put, List.setIfInBounds_toArray, List.set_cons_zero, List.set_cons_succ]
        refine wpAnyH_ready (rs := [8, 12]) (by kernel_rfl) (by simp) ?_
        refine AllReadyH.cons rfl (fun K9_ hK => ?_) ?_
        · go_simp
          refine (C6.out _ _ _ _ _ (by simp) (K.out.tr hdr8.out) (J.out.kp hdr8.out)).mono ?_; rintro e0 w9 ⟨A9, c9, B9, d9, rfl, r9, k9⟩
          dsimp only
          have K9 : Hid (Kp W8 w9) := undrawn k9
          have hq := HKX.out _ K9.out
          have R9 := Lib.hid r9
          clear r9 k9
          refine hK.out _ _ ?_ (fun hHeld => ?_)
          · exact hq
          clear hK
          try simp only [Act.put, List.setIfInBounds_toArray, List.set_cons_zero, List.set_cons_succ]
          refine wpAnyH_take (i := 9) (v := .tuple #[.agg #[.slice A9 o c9, .slice B9 q d9], .int .i64 0]) rfl (by kernel_rfl) (by kernel_rfl) (by kernel_rfl) (fun _ _ _ h => h) (Or.inl ⟨by rfl, fun V hSV => ?_⟩) hHeld ?_
          · (try dsimp only at hSV); go_simp
          try simp only [Act.put, List.setIfInBounds_toArray, List.set_cons_zero, List.set_cons_succ]
          refine wpAnyH_take (i := 10) (v := .agg #[.slice A9 o c9, .slice B9 q d9]) rfl (by kernel_rfl) (by kernel_rfl) (by kernel_rfl) (fun _ _ _ h => h) (Or.inl ⟨by rfl, fun V hSV => ?_⟩) hHeld ?_
          · (try dsimp only at hSV); go_simp
          try simp only [Act.put, List.setIfInBounds_toArray, List.set_cons_zero, List.set_cons_succ]
          refine wpAnyH_take (i := 11) (v := .int .i64 0) rfl (by kernel_rfl) (by kernel_rfl) (by kernel_rfl) (fun _ _ _ h => h) (Or.inl ⟨by rfl, fun V hSV => ?_⟩) hHeld ?_
          · (try dsimp only at hSV); go_simp
          try simp only [Act.put, List.setIfInBounds_toArray, List.set_cons_zero, List.set_cons_succ]
          refine wpAnyH_ready (rs := [12]) (by kernel_rfl) (by simp) ?_
          refine AllReadyH.cons rfl (fun K9_ hK => ?_) AllReadyH.nil
          go_simp
          refine hK.out _ _ ?_ (fun hHeld => ?_)
          · exact HKX.out _ (K9.out.al _)
          clear hK
          try simp only [Act.put, List.setIfInBounds_toArray, List.set_cons_zero, List.set_cons_succ]
          refine wpAnyH_ready (rs := [13]) (by kernel_rfl) (by simp) ?_
          refine AllReadyH.cons rfl (fun K9_ hK => ?_) AllReadyH.nil
          go_simp
          refine hK.out _ _ ?_ (fun hHeld => ?_)
          · exact HKX.out _ (K9.out.al _)
          clear hK
          try simp only [Act.put, List.setIfInBounds_toArray, List.set_cons_zero, List.set_cons_succ]
          refine wpAnyH_ready (rs := [14]) (by kernel_rfl) (by simp) ?_
          refine AllReadyH.cons rfl (fun K9_ hK => ?_) AllReadyH.nil
          go_simp
          refine hK.out _ _ ?_ (fun hHeld => ?_)
          · exact HKX.out _ (K9.out.al _)
          clear hK
          try simp only [Act.put, List.setIfInBounds_toArray, List.set_cons_zero, List.set_cons_succ]
          refine wpAnyH_done (by kernel_rfl) ?_ _
          go_wp2
          go_meet
          exact ⟨rfl, w9.heap.size, A9, c9, B9, d9, rfl, Bk.new rfl, R9.out.alloc_ _, K9.out.al _⟩
        refine AllReadyH.cons rfl (fun K9_ hK => ?_) AllReadyH.nil
        go_simp
        refine hK.out _ _ ?_ (fun hHeld => ?_)
        · exact HKX.out _ (hdr8.out.al _)
        clear hK
        try simp only [Act.put, List.setIfInBounds_toArray, List.set_cons_zero, List.set_cons_succ]
        refine wpAnyH_ready (rs := [8]) (by kernel_rfl) (by simp) ?_
        refine AllReadyH.cons rfl (fun K9_ hK => ?_) AllReadyH.nil
        go_simp
        refine (C6.out _ _ _ _ _ (by simp) (K.out.tr (hdr8.out.al _)) (J.out.kp (hdr8.out.al _))).mono ?_; rintro e0 w9 ⟨A9, c9, B9, d9, rfl, r9, k9⟩
        dsimp only
        have K9 : Hid (Kp W8 w9) := (hdr8.out.al _).tr k9
        have hq := HKX.out _ K9.out
        have R9 := Lib.hid r9
        have TZ : Hid (Bk w9 W8.heap.size none 0 0 none 0 0) := Bk.kp (Bk.new (W := W8.drew) rfl) k9
        have z0 := TZ.out.c0
        have z1 := TZ.out.c1
        have z2 := TZ.out.f0 0
        have z3 := TZ.out.f0 1
        clear r9 k9
        refine hK.out _ _ ?_ (fun hHeld => ?_)
        · exact hq
        clear hK
        try simp only [Act.put, List.setIfInBounds_toArray, List.set_cons_zero, List.set_cons_succ]
        refine wpAnyH_take (i := 9) (v := .tuple #[.agg #[.slice A9 o c9, .slice B9 q d9], .int .i64 0]) rfl (by kernel_rfl) (by kernel_rfl) (by kernel_rfl) (fun _ _ _ h => h) (Or.inl ⟨by rfl, fun V hSV => ?_⟩) hHeld ?_
        · (try dsimp only at hSV); go_simp
        try simp only [Act.put, List.setIfInBounds_toArray, List.set_cons_zero, List.set_cons_succ]
        refine wpAnyH_take (i := 10) (v := .agg #[.slice A9 o c9, .slice B9 q d9]) rfl (by kernel_rfl) (by kernel_rfl) (by kernel_rfl) (fun _ _ _ h => h) (Or.inl ⟨by rfl, fun V hSV => ?_⟩) hHeld ?_
        · (try dsimp only at hSV); go_simp
        try simp only [Act.put, List.setIfInBounds_toArray, List.set_cons_zero, List.set_cons_succ]
        refine wpAnyH_take (i := 11) (v := .int .i64 0) rfl (by kernel_rfl) (by kernel_rfl) (by kernel_rfl) (fun _ _ _ h => h) (Or.inl ⟨by rfl, fun V hSV => ?_⟩) hHeld ?_
        · (try dsimp only at hSV); go_simp
        try simp only [Act.put, List.setIfInBounds_toArray, List.set_cons_zero, List.set_cons_succ]
        refine wpAnyH_ready (rs := [13]) (by kernel_rfl) (by simp) ?_
        refine AllReadyH.cons rfl (fun K9_ hK => ?_) AllReadyH.nil
        go_simp
        refine hK.out _ _ ?_ (fun hHeld => ?_)
        · exact HKX.out _ ((K9.out.setCell (p := ⟨W8.heap.size, 0, none⟩) (Nat.le_refl _) _).setCell (p := ⟨W8.heap.size, 1, none⟩) (Nat.le_refl _) _)
        clear hK
        try simp only [Act.put, List.setIfInBounds_toArray, List.set_cons_zero, List.set_cons_succ]
        refine wpAnyH_ready (rs := [14]) (by kernel_rfl) (by simp) ?_
        refine AllReadyH.cons rfl (fun K9_ hK => ?_) AllReadyH.nil
        go_simp
        refine hK.out _ _ ?_ (fun hHeld => ?_)
        · exact HKX.out _ ((K9.out.setCell (p := ⟨W8.heap.size, 0, none⟩) (Nat.le_refl _) _).setCell (p := ⟨W8.heap.size, 1, none⟩) (Nat.le_refl _) _)
        clear hK
        try simp only [Act.put, List.setIfInBounds_toArray, List.set_cons_zero, List.set_cons_succ]
        refine wpAnyH_done (by kernel_rfl) ?_ _
        go_wp2
        go_meet
        exact ⟨rfl, W8.heap.size, A9, c9, B9, d9, rfl, TZ.out.put, R9.out.past TZ.out _ _, ((K9.out.setCell (p := ⟨W8.heap.size, 0, none⟩) (Nat.le_refl _) _).setCell (p := ⟨W8.heap.size, 1, none⟩) (Nat.le_refl _) _)⟩
      case rest =>
        obtain ⟨rfl, b_Y, A_Y, c_Y, B_Y, d_Y, rfl, YB, Y, k_Y⟩ := hcut
        have K := Lib.hid (K.out.tr k_Y.out)
        have T0B := Lib.hid (T0B.out.kp k_Y.out)
        have T1B := Lib.hid (T1B.out.kp k_Y.out)
        have P2B := Lib.hid (P2B.out.kp k_Y.out)
        have P3B := Lib.hid (P3B.out.kp k_Y.out)
        have JB := Lib.hid (JB.out.kp k_Y.out)
        have XB := Lib.hid (XB.out.kp k_Y.out)
        have CA := Lib.hid (CA.out.kp k_Y.out)
        have HT := Lib.hid (HT.out.kp k_Y.out)
        have HU := Lib.hid (HU.out.kp k_Y.out)
        have P3 := Lib.hid (P3.out.kp k_Y.out)
        have J := Lib.hid (J.out.kp k_Y.out)
        have CJ := Lib.hid (CJ.out.kp k_Y.out)
        have X := Lib.hid (X.out.kp k_Y.out)
        clear k_Y
        have zxb0 := XB.out.c0
        have zxb1 := XB.out.c1
        have zxb2 := XB.out.lt
        have zt0b0 := T0B.out.c0
        have zt0b1 := T0B.out.c1
        have zt0b2 := T0B.out.lt
        go_wp2_with fail
        refine (tsame_u X.out HT.out L0.out.1 L0.out.2.1).mono ?_; rintro e0 w9 ⟨rfl, k9⟩
        have K := Lib.hid (K.out.tr k9)
        have T0B := Lib.hid (T0B.out.kp k9)
        have T1B := Lib.hid (T1B.out.kp k9)
        have P2B := Lib.hid (P2B.out.kp k9)
        have P3B := Lib.hid (P3B.out.kp k9)
        have JB := Lib.hid (JB.out.kp k9)
        have XB := Lib.hid (XB.out.kp k9)
        have YB := Lib.hid (YB.out.kp k9)
        have CA := Lib.hid (CA.out.kp k9)
        have HT := Lib.hid (HT.out.kp k9)
        have HU := Lib.hid (HU.out.kp k9)
        have P3 := Lib.hid (P3.out.kp k9)
        have J := Lib.hid (J.out.kp k9)
        have CJ := Lib.hid (CJ.out.kp k9)
        have X := Lib.hid (X.out.kp k9)
        have Y := Lib.hid (Y.out.kp k9)
        clear k9 zxb0 zxb1 zxb2 zt0b0 zt0b1 zt0b2
        have zyb0 := YB.out.c0
        have zyb1 := YB.out.c1
        have zyb2 := YB.out.lt
        have zt1b0 := T1B.out.c0
        have zt1b1 := T1B.out.c1
        have zt1b2 := T1B.out.lt
        go_wp2_with fail
        refine (tsame_u Y.out HU.out L0.out.2.2.1 L0.out.2.2.2).mono ?_; rintro e0 w10 ⟨rfl, k10⟩
        have K := Lib.hid (K.out.tr k10)
        have T0B := Lib.hid (T0B.out.kp k10)
        have T1B := Lib.hid (T1B.out.kp k10)
        have P2B := Lib.hid (P2B.out.kp k10)
        have P3B := Lib.hid (P3B.out.kp k10)
        have JB := Lib.hid (JB.out.kp k10)
        have XB := Lib.hid (XB.out.kp k10)
        have YB := Lib.hid (YB.out.kp k10)
        have CA := Lib.hid (CA.out.kp k10)
        have HT := Lib.hid (HT.out.kp k10)
        have HU := Lib.hid (HU.out.kp k10)
        have P3 := Lib.hid (P3.out.kp k10)
        have J := Lib.hid (J.out.kp k10)
        have CJ := Lib.hid (CJ.out.kp k10)
        have X := Lib.hid (X.out.kp k10)
        have Y := Lib.hid (Y.out.kp k10)
        clear k10 zyb0 zyb1 zyb2 zt1b0 zt1b1 zt1b2
        go_wp2
        go_ret
        exact ⟨rfl, K.out⟩
    · skip
      go_wp2
      go_ret
      exact ⟨rfl, K.out.al _⟩
  · by_cases hc1 : q2 < 1
    · skip
      go_wp2_with fail
      refine (C4.out _ (K.out.al _)).mono ?_; rintro e0 w7 ⟨A7, c7, B7, d7, rfl, r7, k7⟩
      have K := Lib.hid ((K.out.al _).tr k7)
      have T0B := Lib.hid ((T0B.out.alloc_ _).kp k7)
      have T1B := Lib.hid ((T1B.out.alloc_ _).kp k7)
      have P2B := Lib.hid ((P2B.out.alloc_ _).kp k7)
      have CA := Lib.hid ((CA.out.alloc_ _).kp k7)
      have HT := Lib.hid ((HT.out.alloc_ _).kp k7)
      have HU := Lib.hid ((HU.out.alloc_ _).kp k7)
      have P3 := Lib.hid ((P3.out.alloc_ _).kp k7)
      have P3B : Hid (Bk w7 w6.heap.size A6 a3 c6 B6 b3 d6) := (Bk.new rfl).kp k7
      have J := Lib.hid r7
      clear k7 r7 zt0b0 zt0b1 zt0b2 zt1b0 zt1b1 zt1b2
      have zt0b0 := T0B.out.c0
      have zt0b1 := T0B.out.c1
      have zt0b2 := T0B.out.lt
      by_cases h4 : e4 = 0
      · obtain ⟨ja, jl, jx⟩ := HJ.out h4
        subst h4 ja
        obtain ⟨aj, CJ, ej⟩ := ce_of J.out.s jx
        subst ej
        clear jx jl
        go_wp2_with fail
        refine (C5.out _ _ _ _ _ (by simp) (K.out.al _) (J.out.alloc_ _)).mono ?_; rintro e0 w8 ⟨A8, c8, B8, d8, rfl, r8, k8⟩
        have K := Lib.hid ((K.out.al _).tr k8)
        have T0B := Lib.hid ((T0B.out.alloc_ _).kp k8)
        have T1B := Lib.hid ((T1B.out.alloc_ _).kp k8)
        have P2B := Lib.hid ((P2B.out.alloc_ _).kp k8)
        have P3B := Lib.hid ((P3B.out.alloc_ _).kp k8)
        have CA := Lib.hid ((CA.out.alloc_ _).kp k8)
        have HT := Lib.hid ((HT.out.alloc_ _).kp k8)
        have HU := Lib.hid ((HU.out.alloc_ _).kp k8)
        have P3 := Lib.hid ((P3.out.alloc_ _).kp k8)
        have J := Lib.hid ((J.out.alloc_ _).kp k8)
        have CJ := Lib.hid ((CJ.out.alloc_ _).kp k8)
        have JB : Hid (Bk w8 w7.heap.size (some aj) n c7 B7 b4 d7) := (Bk.new rfl).kp k8
        have X := Lib.hid r8
        clear k8 r8 zt0b0 zt0b1 zt0b2
        go_upto_region 15 with fail
        obtain ⟨W8, HW8⟩ : ∃ W8, Hid (W8 = w8.alloc (.cells #[.slice A8 n c8, .slice B8 m d8] 24)) := ⟨_, rfl⟩
        have hkx : Kp w8 W8 := by rw [HW8.out]; exact Kp.alloc_ _ _
        have XB : Hid (Bk W8 w8.heap.size A8 n c8 B8 m d8) := by show Bk _ _ _ _ _ _ _ _; rw [HW8.out]; exact Bk.new rfl
        rw [← HW8.out]
        have K := Lib.hid (K.out.tr hkx)
        have T0B := Lib.hid (T0B.out.kp hkx)
        have T1B := Lib.hid (T1B.out.kp hkx)
        have P2B := Lib.hid (P2B.out.kp hkx)
        have P3B := Lib.hid (P3B.out.kp hkx)
        have JB := Lib.hid (JB.out.kp hkx)
        have CA := Lib.hid (CA.out.kp hkx)
        have HT := Lib.hid (HT.out.kp hkx)
        have HU := Lib.hid (HU.out.kp hkx)
        have P3 := Lib.hid (P3.out.kp hkx)
        have J := Lib.hid (J.out.kp hkx)
        have CJ := Lib.hid (CJ.out.kp hkx)
        have X := Lib.hid (X.out.kp hkx)
        clear hkx HW8 
        go_cut [22, 23] (fun vb ve wx => ve = .int .i64 0 ∧ ∃ b9 A9 c9 B9 d9, vb = .pointer (some ⟨b9, 0, none⟩) ∧ Hid (Bk wx b9 A9 o c9 B9 q d9) ∧ Hid (TR wx A9 t B9 ys) ∧ Hid (Kp W8 wx))
        case first =>
          have hdr8 : Hid (Kp W8 W8.drew) := Below.drew (Kp.refl _)
          have HKX : Hid (∀ V, Kp W8 V → V.cell? ⟨w7.heap.size, 0, none⟩ = some (.slice (some aj) n c7) ∧ V.cell? ⟨w7.heap.size, 1, none⟩ = some (.slice B7 b4 d7) ∧ V.cell? (aj.add k) = some (.int .i64 jv)) := fun V kV => ⟨(JB.out.kp kV).c0, (JB.out.kp kV).c1, (CJ.out.kp kV).1⟩
          have s0 := HKX.out _ hdr8.out
          refine wp_region_held_drew (S := fun V => V.cell? ⟨w7.heap.size, 0, none⟩ = some (.slice (some aj) n c7) ∧ V.cell? ⟨w7.heap.size, 1, none⟩ = some (.slice B7 b4 d7) ∧ V.cell? (aj.add k) = some (.int .i64 jv)) (by kernel_rfl) s0 (fun hHeld => ?_)
          refine wpAnyH_take (i := 0) (v := .agg #[.slice (some aj) n c7, .slice B7 b4 d7]) rfl (by kernel_rfl) (by kernel_rfl) (by kernel_rfl) (fun _ _ _ h => h) (Or.inl ⟨by rfl, fun V hSV => ?_⟩) hHeld ?_
          · (try dsimp only at hSV); go_simp
          try simp only [Act.put, List.setIfInBounds_toArray, List.set_cons_zero, List.set_cons_succ]
          refine wpAnyH_take (i := 1) (v := .int .i64 (k : Int)) rfl (by kernel_rfl) (by kernel_rfl) (by kernel_rfl) (fun _ _ _ h => h) (Or.inl ⟨by rfl, fun V hSV => ?_⟩) hHeld ?_
          · (try dsimp only at hSV); go_simp
          try simp only [Act.put, List.setIfInBounds_toArray, List.set_cons_zero, List.set_cons_succ]
          refine wpAnyH_take (i := 2) (v := .int .i64 sd) rfl (by kernel_rfl) (by kernel_rfl) (by kernel_rfl) (fun _ _ _ h => h) (Or.inl ⟨by rfl, fun V hSV => ?_⟩) hHeld ?_
          · (try dsimp only at hSV); go_simp
          try simp only [Act.put, List.setIfInBounds_toArray, List.set_cons_zero, List.set_cons_succ]
          refine wpAnyH_take (i := 3) (v := .pointer (some ⟨w7.heap.size, 0, none⟩)) rfl (by kernel_rfl) (by kernel_rfl) (by kernel_rfl) (fun _ _ _ h => h) (Or.inl ⟨by rfl, fun V hSV => ?_⟩) hHeld ?_
          · (try dsimp only at hSV); go_simp
          try simp only [Act.put, List.setIfInBounds_toArray, List.set_cons_zero, List.set_cons_succ]
          refine wpAnyH_take (i := 4) (v := .slice (some aj) n c7) rfl (by kernel_rfl) (by kernel_rfl) (by kernel_rfl) (fun _ _ _ h => h) (Or.inl ⟨by rfl, fun V hSV => ?_⟩) hHeld ?_
          · (try dsimp only at hSV); go_simp
          try simp only [Act.put, List.setIfInBounds_toArray, List.set_cons_zero, List.set_cons_succ]
          refine wpAnyH_take (i := 5) (v := .int .i64 (k : Int)) rfl (by kernel_rfl) (by kernel_rfl) (by kernel_rfl) (fun _ _ _ h => h) (Or.inl ⟨by rfl, fun V hSV => ?_⟩) hHeld ?_
          · (try dsimp only at hSV); go_simp
          try simp only [Act.put, List.setIfInBounds_toArray, List.set_cons_zero, List.set_cons_succ]
          refine wpAnyH_take (i := 6) (v := .pointer (some (aj.add k))) rfl (by kernel_rfl) (by kernel_rfl) (by kernel_rfl) (fun _ _ _ h => h) (Or.inl ⟨by rfl, fun V hSV => ?_⟩) hHeld ?_
          · (try dsimp only at hSV); go_simp
          try simp only [Act.put, List.setIfInBounds_toArray, List.set_cons_zero, List.set_cons_succ]
          refine wpAnyH_take (i := 7) (v := .int .i64 jv) rfl (by kernel_rfl) (by kernel_rfl) (by kernel_rfl) (fun _ _ _ h => h) (Or.inl ⟨by rfl, fun V hSV => ?_⟩) hHeld ?_
          · (try dsimp only at hSV); go_simp
          try simp only [Act.put, List.setIfInBounds_toArray, List.set_cons_zero, List.set_cons_succ]
          refine wpAnyH_ready (rs := [8, 12]) (by kernel_rfl) (by simp) ?_
          refine AllReadyH.cons rfl (fun K9_ hK => ?_) ?_
          · go_simp
            refine (C6.out _ _ _ _ _ (by simp) (K.out.tr hdr8.out) (J.out.kp hdr8.out)).mono ?_; rintro e0 w9 ⟨A9, c9, B9, d9, rfl, r9, k9⟩
            dsimp only
            have K9 : Hid (Kp W8 w9) := undrawn k9
            have hq := HKX.out _ K9.out
            have R9 := Lib.hid r9
            clear r9 k9
            refine hK.out _ _ ?_ (fun hHeld => ?_)
            · exact hq
            clear hK
            try simp only [Act.put, List.setIfInBounds_toArray, List.set_cons_zero, List.set_cons_succ]
            refine wpAnyH_take (i := 9) (v := .tuple #[.agg #[.slice A9 o c9, .slice B9 q d9], .int .i64 0]) rfl (by kernel_rfl) (by kernel_rfl) (by kernel_rfl) (fun _ _ _ h => h) (Or.inl ⟨by rfl, fun V hSV => ?_⟩) hHeld ?_
            · (try dsimp only at hSV); go_simp
            try simp only [Act.put, List.setIfInBounds_toArray, List.set_cons_zero, List.set_cons_succ]
            refine wpAnyH_take (i := 10) (v := .agg #[.slice A9 o c9, .slice B9 q d9]) rfl (by kernel_rfl) (by kernel_rfl) (by kernel_rfl) (fun _ _ _ h => h) (Or.inl ⟨by rfl, fun V hSV => ?_⟩) hHeld ?_
            · (try dsimp only at hSV); go_simp
            try simp only [Act.put, List.setIfInBounds_toArray, List.set_cons_zero, List.set_cons_succ]
            refine wpAnyH_take (i := 11) (v := .int .i64 0) rfl (by kernel_rfl) (by kernel_rfl) (by kernel_rfl) (fun _ _ _ h => h) (Or.inl ⟨by rfl, fun V hSV => ?_⟩) hHeld ?_
            · (try dsimp only at hSV); go_simp
            try simp only [Act.put, List.setIfInBounds_toArray, List.set_cons_zero, List.set_cons_succ]
            refine wpAnyH_ready (rs := [12]) (by kernel_rfl) (by simp) ?_
            refine AllReadyH.cons rfl (fun K9_ hK => ?_) AllReadyH.nil
            go_simp
            refine hK.out _ _ ?_ (fun hHeld => ?_)
            · exact HKX.out _ (K9.out.al _)
            clear hK
            try simp only [Act.put, List.setIfInBounds_toArray, List.set_cons_zero, List.set_cons_succ]
            refine wpAnyH_ready (rs := [13]) (by kernel_rfl) (by simp) ?_
            refine AllReadyH.cons rfl (fun K9_ hK => ?_) AllReadyH.nil
            go_simp
            refine hK.out _ _ ?_ (fun hHeld => ?_)
            · exact HKX.out _ (K9.out.al _)
            clear hK
            try simp only [Act.put, List.setIfInBounds_toArray, List.set_cons_zero, List.set_cons_succ]
            refine wpAnyH_ready (rs := [14]) (by kernel_rfl) (by simp) ?_
            refine AllReadyH.cons rfl (fun K9_ hK => ?_) AllReadyH.nil
            go_simp
            refine hK.out _ _ ?_ (fun hHeld => ?_)
            · exact HKX.out _ (K9.out.al _)
            clear hK
            try simp only [Act.put, List.setIfInBounds_toArray, List.set_cons_zero, List.set_cons_succ]
            refine wpAnyH_done (by kernel_rfl) ?_ _
            go_wp2
            go_meet
            exact ⟨rfl, w9.heap.size, A9, c9, B9, d9, rfl, Bk.new rfl, R9.out.alloc_ _, K9.out.al _⟩
          refine AllReadyH.cons rfl (fun K9_ hK => ?_) AllReadyH.nil
          go_simp
          refine hK.out _ _ ?_ (fun hHeld => ?_)
          · exact HKX.out _ (hdr8.out.al _)
          clear hK
          try simp only [Act.put, List.setIfInBounds_toArray, List.set_cons_zero, List.set_cons_succ]
          refine wpAnyH_ready (rs := [8]) (by kernel_rfl) (by simp) ?_
          refine AllReadyH.cons rfl (fun K9_ hK => ?_) AllReadyH.nil
          go_simp
          refine (C6.out _ _ _ _ _ (by simp) (K.out.tr (hdr8.out.al _)) (J.out.kp (hdr8.out.al _))).mono ?_; rintro e0 w9 ⟨A9, c9, B9, d9, rfl, r9, k9⟩
          dsimp only
          have K9 : Hid (Kp W8 w9) := (hdr8.out.al _).tr k9
          have hq := HKX.out _ K9.out
          have R9 := Lib.hid r9
          have TZ : Hid (Bk w9 W8.heap.size none 0 0 none 0 0) := Bk.kp (Bk.new (W := W8.drew) rfl) k9
          have z0 := TZ.out.c0
          have z1 := TZ.out.c1
          have z2 := TZ.out.f0 0
          have z3 := TZ.out.f0 1
          clear r9 k9
          refine hK.out _ _ ?_ (fun hHeld => ?_)
          · exact hq
          clear hK
          try simp only [Act.put, List.setIfInBounds_toArray, List.set_cons_zero, List.set_cons_succ]
          refine wpAnyH_take (i := 9) (v := .tuple #[.agg #[.slice A9 o c9, .slice B9 q d9], .int .i64 0]) rfl (by kernel_rfl) (by kernel_rfl) (by kernel_rfl) (fun _ _ _ h => h) (Or.inl ⟨by rfl, fun V hSV => ?_⟩) hHeld ?_
          · (try dsimp only at hSV); go_simp
          try simp only [Act.put, List.setIfInBounds_toArray, List.set_cons_zero, List.set_cons_succ]
          refine wpAnyH_take (i := 10) (v := .agg #[.slice A9 o c9, .slice B9 q d9]) rfl (by kernel_rfl) (by kernel_rfl) (by kernel_rfl) (fun _ _ _ h => h) (Or.inl ⟨by rfl, fun V hSV => ?_⟩) hHeld ?_
          · (try dsimp only at hSV); go_simp
          try simp only [Act.put, List.setIfInBounds_toArray, List.set_cons_zero, List.set_cons_succ]
          refine wpAnyH_take (i := 11) (v := .int .i64 0) rfl (by kernel_rfl) (by kernel_rfl) (by kernel_rfl) (fun _ _ _ h => h) (Or.inl ⟨by rfl, fun V hSV => ?_⟩) hHeld ?_
          · (try dsimp only at hSV); go_simp
          try simp only [Act.put, List.setIfInBounds_toArray, List.set_cons_zero, List.set_cons_succ]
          refine wpAnyH_ready (rs := [13]) (by kernel_rfl) (by simp) ?_
          refine AllReadyH.cons rfl (fun K9_ hK => ?_) AllReadyH.nil
          go_simp
          refine hK.out _ _ ?_ (fun hHeld => ?_)
          · exact HKX.out _ ((K9.out.setCell (p := ⟨W8.heap.size, 0, none⟩) (Nat.le_refl _) _).setCell (p := ⟨W8.heap.size, 1, none⟩) (Nat.le_refl _) _)
          clear hK
          try simp only [Act.put, List.setIfInBounds_toArray, List.set_cons_zero, List.set_cons_succ]
          refine wpAnyH_ready (rs := [14]) (by kernel_rfl) (by simp) ?_
          refine AllReadyH.cons rfl (fun K9_ hK => ?_) AllReadyH.nil
          go_simp
          refine hK.out _ _ ?_ (fun hHeld => ?_)
          · exact HKX.out _ ((K9.out.setCell (p := ⟨W8.heap.size, 0, none⟩) (Nat.le_refl _) _).setCell (p := ⟨W8.heap.size, 1, none⟩) (Nat.le_refl _) _)
          clear hK
          try simp only [Act.put, List.setIfInBounds_toArray, List.set_cons_zero, List.set_cons_succ]
          refine wpAnyH_done (by kernel_rfl) ?_ _
          go_wp2
          go_meet
          exact ⟨rfl, W8.heap.size, A9, c9, B9, d9, rfl, TZ.out.put, R9.out.past TZ.out _ _, ((K9.out.setCell (p := ⟨W8.heap.size, 0, none⟩) (Nat.le_refl _) _).setCell (p := ⟨W8.heap.size, 1, none⟩) (Nat.le_refl _) _)⟩
        case rest =>
          obtain ⟨rfl, b_Y, A_Y, c_Y, B_Y, d_Y, rfl, YB, Y, k_Y⟩ := hcut
          have K := Lib.hid (K.out.tr k_Y.out)
          have T0B := Lib.hid (T0B.out.kp k_Y.out)
          have T1B := Lib.hid (T1B.out.kp k_Y.out)
          have P2B := Lib.hid (P2B.out.kp k_Y.out)
          have P3B := Lib.hid (P3B.out.kp k_Y.out)
          have JB := Lib.hid (JB.out.kp k_Y.out)
          have XB := Lib.hid (XB.out.kp k_Y.out)
          have CA := Lib.hid (CA.out.kp k_Y.out)
          have HT := Lib.hid (HT.out.kp k_Y.out)
          have HU := Lib.hid (HU.out.kp k_Y.out)
          have P3 := Lib.hid (P3.out.kp k_Y.out)
          have J := Lib.hid (J.out.kp k_Y.out)
          have CJ := Lib.hid (CJ.out.kp k_Y.out)
          have X := Lib.hid (X.out.kp k_Y.out)
          clear k_Y
          have zxb0 := XB.out.c0
          have zxb1 := XB.out.c1
          have zxb2 := XB.out.lt
          have zt0b0 := T0B.out.c0
          have zt0b1 := T0B.out.c1
          have zt0b2 := T0B.out.lt
          go_wp2_with fail
          refine (tsame_u X.out HT.out L0.out.1 L0.out.2.1).mono ?_; rintro e0 w9 ⟨rfl, k9⟩
          have K := Lib.hid (K.out.tr k9)
          have T0B := Lib.hid (T0B.out.kp k9)
          have T1B := Lib.hid (T1B.out.kp k9)
          have P2B := Lib.hid (P2B.out.kp k9)
          have P3B := Lib.hid (P3B.out.kp k9)
          have JB := Lib.hid (JB.out.kp k9)
          have XB := Lib.hid (XB.out.kp k9)
          have YB := Lib.hid (YB.out.kp k9)
          have CA := Lib.hid (CA.out.kp k9)
          have HT := Lib.hid (HT.out.kp k9)
          have HU := Lib.hid (HU.out.kp k9)
          have P3 := Lib.hid (P3.out.kp k9)
          have J := Lib.hid (J.out.kp k9)
          have CJ := Lib.hid (CJ.out.kp k9)
          have X := Lib.hid (X.out.kp k9)
          have Y := Lib.hid (Y.out.kp k9)
          clear k9 zxb0 zxb1 zxb2 zt0b0 zt0b1 zt0b2
          have zyb0 := YB.out.c0
          have zyb1 := YB.out.c1
          have zyb2 := YB.out.lt
          have zt1b0 := T1B.out.c0
          have zt1b1 := T1B.out.c1
          have zt1b2 := T1B.out.lt
          go_wp2_with fail
          refine (tsame_u Y.out HU.out L0.out.2.2.1 L0.out.2.2.2).mono ?_; rintro e0 w10 ⟨rfl, k10⟩
          have K := Lib.hid (K.out.tr k10)
          have T0B := Lib.hid (T0B.out.kp k10)
          have T1B := Lib.hid (T1B.out.kp k10)
          have P2B := Lib.hid (P2B.out.kp k10)
          have P3B := Lib.hid (P3B.out.kp k10)
          have JB := Lib.hid (JB.out.kp k10)
          have XB := Lib.hid (XB.out.kp k10)
          have YB := Lib.hid (YB.out.kp k10)
          have CA := Lib.hid (CA.out.kp k10)
          have HT := Lib.hid (HT.out.kp k10)
          have HU := Lib.hid (HU.out.kp k10)
          have P3 := Lib.hid (P3.out.kp k10)
          have J := Lib.hid (J.out.kp k10)
          have CJ := Lib.hid (CJ.out.kp k10)
          have X := Lib.hid (X.out.kp k10)
          have Y := Lib.hid (Y.out.kp k10)
          clear k10 zyb0 zyb1 zyb2 zt1b0 zt1b1 zt1b2
          go_wp2
          go_ret
          exact ⟨rfl, K.out⟩
      · skip
        go_wp2
        go_ret
        exact ⟨rfl, K.out.al _⟩
    · skip
      go_wp2_with fail
      refine (C4.out _ (K.out.al _)).mono ?_; rintro e0 w7 ⟨A7, c7, B7, d7, rfl, r7, k7⟩
      have K := Lib.hid ((K.out.al _).tr k7)
      have T0B := Lib.hid ((T0B.out.alloc_ _).kp k7)
      have T1B := Lib.hid ((T1B.out.alloc_ _).kp k7)
      have P2B := Lib.hid ((P2B.out.alloc_ _).kp k7)
      have CA := Lib.hid ((CA.out.alloc_ _).kp k7)
      have HT := Lib.hid ((HT.out.alloc_ _).kp k7)
      have HU := Lib.hid ((HU.out.alloc_ _).kp k7)
      have P3 := Lib.hid ((P3.out.alloc_ _).kp k7)
      have P3B : Hid (Bk w7 w6.heap.size A6 a3 c6 B6 b3 d6) := (Bk.new rfl).kp k7
      have J := Lib.hid r7
      clear k7 r7 zt0b0 zt0b1 zt0b2 zt1b0 zt1b1 zt1b2
      have zt0b0 := T0B.out.c0
      have zt0b1 := T0B.out.c1
      have zt0b2 := T0B.out.lt
      by_cases h4 : e4 = 0
      · obtain ⟨ja, jl, jx⟩ := HJ.out h4
        subst h4 ja
        obtain ⟨aj, CJ, ej⟩ := ce_of J.out.s jx
        subst ej
        clear jx jl
        go_wp2_with fail
        refine (C5.out _ _ _ _ _ (by simp) (K.out.al _) (J.out.alloc_ _)).mono ?_; rintro e0 w8 ⟨A8, c8, B8, d8, rfl, r8, k8⟩
        have K := Lib.hid ((K.out.al _).tr k8)
        have T0B := Lib.hid ((T0B.out.alloc_ _).kp k8)
        have T1B := Lib.hid ((T1B.out.alloc_ _).kp k8)
        have P2B := Lib.hid ((P2B.out.alloc_ _).kp k8)
        have P3B := Lib.hid ((P3B.out.alloc_ _).kp k8)
        have CA := Lib.hid ((CA.out.alloc_ _).kp k8)
        have HT := Lib.hid ((HT.out.alloc_ _).kp k8)
        have HU := Lib.hid ((HU.out.alloc_ _).kp k8)
        have P3 := Lib.hid ((P3.out.alloc_ _).kp k8)
        have J := Lib.hid ((J.out.alloc_ _).kp k8)
        have CJ := Lib.hid ((CJ.out.alloc_ _).kp k8)
        have JB : Hid (Bk w8 w7.heap.size (some aj) n c7 B7 b4 d7) := (Bk.new rfl).kp k8
        have X := Lib.hid r8
        clear k8 r8 zt0b0 zt0b1 zt0b2
        go_upto_region 15 with fail
        obtain ⟨W8, HW8⟩ : ∃ W8, Hid (W8 = w8.alloc (.cells #[.slice A8 n c8, .slice B8 m d8] 24)) := ⟨_, rfl⟩
        have hkx : Kp w8 W8 := by rw [HW8.out]; exact Kp.alloc_ _ _
        have XB : Hid (Bk W8 w8.heap.size A8 n c8 B8 m d8) := by show Bk _ _ _ _ _ _ _ _; rw [HW8.out]; exact Bk.new rfl
        rw [← HW8.out]
        have K := Lib.hid (K.out.tr hkx)
        have T0B := Lib.hid (T0B.out.kp hkx)
        have T1B := Lib.hid (T1B.out.kp hkx)
        have P2B := Lib.hid (P2B.out.kp hkx)
        have P3B := Lib.hid (P3B.out.kp hkx)
        have JB := Lib.hid (JB.out.kp hkx)
        have CA := Lib.hid (CA.out.kp hkx)
        have HT := Lib.hid (HT.out.kp hkx)
        have HU := Lib.hid (HU.out.kp hkx)
        have P3 := Lib.hid (P3.out.kp hkx)
        have J := Lib.hid (J.out.kp hkx)
        have CJ := Lib.hid (CJ.out.kp hkx)
        have X := Lib.hid (X.out.kp hkx)
        clear hkx HW8 
        go_cut [22, 23] (fun vb ve wx => ve = .int .i64 0 ∧ ∃ b9 A9 c9 B9 d9, vb = .pointer (some ⟨b9, 0, none⟩) ∧ Hid (Bk wx b9 A9 o c9 B9 q d9) ∧ Hid (TR wx A9 t B9 ys) ∧ Hid (Kp W8 wx))
        case first =>
          have hdr8 : Hid (Kp W8 W8.drew) := Below.drew (Kp.refl _)
          have HKX : Hid (∀ V, Kp W8 V → V.cell? ⟨w7.heap.size, 0, none⟩ = some (.slice (some aj) n c7) ∧ V.cell? ⟨w7.heap.size, 1, none⟩ = some (.slice B7 b4 d7) ∧ V.cell? (aj.add k) = some (.int .i64 jv)) := fun V kV => ⟨(JB.out.kp kV).c0, (JB.out.kp kV).c1, (CJ.out.kp kV).1⟩
          have s0 := HKX.out _ hdr8.out
          refine wp_region_held_drew (S := fun V => V.cell? ⟨w7.heap.size, 0, none⟩ = some (.slice (some aj) n c7) ∧ V.cell? ⟨w7.heap.size, 1, none⟩ = some (.slice B7 b4 d7) ∧ V.cell? (aj.add k) = some (.int .i64 jv)) (by kernel_rfl) s0 (fun hHeld => ?_)
          refine wpAnyH_take (i := 0) (v := .agg #[.slice (some aj) n c7, .slice B7 b4 d7]) rfl (by kernel_rfl) (by kernel_rfl) (by kernel_rfl) (fun _ _ _ h => h) (Or.inl ⟨by rfl, fun V hSV => ?_⟩) hHeld ?_
          · (try dsimp only at hSV); go_simp
          try simp only [Act.put, List.setIfInBounds_toArray, List.set_cons_zero, List.set_cons_succ]
          refine wpAnyH_take (i := 1) (v := .int .i64 (k : Int)) rfl (by kernel_rfl) (by kernel_rfl) (by kernel_rfl) (fun _ _ _ h => h) (Or.inl ⟨by rfl, fun V hSV => ?_⟩) hHeld ?_
          · (try dsimp only at hSV); go_simp
          try simp only [Act.put, List.setIfInBounds_toArray, List.set_cons_zero, List.set_cons_succ]
          refine wpAnyH_take (i := 2) (v := .int .i64 sd) rfl (by kernel_rfl) (by kernel_rfl) (by kernel_rfl) (fun _ _ _ h => h) (Or.inl ⟨by rfl, fun V hSV => ?_⟩) hHeld ?_
          · (try dsimp only at hSV); go_simp
          try simp only [Act.put, List.setIfInBounds_toArray, List.set_cons_zero, List.set_cons_succ]
          refine wpAnyH_take (i := 3) (v := .pointer (some ⟨w7.heap.size, 0, none⟩)) rfl (by kernel_rfl) (by kernel_rfl) (by kernel_rfl) (fun _ _ _ h => h) (Or.inl ⟨by rfl, fun V hSV => ?_⟩) hHeld ?_
          · (try dsimp only at hSV); go_simp
          try simp only [Act.put, List.setIfInBounds_toArray, List.set_cons_zero, List.set_cons_succ]
          refine wpAnyH_take (i := 4) (v := .slice (some aj) n c7) rfl (by kernel_rfl) (by kernel_rfl) (by kernel_rfl) (fun _ _ _ h => h) (Or.inl ⟨by rfl, fun V hSV => ?_⟩) hHeld ?_
          · (try dsimp only at hSV); go_simp
          try simp only [Act.put, List.setIfInBounds_toArray, List.set_cons_zero, List.set_cons_succ]
          refine wpAnyH_take (i := 5) (v := .int .i64 (k : Int)) rfl (by kernel_rfl) (by kernel_rfl) (by kernel_rfl) (fun _ _ _ h => h) (Or.inl ⟨by rfl, fun V hSV => ?_⟩) hHeld ?_
          · (try dsimp only at hSV); go_simp
          try simp only [Act.put, List.setIfInBounds_toArray, List.set_cons_zero, List.set_cons_succ]
          refine wpAnyH_take (i := 6) (v := .pointer (some (aj.add k))) rfl (by kernel_rfl) (by kernel_rfl) (by kernel_rfl) (fun _ _ _ h => h) (Or.inl ⟨by rfl, fun V hSV => ?_⟩) hHeld ?_
          · (try dsimp only at hSV); go_simp
          try simp only [Act.put, List.setIfInBounds_toArray, List.set_cons_zero, List.set_cons_succ]
          refine wpAnyH_take (i := 7) (v := .int .i64 jv) rfl (by kernel_rfl) (by kernel_rfl) (by kernel_rfl) (fun _ _ _ h => h) (Or.inl ⟨by rfl, fun V hSV => ?_⟩) hHeld ?_
          · (try dsimp only at hSV); go_simp
          try simp only [Act.put, List.setIfInBounds_toArray, List.set_cons_zero, List.set_cons_succ]
          refine wpAnyH_ready (rs := [8, 12]) (by kernel_rfl) (by simp) ?_
          refine AllReadyH.cons rfl (fun K9_ hK => ?_) ?_
          · go_simp
            refine (C6.out _ _ _ _ _ (by simp) (K.out.tr hdr8.out) (J.out.kp hdr8.out)).mono ?_; rintro e0 w9 ⟨A9, c9, B9, d9, rfl, r9, k9⟩
            dsimp only
            have K9 : Hid (Kp W8 w9) := undrawn k9
            have hq := HKX.out _ K9.out
            have R9 := Lib.hid r9
            clear r9 k9
            refine hK.out _ _ ?_ (fun hHeld => ?_)
            · exact hq
            clear hK
            try simp only [Act.put, List.setIfInBounds_toArray, List.set_cons_zero, List.set_cons_succ]
            refine wpAnyH_take (i := 9) (v := .tuple #[.agg #[.slice A9 o c9, .slice B9 q d9], .int .i64 0]) rfl (by kernel_rfl) (by kernel_rfl) (by kernel_rfl) (fun _ _ _ h => h) (Or.inl ⟨by rfl, fun V hSV => ?_⟩) hHeld ?_
            · (try dsimp only at hSV); go_simp
            try simp only [Act.put, List.setIfInBounds_toArray, List.set_cons_zero, List.set_cons_succ]
            refine wpAnyH_take (i := 10) (v := .agg #[.slice A9 o c9, .slice B9 q d9]) rfl (by kernel_rfl) (by kernel_rfl) (by kernel_rfl) (fun _ _ _ h => h) (Or.inl ⟨by rfl, fun V hSV => ?_⟩) hHeld ?_
            · (try dsimp only at hSV); go_simp
            try simp only [Act.put, List.setIfInBounds_toArray, List.set_cons_zero, List.set_cons_succ]
            refine wpAnyH_take (i := 11) (v := .int .i64 0) rfl (by kernel_rfl) (by kernel_rfl) (by kernel_rfl) (fun _ _ _ h => h) (Or.inl ⟨by rfl, fun V hSV => ?_⟩) hHeld ?_
            · (try dsimp only at hSV); go_simp
            try simp only [Act.put, List.setIfInBounds_toArray, List.set_cons_zero, List.set_cons_succ]
            refine wpAnyH_ready (rs := [12]) (by kernel_rfl) (by simp) ?_
            refine AllReadyH.cons rfl (fun K9_ hK => ?_) AllReadyH.nil
            go_simp
            refine hK.out _ _ ?_ (fun hHeld => ?_)
            · exact HKX.out _ (K9.out.al _)
            clear hK
            try simp only [Act.put, List.setIfInBounds_toArray, List.set_cons_zero, List.set_cons_succ]
            refine wpAnyH_ready (rs := [13]) (by kernel_rfl) (by simp) ?_
            refine AllReadyH.cons rfl (fun K9_ hK => ?_) AllReadyH.nil
            go_simp
            refine hK.out _ _ ?_ (fun hHeld => ?_)
            · exact HKX.out _ (K9.out.al _)
            clear hK
            try simp only [Act.put, List.setIfInBounds_toArray, List.set_cons_zero, List.set_cons_succ]
            refine wpAnyH_ready (rs := [14]) (by kernel_rfl) (by simp) ?_
            refine AllReadyH.cons rfl (fun K9_ hK => ?_) AllReadyH.nil
            go_simp
            refine hK.out _ _ ?_ (fun hHeld => ?_)
            · exact HKX.out _ (K9.out.al _)
            clear hK
            try simp only [Act.put, List.setIfInBounds_toArray, List.set_cons_zero, List.set_cons_succ]
            refine wpAnyH_done (by kernel_rfl) ?_ _
            go_wp2
            go_meet
            exact ⟨rfl, w9.heap.size, A9, c9, B9, d9, rfl, Bk.new rfl, R9.out.alloc_ _, K9.out.al _⟩
          refine AllReadyH.cons rfl (fun K9_ hK => ?_) AllReadyH.nil
          go_simp
          refine hK.out _ _ ?_ (fun hHeld => ?_)
          · exact HKX.out _ (hdr8.out.al _)
          clear hK
          try simp only [Act.put, List.setIfInBounds_toArray, List.set_cons_zero, List.set_cons_succ]
          refine wpAnyH_ready (rs := [8]) (by kernel_rfl) (by simp) ?_
          refine AllReadyH.cons rfl (fun K9_ hK => ?_) AllReadyH.nil
          go_simp
          refine (C6.out _ _ _ _ _ (by simp) (K.out.tr (hdr8.out.al _)) (J.out.kp (hdr8.out.al _))).mono ?_; rintro e0 w9 ⟨A9, c9, B9, d9, rfl, r9, k9⟩
          dsimp only
          have K9 : Hid (Kp W8 w9) := (hdr8.out.al _).tr k9
          have hq := HKX.out _ K9.out
          have R9 := Lib.hid r9
          have TZ : Hid (Bk w9 W8.heap.size none 0 0 none 0 0) := Bk.kp (Bk.new (W := W8.drew) rfl) k9
          have z0 := TZ.out.c0
          have z1 := TZ.out.c1
          have z2 := TZ.out.f0 0
          have z3 := TZ.out.f0 1
          clear r9 k9
          refine hK.out _ _ ?_ (fun hHeld => ?_)
          · exact hq
          clear hK
          try simp only [Act.put, List.setIfInBounds_toArray, List.set_cons_zero, List.set_cons_succ]
          refine wpAnyH_take (i := 9) (v := .tuple #[.agg #[.slice A9 o c9, .slice B9 q d9], .int .i64 0]) rfl (by kernel_rfl) (by kernel_rfl) (by kernel_rfl) (fun _ _ _ h => h) (Or.inl ⟨by rfl, fun V hSV => ?_⟩) hHeld ?_
          · (try dsimp only at hSV); go_simp
          try simp only [Act.put, List.setIfInBounds_toArray, List.set_cons_zero, List.set_cons_succ]
          refine wpAnyH_take (i := 10) (v := .agg #[.slice A9 o c9, .slice B9 q d9]) rfl (by kernel_rfl) (by kernel_rfl) (by kernel_rfl) (fun _ _ _ h => h) (Or.inl ⟨by rfl, fun V hSV => ?_⟩) hHeld ?_
          · (try dsimp only at hSV); go_simp
          try simp only [Act.put, List.setIfInBounds_toArray, List.set_cons_zero, List.set_cons_succ]
          refine wpAnyH_take (i := 11) (v := .int .i64 0) rfl (by kernel_rfl) (by kernel_rfl) (by kernel_rfl) (fun _ _ _ h => h) (Or.inl ⟨by rfl, fun V hSV => ?_⟩) hHeld ?_
          · (try dsimp only at hSV); go_simp
          try simp only [Act.put, List.setIfInBounds_toArray, List.set_cons_zero, List.set_cons_succ]
          refine wpAnyH_ready (rs := [13]) (by kernel_rfl) (by simp) ?_
          refine AllReadyH.cons rfl (fun K9_ hK => ?_) AllReadyH.nil
          go_simp
          refine hK.out _ _ ?_ (fun hHeld => ?_)
          · exact HKX.out _ ((K9.out.setCell (p := ⟨W8.heap.size, 0, none⟩) (Nat.le_refl _) _).setCell (p := ⟨W8.heap.size, 1, none⟩) (Nat.le_refl _) _)
          clear hK
          try simp only [Act.put, List.setIfInBounds_toArray, List.set_cons_zero, List.set_cons_succ]
          refine wpAnyH_ready (rs := [14]) (by kernel_rfl) (by simp) ?_
          refine AllReadyH.cons rfl (fun K9_ hK => ?_) AllReadyH.nil
          go_simp
          refine hK.out _ _ ?_ (fun hHeld => ?_)
          · exact HKX.out _ ((K9.out.setCell (p := ⟨W8.heap.size, 0, none⟩) (Nat.le_refl _) _).setCell (p := ⟨W8.heap.size, 1, none⟩) (Nat.le_refl _) _)
          clear hK
          try simp only [Act.put, List.setIfInBounds_toArray, List.set_cons_zero, List.set_cons_succ]
          refine wpAnyH_done (by kernel_rfl) ?_ _
          go_wp2
          go_meet
          exact ⟨rfl, W8.heap.size, A9, c9, B9, d9, rfl, TZ.out.put, R9.out.past TZ.out _ _, ((K9.out.setCell (p := ⟨W8.heap.size, 0, none⟩) (Nat.le_refl _) _).setCell (p := ⟨W8.heap.size, 1, none⟩) (Nat.le_refl _) _)⟩
        case rest =>
          obtain ⟨rfl, b_Y, A_Y, c_Y, B_Y, d_Y, rfl, YB, Y, k_Y⟩ := hcut
          have K := Lib.hid (K.out.tr k_Y.out)
          have T0B := Lib.hid (T0B.out.kp k_Y.out)
          have T1B := Lib.hid (T1B.out.kp k_Y.out)
          have P2B := Lib.hid (P2B.out.kp k_Y.out)
          have P3B := Lib.hid (P3B.out.kp k_Y.out)
          have JB := Lib.hid (JB.out.kp k_Y.out)
          have XB := Lib.hid (XB.out.kp k_Y.out)
          have CA := Lib.hid (CA.out.kp k_Y.out)
          have HT := Lib.hid (HT.out.kp k_Y.out)
          have HU := Lib.hid (HU.out.kp k_Y.out)
          have P3 := Lib.hid (P3.out.kp k_Y.out)
          have J := Lib.hid (J.out.kp k_Y.out)
          have CJ := Lib.hid (CJ.out.kp k_Y.out)
          have X := Lib.hid (X.out.kp k_Y.out)
          clear k_Y
          have zxb0 := XB.out.c0
          have zxb1 := XB.out.c1
          have zxb2 := XB.out.lt
          have zt0b0 := T0B.out.c0
          have zt0b1 := T0B.out.c1
          have zt0b2 := T0B.out.lt
          go_wp2_with fail
          refine (tsame_u X.out HT.out L0.out.1 L0.out.2.1).mono ?_; rintro e0 w9 ⟨rfl, k9⟩
          have K := Lib.hid (K.out.tr k9)
          have T0B := Lib.hid (T0B.out.kp k9)
          have T1B := Lib.hid (T1B.out.kp k9)
          have P2B := Lib.hid (P2B.out.kp k9)
          have P3B := Lib.hid (P3B.out.kp k9)
          have JB := Lib.hid (JB.out.kp k9)
          have XB := Lib.hid (XB.out.kp k9)
          have YB := Lib.hid (YB.out.kp k9)
          have CA := Lib.hid (CA.out.kp k9)
          have HT := Lib.hid (HT.out.kp k9)
          have HU := Lib.hid (HU.out.kp k9)
          have P3 := Lib.hid (P3.out.kp k9)
          have J := Lib.hid (J.out.kp k9)
          have CJ := Lib.hid (CJ.out.kp k9)
          have X := Lib.hid (X.out.kp k9)
          have Y := Lib.hid (Y.out.kp k9)
          clear k9 zxb0 zxb1 zxb2 zt0b0 zt0b1 zt0b2
          have zyb0 := YB.out.c0
          have zyb1 := YB.out.c1
          have zyb2 := YB.out.lt
          have zt1b0 := T1B.out.c0
          have zt1b1 := T1B.out.c1
          have zt1b2 := T1B.out.lt
          go_wp2_with fail
          refine (tsame_u Y.out HU.out L0.out.2.2.1 L0.out.2.2.2).mono ?_; rintro e0 w10 ⟨rfl, k10⟩
          have K := Lib.hid (K.out.tr k10)
          have T0B := Lib.hid (T0B.out.kp k10)
          have T1B := Lib.hid (T1B.out.kp k10)
          have P2B := Lib.hid (P2B.out.kp k10)
          have P3B := Lib.hid (P3B.out.kp k10)
          have JB := Lib.hid (JB.out.kp k10)
          have XB := Lib.hid (XB.out.kp k10)
          have YB := Lib.hid (YB.out.kp k10)
          have CA := Lib.hid (CA.out.kp k10)
          have HT := Lib.hid (HT.out.kp k10)
          have HU := Lib.hid (HU.out.kp k10)
          have P3 := Lib.hid (P3.out.kp k10)
          have J := Lib.hid (J.out.kp k10)
          have CJ := Lib.hid (CJ.out.kp k10)
          have X := Lib.hid (X.out.kp k10)
          have Y := Lib.hid (Y.out.kp k10)
          clear k10 zyb0 zyb1 zyb2 zt1b0 zt1b1 zt1b2
          go_wp2
          go_ret
          exact ⟨rfl, K.out⟩
      · skip
        go_wp2
        go_ret
        exact ⟨rfl, K.out.al _⟩
  · obtain ⟨r1, r2, r3, r4, r5, r6, r7⟩ := hc3
    subst r1 r2 r3 r4 r5 r6 r7
    by_cases hc1 : q2 < 1
    · skip
      go_wp2_with fail
      refine (C4.out _ (K.out.al _)).mono ?_; rintro e0 w7 ⟨A7, c7, B7, d7, rfl, r7, k7⟩
      have K := Lib.hid ((K.out.al _).tr k7)
      have T0B := Lib.hid ((T0B.out.alloc_ _).kp k7)
      have T1B := Lib.hid ((T1B.out.alloc_ _).kp k7)
      have P2B := Lib.hid ((P2B.out.alloc_ _).kp k7)
      have CA := Lib.hid ((CA.out.alloc_ _).kp k7)
      have HT := Lib.hid ((HT.out.alloc_ _).kp k7)
      have HU := Lib.hid ((HU.out.alloc_ _).kp k7)
      have P3 := Lib.hid ((P3.out.alloc_ _).kp k7)
      have P3B : Hid (Bk w7 w6.heap.size A6 n c6 B6 m d6) := (Bk.new rfl).kp k7
      have J := Lib.hid r7
      clear k7 r7 zt0b0 zt0b1 zt0b2 zt1b0 zt1b1 zt1b2
      have zt0b0 := T0B.out.c0
      have zt0b1 := T0B.out.c1
      have zt0b2 := T0B.out.lt
      by_cases h4 : e4 = 0
      · obtain ⟨ja, jl, jx⟩ := HJ.out h4
        subst h4 ja
        obtain ⟨aj, CJ, ej⟩ := ce_of J.out.s jx
        subst ej
        clear jx jl
        go_wp2_with fail
        refine (C5.out _ _ _ _ _ (by simp) (K.out.al _) (J.out.alloc_ _)).mono ?_; rintro e0 w8 ⟨A8, c8, B8, d8, rfl, r8, k8⟩
        have K := Lib.hid ((K.out.al _).tr k8)
        have T0B := Lib.hid ((T0B.out.alloc_ _).kp k8)
        have T1B := Lib.hid ((T1B.out.alloc_ _).kp k8)
        have P2B := Lib.hid ((P2B.out.alloc_ _).kp k8)
        have P3B := Lib.hid ((P3B.out.alloc_ _).kp k8)
        have CA := Lib.hid ((CA.out.alloc_ _).kp k8)
        have HT := Lib.hid ((HT.out.alloc_ _).kp k8)
        have HU := Lib.hid ((HU.out.alloc_ _).kp k8)
        have P3 := Lib.hid ((P3.out.alloc_ _).kp k8)
        have J := Lib.hid ((J.out.alloc_ _).kp k8)
        have CJ := Lib.hid ((CJ.out.alloc_ _).kp k8)
        have JB : Hid (Bk w8 w7.heap.size (some aj) n c7 B7 b4 d7) := (Bk.new rfl).kp k8
        have X := Lib.hid r8
        clear k8 r8 zt0b0 zt0b1 zt0b2
        go_upto_region 15 with fail
        obtain ⟨W8, HW8⟩ : ∃ W8, Hid (W8 = w8.alloc (.cells #[.slice A8 n c8, .slice B8 m d8] 24)) := ⟨_, rfl⟩
        have hkx : Kp w8 W8 := by rw [HW8.out]; exact Kp.alloc_ _ _
        have XB : Hid (Bk W8 w8.heap.size A8 n c8 B8 m d8) := by show Bk _ _ _ _ _ _ _ _; rw [HW8.out]; exact Bk.new rfl
        rw [← HW8.out]
        have K := Lib.hid (K.out.tr hkx)
        have T0B := Lib.hid (T0B.out.kp hkx)
        have T1B := Lib.hid (T1B.out.kp hkx)
        have P2B := Lib.hid (P2B.out.kp hkx)
        have P3B := Lib.hid (P3B.out.kp hkx)
        have JB := Lib.hid (JB.out.kp hkx)
        have CA := Lib.hid (CA.out.kp hkx)
        have HT := Lib.hid (HT.out.kp hkx)
        have HU := Lib.hid (HU.out.kp hkx)
        have P3 := Lib.hid (P3.out.kp hkx)
        have J := Lib.hid (J.out.kp hkx)
        have CJ := Lib.hid (CJ.out.kp hkx)
        have X := Lib.hid (X.out.kp hkx)
        clear hkx HW8 
        go_cut [22, 23] (fun vb ve wx => ve = .int .i64 0 ∧ ∃ b9 A9 c9 B9 d9, vb = .pointer (some ⟨b9, 0, none⟩) ∧ Hid (Bk wx b9 A9 o c9 B9 q d9) ∧ Hid (TR wx A9 t B9 ys) ∧ Hid (Kp W8 wx))
        case first =>
          have hdr8 : Hid (Kp W8 W8.drew) := Below.drew (Kp.refl _)
          have HKX : Hid (∀ V, Kp W8 V → V.cell? ⟨w7.heap.size, 0, none⟩ = some (.slice (some aj) n c7) ∧ V.cell? ⟨w7.heap.size, 1, none⟩ = some (.slice B7 b4 d7) ∧ V.cell? (aj.add k) = some (.int .i64 jv)) := fun V kV => ⟨(JB.out.kp kV).c0, (JB.out.kp kV).c1, (CJ.out.kp kV).1⟩
          have s0 := HKX.out _ hdr8.out
          refine wp_region_held_drew (S := fun V => V.cell? ⟨w7.heap.size, 0, none⟩ = some (.slice (some aj) n c7) ∧ V.cell? ⟨w7.heap.size, 1, none⟩ = some (.slice B7 b4 d7) ∧ V.cell? (aj.add k) = some (.int .i64 jv)) (by kernel_rfl) s0 (fun hHeld => ?_)
          refine wpAnyH_take (i := 0) (v := .agg #[.slice (some aj) n c7, .slice B7 b4 d7]) rfl (by kernel_rfl) (by kernel_rfl) (by kernel_rfl) (fun _ _ _ h => h) (Or.inl ⟨by rfl, fun V hSV => ?_⟩) hHeld ?_
          · (try dsimp only at hSV); go_simp
          try simp only [Act.put, List.setIfInBounds_toArray, List.set_cons_zero, List.set_cons_succ]
          refine wpAnyH_take (i := 1) (v := .int .i64 (k : Int)) rfl (by kernel_rfl) (by kernel_rfl) (by kernel_rfl) (fun _ _ _ h => h) (Or.inl ⟨by rfl, fun V hSV => ?_⟩) hHeld ?_
          · (try dsimp only at hSV); go_simp
          try simp only [Act.put, List.setIfInBounds_toArray, List.set_cons_zero, List.set_cons_succ]
          refine wpAnyH_take (i := 2) (v := .int .i64 sd) rfl (by kernel_rfl) (by kernel_rfl) (by kernel_rfl) (fun _ _ _ h => h) (Or.inl ⟨by rfl, fun V hSV => ?_⟩) hHeld ?_
          · (try dsimp only at hSV); go_simp
          try simp only [Act.put, List.setIfInBounds_toArray, List.set_cons_zero, List.set_cons_succ]
          refine wpAnyH_take (i := 3) (v := .pointer (some ⟨w7.heap.size, 0, none⟩)) rfl (by kernel_rfl) (by kernel_rfl) (by kernel_rfl) (fun _ _ _ h => h) (Or.inl ⟨by rfl, fun V hSV => ?_⟩) hHeld ?_
          · (try dsimp only at hSV); go_simp
          try simp only [Act.put, List.setIfInBounds_toArray, List.set_cons_zero, List.set_cons_succ]
          refine wpAnyH_take (i := 4) (v := .slice (some aj) n c7) rfl (by kernel_rfl) (by kernel_rfl) (by kernel_rfl) (fun _ _ _ h => h) (Or.inl ⟨by rfl, fun V hSV => ?_⟩) hHeld ?_
          · (try dsimp only at hSV); go_simp
          try simp only [Act.put, List.setIfInBounds_toArray, List.set_cons_zero, List.set_cons_succ]
          refine wpAnyH_take (i := 5) (v := .int .i64 (k : Int)) rfl (by kernel_rfl) (by kernel_rfl) (by kernel_rfl) (fun _ _ _ h => h) (Or.inl ⟨by rfl, fun V hSV => ?_⟩) hHeld ?_
          · (try dsimp only at hSV); go_simp
          try simp only [Act.put, List.setIfInBounds_toArray, List.set_cons_zero, List.set_cons_succ]
          refine wpAnyH_take (i := 6) (v := .pointer (some (aj.add k))) rfl (by kernel_rfl) (by kernel_rfl) (by kernel_rfl) (fun _ _ _ h => h) (Or.inl ⟨by rfl, fun V hSV => ?_⟩) hHeld ?_
          · (try dsimp only at hSV); go_simp
          try simp only [Act.put, List.setIfInBounds_toArray, List.set_cons_zero, List.set_cons_succ]
          refine wpAnyH_take (i := 7) (v := .int .i64 jv) rfl (by kernel_rfl) (by kernel_rfl) (by kernel_rfl) (fun _ _ _ h => h) (Or.inl ⟨by rfl, fun V hSV => ?_⟩) hHeld ?_
          · (try dsimp only at hSV); go_simp
          try simp only [Act.put, List.setIfInBounds_toArray, List.set_cons_zero, List.set_cons_succ]
          refine wpAnyH_ready (rs := [8, 12]) (by kernel_rfl) (by simp) ?_
          refine AllReadyH.cons rfl (fun K9_ hK => ?_) ?_
          · go_simp
            refine (C6.out _ _ _ _ _ (by simp) (K.out.tr hdr8.out) (J.out.kp hdr8.out)).mono ?_; rintro e0 w9 ⟨A9, c9, B9, d9, rfl, r9, k9⟩
            dsimp only
            have K9 : Hid (Kp W8 w9) := undrawn k9
            have hq := HKX.out _ K9.out
            have R9 := Lib.hid r9
            clear r9 k9
            refine hK.out _ _ ?_ (fun hHeld => ?_)
            · exact hq
            clear hK
            try simp only [Act.put, List.setIfInBounds_toArray, List.set_cons_zero, List.set_cons_succ]
            refine wpAnyH_take (i := 9) (v := .tuple #[.agg #[.slice A9 o c9, .slice B9 q d9], .int .i64 0]) rfl (by kernel_rfl) (by kernel_rfl) (by kernel_rfl) (fun _ _ _ h => h) (Or.inl ⟨by rfl, fun V hSV => ?_⟩) hHeld ?_
            · (try dsimp only at hSV); go_simp
            try simp only [Act.put, List.setIfInBounds_toArray, List.set_cons_zero, List.set_cons_succ]
            refine wpAnyH_take (i := 10) (v := .agg #[.slice A9 o c9, .slice B9 q d9]) rfl (by kernel_rfl) (by kernel_rfl) (by kernel_rfl) (fun _ _ _ h => h) (Or.inl ⟨by rfl, fun V hSV => ?_⟩) hHeld ?_
            · (try dsimp only at hSV); go_simp
            try simp only [Act.put, List.setIfInBounds_toArray, List.set_cons_zero, List.set_cons_succ]
            refine wpAnyH_take (i := 11) (v := .int .i64 0) rfl (by kernel_rfl) (by kernel_rfl) (by kernel_rfl) (fun _ _ _ h => h) (Or.inl ⟨by rfl, fun V hSV => ?_⟩) hHeld ?_
            · (try dsimp only at hSV); go_simp
            try simp only [Act.put, List.setIfInBounds_toArray, List.set_cons_zero, List.set_cons_succ]
            refine wpAnyH_ready (rs := [12]) (by kernel_rfl) (by simp) ?_
            refine AllReadyH.cons rfl (fun K9_ hK => ?_) AllReadyH.nil
            go_simp
            refine hK.out _ _ ?_ (fun hHeld => ?_)
            · exact HKX.out _ (K9.out.al _)
            clear hK
            try simp only [Act.put, List.setIfInBounds_toArray, List.set_cons_zero, List.set_cons_succ]
            refine wpAnyH_ready (rs := [13]) (by kernel_rfl) (by simp) ?_
            refine AllReadyH.cons rfl (fun K9_ hK => ?_) AllReadyH.nil
            go_simp
            refine hK.out _ _ ?_ (fun hHeld => ?_)
            · exact HKX.out _ (K9.out.al _)
            clear hK
            try simp only [Act.put, List.setIfInBounds_toArray, List.set_cons_zero, List.set_cons_succ]
            refine wpAnyH_ready (rs := [14]) (by kernel_rfl) (by simp) ?_
            refine AllReadyH.cons rfl (fun K9_ hK => ?_) AllReadyH.nil
            go_simp
            refine hK.out _ _ ?_ (fun hHeld => ?_)
            · exact HKX.out _ (K9.out.al _)
            clear hK
            try simp only [Act.put, List.setIfInBounds_toArray, List.set_cons_zero, List.set_cons_succ]
            refine wpAnyH_done (by kernel_rfl) ?_ _
            go_wp2
            go_meet
            exact ⟨rfl, w9.heap.size, A9, c9, B9, d9, rfl, Bk.new rfl, R9.out.alloc_ _, K9.out.al _⟩
          refine AllReadyH.cons rfl (fun K9_ hK => ?_) AllReadyH.nil
          go_simp
          refine hK.out _ _ ?_ (fun hHeld => ?_)
          · exact HKX.out _ (hdr8.out.al _)
          clear hK
          try simp only [Act.put, List.setIfInBounds_toArray, List.set_cons_zero, List.set_cons_succ]
          refine wpAnyH_ready (rs := [8]) (by kernel_rfl) (by simp) ?_
          refine AllReadyH.cons rfl (fun K9_ hK => ?_) AllReadyH.nil
          go_simp
          refine (C6.out _ _ _ _ _ (by simp) (K.out.tr (hdr8.out.al _)) (J.out.kp (hdr8.out.al _))).mono ?_; rintro e0 w9 ⟨A9, c9, B9, d9, rfl, r9, k9⟩
          dsimp only
          have K9 : Hid (Kp W8 w9) := (hdr8.out.al _).tr k9
          have hq := HKX.out _ K9.out
          have R9 := Lib.hid r9
          have TZ : Hid (Bk w9 W8.heap.size none 0 0 none 0 0) := Bk.kp (Bk.new (W := W8.drew) rfl) k9
          have z0 := TZ.out.c0
          have z1 := TZ.out.c1
          have z2 := TZ.out.f0 0
          have z3 := TZ.out.f0 1
          clear r9 k9
          refine hK.out _ _ ?_ (fun hHeld => ?_)
          · exact hq
          clear hK
          try simp only [Act.put, List.setIfInBounds_toArray, List.set_cons_zero, List.set_cons_succ]
          refine wpAnyH_take (i := 9) (v := .tuple #[.agg #[.slice A9 o c9, .slice B9 q d9], .int .i64 0]) rfl (by kernel_rfl) (by kernel_rfl) (by kernel_rfl) (fun _ _ _ h => h) (Or.inl ⟨by rfl, fun V hSV => ?_⟩) hHeld ?_
          · (try dsimp only at hSV); go_simp
          try simp only [Act.put, List.setIfInBounds_toArray, List.set_cons_zero, List.set_cons_succ]
          refine wpAnyH_take (i := 10) (v := .agg #[.slice A9 o c9, .slice B9 q d9]) rfl (by kernel_rfl) (by kernel_rfl) (by kernel_rfl) (fun _ _ _ h => h) (Or.inl ⟨by rfl, fun V hSV => ?_⟩) hHeld ?_
          · (try dsimp only at hSV); go_simp
          try simp only [Act.put, List.setIfInBounds_toArray, List.set_cons_zero, List.set_cons_succ]
          refine wpAnyH_take (i := 11) (v := .int .i64 0) rfl (by kernel_rfl) (by kernel_rfl) (by kernel_rfl) (fun _ _ _ h => h) (Or.inl ⟨by rfl, fun V hSV => ?_⟩) hHeld ?_
          · (try dsimp only at hSV); go_simp
          try simp only [Act.put, List.setIfInBounds_toArray, List.set_cons_zero, List.set_cons_succ]
          refine wpAnyH_ready (rs := [13]) (by kernel_rfl) (by simp) ?_
          refine AllReadyH.cons rfl (fun K9_ hK => ?_) AllReadyH.nil
          go_simp
          refine hK.out _ _ ?_ (fun hHeld => ?_)
          · exact HKX.out _ ((K9.out.setCell (p := ⟨W8.heap.size, 0, none⟩) (Nat.le_refl _) _).setCell (p := ⟨W8.heap.size, 1, none⟩) (Nat.le_refl _) _)
          clear hK
          try simp only [Act.put, List.setIfInBounds_toArray, List.set_cons_zero, List.set_cons_succ]
          refine wpAnyH_ready (rs := [14]) (by kernel_rfl) (by simp) ?_
          refine AllReadyH.cons rfl (fun K9_ hK => ?_) AllReadyH.nil
          go_simp
          refine hK.out _ _ ?_ (fun hHeld => ?_)
          · exact HKX.out _ ((K9.out.setCell (p := ⟨W8.heap.size, 0, none⟩) (Nat.le_refl _) _).setCell (p := ⟨W8.heap.size, 1, none⟩) (Nat.le_refl _) _)
          clear hK
          try simp only [Act.put, List.setIfInBounds_toArray, List.set_cons_zero, List.set_cons_succ]
          refine wpAnyH_done (by kernel_rfl) ?_ _
          go_wp2
          go_meet
          exact ⟨rfl, W8.heap.size, A9, c9, B9, d9, rfl, TZ.out.put, R9.out.past TZ.out _ _, ((K9.out.setCell (p := ⟨W8.heap.size, 0, none⟩) (Nat.le_refl _) _).setCell (p := ⟨W8.heap.size, 1, none⟩) (Nat.le_refl _) _)⟩
        case rest =>
          obtain ⟨rfl, b_Y, A_Y, c_Y, B_Y, d_Y, rfl, YB, Y, k_Y⟩ := hcut
          have K := Lib.hid (K.out.tr k_Y.out)
          have T0B := Lib.hid (T0B.out.kp k_Y.out)
          have T1B := Lib.hid (T1B.out.kp k_Y.out)
          have P2B := Lib.hid (P2B.out.kp k_Y.out)
          have P3B := Lib.hid (P3B.out.kp k_Y.out)
          have JB := Lib.hid (JB.out.kp k_Y.out)
          have XB := Lib.hid (XB.out.kp k_Y.out)
          have CA := Lib.hid (CA.out.kp k_Y.out)
          have HT := Lib.hid (HT.out.kp k_Y.out)
          have HU := Lib.hid (HU.out.kp k_Y.out)
          have P3 := Lib.hid (P3.out.kp k_Y.out)
          have J := Lib.hid (J.out.kp k_Y.out)
          have CJ := Lib.hid (CJ.out.kp k_Y.out)
          have X := Lib.hid (X.out.kp k_Y.out)
          clear k_Y
          have zxb0 := XB.out.c0
          have zxb1 := XB.out.c1
          have zxb2 := XB.out.lt
          have zt0b0 := T0B.out.c0
          have zt0b1 := T0B.out.c1
          have zt0b2 := T0B.out.lt
          go_wp2_with fail
          refine (tsame_u X.out HT.out L0.out.1 L0.out.2.1).mono ?_; rintro e0 w9 ⟨rfl, k9⟩
          have K := Lib.hid (K.out.tr k9)
          have T0B := Lib.hid (T0B.out.kp k9)
          have T1B := Lib.hid (T1B.out.kp k9)
          have P2B := Lib.hid (P2B.out.kp k9)
          have P3B := Lib.hid (P3B.out.kp k9)
          have JB := Lib.hid (JB.out.kp k9)
          have XB := Lib.hid (XB.out.kp k9)
          have YB := Lib.hid (YB.out.kp k9)
          have CA := Lib.hid (CA.out.kp k9)
          have HT := Lib.hid (HT.out.kp k9)
          have HU := Lib.hid (HU.out.kp k9)
          have P3 := Lib.hid (P3.out.kp k9)
          have J := Lib.hid (J.out.kp k9)
          have CJ := Lib.hid (CJ.out.kp k9)
          have X := Lib.hid (X.out.kp k9)
          have Y := Lib.hid (Y.out.kp k9)
          clear k9 zxb0 zxb1 zxb2 zt0b0 zt0b1 zt0b2
          have zyb0 := YB.out.c0
          have zyb1 := YB.out.c1
          have zyb2 := YB.out.lt
          have zt1b0 := T1B.out.c0
          have zt1b1 := T1B.out.c1
          have zt1b2 := T1B.out.lt
          go_wp2_with fail
          refine (tsame_u Y.out HU.out L0.out.2.2.1 L0.out.2.2.2).mono ?_; rintro e0 w10 ⟨rfl, k10⟩
          have K := Lib.hid (K.out.tr k10)
          have T0B := Lib.hid (T0B.out.kp k10)
          have T1B := Lib.hid (T1B.out.kp k10)
          have P2B := Lib.hid (P2B.out.kp k10)
          have P3B := Lib.hid (P3B.out.kp k10)
          have JB := Lib.hid (JB.out.kp k10)
          have XB := Lib.hid (XB.out.kp k10)
          have YB := Lib.hid (YB.out.kp k10)
          have CA := Lib.hid (CA.out.kp k10)
          have HT := Lib.hid (HT.out.kp k10)
          have HU := Lib.hid (HU.out.kp k10)
          have P3 := Lib.hid (P3.out.kp k10)
          have J := Lib.hid (J.out.kp k10)
          have CJ := Lib.hid (CJ.out.kp k10)
          have X := Lib.hid (X.out.kp k10)
          have Y := Lib.hid (Y.out.kp k10)
          clear k10 zyb0 zyb1 zyb2 zt1b0 zt1b1 zt1b2
          go_wp2
          go_ret
          exact ⟨rfl, K.out⟩
      · skip
        go_wp2
        go_ret
        exact ⟨rfl, K.out.al _⟩
    · by_cases hc2 : sd ≤ q2
      · skip
        go_wp2_with fail
        refine (C4.out _ (K.out.al _)).mono ?_; rintro e0 w7 ⟨A7, c7, B7, d7, rfl, r7, k7⟩
        have K := Lib.hid ((K.out.al _).tr k7)
        have T0B := Lib.hid ((T0B.out.alloc_ _).kp k7)
        have T1B := Lib.hid ((T1B.out.alloc_ _).kp k7)
        have P2B := Lib.hid ((P2B.out.alloc_ _).kp k7)
        have CA := Lib.hid ((CA.out.alloc_ _).kp k7)
        have HT := Lib.hid ((HT.out.alloc_ _).kp k7)
        have HU := Lib.hid ((HU.out.alloc_ _).kp k7)
        have P3 := Lib.hid ((P3.out.alloc_ _).kp k7)
        have P3B : Hid (Bk w7 w6.heap.size A6 n c6 B6 m d6) := (Bk.new rfl).kp k7
        have J := Lib.hid r7
        clear k7 r7 zt0b0 zt0b1 zt0b2 zt1b0 zt1b1 zt1b2
        have zt0b0 := T0B.out.c0
        have zt0b1 := T0B.out.c1
        have zt0b2 := T0B.out.lt
        by_cases h4 : e4 = 0
        · obtain ⟨ja, jl, jx⟩ := HJ.out h4
          subst h4 ja
          obtain ⟨aj, CJ, ej⟩ := ce_of J.out.s jx
          subst ej
          clear jx jl
          go_wp2_with fail
          refine (C5.out _ _ _ _ _ (by simp) (K.out.al _) (J.out.alloc_ _)).mono ?_; rintro e0 w8 ⟨A8, c8, B8, d8, rfl, r8, k8⟩
          have K := Lib.hid ((K.out.al _).tr k8)
          have T0B := Lib.hid ((T0B.out.alloc_ _).kp k8)
          have T1B := Lib.hid ((T1B.out.alloc_ _).kp k8)
          have P2B := Lib.hid ((P2B.out.alloc_ _).kp k8)
          have P3B := Lib.hid ((P3B.out.alloc_ _).kp k8)
          have CA := Lib.hid ((CA.out.alloc_ _).kp k8)
          have HT := Lib.hid ((HT.out.alloc_ _).kp k8)
          have HU := Lib.hid ((HU.out.alloc_ _).kp k8)
          have P3 := Lib.hid ((P3.out.alloc_ _).kp k8)
          have J := Lib.hid ((J.out.alloc_ _).kp k8)
          have CJ := Lib.hid ((CJ.out.alloc_ _).kp k8)
          have JB : Hid (Bk w8 w7.heap.size (some aj) n c7 B7 b4 d7) := (Bk.new rfl).kp k8
          have X := Lib.hid r8
          clear k8 r8 zt0b0 zt0b1 zt0b2
          go_upto_region 15 with fail
          obtain ⟨W8, HW8⟩ : ∃ W8, Hid (W8 = w8.alloc (.cells #[.slice A8 n c8, .slice B8 m d8] 24)) := ⟨_, rfl⟩
          have hkx : Kp w8 W8 := by rw [HW8.out]; exact Kp.alloc_ _ _
          have XB : Hid (Bk W8 w8.heap.size A8 n c8 B8 m d8) := by show Bk _ _ _ _ _ _ _ _; rw [HW8.out]; exact Bk.new rfl
          rw [← HW8.out]
          have K := Lib.hid (K.out.tr hkx)
          have T0B := Lib.hid (T0B.out.kp hkx)
          have T1B := Lib.hid (T1B.out.kp hkx)
          have P2B := Lib.hid (P2B.out.kp hkx)
          have P3B := Lib.hid (P3B.out.kp hkx)
          have JB := Lib.hid (JB.out.kp hkx)
          have CA := Lib.hid (CA.out.kp hkx)
          have HT := Lib.hid (HT.out.kp hkx)
          have HU := Lib.hid (HU.out.kp hkx)
          have P3 := Lib.hid (P3.out.kp hkx)
          have J := Lib.hid (J.out.kp hkx)
          have CJ := Lib.hid (CJ.out.kp hkx)
          have X := Lib.hid (X.out.kp hkx)
          clear hkx HW8 
          go_cut [22, 23] (fun vb ve wx => ve = .int .i64 0 ∧ ∃ b9 A9 c9 B9 d9, vb = .pointer (some ⟨b9, 0, none⟩) ∧ Hid (Bk wx b9 A9 o c9 B9 q d9) ∧ Hid (TR wx A9 t B9 ys) ∧ Hid (Kp W8 wx))
          case first =>
            have hdr8 : Hid (Kp W8 W8.drew) := Below.drew (Kp.refl _)
            have HKX : Hid (∀ V, Kp W8 V → V.cell? ⟨w7.heap.size, 0, none⟩ = some (.slice (some aj) n c7) ∧ V.cell? ⟨w7.heap.size, 1, none⟩ = some (.slice B7 b4 d7) ∧ V.cell? (aj.add k) = some (.int .i64 jv)) := fun V kV => ⟨(JB.out.kp kV).c0, (JB.out.kp kV).c1, (CJ.out.kp kV).1⟩
            have s0 := HKX.out _ hdr8.out
            refine wp_region_held_drew (S := fun V => V.cell? ⟨w7.heap.size, 0, none⟩ = some (.slice (some aj) n c7) ∧ V.cell? ⟨w7.heap.size, 1, none⟩ = some (.slice B7 b4 d7) ∧ V.cell? (aj.add k) = some (.int .i64 jv)) (by kernel_rfl) s0 (fun hHeld => ?_)
            refine wpAnyH_take (i := 0) (v := .agg #[.slice (some aj) n c7, .slice B7 b4 d7]) rfl (by kernel_rfl) (by kernel_rfl) (by kernel_rfl) (fun _ _ _ h => h) (Or.inl ⟨by rfl, fun V hSV => ?_⟩) hHeld ?_
            · (try dsimp only at hSV); go_simp
            try simp only [Act.put, List.setIfInBounds_toArray, List.set_cons_zero, List.set_cons_succ]
            refine wpAnyH_take (i := 1) (v := .int .i64 (k : Int)) rfl (by kernel_rfl) (by kernel_rfl) (by kernel_rfl) (fun _ _ _ h => h) (Or.inl ⟨by rfl, fun V hSV => ?_⟩) hHeld ?_
            · (try dsimp only at hSV); go_simp
            try simp only [Act.put, List.setIfInBounds_toArray, List.set_cons_zero, List.set_cons_succ]
            refine wpAnyH_take (i := 2) (v := .int .i64 sd) rfl (by kernel_rfl) (by kernel_rfl) (by kernel_rfl) (fun _ _ _ h => h) (Or.inl ⟨by rfl, fun V hSV => ?_⟩) hHeld ?_
            · (try dsimp only at hSV); go_simp
            try simp only [Act.put, List.setIfInBounds_toArray, List.set_cons_zero, List.set_cons_succ]
            refine wpAnyH_take (i := 3) (v := .pointer (some ⟨w7.heap.size, 0, none⟩)) rfl (by kernel_rfl) (by kernel_rfl) (by kernel_rfl) (fun _ _ _ h => h) (Or.inl ⟨by rfl, fun V hSV => ?_⟩) hHeld ?_
            · (try dsimp only at hSV); go_simp
            try simp only [Act.put, List.setIfInBounds_toArray, List.set_cons_zero, List.set_cons_succ]
            refine wpAnyH_take (i := 4) (v := .slice (some aj) n c7) rfl (by kernel_rfl) (by kernel_rfl) (by kernel_rfl) (fun _ _ _ h => h) (Or.inl ⟨by rfl, fun V hSV => ?_⟩) hHeld ?_
            · (try dsimp only at hSV); go_simp
            try simp only [Act.put, List.setIfInBounds_toArray, List.set_cons_zero, List.set_cons_succ]
            refine wpAnyH_take (i := 5) (v := .int .i64 (k : Int)) rfl (by kernel_rfl) (by kernel_rfl) (by kernel_rfl) (fun _ _ _ h => h) (Or.inl ⟨by rfl, fun V hSV => ?_⟩) hHeld ?_
            · (try dsimp only at hSV); go_simp
            try simp only [Act.put, List.setIfInBounds_toArray, List.set_cons_zero, List.set_cons_succ]
            refine wpAnyH_take (i := 6) (v := .pointer (some (aj.add k))) rfl (by kernel_rfl) (by kernel_rfl) (by kernel_rfl) (fun _ _ _ h => h) (Or.inl ⟨by rfl, fun V hSV => ?_⟩) hHeld ?_
            · (try dsimp only at hSV); go_simp
            try simp only [Act.put, List.setIfInBounds_toArray, List.set_cons_zero, List.set_cons_succ]
            refine wpAnyH_take (i := 7) (v := .int .i64 jv) rfl (by kernel_rfl) (by kernel_rfl) (by kernel_rfl) (fun _ _ _ h => h) (Or.inl ⟨by rfl, fun V hSV => ?_⟩) hHeld ?_
            · (try dsimp only at hSV); go_simp
            try simp only [Act.put, List.setIfInBounds_toArray, List.set_cons_zero, List.set_cons_succ]
            refine wpAnyH_ready (rs := [8, 12]) (by kernel_rfl) (by simp) ?_
            refine AllReadyH.cons rfl (fun K9_ hK => ?_) ?_
            · go_simp
              refine (C6.out _ _ _ _ _ (by simp) (K.out.tr hdr8.out) (J.out.kp hdr8.out)).mono ?_; rintro e0 w9 ⟨A9, c9, B9, d9, rfl, r9, k9⟩
              dsimp only
              have K9 : Hid (Kp W8 w9) := undrawn k9
              have hq := HKX.out _ K9.out
              have R9 := Lib.hid r9
              clear r9 k9
              refine hK.out _ _ ?_ (fun hHeld => ?_)
              · exact hq
              clear hK
              try simp only [Act.put, List.setIfInBounds_toArray, List.set_cons_zero, List.set_cons_succ]
              refine wpAnyH_take (i := 9) (v := .tuple #[.agg #[.slice A9 o c9, .slice B9 q d9], .int .i64 0]) rfl (by kernel_rfl) (by kernel_rfl) (by kernel_rfl) (fun _ _ _ h => h) (Or.inl ⟨by rfl, fun V hSV => ?_⟩) hHeld ?_
              · (try dsimp only at hSV); go_simp
              try simp only [Act.put, List.setIfInBounds_toArray, List.set_cons_zero, List.set_cons_succ]
              refine wpAnyH_take (i := 10) (v := .agg #[.slice A9 o c9, .slice B9 q d9]) rfl (by kernel_rfl) (by kernel_rfl) (by kernel_rfl) (fun _ _ _ h => h) (Or.inl ⟨by rfl, fun V hSV => ?_⟩) hHeld ?_
              · (try dsimp only at hSV); go_simp
              try simp only [Act.put, List.setIfInBounds_toArray, List.set_cons_zero, List.set_cons_succ]
              refine wpAnyH_take (i := 11) (v := .int .i64 0) rfl (by kernel_rfl) (by kernel_rfl) (by kernel_rfl) (fun _ _ _ h => h) (Or.inl ⟨by rfl, fun V hSV => ?_⟩) hHeld ?_
              · (try dsimp only at hSV); go_simp
              try simp only [Act.put, List.setIfInBounds_toArray, List.set_cons_zero, List.set_cons_succ]
              refine wpAnyH_ready (rs := [12]) (by kernel_rfl) (by simp) ?_
              refine AllReadyH.cons rfl (fun K9_ hK => ?_) AllReadyH.nil
              go_simp
              refine hK.out _ _ ?_ (fun hHeld => ?_)
              · exact HKX.out _ (K9.out.al _)
              clear hK
              try simp only [Act.put, List.setIfInBounds_toArray, List.set_cons_zero, List.set_cons_succ]
              refine wpAnyH_ready (rs := [13]) (by kernel_rfl) (by simp) ?_
              refine AllReadyH.cons rfl (fun K9_ hK => ?_) AllReadyH.nil
              go_simp
              refine hK.out _ _ ?_ (fun hHeld => ?_)
              · exact HKX.out _ (K9.out.al _)
              clear hK
              try simp only [Act.put, List.setIfInBounds_toArray, List.set_cons_zero, List.set_cons_succ]
              refine wpAnyH_ready (rs := [14]) (by kernel_rfl) (by simp) ?_
              refine AllReadyH.cons rfl (fun K9_ hK => ?_) AllReadyH.nil
              go_simp
              refine hK.out _ _ ?_ (fun hHeld => ?_)
              · exact HKX.out _ (K9.out.al _)
              clear hK
              try simp only [Act.put, List.setIfInBounds_toArray, List.set_cons_zero, List.set_cons_succ]
              refine wpAnyH_done (by kernel_rfl) ?_ _
              go_wp2
              go_meet
              exact ⟨rfl, w9.heap.size, A9, c9, B9, d9, rfl, Bk.new rfl, R9.out.alloc_ _, K9.out.al _⟩
            refine AllReadyH.cons rfl (fun K9_ hK => ?_) AllReadyH.nil
            go_simp
            refine hK.out _ _ ?_ (fun hHeld => ?_)
            · exact HKX.out _ (hdr8.out.al _)
            clear hK
            try simp only [Act.put, List.setIfInBounds_toArray, List.set_cons_zero, List.set_cons_succ]
            refine wpAnyH_ready (rs := [8]) (by kernel_rfl) (by simp) ?_
            refine AllReadyH.cons rfl (fun K9_ hK => ?_) AllReadyH.nil
            go_simp
            refine (C6.out _ _ _ _ _ (by simp) (K.out.tr (hdr8.out.al _)) (J.out.kp (hdr8.out.al _))).mono ?_; rintro e0 w9 ⟨A9, c9, B9, d9, rfl, r9, k9⟩
            dsimp only
            have K9 : Hid (Kp W8 w9) := (hdr8.out.al _).tr k9
            have hq := HKX.out _ K9.out
            have R9 := Lib.hid r9
            have TZ : Hid (Bk w9 W8.heap.size none 0 0 none 0 0) := Bk.kp (Bk.new (W := W8.drew) rfl) k9
            have z0 := TZ.out.c0
            have z1 := TZ.out.c1
            have z2 := TZ.out.f0 0
            have z3 := TZ.out.f0 1
            clear r9 k9
            refine hK.out _ _ ?_ (fun hHeld => ?_)
            · exact hq
            clear hK
            try simp only [Act.put, List.setIfInBounds_toArray, List.set_cons_zero, List.set_cons_succ]
            refine wpAnyH_take (i := 9) (v := .tuple #[.agg #[.slice A9 o c9, .slice B9 q d9], .int .i64 0]) rfl (by kernel_rfl) (by kernel_rfl) (by kernel_rfl) (fun _ _ _ h => h) (Or.inl ⟨by rfl, fun V hSV => ?_⟩) hHeld ?_
            · (try dsimp only at hSV); go_simp
            try simp only [Act.put, List.setIfInBounds_toArray, List.set_cons_zero, List.set_cons_succ]
            refine wpAnyH_take (i := 10) (v := .agg #[.slice A9 o c9, .slice B9 q d9]) rfl (by kernel_rfl) (by kernel_rfl) (by kernel_rfl) (fun _ _ _ h => h) (Or.inl ⟨by rfl, fun V hSV => ?_⟩) hHeld ?_
            · (try dsimp only at hSV); go_simp
            try simp only [Act.put, List.setIfInBounds_toArray, List.set_cons_zero, List.set_cons_succ]
            refine wpAnyH_take (i := 11) (v := .int .i64 0) rfl (by kernel_rfl) (by kernel_rfl) (by kernel_rfl) (fun _ _ _ h => h) (Or.inl ⟨by rfl, fun V hSV => ?_⟩) hHeld ?_
            · (try dsimp only at hSV); go_simp
            try simp only [Act.put, List.setIfInBounds_toArray, List.set_cons_zero, List.set_cons_succ]
            refine wpAnyH_ready (rs := [13]) (by kernel_rfl) (by simp) ?_
            refine AllReadyH.cons rfl (fun K9_ hK => ?_) AllReadyH.nil
            go_simp
            refine hK.out _ _ ?_ (fun hHeld => ?_)
            · exact HKX.out _ ((K9.out.setCell (p := ⟨W8.heap.size, 0, none⟩) (Nat.le_refl _) _).setCell (p := ⟨W8.heap.size, 1, none⟩) (Nat.le_refl _) _)
            clear hK
            try simp only [Act.put, List.setIfInBounds_toArray, List.set_cons_zero, List.set_cons_succ]
            refine wpAnyH_ready (rs := [14]) (by kernel_rfl) (by simp) ?_
            refine AllReadyH.cons rfl (fun K9_ hK => ?_) AllReadyH.nil
            go_simp
            refine hK.out _ _ ?_ (fun hHeld => ?_)
            · exact HKX.out _ ((K9.out.setCell (p := ⟨W8.heap.size, 0, none⟩) (Nat.le_refl _) _).setCell (p := ⟨W8.heap.size, 1, none⟩) (Nat.le_refl _) _)
            clear hK
            try simp only [Act.put, List.setIfInBounds_toArray, List.set_cons_zero, List.set_cons_succ]
            refine wpAnyH_done (by kernel_rfl) ?_ _
            go_wp2
            go_meet
            exact ⟨rfl, W8.heap.size, A9, c9, B9, d9, rfl, TZ.out.put, R9.out.past TZ.out _ _, ((K9.out.setCell (p := ⟨W8.heap.size, 0, none⟩) (Nat.le_refl _) _).setCell (p := ⟨W8.heap.size, 1, none⟩) (Nat.le_refl _) _)⟩
          case rest =>
            obtain ⟨rfl, b_Y, A_Y, c_Y, B_Y, d_Y, rfl, YB, Y, k_Y⟩ := hcut
            have K := Lib.hid (K.out.tr k_Y.out)
            have T0B := Lib.hid (T0B.out.kp k_Y.out)
            have T1B := Lib.hid (T1B.out.kp k_Y.out)
            have P2B := Lib.hid (P2B.out.kp k_Y.out)
            have P3B := Lib.hid (P3B.out.kp k_Y.out)
            have JB := Lib.hid (JB.out.kp k_Y.out)
            have XB := Lib.hid (XB.out.kp k_Y.out)
            have CA := Lib.hid (CA.out.kp k_Y.out)
            have HT := Lib.hid (HT.out.kp k_Y.out)
            have HU := Lib.hid (HU.out.kp k_Y.out)
            have P3 := Lib.hid (P3.out.kp k_Y.out)
            have J := Lib.hid (J.out.kp k_Y.out)
            have CJ := Lib.hid (CJ.out.kp k_Y.out)
            have X := Lib.hid (X.out.kp k_Y.out)
            clear k_Y
            have zxb0 := XB.out.c0
            have zxb1 := XB.out.c1
            have zxb2 := XB.out.lt
            have zt0b0 := T0B.out.c0
            have zt0b1 := T0B.out.c1
            have zt0b2 := T0B.out.lt
            go_wp2_with fail
            refine (tsame_u X.out HT.out L0.out.1 L0.out.2.1).mono ?_; rintro e0 w9 ⟨rfl, k9⟩
            have K := Lib.hid (K.out.tr k9)
            have T0B := Lib.hid (T0B.out.kp k9)
            have T1B := Lib.hid (T1B.out.kp k9)
            have P2B := Lib.hid (P2B.out.kp k9)
            have P3B := Lib.hid (P3B.out.kp k9)
            have JB := Lib.hid (JB.out.kp k9)
            have XB := Lib.hid (XB.out.kp k9)
            have YB := Lib.hid (YB.out.kp k9)
            have CA := Lib.hid (CA.out.kp k9)
            have HT := Lib.hid (HT.out.kp k9)
            have HU := Lib.hid (HU.out.kp k9)
            have P3 := Lib.hid (P3.out.kp k9)
            have J := Lib.hid (J.out.kp k9)
            have CJ := Lib.hid (CJ.out.kp k9)
            have X := Lib.hid (X.out.kp k9)
            have Y := Lib.hid (Y.out.kp k9)
            clear k9 zxb0 zxb1 zxb2 zt0b0 zt0b1 zt0b2
            have zyb0 := YB.out.c0
            have zyb1 := YB.out.c1
            have zyb2 := YB.out.lt
            have zt1b0 := T1B.out.c0
            have zt1b1 := T1B.out.c1
            have zt1b2 := T1B.out.lt
            go_wp2_with fail
            refine (tsame_u Y.out HU.out L0.out.2.2.1 L0.out.2.2.2).mono ?_; rintro e0 w10 ⟨rfl, k10⟩
            have K := Lib.hid (K.out.tr k10)
            have T0B := Lib.hid (T0B.out.kp k10)
            have T1B := Lib.hid (T1B.out.kp k10)
            have P2B := Lib.hid (P2B.out.kp k10)
            have P3B := Lib.hid (P3B.out.kp k10)
            have JB := Lib.hid (JB.out.kp k10)
            have XB := Lib.hid (XB.out.kp k10)
            have YB := Lib.hid (YB.out.kp k10)
            have CA := Lib.hid (CA.out.kp k10)
            have HT := Lib.hid (HT.out.kp k10)
            have HU := Lib.hid (HU.out.kp k10)
            have P3 := Lib.hid (P3.out.kp k10)
            have J := Lib.hid (J.out.kp k10)
            have CJ := Lib.hid (CJ.out.kp k10)
            have X := Lib.hid (X.out.kp k10)
            have Y := Lib.hid (Y.out.kp k10)
            clear k10 zyb0 zyb1 zyb2 zt1b0 zt1b1 zt1b2
            go_wp2
            go_ret
            exact ⟨rfl, K.out⟩
        · skip
          go_wp2
          go_ret
          exact ⟨rfl, K.out.al _⟩
      · skip
        go_wp2_with fail
        refine (tsame_u (P3.out.alloc_ _) (HT.out.alloc_ _) L0.out.1 L0.out.2.1).mono ?_; rintro e0 w7 ⟨rfl, k7⟩
        have K := Lib.hid ((K.out.al _).tr k7)
        have T0B := Lib.hid ((T0B.out.alloc_ _).kp k7)
        have T1B := Lib.hid ((T1B.out.alloc_ _).kp k7)
        have P2B := Lib.hid ((P2B.out.alloc_ _).kp k7)
        have CA := Lib.hid ((CA.out.alloc_ _).kp k7)
        have HT := Lib.hid ((HT.out.alloc_ _).kp k7)
        have HU := Lib.hid ((HU.out.alloc_ _).kp k7)
        have P3 := Lib.hid ((P3.out.alloc_ _).kp k7)
        have P3B : Hid (Bk w7 w6.heap.size A6 n c6 B6 m d6) := (Bk.new rfl).kp k7
        clear k7 zt0b0 zt0b1 zt0b2 zt1b0 zt1b1 zt1b2
        have zt0b0 := T0B.out.c0
        have zt0b1 := T0B.out.c1
        have zt0b2 := T0B.out.lt
        have zt1b0 := T1B.out.c0
        have zt1b1 := T1B.out.c1
        have zt1b2 := T1B.out.lt
        go_wp2_with fail
        refine (C4.out _ K.out).mono ?_; rintro e0 w8 ⟨A8, c8, B8, d8, rfl, r8, k8⟩
        have K := Lib.hid (K.out.tr k8)
        have T0B := Lib.hid (T0B.out.kp k8)
        have T1B := Lib.hid (T1B.out.kp k8)
        have P2B := Lib.hid (P2B.out.kp k8)
        have P3B := Lib.hid (P3B.out.kp k8)
        have CA := Lib.hid (CA.out.kp k8)
        have HT := Lib.hid (HT.out.kp k8)
        have HU := Lib.hid (HU.out.kp k8)
        have P3 := Lib.hid (P3.out.kp k8)
        have J := Lib.hid r8
        clear k8 r8 zt0b0 zt0b1 zt0b2 zt1b0 zt1b1 zt1b2
        have zt0b0 := T0B.out.c0
        have zt0b1 := T0B.out.c1
        have zt0b2 := T0B.out.lt
        by_cases h4 : e4 = 0
        · obtain ⟨ja, jl, jx⟩ := HJ.out h4
          subst h4 ja
          obtain ⟨aj, CJ, ej⟩ := ce_of J.out.s jx
          subst ej
          clear jx jl
          go_wp2_with fail
          refine (C5.out _ _ _ _ _ (by simp) (K.out.al _) (J.out.alloc_ _)).mono ?_; rintro e0 w9 ⟨A9, c9, B9, d9, rfl, r9, k9⟩
          have K := Lib.hid ((K.out.al _).tr k9)
          have T0B := Lib.hid ((T0B.out.alloc_ _).kp k9)
          have T1B := Lib.hid ((T1B.out.alloc_ _).kp k9)
          have P2B := Lib.hid ((P2B.out.alloc_ _).kp k9)
          have P3B := Lib.hid ((P3B.out.alloc_ _).kp k9)
          have CA := Lib.hid ((CA.out.alloc_ _).kp k9)
          have HT := Lib.hid ((HT.out.alloc_ _).kp k9)
          have HU := Lib.hid ((HU.out.alloc_ _).kp k9)
          have P3 := Lib.hid ((P3.out.alloc_ _).kp k9)
          have J := Lib.hid ((J.out.alloc_ _).kp k9)
          have CJ := Lib.hid ((CJ.out.alloc_ _).kp k9)
          have JB : Hid (Bk w9 w8.heap.size (some aj) n c8 B8 b4 d8) := (Bk.new rfl).kp k9
          have X := Lib.hid r9
          clear k9 r9 zt0b0 zt0b1 zt0b2
          go_upto_region 15 with fail
          obtain ⟨W8, HW8⟩ : ∃ W8, Hid (W8 = w9.alloc (.cells #[.slice A9 n c9, .slice B9 m d9] 24)) := ⟨_, rfl⟩
          have hkx : Kp w9 W8 := by rw [HW8.out]; exact Kp.alloc_ _ _
          have XB : Hid (Bk W8 w9.heap.size A9 n c9 B9 m d9) := by show Bk _ _ _ _ _ _ _ _; rw [HW8.out]; exact Bk.new rfl
          rw [← HW8.out]
          have K := Lib.hid (K.out.tr hkx)
          have T0B := Lib.hid (T0B.out.kp hkx)
          have T1B := Lib.hid (T1B.out.kp hkx)
          have P2B := Lib.hid (P2B.out.kp hkx)
          have P3B := Lib.hid (P3B.out.kp hkx)
          have JB := Lib.hid (JB.out.kp hkx)
          have CA := Lib.hid (CA.out.kp hkx)
          have HT := Lib.hid (HT.out.kp hkx)
          have HU := Lib.hid (HU.out.kp hkx)
          have P3 := Lib.hid (P3.out.kp hkx)
          have J := Lib.hid (J.out.kp hkx)
          have CJ := Lib.hid (CJ.out.kp hkx)
          have X := Lib.hid (X.out.kp hkx)
          clear hkx HW8 
          go_cut [22, 23] (fun vb ve wx => ve = .int .i64 0 ∧ ∃ b9 A9 c9 B9 d9, vb = .pointer (some ⟨b9, 0, none⟩) ∧ Hid (Bk wx b9 A9 o c9 B9 q d9) ∧ Hid (TR wx A9 t B9 ys) ∧ Hid (Kp W8 wx))
          case first =>
            have hdr8 : Hid (Kp W8 W8.drew) := Below.drew (Kp.refl _)
            have HKX : Hid (∀ V, Kp W8 V → V.cell? ⟨w8.heap.size, 0, none⟩ = some (.slice (some aj) n c8) ∧ V.cell? ⟨w8.heap.size, 1, none⟩ = some (.slice B8 b4 d8) ∧ V.cell? (aj.add k) = some (.int .i64 jv)) := fun V kV => ⟨(JB.out.kp kV).c0, (JB.out.kp kV).c1, (CJ.out.kp kV).1⟩
            have s0 := HKX.out _ hdr8.out
            refine wp_region_held_drew (S := fun V => V.cell? ⟨w8.heap.size, 0, none⟩ = some (.slice (some aj) n c8) ∧ V.cell? ⟨w8.heap.size, 1, none⟩ = some (.slice B8 b4 d8) ∧ V.cell? (aj.add k) = some (.int .i64 jv)) (by kernel_rfl) s0 (fun hHeld => ?_)
            refine wpAnyH_take (i := 0) (v := .agg #[.slice (some aj) n c8, .slice B8 b4 d8]) rfl (by kernel_rfl) (by kernel_rfl) (by kernel_rfl) (fun _ _ _ h => h) (Or.inl ⟨by rfl, fun V hSV => ?_⟩) hHeld ?_
            · (try dsimp only at hSV); go_simp
            try simp only [Act.put, List.setIfInBounds_toArray, List.set_cons_zero, List.set_cons_succ]
            refine wpAnyH_take (i := 1) (v := .int .i64 (k : Int)) rfl (by kernel_rfl) (by kernel_rfl) (by kernel_rfl) (fun _ _ _ h => h) (Or.inl ⟨by rfl, fun V hSV => ?_⟩) hHeld ?_
            · (try dsimp only at hSV); go_simp
            try simp only [Act.put, List.setIfInBounds_toArray, List.set_cons_zero, List.set_cons_succ]
            refine wpAnyH_take (i := 2) (v := .int .i64 sd) rfl (by kernel_rfl) (by kernel_rfl) (by kernel_rfl) (fun _ _ _ h => h) (Or.inl ⟨by rfl, fun V hSV => ?_⟩) hHeld ?_
            · (try dsimp only at hSV); go_simp
            try simp only [Act.put, List.setIfInBounds_toArray, List.set_cons_zero, List.set_cons_succ]
            refine wpAnyH_take (i := 3) (v := .pointer (some ⟨w8.heap.size, 0, none⟩)) rfl (by kernel_rfl) (by kernel_rfl) (by kernel_rfl) (fun _ _ _ h => h) (Or.inl ⟨by rfl, fun V hSV => ?_⟩) hHeld ?_
            · (try dsimp only at hSV); go_simp
            try simp only [Act.put, List.setIfInBounds_toArray, List.set_cons_zero, List.set_cons_succ]
            refine wpAnyH_take (i := 4) (v := .slice (some aj) n c8) rfl (by kernel_rfl) (by kernel_rfl) (by kernel_rfl) (fun _ _ _ h => h) (Or.inl ⟨by rfl, fun V hSV => ?_⟩) hHeld ?_
            · (try dsimp only at hSV); go_simp
            try simp only [Act.put, List.setIfInBounds_toArray, List.set_cons_zero, List.set_cons_succ]
            refine wpAnyH_take (i := 5) (v := .int .i64 (k : Int)) rfl (by kernel_rfl) (by kernel_rfl) (by kernel_rfl) (fun _ _ _ h => h) (Or.inl ⟨by rfl, fun V hSV => ?_⟩) hHeld ?_
            · (try dsimp only at hSV); go_simp
            try simp only [Act.put, List.setIfInBounds_toArray, List.set_cons_zero, List.set_cons_succ]
            refine wpAnyH_take (i := 6) (v := .pointer (some (aj.add k))) rfl (by kernel_rfl) (by kernel_rfl) (by kernel_rfl) (fun _ _ _ h => h) (Or.inl ⟨by rfl, fun V hSV => ?_⟩) hHeld ?_
            · (try dsimp only at hSV); go_simp
            try simp only [Act.put, List.setIfInBounds_toArray, List.set_cons_zero, List.set_cons_succ]
            refine wpAnyH_take (i := 7) (v := .int .i64 jv) rfl (by kernel_rfl) (by kernel_rfl) (by kernel_rfl) (fun _ _ _ h => h) (Or.inl ⟨by rfl, fun V hSV => ?_⟩) hHeld ?_
            · (try dsimp only at hSV); go_simp
            try simp only [Act.put, List.setIfInBounds_toArray, List.set_cons_zero, List.set_cons_succ]
            refine wpAnyH_ready (rs := [8, 12]) (by kernel_rfl) (by simp) ?_
            refine AllReadyH.cons rfl (fun K9_ hK => ?_) ?_
            · go_simp
              refine (C6.out _ _ _ _ _ (by simp) (K.out.tr hdr8.out) (J.out.kp hdr8.out)).mono ?_; rintro e0 w9 ⟨A9, c9, B9, d9, rfl, r9, k9⟩
              dsimp only
              have K9 : Hid (Kp W8 w9) := undrawn k9
              have hq := HKX.out _ K9.out
              have R9 := Lib.hid r9
              clear r9 k9
              refine hK.out _ _ ?_ (fun hHeld => ?_)
              · exact hq
              clear hK
              try simp only [Act.put, List.setIfInBounds_toArray, List.set_cons_zero, List.set_cons_succ]
              refine wpAnyH_take (i := 9) (v := .tuple #[.agg #[.slice A9 o c9, .slice B9 q d9], .int .i64 0]) rfl (by kernel_rfl) (by kernel_rfl) (by kernel_rfl) (fun _ _ _ h => h) (Or.inl ⟨by rfl, fun V hSV => ?_⟩) hHeld ?_
              · (try dsimp only at hSV); go_simp
              try simp only [Act.put, List.setIfInBounds_toArray, List.set_cons_zero, List.set_cons_succ]
              refine wpAnyH_take (i := 10) (v := .agg #[.slice A9 o c9, .slice B9 q d9]) rfl (by kernel_rfl) (by kernel_rfl) (by kernel_rfl) (fun _ _ _ h => h) (Or.inl ⟨by rfl, fun V hSV => ?_⟩) hHeld ?_
              · (try dsimp only at hSV); go_simp
              try simp only [Act.put, List.setIfInBounds_toArray, List.set_cons_zero, List.set_cons_succ]
              refine wpAnyH_take (i := 11) (v := .int .i64 0) rfl (by kernel_rfl) (by kernel_rfl) (by kernel_rfl) (fun _ _ _ h => h) (Or.inl ⟨by rfl, fun V hSV => ?_⟩) hHeld ?_
              · (try dsimp only at hSV); go_simp
              try simp only [Act.put, List.setIfInBounds_toArray, List.set_cons_zero, List.set_cons_succ]
              refine wpAnyH_ready (rs := [12]) (by kernel_rfl) (by simp) ?_
              refine AllReadyH.cons rfl (fun K9_ hK => ?_) AllReadyH.nil
              go_simp
              refine hK.out _ _ ?_ (fun hHeld => ?_)
              · exact HKX.out _ (K9.out.al _)
              clear hK
              try simp only [Act.put, List.setIfInBounds_toArray, List.set_cons_zero, List.set_cons_succ]
              refine wpAnyH_ready (rs := [13]) (by kernel_rfl) (by simp) ?_
              refine AllReadyH.cons rfl (fun K9_ hK => ?_) AllReadyH.nil
              go_simp
              refine hK.out _ _ ?_ (fun hHeld => ?_)
              · exact HKX.out _ (K9.out.al _)
              clear hK
              try simp only [Act.put, List.setIfInBounds_toArray, List.set_cons_zero, List.set_cons_succ]
              refine wpAnyH_ready (rs := [14]) (by kernel_rfl) (by simp) ?_
              refine AllReadyH.cons rfl (fun K9_ hK => ?_) AllReadyH.nil
              go_simp
              refine hK.out _ _ ?_ (fun hHeld => ?_)
              · exact HKX.out _ (K9.out.al _)
              clear hK
              try simp only [Act.put, List.setIfInBounds_toArray, List.set_cons_zero, List.set_cons_succ]
              refine wpAnyH_done (by kernel_rfl) ?_ _
              go_wp2
              go_meet
              exact ⟨rfl, w9.heap.size, A9, c9, B9, d9, rfl, Bk.new rfl, R9.out.alloc_ _, K9.out.al _⟩
            refine AllReadyH.cons rfl (fun K9_ hK => ?_) AllReadyH.nil
            go_simp
            refine hK.out _ _ ?_ (fun hHeld => ?_)
            · exact HKX.out _ (hdr8.out.al _)
            clear hK
            try simp only [Act.put, List.setIfInBounds_toArray, List.set_cons_zero, List.set_cons_succ]
            refine wpAnyH_ready (rs := [8]) (by kernel_rfl) (by simp) ?_
            refine AllReadyH.cons rfl (fun K9_ hK => ?_) AllReadyH.nil
            go_simp
            refine (C6.out _ _ _ _ _ (by simp) (K.out.tr (hdr8.out.al _)) (J.out.kp (hdr8.out.al _))).mono ?_; rintro e0 w9 ⟨A9, c9, B9, d9, rfl, r9, k9⟩
            dsimp only
            have K9 : Hid (Kp W8 w9) := (hdr8.out.al _).tr k9
            have hq := HKX.out _ K9.out
            have R9 := Lib.hid r9
            have TZ : Hid (Bk w9 W8.heap.size none 0 0 none 0 0) := Bk.kp (Bk.new (W := W8.drew) rfl) k9
            have z0 := TZ.out.c0
            have z1 := TZ.out.c1
            have z2 := TZ.out.f0 0
            have z3 := TZ.out.f0 1
            clear r9 k9
            refine hK.out _ _ ?_ (fun hHeld => ?_)
            · exact hq
            clear hK
            try simp only [Act.put, List.setIfInBounds_toArray, List.set_cons_zero, List.set_cons_succ]
            refine wpAnyH_take (i := 9) (v := .tuple #[.agg #[.slice A9 o c9, .slice B9 q d9], .int .i64 0]) rfl (by kernel_rfl) (by kernel_rfl) (by kernel_rfl) (fun _ _ _ h => h) (Or.inl ⟨by rfl, fun V hSV => ?_⟩) hHeld ?_
            · (try dsimp only at hSV); go_simp
            try simp only [Act.put, List.setIfInBounds_toArray, List.set_cons_zero, List.set_cons_succ]
            refine wpAnyH_take (i := 10) (v := .agg #[.slice A9 o c9, .slice B9 q d9]) rfl (by kernel_rfl) (by kernel_rfl) (by kernel_rfl) (fun _ _ _ h => h) (Or.inl ⟨by rfl, fun V hSV => ?_⟩) hHeld ?_
            · (try dsimp only at hSV); go_simp
            try simp only [Act.put, List.setIfInBounds_toArray, List.set_cons_zero, List.set_cons_succ]
            refine wpAnyH_take (i := 11) (v := .int .i64 0) rfl (by kernel_rfl) (by kernel_rfl) (by kernel_rfl) (fun _ _ _ h => h) (Or.inl ⟨by rfl, fun V hSV => ?_⟩) hHeld ?_
            · (try dsimp only at hSV); go_simp
            try simp only [Act.put, List.setIfInBounds_toArray, List.set_cons_zero, List.set_cons_succ]
            refine wpAnyH_ready (rs := [13]) (by kernel_rfl) (by simp) ?_
            refine AllReadyH.cons rfl (fun K9_ hK => ?_) AllReadyH.nil
            go_simp
            refine hK.out _ _ ?_ (fun hHeld => ?_)
            · exact HKX.out _ ((K9.out.setCell (p := ⟨W8.heap.size, 0, none⟩) (Nat.le_refl _) _).setCell (p := ⟨W8.heap.size, 1, none⟩) (Nat.le_refl _) _)
            clear hK
            try simp only [Act.put, List.setIfInBounds_toArray, List.set_cons_zero, List.set_cons_succ]
            refine wpAnyH_ready (rs := [14]) (by kernel_rfl) (by simp) ?_
            refine AllReadyH.cons rfl (fun K9_ hK => ?_) AllReadyH.nil
            go_simp
            refine hK.out _ _ ?_ (fun hHeld => ?_)
            · exact HKX.out _ ((K9.out.setCell (p := ⟨W8.heap.size, 0, none⟩) (Nat.le_refl _) _).setCell (p := ⟨W8.heap.size, 1, none⟩) (Nat.le_refl _) _)
            clear hK
            try simp only [Act.put, List.setIfInBounds_toArray, List.set_cons_zero, List.set_cons_succ]
            refine wpAnyH_done (by kernel_rfl) ?_ _
            go_wp2
            go_meet
            exact ⟨rfl, W8.heap.size, A9, c9, B9, d9, rfl, TZ.out.put, R9.out.past TZ.out _ _, ((K9.out.setCell (p := ⟨W8.heap.size, 0, none⟩) (Nat.le_refl _) _).setCell (p := ⟨W8.heap.size, 1, none⟩) (Nat.le_refl _) _)⟩
          case rest =>
            obtain ⟨rfl, b_Y, A_Y, c_Y, B_Y, d_Y, rfl, YB, Y, k_Y⟩ := hcut
            have K := Lib.hid (K.out.tr k_Y.out)
            have T0B := Lib.hid (T0B.out.kp k_Y.out)
            have T1B := Lib.hid (T1B.out.kp k_Y.out)
            have P2B := Lib.hid (P2B.out.kp k_Y.out)
            have P3B := Lib.hid (P3B.out.kp k_Y.out)
            have JB := Lib.hid (JB.out.kp k_Y.out)
            have XB := Lib.hid (XB.out.kp k_Y.out)
            have CA := Lib.hid (CA.out.kp k_Y.out)
            have HT := Lib.hid (HT.out.kp k_Y.out)
            have HU := Lib.hid (HU.out.kp k_Y.out)
            have P3 := Lib.hid (P3.out.kp k_Y.out)
            have J := Lib.hid (J.out.kp k_Y.out)
            have CJ := Lib.hid (CJ.out.kp k_Y.out)
            have X := Lib.hid (X.out.kp k_Y.out)
            clear k_Y
            have zxb0 := XB.out.c0
            have zxb1 := XB.out.c1
            have zxb2 := XB.out.lt
            have zt0b0 := T0B.out.c0
            have zt0b1 := T0B.out.c1
            have zt0b2 := T0B.out.lt
            go_wp2_with fail
            refine (tsame_u X.out HT.out L0.out.1 L0.out.2.1).mono ?_; rintro e0 w10 ⟨rfl, k10⟩
            have K := Lib.hid (K.out.tr k10)
            have T0B := Lib.hid (T0B.out.kp k10)
            have T1B := Lib.hid (T1B.out.kp k10)
            have P2B := Lib.hid (P2B.out.kp k10)
            have P3B := Lib.hid (P3B.out.kp k10)
            have JB := Lib.hid (JB.out.kp k10)
            have XB := Lib.hid (XB.out.kp k10)
            have YB := Lib.hid (YB.out.kp k10)
            have CA := Lib.hid (CA.out.kp k10)
            have HT := Lib.hid (HT.out.kp k10)
            have HU := Lib.hid (HU.out.kp k10)
            have P3 := Lib.hid (P3.out.kp k10)
            have J := Lib.hid (J.out.kp k10)
            have CJ := Lib.hid (CJ.out.kp k10)
            have X := Lib.hid (X.out.kp k10)
            have Y := Lib.hid (Y.out.kp k10)
            clear k10 zxb0 zxb1 zxb2 zt0b0 zt0b1 zt0b2
            have zyb0 := YB.out.c0
            have zyb1 := YB.out.c1
            have zyb2 := YB.out.lt
            have zt1b0 := T1B.out.c0
            have zt1b1 := T1B.out.c1
            have zt1b2 := T1B.out.lt
            go_wp2_with fail
            refine (tsame_u Y.out HU.out L0.out.2.2.1 L0.out.2.2.2).mono ?_; rintro e0 w11 ⟨rfl, k11⟩
            have K := Lib.hid (K.out.tr k11)
            have T0B := Lib.hid (T0B.out.kp k11)
            have T1B := Lib.hid (T1B.out.kp k11)
            have P2B := Lib.hid (P2B.out.kp k11)
            have P3B := Lib.hid (P3B.out.kp k11)
            have JB := Lib.hid (JB.out.kp k11)
            have XB := Lib.hid (XB.out.kp k11)
            have YB := Lib.hid (YB.out.kp k11)
            have CA := Lib.hid (CA.out.kp k11)
            have HT := Lib.hid (HT.out.kp k11)
            have HU := Lib.hid (HU.out.kp k11)
            have P3 := Lib.hid (P3.out.kp k11)
            have J := Lib.hid (J.out.kp k11)
            have CJ := Lib.hid (CJ.out.kp k11)
            have X := Lib.hid (X.out.kp k11)
            have Y := Lib.hid (Y.out.kp k11)
            clear k11 zyb0 zyb1 zyb2 zt1b0 zt1b1 zt1b2
            go_wp2
            go_ret
            exact ⟨rfl, K.out⟩
        · skip
          go_wp2
          go_ret
          exact ⟨rfl, K.out.al _⟩

theorem mparts_walk (A B C D : Option Addr) (c d e f : Nat) (q1 q2 : Int) (s xs t ys : List Int) (w : World) (R0 : TR w A s B xs) (I0 : I64s xs) (R1 : TR w C t D ys) (I1 : I64s ys) :
    Calls Try.prog 5 #[.agg #[.slice A s.length c, .slice B xs.length d], .agg #[.slice C t.length e, .slice D ys.length f], .int .i64 q1, .int .i64 q2] w fun e w' => e = .returned (.bool true) ∧ Kp w w' := by
  by_cases f0 : 100 < s.length ∨ 100 < xs.length
  · exact mparts_far0 A B C D _ c _ d _ e _ f q1 q2 w  R0.s.len R0.d.len f0
  by_cases f1 : 100 < t.length ∨ 100 < ys.length
  · exact mparts_far1 A B C D _ c _ d _ e _ f q1 q2 w (by omega) (by omega) R1.s.len R1.d.len f1
  by_cases b0 : tokV s xs = false
  · exact mparts_far2 A B C D _ c _ d _ e _ f q1 q2 w (by omega) (by omega) (by omega) (by omega) (Lib.hid fun W k => tcheck_u s xs (R0.kp k) rfl rfl b0)
  have b0 : tokV s xs = true := by simpa using b0
  by_cases hx : q1 < 0
  · exact mparts_far3 A B C D _ c _ d _ e _ f q1 q2 w (by omega) (by omega) (by omega) (by omega) (Lib.hid fun W k => tcheck_u s xs (R0.kp k) rfl rfl b0) hx
  by_cases hx' : (s.length : Int) ≤ q1
  · exact mparts_far4 A B C D _ c _ d _ e _ f q1 q2 w (by omega) (by omega) (by omega) (by omega) (Lib.hid fun W k => tcheck_u s xs (R0.kp k) rfl rfl b0) hx hx'
  obtain ⟨k, rfl⟩ : ∃ k : Nat, q1 = (k : Int) := ⟨q1.toNat, by omega⟩
  have hk : k < s.length := by omega
  obtain ⟨sd, hsd⟩ : ∃ sd, s[k]? = some sd := ⟨_, List.getElem?_eq_getElem hk⟩
  obtain ⟨l1, k1, e1, r1⟩ : ∃ l k' e, sliceV s xs k 0 q2 = (l, k', e) := ⟨_, _, _, rfl⟩
  obtain ⟨l2, k2, e2, r2⟩ : ∃ l k' e, sliceV s xs k q2 sd = (l, k', e) := ⟨_, _, _, rfl⟩
  obtain ⟨l3, k3, e3, r3⟩ : ∃ l k' e, glueV l1 k1 l2 k2 k = (l, k', e) := ⟨_, _, _, rfl⟩
  obtain ⟨g, jk, e4, r4⟩ : ∃ l k' e, glueV s xs t ys k = (l, k', e) := ⟨_, _, _, rfl⟩
  have hgd : s.getD k 0 = sd := by rw [List.getD, hsd]; rfl
  have hcu : q2 < 1 ∨ sd ≤ q2 ∨ (e1 = 0 ∧ e2 = 0 ∧ e3 = 0 ∧ s = l3 ∧ xs = k3) := by
    by_cases c1 : q2 < 1
    · exact .inl c1
    by_cases c2 : sd ≤ q2
    · exact .inr (.inl c2)
    right; right
    obtain ⟨p1, p2, p3⟩ := slice_parts b0 hk (m := q2) (by omega) (by rw [hgd]; omega)
    rw [hgd] at p2 p3
    rw [p1] at r1; rw [p2] at r2
    obtain ⟨rfl, rfl, rfl⟩ : _ = l1 ∧ _ = k1 ∧ 0 = e1 := by simpa using r1
    obtain ⟨rfl, rfl, rfl⟩ : _ = l2 ∧ _ = k2 ∧ 0 = e2 := by simpa using r2
    rw [p3] at r3
    obtain ⟨rfl, rfl, rfl⟩ : s = l3 ∧ xs = k3 ∧ 0 = e3 := by simpa using r3
    exact ⟨rfl, rfl, rfl, rfl, rfl⟩
  have hj : e4 = 0 → s.length = g.length ∧ g[k]? = some (sd + t.getD k 0) ∧ sliceV g jk k 0 sd = (s, xs, 0) ∧ sliceV g jk k sd (sd + t.getD k 0) = (t, ys, 0) := by
    intro z
    have h := glue_back (k := k) (s := s) (xs := xs) (t := t) (ys := ys) (by rw [r4]; exact z)
    rw [r4, hgd] at h
    exact h
  refine mparts_with A B C D _ c _ d _ e _ f k q2 w (by omega) (by omega) (by omega) (by omega) (Lib.hid fun W k => tcheck_u s xs (R0.kp k) rfl rfl b0) s xs t ys l1 k1 l2 k2 l3 k3 g jk _ _ _ _ _ _ _ _ e1 e2 e3 e4 sd (sd + t.getD k 0) hk (Lib.hid ⟨rfl, rfl, rfl, rfl⟩) (Lib.hid R0) (Lib.hid R1) (Lib.hid hsd) (Lib.hid ?_) (Lib.hid fun z => ⟨(hj z).1, rfl, (hj z).2.1⟩)
    (Lib.hid fun W k' => pslice_u s xs k 0 q2 (R0.kp k') rfl rfl r1 rfl rfl) (Lib.hid fun W k' => pslice_u s xs k q2 sd (R0.kp k') rfl rfl r2 rfl rfl)
    (Lib.hid fun W A0 B0 c0 d0 A1 B1 c1 d1 _ p1 p2 => pjoin_u l1 k1 l2 k2 k p1 p2 rfl rfl rfl rfl r3 rfl rfl)
    (Lib.hid fun W k' => pjoin_u s xs t ys k (R0.kp k') (R1.kp k') rfl rfl rfl rfl r4 rfl rfl)
    (Lib.hid fun W A0 B0 c0 d0 z _ r => pslice_u g jk k 0 sd r rfl rfl (hj z).2.2.1 rfl rfl)
    (Lib.hid fun W A0 B0 c0 d0 z _ r => pslice_u g jk k sd _ r rfl rfl (hj z).2.2.2 rfl rfl)
  rcases hcu with h | h | ⟨h1, h2, h3, h4, h5⟩
  · exact .inl h
  · exact .inr (.inl h)
  · subst h4 h5
    exact .inr (.inr ⟨h1, h2, h3, rfl, rfl, rfl, rfl⟩)
end Go.Proofs.Ytdjfjhanffliiaa
