/- A table of two, one below the other, times a third one is both products, one below the other: the law's call returns true. -/
import Derived.Test.YtepnhmdjglpmeaaMmG
import Derived.Test.YtepnhmdjglpmeaaMmN
namespace Go.Proofs.Ytepnhmdjglpmeaa
open Go.RowKit Go.Proofs.ShM
set_option linter.unusedVariables false
set_option linter.unusedSimpArgs false

set_option maxHeartbeats 4000000 in
set_option maxRecDepth 100000 in
theorem mmjoins_far0 (A B C D E F : Option Addr) (n c m d o e q f p g u h : Nat) (w : World) (zn : n ≤ 9223372036854775807) (zm : m ≤ 9223372036854775807) (hf : 100 < n ∨ 100 < m) :
    Calls Try.prog 8 #[.agg #[.slice A n c, .slice B m d], .agg #[.slice C o e, .slice D q f], .agg #[.slice E p g, .slice F u h]] w fun e w' => e = .returned (.bool true) ∧ Kp w w' := by
  have HN : Hid (∀ W, Calls Try.prog 10 #[.agg #[.slice A n c, .slice B m d]] W fun e w' => e = .returned (.bool false) ∧ Kp W w') := fun W => few_no zn zm hf
  clear hf
  go_enter Try.func8, Try.ntmps8
  go_wp2_with fail
  refine (mmawake_any _).mono ?_; rintro e0 w0 ⟨rfl, k0⟩
  have K := Lib.hid ((((Kp.alloc_ _ _).al _).al _).tr k0)
  have T0B : Hid (Bk w0 (w.heap.size) A n c B m d) := (((Bk.new rfl).alloc_ _).alloc_ _).kp k0
  have T1B : Hid (Bk w0 (w.heap.size + 1) C o e D q f) := ((Bk.new (by simp)).alloc_ _).kp k0
  have T2B : Hid (Bk w0 (w.heap.size + 1 + 1) E p g F u h) := (Bk.new (by simp)).kp k0
  clear k0
  have zt0b0 := T0B.out.c0
  have zt0b1 := T0B.out.c1
  have zt0b2 := T0B.out.lt
  have zt1b0 := T1B.out.c0
  have zt1b1 := T1B.out.c1
  have zt1b2 := T1B.out.lt
  have zt2b0 := T2B.out.c0
  have zt2b1 := T2B.out.c1
  have zt2b2 := T2B.out.lt
  go_wp2_with fail
  refine (HN.out _).mono ?_; rintro e0 w1 ⟨rfl, k1⟩
  have K := Lib.hid (K.out.tr k1)
  have T0B := Lib.hid (T0B.out.kp k1)
  have T1B := Lib.hid (T1B.out.kp k1)
  have T2B := Lib.hid (T2B.out.kp k1)
  clear k1 zt0b0 zt0b1 zt0b2 zt1b0 zt1b1 zt1b2 zt2b0 zt2b1 zt2b2
  have zt0b0 := T0B.out.c0
  have zt0b1 := T0B.out.c1
  have zt0b2 := T0B.out.lt
  have zt1b0 := T1B.out.c0
  have zt1b1 := T1B.out.c1
  have zt1b2 := T1B.out.lt
  have zt2b0 := T2B.out.c0
  have zt2b1 := T2B.out.c1
  have zt2b2 := T2B.out.lt
  go_wp2
  go_ret
  exact ⟨rfl, K.out⟩

set_option maxHeartbeats 4000000 in
set_option maxRecDepth 100000 in
theorem mmjoins_far1 (A B C D E F : Option Addr) (n c m d o e q f p g u h : Nat) (w : World) (hn : n ≤ 100) (hm : m ≤ 100) (zo : o ≤ 9223372036854775807) (zq : q ≤ 9223372036854775807) (hf : 100 < o ∨ 100 < q) :
    Calls Try.prog 8 #[.agg #[.slice A n c, .slice B m d], .agg #[.slice C o e, .slice D q f], .agg #[.slice E p g, .slice F u h]] w fun e w' => e = .returned (.bool true) ∧ Kp w w' := by
  have HN : Hid (∀ W, Calls Try.prog 10 #[.agg #[.slice C o e, .slice D q f]] W fun e w' => e = .returned (.bool false) ∧ Kp W w') := fun W => few_no zo zq hf
  clear hf
  go_enter Try.func8, Try.ntmps8
  go_wp2_with fail
  refine (mmawake_any _).mono ?_; rintro e0 w0 ⟨rfl, k0⟩
  have K := Lib.hid ((((Kp.alloc_ _ _).al _).al _).tr k0)
  have T0B : Hid (Bk w0 (w.heap.size) A n c B m d) := (((Bk.new rfl).alloc_ _).alloc_ _).kp k0
  have T1B : Hid (Bk w0 (w.heap.size + 1) C o e D q f) := ((Bk.new (by simp)).alloc_ _).kp k0
  have T2B : Hid (Bk w0 (w.heap.size + 1 + 1) E p g F u h) := (Bk.new (by simp)).kp k0
  clear k0
  have zt0b0 := T0B.out.c0
  have zt0b1 := T0B.out.c1
  have zt0b2 := T0B.out.lt
  have zt1b0 := T1B.out.c0
  have zt1b1 := T1B.out.c1
  have zt1b2 := T1B.out.lt
  have zt2b0 := T2B.out.c0
  have zt2b1 := T2B.out.c1
  have zt2b2 := T2B.out.lt
  go_wp2_with fail
  refine (few_yes hn hm).mono ?_; rintro e0 w1 ⟨rfl, k1⟩
  have K := Lib.hid (K.out.tr k1)
  have T0B := Lib.hid (T0B.out.kp k1)
  have T1B := Lib.hid (T1B.out.kp k1)
  have T2B := Lib.hid (T2B.out.kp k1)
  clear k1 zt0b0 zt0b1 zt0b2 zt1b0 zt1b1 zt1b2 zt2b0 zt2b1 zt2b2
  have zt0b0 := T0B.out.c0
  have zt0b1 := T0B.out.c1
  have zt0b2 := T0B.out.lt
  have zt1b0 := T1B.out.c0
  have zt1b1 := T1B.out.c1
  have zt1b2 := T1B.out.lt
  have zt2b0 := T2B.out.c0
  have zt2b1 := T2B.out.c1
  have zt2b2 := T2B.out.lt
  go_wp2_with fail
  refine (HN.out _).mono ?_; rintro e0 w2 ⟨rfl, k2⟩
  have K := Lib.hid (K.out.tr k2)
  have T0B := Lib.hid (T0B.out.kp k2)
  have T1B := Lib.hid (T1B.out.kp k2)
  have T2B := Lib.hid (T2B.out.kp k2)
  clear k2 zt0b0 zt0b1 zt0b2 zt1b0 zt1b1 zt1b2 zt2b0 zt2b1 zt2b2
  have zt0b0 := T0B.out.c0
  have zt0b1 := T0B.out.c1
  have zt0b2 := T0B.out.lt
  have zt1b0 := T1B.out.c0
  have zt1b1 := T1B.out.c1
  have zt1b2 := T1B.out.lt
  have zt2b0 := T2B.out.c0
  have zt2b1 := T2B.out.c1
  have zt2b2 := T2B.out.lt
  go_wp2
  go_ret
  exact ⟨rfl, K.out⟩

set_option maxHeartbeats 4000000 in
set_option maxRecDepth 100000 in
theorem mmjoins_far2 (A B C D E F : Option Addr) (n c m d o e q f p g u h : Nat) (w : World) (hn : n ≤ 100) (hm : m ≤ 100) (ho : o ≤ 100) (hq : q ≤ 100) (zp : p ≤ 9223372036854775807) (zu : u ≤ 9223372036854775807) (hf : 100 < p ∨ 100 < u) :
    Calls Try.prog 8 #[.agg #[.slice A n c, .slice B m d], .agg #[.slice C o e, .slice D q f], .agg #[.slice E p g, .slice F u h]] w fun e w' => e = .returned (.bool true) ∧ Kp w w' := by
  have HN : Hid (∀ W, Calls Try.prog 10 #[.agg #[.slice E p g, .slice F u h]] W fun e w' => e = .returned (.bool false) ∧ Kp W w') := fun W => few_no zp zu hf
  clear hf
  go_enter Try.func8, Try.ntmps8
  go_wp2_with fail
  refine (mmawake_any _).mono ?_; rintro e0 w0 ⟨rfl, k0⟩
  have K := Lib.hid ((((Kp.alloc_ _ _).al _).al _).tr k0)
  have T0B : Hid (Bk w0 (w.heap.size) A n c B m d) := (((Bk.new rfl).alloc_ _).alloc_ _).kp k0
  have T1B : Hid (Bk w0 (w.heap.size + 1) C o e D q f) := ((Bk.new (by simp)).alloc_ _).kp k0
  have T2B : Hid (Bk w0 (w.heap.size + 1 + 1) E p g F u h) := (Bk.new (by simp)).kp k0
  clear k0
  have zt0b0 := T0B.out.c0
  have zt0b1 := T0B.out.c1
  have zt0b2 := T0B.out.lt
  have zt1b0 := T1B.out.c0
  have zt1b1 := T1B.out.c1
  have zt1b2 := T1B.out.lt
  have zt2b0 := T2B.out.c0
  have zt2b1 := T2B.out.c1
  have zt2b2 := T2B.out.lt
  go_wp2_with fail
  refine (few_yes hn hm).mono ?_; rintro e0 w1 ⟨rfl, k1⟩
  have K := Lib.hid (K.out.tr k1)
  have T0B := Lib.hid (T0B.out.kp k1)
  have T1B := Lib.hid (T1B.out.kp k1)
  have T2B := Lib.hid (T2B.out.kp k1)
  clear k1 zt0b0 zt0b1 zt0b2 zt1b0 zt1b1 zt1b2 zt2b0 zt2b1 zt2b2
  have zt0b0 := T0B.out.c0
  have zt0b1 := T0B.out.c1
  have zt0b2 := T0B.out.lt
  have zt1b0 := T1B.out.c0
  have zt1b1 := T1B.out.c1
  have zt1b2 := T1B.out.lt
  have zt2b0 := T2B.out.c0
  have zt2b1 := T2B.out.c1
  have zt2b2 := T2B.out.lt
  go_wp2_with fail
  refine (few_yes ho hq).mono ?_; rintro e0 w2 ⟨rfl, k2⟩
  have K := Lib.hid (K.out.tr k2)
  have T0B := Lib.hid (T0B.out.kp k2)
  have T1B := Lib.hid (T1B.out.kp k2)
  have T2B := Lib.hid (T2B.out.kp k2)
  clear k2 zt0b0 zt0b1 zt0b2 zt1b0 zt1b1 zt1b2 zt2b0 zt2b1 zt2b2
  have zt0b0 := T0B.out.c0
  have zt0b1 := T0B.out.c1
  have zt0b2 := T0B.out.lt
  have zt1b0 := T1B.out.c0
  have zt1b1 := T1B.out.c1
  have zt1b2 := T1B.out.lt
  have zt2b0 := T2B.out.c0
  have zt2b1 := T2B.out.c1
  have zt2b2 := T2B.out.lt
  go_wp2_with fail
  refine (HN.out _).mono ?_; rintro e0 w3 ⟨rfl, k3⟩
  have K := Lib.hid (K.out.tr k3)
  have T0B := Lib.hid (T0B.out.kp k3)
  have T1B := Lib.hid (T1B.out.kp k3)
  have T2B := Lib.hid (T2B.out.kp k3)
  clear k3 zt0b0 zt0b1 zt0b2 zt1b0 zt1b1 zt1b2 zt2b0 zt2b1 zt2b2
  have zt0b0 := T0B.out.c0
  have zt0b1 := T0B.out.c1
  have zt0b2 := T0B.out.lt
  have zt1b0 := T1B.out.c0
  have zt1b1 := T1B.out.c1
  have zt1b2 := T1B.out.lt
  have zt2b0 := T2B.out.c0
  have zt2b1 := T2B.out.c1
  have zt2b2 := T2B.out.lt
  go_wp2
  go_ret
  exact ⟨rfl, K.out⟩

set_option maxHeartbeats 8000000 in
set_option maxRecDepth 100000 in
theorem mmjoins_e1 (A B C D E F : Option Addr) (n c m d o e q f p g u h : Nat) (w : World) (hn : n ≤ 100) (hm : m ≤ 100) (ho : o ≤ 100) (hq : q ≤ 100) (hp : p ≤ 100) (hu : u ≤ 100) (l1 k1 l2 k2 l3 k3 l4 k4 : List Int) (a1 b1 a2 b2 a3 b3 a4 b4 : Nat) (e1 e2 e3 e4 : Int)
    (h1 : e1 ≠ 0)
    (C1 : Hid (∀ W, Kp w W → Calls Try.prog 26 #[.agg #[.slice A n c, .slice B m d], .agg #[.slice C o e, .slice D q f], .int .i64 0] W (RetU l1 k1 a1 b1 e1 W)))
    (C2 : Hid (∀ W, Kp w W → Calls Try.prog 11 #[.agg #[.slice A n c, .slice B m d], .agg #[.slice E p g, .slice F u h]] W (RetU l2 k2 a2 b2 e2 W)))
    (C3 : Hid (∀ W, Kp w W → Calls Try.prog 11 #[.agg #[.slice C o e, .slice D q f], .agg #[.slice E p g, .slice F u h]] W (RetU l3 k3 a3 b3 e3 W)))
    (C4 : Hid (∀ W A0 B0 c0 d0, Kp w W → TR W A0 l1 B0 k1 → Calls Try.prog 11 #[.agg #[.slice A0 a1 c0, .slice B0 b1 d0], .agg #[.slice E p g, .slice F u h]] W (RetU l4 k4 a4 b4 e4 W))) :
    Calls Try.prog 8 #[.agg #[.slice A n c, .slice B m d], .agg #[.slice C o e, .slice D q f], .agg #[.slice E p g, .slice F u h]] w fun e w' => e = .returned (.bool true) ∧ Kp w w' := by
  have g1 : (e1 != 0) = true := by simpa using h1
  clear h1
  go_enter Try.func8, Try.ntmps8
  go_wp2_with fail
  refine (mmawake_any _).mono ?_; rintro e0 w0 ⟨rfl, k0⟩
  have K := Lib.hid ((((Kp.alloc_ _ _).al _).al _).tr k0)
  have T0B : Hid (Bk w0 (w.heap.size) A n c B m d) := (((Bk.new rfl).alloc_ _).alloc_ _).kp k0
  have T1B : Hid (Bk w0 (w.heap.size + 1) C o e D q f) := ((Bk.new (by simp)).alloc_ _).kp k0
  have T2B : Hid (Bk w0 (w.heap.size + 1 + 1) E p g F u h) := (Bk.new (by simp)).kp k0
  clear k0
  have zt0b0 := T0B.out.c0
  have zt0b1 := T0B.out.c1
  have zt0b2 := T0B.out.lt
  have zt1b0 := T1B.out.c0
  have zt1b1 := T1B.out.c1
  have zt1b2 := T1B.out.lt
  have zt2b0 := T2B.out.c0
  have zt2b1 := T2B.out.c1
  have zt2b2 := T2B.out.lt
  go_wp2_with fail
  refine (few_yes hn hm).mono ?_; rintro e0 w1 ⟨rfl, k1⟩
  have K := Lib.hid (K.out.tr k1)
  have T0B := Lib.hid (T0B.out.kp k1)
  have T1B := Lib.hid (T1B.out.kp k1)
  have T2B := Lib.hid (T2B.out.kp k1)
  clear k1 zt0b0 zt0b1 zt0b2 zt1b0 zt1b1 zt1b2 zt2b0 zt2b1 zt2b2
  have zt0b0 := T0B.out.c0
  have zt0b1 := T0B.out.c1
  have zt0b2 := T0B.out.lt
  have zt1b0 := T1B.out.c0
  have zt1b1 := T1B.out.c1
  have zt1b2 := T1B.out.lt
  have zt2b0 := T2B.out.c0
  have zt2b1 := T2B.out.c1
  have zt2b2 := T2B.out.lt
  go_wp2_with fail
  refine (few_yes ho hq).mono ?_; rintro e0 w2 ⟨rfl, k2⟩
  have K := Lib.hid (K.out.tr k2)
  have T0B := Lib.hid (T0B.out.kp k2)
  have T1B := Lib.hid (T1B.out.kp k2)
  have T2B := Lib.hid (T2B.out.kp k2)
  clear k2 zt0b0 zt0b1 zt0b2 zt1b0 zt1b1 zt1b2 zt2b0 zt2b1 zt2b2
  have zt0b0 := T0B.out.c0
  have zt0b1 := T0B.out.c1
  have zt0b2 := T0B.out.lt
  have zt1b0 := T1B.out.c0
  have zt1b1 := T1B.out.c1
  have zt1b2 := T1B.out.lt
  have zt2b0 := T2B.out.c0
  have zt2b1 := T2B.out.c1
  have zt2b2 := T2B.out.lt
  go_wp2_with fail
  refine (few_yes hp hu).mono ?_; rintro e0 w3 ⟨rfl, k3⟩
  have K := Lib.hid (K.out.tr k3)
  have T0B := Lib.hid (T0B.out.kp k3)
  have T1B := Lib.hid (T1B.out.kp k3)
  have T2B := Lib.hid (T2B.out.kp k3)
  clear k3 zt0b0 zt0b1 zt0b2 zt1b0 zt1b1 zt1b2 zt2b0 zt2b1 zt2b2
  have zt0b0 := T0B.out.c0
  have zt0b1 := T0B.out.c1
  have zt0b2 := T0B.out.lt
  have zt1b0 := T1B.out.c0
  have zt1b1 := T1B.out.c1
  have zt1b2 := T1B.out.lt
  have zt2b0 := T2B.out.c0
  have zt2b1 := T2B.out.c1
  have zt2b2 := T2B.out.lt
  go_wp2_with fail
  refine (C1.out _ K.out).mono ?_; rintro e0 w4 ⟨A4, c4, B4, d4, rfl, r4, k4⟩
  have K := Lib.hid (K.out.tr k4)
  have T0B := Lib.hid (T0B.out.kp k4)
  have T1B := Lib.hid (T1B.out.kp k4)
  have T2B := Lib.hid (T2B.out.kp k4)
  have J := Lib.hid r4
  clear k4 r4 zt0b0 zt0b1 zt0b2 zt1b0 zt1b1 zt1b2 zt2b0 zt2b1 zt2b2
  have zt0b0 := T0B.out.c0
  have zt0b1 := T0B.out.c1
  have zt0b2 := T0B.out.lt
  have zt2b0 := T2B.out.c0
  have zt2b1 := T2B.out.c1
  have zt2b2 := T2B.out.lt
  go_wp2_with fail
  refine (C2.out _ (K.out.al _)).mono ?_; rintro e0 w5 ⟨A5, c5, B5, d5, rfl, r5, k5⟩
  have K := Lib.hid ((K.out.al _).tr k5)
  have T0B := Lib.hid ((T0B.out.alloc_ _).kp k5)
  have T1B := Lib.hid ((T1B.out.alloc_ _).kp k5)
  have T2B := Lib.hid ((T2B.out.alloc_ _).kp k5)
  have J := Lib.hid ((J.out.alloc_ _).kp k5)
  have JB : Hid (Bk w5 w4.heap.size A4 a1 c4 B4 b1 d4) := (Bk.new rfl).kp k5
  have X := Lib.hid r5
  clear k5 r5 zt0b0 zt0b1 zt0b2 zt2b0 zt2b1 zt2b2
  have zt1b0 := T1B.out.c0
  have zt1b1 := T1B.out.c1
  have zt1b2 := T1B.out.lt
  have zt2b0 := T2B.out.c0
  have zt2b1 := T2B.out.c1
  have zt2b2 := T2B.out.lt
  go_wp2_with fail
  refine (C3.out _ (K.out.al _)).mono ?_; rintro e0 w6 ⟨A6, c6, B6, d6, rfl, r6, k6⟩
  have K := Lib.hid ((K.out.al _).tr k6)
  have T0B := Lib.hid ((T0B.out.alloc_ _).kp k6)
  have T1B := Lib.hid ((T1B.out.alloc_ _).kp k6)
  have T2B := Lib.hid ((T2B.out.alloc_ _).kp k6)
  have JB := Lib.hid ((JB.out.alloc_ _).kp k6)
  have J := Lib.hid ((J.out.alloc_ _).kp k6)
  have X := Lib.hid ((X.out.alloc_ _).kp k6)
  have XB : Hid (Bk w6 w5.heap.size A5 a2 c5 B5 b2 d5) := (Bk.new rfl).kp k6
  have Y := Lib.hid r6
  clear k6 r6 zt1b0 zt1b1 zt1b2 zt2b0 zt2b1 zt2b2
  have zjb0 := JB.out.c0
  have zjb1 := JB.out.c1
  have zjb2 := JB.out.lt
  have zt2b0 := T2B.out.c0
  have zt2b1 := T2B.out.c1
  have zt2b2 := T2B.out.lt
  go_wp2_with fail
  refine (C4.out _ _ _ _ _ (K.out.al _) (J.out.alloc_ _)).mono ?_; rintro e0 w7 ⟨A7, c7, B7, d7, rfl, r7, k7⟩
  have K := Lib.hid ((K.out.al _).tr k7)
  have T0B := Lib.hid ((T0B.out.alloc_ _).kp k7)
  have T1B := Lib.hid ((T1B.out.alloc_ _).kp k7)
  have T2B := Lib.hid ((T2B.out.alloc_ _).kp k7)
  have JB := Lib.hid ((JB.out.alloc_ _).kp k7)
  have XB := Lib.hid ((XB.out.alloc_ _).kp k7)
  have J := Lib.hid ((J.out.alloc_ _).kp k7)
  have X := Lib.hid ((X.out.alloc_ _).kp k7)
  have Y := Lib.hid ((Y.out.alloc_ _).kp k7)
  have YB : Hid (Bk w7 w6.heap.size A6 a3 c6 B6 b3 d6) := (Bk.new rfl).kp k7
  have Z := Lib.hid r7
  clear k7 r7 zjb0 zjb1 zjb2 zt2b0 zt2b1 zt2b2
  go_wp2
  go_ret
  exact ⟨rfl, K.out.al _⟩

set_option maxHeartbeats 8000000 in
set_option maxRecDepth 100000 in
theorem mmjoins_e2 (A B C D E F : Option Addr) (n c m d o e q f p g u h : Nat) (w : World) (hn : n ≤ 100) (hm : m ≤ 100) (ho : o ≤ 100) (hq : q ≤ 100) (hp : p ≤ 100) (hu : u ≤ 100) (l1 k1 l2 k2 l3 k3 l4 k4 : List Int) (a1 b1 a2 b2 a3 b3 a4 b4 : Nat) (e1 e2 e3 e4 : Int)
    (h1 : e1 = 0) (h2 : e2 ≠ 0)
    (C1 : Hid (∀ W, Kp w W → Calls Try.prog 26 #[.agg #[.slice A n c, .slice B m d], .agg #[.slice C o e, .slice D q f], .int .i64 0] W (RetU l1 k1 a1 b1 e1 W)))
    (C2 : Hid (∀ W, Kp w W → Calls Try.prog 11 #[.agg #[.slice A n c, .slice B m d], .agg #[.slice E p g, .slice F u h]] W (RetU l2 k2 a2 b2 e2 W)))
    (C3 : Hid (∀ W, Kp w W → Calls Try.prog 11 #[.agg #[.slice C o e, .slice D q f], .agg #[.slice E p g, .slice F u h]] W (RetU l3 k3 a3 b3 e3 W)))
    (C4 : Hid (∀ W A0 B0 c0 d0, Kp w W → TR W A0 l1 B0 k1 → Calls Try.prog 11 #[.agg #[.slice A0 a1 c0, .slice B0 b1 d0], .agg #[.slice E p g, .slice F u h]] W (RetU l4 k4 a4 b4 e4 W))) :
    Calls Try.prog 8 #[.agg #[.slice A n c, .slice B m d], .agg #[.slice C o e, .slice D q f], .agg #[.slice E p g, .slice F u h]] w fun e w' => e = .returned (.bool true) ∧ Kp w w' := by
  subst h1
  have g2 : (e2 != 0) = true := by simpa using h2
  clear h2
  go_enter Try.func8, Try.ntmps8
  go_wp2_with fail
  refine (mmawake_any _).mono ?_; rintro e0 w0 ⟨rfl, k0⟩
  have K := Lib.hid ((((Kp.alloc_ _ _).al _).al _).tr k0)
  have T0B : Hid (Bk w0 (w.heap.size) A n c B m d) := (((Bk.new rfl).alloc_ _).alloc_ _).kp k0
  have T1B : Hid (Bk w0 (w.heap.size + 1) C o e D q f) := ((Bk.new (by simp)).alloc_ _).kp k0
  have T2B : Hid (Bk w0 (w.heap.size + 1 + 1) E p g F u h) := (Bk.new (by simp)).kp k0
  clear k0
  have zt0b0 := T0B.out.c0
  have zt0b1 := T0B.out.c1
  have zt0b2 := T0B.out.lt
  have zt1b0 := T1B.out.c0
  have zt1b1 := T1B.out.c1
  have zt1b2 := T1B.out.lt
  have zt2b0 := T2B.out.c0
  have zt2b1 := T2B.out.c1
  have zt2b2 := T2B.out.lt
  go_wp2_with fail
  refine (few_yes hn hm).mono ?_; rintro e0 w1 ⟨rfl, k1⟩
  have K := Lib.hid (K.out.tr k1)
  have T0B := Lib.hid (T0B.out.kp k1)
  have T1B := Lib.hid (T1B.out.kp k1)
  have T2B := Lib.hid (T2B.out.kp k1)
  clear k1 zt0b0 zt0b1 zt0b2 zt1b0 zt1b1 zt1b2 zt2b0 zt2b1 zt2b2
  have zt0b0 := T0B.out.c0
  have zt0b1 := T0B.out.c1
  have zt0b2 := T0B.out.lt
  have zt1b0 := T1B.out.c0
  have zt1b1 := T1B.out.c1
  have zt1b2 := T1B.out.lt
  have zt2b0 := T2B.out.c0
  have zt2b1 := T2B.out.c1
  have zt2b2 := T2B.out.lt
  go_wp2_with fail
  refine (few_yes ho hq).mono ?_; rintro e0 w2 ⟨rfl, k2⟩
  have K := Lib.hid (K.out.tr k2)
  have T0B := Lib.hid (T0B.out.kp k2)
  have T1B := Lib.hid (T1B.out.kp k2)
  have T2B := Lib.hid (T2B.out.kp k2)
  clear k2 zt0b0 zt0b1 zt0b2 zt1b0 zt1b1 zt1b2 zt2b0 zt2b1 zt2b2
  have zt0b0 := T0B.out.c0
  have zt0b1 := T0B.out.c1
  have zt0b2 := T0B.out.lt
  have zt1b0 := T1B.out.c0
  have zt1b1 := T1B.out.c1
  have zt1b2 := T1B.out.lt
  have zt2b0 := T2B.out.c0
  have zt2b1 := T2B.out.c1
  have zt2b2 := T2B.out.lt
  go_wp2_with fail
  refine (few_yes hp hu).mono ?_; rintro e0 w3 ⟨rfl, k3⟩
  have K := Lib.hid (K.out.tr k3)
  have T0B := Lib.hid (T0B.out.kp k3)
  have T1B := Lib.hid (T1B.out.kp k3)
  have T2B := Lib.hid (T2B.out.kp k3)
  clear k3 zt0b0 zt0b1 zt0b2 zt1b0 zt1b1 zt1b2 zt2b0 zt2b1 zt2b2
  have zt0b0 := T0B.out.c0
  have zt0b1 := T0B.out.c1
  have zt0b2 := T0B.out.lt
  have zt1b0 := T1B.out.c0
  have zt1b1 := T1B.out.c1
  have zt1b2 := T1B.out.lt
  have zt2b0 := T2B.out.c0
  have zt2b1 := T2B.out.c1
  have zt2b2 := T2B.out.lt
  go_wp2_with fail
  refine (C1.out _ K.out).mono ?_; rintro e0 w4 ⟨A4, c4, B4, d4, rfl, r4, k4⟩
  have K := Lib.hid (K.out.tr k4)
  have T0B := Lib.hid (T0B.out.kp k4)
  have T1B := Lib.hid (T1B.out.kp k4)
  have T2B := Lib.hid (T2B.out.kp k4)
  have J := Lib.hid r4
  clear k4 r4 zt0b0 zt0b1 zt0b2 zt1b0 zt1b1 zt1b2 zt2b0 zt2b1 zt2b2
  have zt0b0 := T0B.out.c0
  have zt0b1 := T0B.out.c1
  have zt0b2 := T0B.out.lt
  have zt2b0 := T2B.out.c0
  have zt2b1 := T2B.out.c1
  have zt2b2 := T2B.out.lt
  go_wp2_with fail
  refine (C2.out _ (K.out.al _)).mono ?_; rintro e0 w5 ⟨A5, c5, B5, d5, rfl, r5, k5⟩
  have K := Lib.hid ((K.out.al _).tr k5)
  have T0B := Lib.hid ((T0B.out.alloc_ _).kp k5)
  have T1B := Lib.hid ((T1B.out.alloc_ _).kp k5)
  have T2B := Lib.hid ((T2B.out.alloc_ _).kp k5)
  have J := Lib.hid ((J.out.alloc_ _).kp k5)
  have JB : Hid (Bk w5 w4.heap.size A4 a1 c4 B4 b1 d4) := (Bk.new rfl).kp k5
  have X := Lib.hid r5
  clear k5 r5 zt0b0 zt0b1 zt0b2 zt2b0 zt2b1 zt2b2
  have zt1b0 := T1B.out.c0
  have zt1b1 := T1B.out.c1
  have zt1b2 := T1B.out.lt
  have zt2b0 := T2B.out.c0
  have zt2b1 := T2B.out.c1
  have zt2b2 := T2B.out.lt
  go_wp2_with fail
  refine (C3.out _ (K.out.al _)).mono ?_; rintro e0 w6 ⟨A6, c6, B6, d6, rfl, r6, k6⟩
  have K := Lib.hid ((K.out.al _).tr k6)
  have T0B := Lib.hid ((T0B.out.alloc_ _).kp k6)
  have T1B := Lib.hid ((T1B.out.alloc_ _).kp k6)
  have T2B := Lib.hid ((T2B.out.alloc_ _).kp k6)
  have JB := Lib.hid ((JB.out.alloc_ _).kp k6)
  have J := Lib.hid ((J.out.alloc_ _).kp k6)
  have X := Lib.hid ((X.out.alloc_ _).kp k6)
  have XB : Hid (Bk w6 w5.heap.size A5 a2 c5 B5 b2 d5) := (Bk.new rfl).kp k6
  have Y := Lib.hid r6
  clear k6 r6 zt1b0 zt1b1 zt1b2 zt2b0 zt2b1 zt2b2
  have zjb0 := JB.out.c0
  have zjb1 := JB.out.c1
  have zjb2 := JB.out.lt
  have zt2b0 := T2B.out.c0
  have zt2b1 := T2B.out.c1
  have zt2b2 := T2B.out.lt
  go_wp2_with fail
  refine (C4.out _ _ _ _ _ (K.out.al _) (J.out.alloc_ _)).mono ?_; rintro e0 w7 ⟨A7, c7, B7, d7, rfl, r7, k7⟩
  have K := Lib.hid ((K.out.al _).tr k7)
  have T0B := Lib.hid ((T0B.out.alloc_ _).kp k7)
  have T1B := Lib.hid ((T1B.out.alloc_ _).kp k7)
  have T2B := Lib.hid ((T2B.out.alloc_ _).kp k7)
  have JB := Lib.hid ((JB.out.alloc_ _).kp k7)
  have XB := Lib.hid ((XB.out.alloc_ _).kp k7)
  have J := Lib.hid ((J.out.alloc_ _).kp k7)
  have X := Lib.hid ((X.out.alloc_ _).kp k7)
  have Y := Lib.hid ((Y.out.alloc_ _).kp k7)
  have YB : Hid (Bk w7 w6.heap.size A6 a3 c6 B6 b3 d6) := (Bk.new rfl).kp k7
  have Z := Lib.hid r7
  clear k7 r7 zjb0 zjb1 zjb2 zt2b0 zt2b1 zt2b2
  go_wp2
  go_ret
  exact ⟨rfl, K.out.al _⟩

set_option maxHeartbeats 8000000 in
set_option maxRecDepth 100000 in
theorem mmjoins_e3 (A B C D E F : Option Addr) (n c m d o e q f p g u h : Nat) (w : World) (hn : n ≤ 100) (hm : m ≤ 100) (ho : o ≤ 100) (hq : q ≤ 100) (hp : p ≤ 100) (hu : u ≤ 100) (l1 k1 l2 k2 l3 k3 l4 k4 : List Int) (a1 b1 a2 b2 a3 b3 a4 b4 : Nat) (e1 e2 e3 e4 : Int)
    (h1 : e1 = 0) (h2 : e2 = 0) (h3 : e3 ≠ 0)
    (C1 : Hid (∀ W, Kp w W → Calls Try.prog 26 #[.agg #[.slice A n c, .slice B m d], .agg #[.slice C o e, .slice D q f], .int .i64 0] W (RetU l1 k1 a1 b1 e1 W)))
    (C2 : Hid (∀ W, Kp w W → Calls Try.prog 11 #[.agg #[.slice A n c, .slice B m d], .agg #[.slice E p g, .slice F u h]] W (RetU l2 k2 a2 b2 e2 W)))
    (C3 : Hid (∀ W, Kp w W → Calls Try.prog 11 #[.agg #[.slice C o e, .slice D q f], .agg #[.slice E p g, .slice F u h]] W (RetU l3 k3 a3 b3 e3 W)))
    (C4 : Hid (∀ W A0 B0 c0 d0, Kp w W → TR W A0 l1 B0 k1 → Calls Try.prog 11 #[.agg #[.slice A0 a1 c0, .slice B0 b1 d0], .agg #[.slice E p g, .slice F u h]] W (RetU l4 k4 a4 b4 e4 W))) :
    Calls Try.prog 8 #[.agg #[.slice A n c, .slice B m d], .agg #[.slice C o e, .slice D q f], .agg #[.slice E p g, .slice F u h]] w fun e w' => e = .returned (.bool true) ∧ Kp w w' := by
  subst h1 h2
  have g3 : (e3 != 0) = true := by simpa using h3
  clear h3
  go_enter Try.func8, Try.ntmps8
  go_wp2_with fail
  refine (mmawake_any _).mono ?_; rintro e0 w0 ⟨rfl, k0⟩
  have K := Lib.hid ((((Kp.alloc_ _ _).al _).al _).tr k0)
  have T0B : Hid (Bk w0 (w.heap.size) A n c B m d) := (((Bk.new rfl).alloc_ _).alloc_ _).kp k0
  have T1B : Hid (Bk w0 (w.heap.size + 1) C o e D q f) := ((Bk.new (by simp)).alloc_ _).kp k0
  have T2B : Hid (Bk w0 (w.heap.size + 1 + 1) E p g F u h) := (Bk.new (by simp)).kp k0
  clear k0
  have zt0b0 := T0B.out.c0
  have zt0b1 := T0B.out.c1
  have zt0b2 := T0B.out.lt
  have zt1b0 := T1B.out.c0
  have zt1b1 := T1B.out.c1
  have zt1b2 := T1B.out.lt
  have zt2b0 := T2B.out.c0
  have zt2b1 := T2B.out.c1
  have zt2b2 := T2B.out.lt
  go_wp2_with fail
  refine (few_yes hn hm).mono ?_; rintro e0 w1 ⟨rfl, k1⟩
  have K := Lib.hid (K.out.tr k1)
  have T0B := Lib.hid (T0B.out.kp k1)
  have T1B := Lib.hid (T1B.out.kp k1)
  have T2B := Lib.hid (T2B.out.kp k1)
  clear k1 zt0b0 zt0b1 zt0b2 zt1b0 zt1b1 zt1b2 zt2b0 zt2b1 zt2b2
  have zt0b0 := T0B.out.c0
  have zt0b1 := T0B.out.c1
  have zt0b2 := T0B.out.lt
  have zt1b0 := T1B.out.c0
  have zt1b1 := T1B.out.c1
  have zt1b2 := T1B.out.lt
  have zt2b0 := T2B.out.c0
  have zt2b1 := T2B.out.c1
  have zt2b2 := T2B.out.lt
  go_wp2_with fail
  refine (few_yes ho hq).mono ?_; rintro e0 w2 ⟨rfl, k2⟩
  have K := Lib.hid (K.out.tr k2)
  have T0B := Lib.hid (T0B.out.kp k2)
  have T1B := Lib.hid (T1B.out.kp k2)
  have T2B := Lib.hid (T2B.out.kp k2)
  clear k2 zt0b0 zt0b1 zt0b2 zt1b0 zt1b1 zt1b2 zt2b0 zt2b1 zt2b2
  have zt0b0 := T0B.out.c0
  have zt0b1 := T0B.out.c1
  have zt0b2 := T0B.out.lt
  have zt1b0 := T1B.out.c0
  have zt1b1 := T1B.out.c1
  have zt1b2 := T1B.out.lt
  have zt2b0 := T2B.out.c0
  have zt2b1 := T2B.out.c1
  have zt2b2 := T2B.out.lt
  go_wp2_with fail
  refine (few_yes hp hu).mono ?_; rintro e0 w3 ⟨rfl, k3⟩
  have K := Lib.hid (K.out.tr k3)
  have T0B := Lib.hid (T0B.out.kp k3)
  have T1B := Lib.hid (T1B.out.kp k3)
  have T2B := Lib.hid (T2B.out.kp k3)
  clear k3 zt0b0 zt0b1 zt0b2 zt1b0 zt1b1 zt1b2 zt2b0 zt2b1 zt2b2
  have zt0b0 := T0B.out.c0
  have zt0b1 := T0B.out.c1
  have zt0b2 := T0B.out.lt
  have zt1b0 := T1B.out.c0
  have zt1b1 := T1B.out.c1
  have zt1b2 := T1B.out.lt
  have zt2b0 := T2B.out.c0
  have zt2b1 := T2B.out.c1
  have zt2b2 := T2B.out.lt
  go_wp2_with fail
  refine (C1.out _ K.out).mono ?_; rintro e0 w4 ⟨A4, c4, B4, d4, rfl, r4, k4⟩
  have K := Lib.hid (K.out.tr k4)
  have T0B := Lib.hid (T0B.out.kp k4)
  have T1B := Lib.hid (T1B.out.kp k4)
  have T2B := Lib.hid (T2B.out.kp k4)
  have J := Lib.hid r4
  clear k4 r4 zt0b0 zt0b1 zt0b2 zt1b0 zt1b1 zt1b2 zt2b0 zt2b1 zt2b2
  have zt0b0 := T0B.out.c0
  have zt0b1 := T0B.out.c1
  have zt0b2 := T0B.out.lt
  have zt2b0 := T2B.out.c0
  have zt2b1 := T2B.out.c1
  have zt2b2 := T2B.out.lt
  go_wp2_with fail
  refine (C2.out _ (K.out.al _)).mono ?_; rintro e0 w5 ⟨A5, c5, B5, d5, rfl, r5, k5⟩
  have K := Lib.hid ((K.out.al _).tr k5)
  have T0B := Lib.hid ((T0B.out.alloc_ _).kp k5)
  have T1B := Lib.hid ((T1B.out.alloc_ _).kp k5)
  have T2B := Lib.hid ((T2B.out.alloc_ _).kp k5)
  have J := Lib.hid ((J.out.alloc_ _).kp k5)
  have JB : Hid (Bk w5 w4.heap.size A4 a1 c4 B4 b1 d4) := (Bk.new rfl).kp k5
  have X := Lib.hid r5
  clear k5 r5 zt0b0 zt0b1 zt0b2 zt2b0 zt2b1 zt2b2
  have zt1b0 := T1B.out.c0
  have zt1b1 := T1B.out.c1
  have zt1b2 := T1B.out.lt
  have zt2b0 := T2B.out.c0
  have zt2b1 := T2B.out.c1
  have zt2b2 := T2B.out.lt
  go_wp2_with fail
  refine (C3.out _ (K.out.al _)).mono ?_; rintro e0 w6 ⟨A6, c6, B6, d6, rfl, r6, k6⟩
  have K := Lib.hid ((K.out.al _).tr k6)
  have T0B := Lib.hid ((T0B.out.alloc_ _).kp k6)
  have T1B := Lib.hid ((T1B.out.alloc_ _).kp k6)
  have T2B := Lib.hid ((T2B.out.alloc_ _).kp k6)
  have JB := Lib.hid ((JB.out.alloc_ _).kp k6)
  have J := Lib.hid ((J.out.alloc_ _).kp k6)
  have X := Lib.hid ((X.out.alloc_ _).kp k6)
  have XB : Hid (Bk w6 w5.heap.size A5 a2 c5 B5 b2 d5) := (Bk.new rfl).kp k6
  have Y := Lib.hid r6
  clear k6 r6 zt1b0 zt1b1 zt1b2 zt2b0 zt2b1 zt2b2
  have zjb0 := JB.out.c0
  have zjb1 := JB.out.c1
  have zjb2 := JB.out.lt
  have zt2b0 := T2B.out.c0
  have zt2b1 := T2B.out.c1
  have zt2b2 := T2B.out.lt
  go_wp2_with fail
  refine (C4.out _ _ _ _ _ (K.out.al _) (J.out.alloc_ _)).mono ?_; rintro e0 w7 ⟨A7, c7, B7, d7, rfl, r7, k7⟩
  have K := Lib.hid ((K.out.al _).tr k7)
  have T0B := Lib.hid ((T0B.out.alloc_ _).kp k7)
  have T1B := Lib.hid ((T1B.out.alloc_ _).kp k7)
  have T2B := Lib.hid ((T2B.out.alloc_ _).kp k7)
  have JB := Lib.hid ((JB.out.alloc_ _).kp k7)
  have XB := Lib.hid ((XB.out.alloc_ _).kp k7)
  have J := Lib.hid ((J.out.alloc_ _).kp k7)
  have X := Lib.hid ((X.out.alloc_ _).kp k7)
  have Y := Lib.hid ((Y.out.alloc_ _).kp k7)
  have YB : Hid (Bk w7 w6.heap.size A6 a3 c6 B6 b3 d6) := (Bk.new rfl).kp k7
  have Z := Lib.hid r7
  clear k7 r7 zjb0 zjb1 zjb2 zt2b0 zt2b1 zt2b2
  go_wp2
  go_ret
  exact ⟨rfl, K.out.al _⟩

set_option maxHeartbeats 8000000 in
set_option maxRecDepth 100000 in
theorem mmjoins_with (A B C D E F : Option Addr) (n c m d o e q f p g u h : Nat) (w : World) (hn : n ≤ 100) (hm : m ≤ 100) (ho : o ≤ 100) (hq : q ≤ 100) (hp : p ≤ 100) (hu : u ≤ 100) (l1 k1 l2 k2 l3 k3 l4 k4 l5 k5 : List Int) (a1 b1 a2 b2 a3 b3 a4 b4 a5 b5 : Nat) (e1 e2 e3 e4 e5 : Int)
    (L4 : Hid (l4.length = a4 ∧ k4.length = b4)) (h1 : e1 = 0) (h2 : e2 = 0) (h3 : e3 = 0) (HE : (e4 = 20 ∧ e5 = 20) ∨ (e4 = 0 ∧ e5 = 0 ∧ l4 = l5 ∧ k4 = k5 ∧ a4 = a5 ∧ b4 = b5))
    (C1 : Hid (∀ W, Kp w W → Calls Try.prog 26 #[.agg #[.slice A n c, .slice B m d], .agg #[.slice C o e, .slice D q f], .int .i64 0] W (RetU l1 k1 a1 b1 e1 W)))
    (C2 : Hid (∀ W, Kp w W → Calls Try.prog 11 #[.agg #[.slice A n c, .slice B m d], .agg #[.slice E p g, .slice F u h]] W (RetU l2 k2 a2 b2 e2 W)))
    (C3 : Hid (∀ W, Kp w W → Calls Try.prog 11 #[.agg #[.slice C o e, .slice D q f], .agg #[.slice E p g, .slice F u h]] W (RetU l3 k3 a3 b3 e3 W)))
    (C4 : Hid (∀ W A0 B0 c0 d0, Kp w W → TR W A0 l1 B0 k1 → Calls Try.prog 11 #[.agg #[.slice A0 a1 c0, .slice B0 b1 d0], .agg #[.slice E p g, .slice F u h]] W (RetU l4 k4 a4 b4 e4 W)))
    (C5 : Hid (∀ W A0 B0 c0 d0 A1 B1 c1 d1, Kp w W → TR W A0 l2 B0 k2 → TR W A1 l3 B1 k3 → Calls Try.prog 26 #[.agg #[.slice A0 a2 c0, .slice B0 b2 d0], .agg #[.slice A1 a3 c1, .slice B1 b3 d1], .int .i64 0] W (RetU l5 k5 a5 b5 e5 W))) :
    Calls Try.prog 8 #[.agg #[.slice A n c, .slice B m d], .agg #[.slice C o e, .slice D q f], .agg #[.slice E p g, .slice F u h]] w fun e w' => e = .returned (.bool true) ∧ Kp w w' := by
  subst h1 h2 h3
  have HE2 := Lib.hid HE
  clear HE
  go_enter Try.func8, Try.ntmps8
  go_wp2_with fail
  refine (mmawake_any _).mono ?_; rintro e0 w0 ⟨rfl, k0⟩
  have K := Lib.hid ((((Kp.alloc_ _ _).al _).al _).tr k0)
  have T0B : Hid (Bk w0 (w.heap.size) A n c B m d) := (((Bk.new rfl).alloc_ _).alloc_ _).kp k0
  have T1B : Hid (Bk w0 (w.heap.size + 1) C o e D q f) := ((Bk.new (by simp)).alloc_ _).kp k0
  have T2B : Hid (Bk w0 (w.heap.size + 1 + 1) E p g F u h) := (Bk.new (by simp)).kp k0
  clear k0
  have zt0b0 := T0B.out.c0
  have zt0b1 := T0B.out.c1
  have zt0b2 := T0B.out.lt
  have zt1b0 := T1B.out.c0
  have zt1b1 := T1B.out.c1
  have zt1b2 := T1B.out.lt
  have zt2b0 := T2B.out.c0
  have zt2b1 := T2B.out.c1
  have zt2b2 := T2B.out.lt
  go_wp2_with fail
  refine (few_yes hn hm).mono ?_; rintro e0 w1 ⟨rfl, k1⟩
  have K := Lib.hid (K.out.tr k1)
  have T0B := Lib.hid (T0B.out.kp k1)
  have T1B := Lib.hid (T1B.out.kp k1)
  have T2B := Lib.hid (T2B.out.kp k1)
  clear k1 zt0b0 zt0b1 zt0b2 zt1b0 zt1b1 zt1b2 zt2b0 zt2b1 zt2b2
  have zt0b0 := T0B.out.c0
  have zt0b1 := T0B.out.c1
  have zt0b2 := T0B.out.lt
  have zt1b0 := T1B.out.c0
  have zt1b1 := T1B.out.c1
  have zt1b2 := T1B.out.lt
  have zt2b0 := T2B.out.c0
  have zt2b1 := T2B.out.c1
  have zt2b2 := T2B.out.lt
  go_wp2_with fail
  refine (few_yes ho hq).mono ?_; rintro e0 w2 ⟨rfl, k2⟩
  have K := Lib.hid (K.out.tr k2)
  have T0B := Lib.hid (T0B.out.kp k2)
  have T1B := Lib.hid (T1B.out.kp k2)
  have T2B := Lib.hid (T2B.out.kp k2)
  clear k2 zt0b0 zt0b1 zt0b2 zt1b0 zt1b1 zt1b2 zt2b0 zt2b1 zt2b2
  have zt0b0 := T0B.out.c0
  have zt0b1 := T0B.out.c1
  have zt0b2 := T0B.out.lt
  have zt1b0 := T1B.out.c0
  have zt1b1 := T1B.out.c1
  have zt1b2 := T1B.out.lt
  have zt2b0 := T2B.out.c0
  have zt2b1 := T2B.out.c1
  have zt2b2 := T2B.out.lt
  go_wp2_with fail
  refine (few_yes hp hu).mono ?_; rintro e0 w3 ⟨rfl, k3⟩
  have K := Lib.hid (K.out.tr k3)
  have T0B := Lib.hid (T0B.out.kp k3)
  have T1B := Lib.hid (T1B.out.kp k3)
  have T2B := Lib.hid (T2B.out.kp k3)
  clear k3 zt0b0 zt0b1 zt0b2 zt1b0 zt1b1 zt1b2 zt2b0 zt2b1 zt2b2
  have zt0b0 := T0B.out.c0
  have zt0b1 := T0B.out.c1
  have zt0b2 := T0B.out.lt
  have zt1b0 := T1B.out.c0
  have zt1b1 := T1B.out.c1
  have zt1b2 := T1B.out.lt
  have zt2b0 := T2B.out.c0
  have zt2b1 := T2B.out.c1
  have zt2b2 := T2B.out.lt
  go_wp2_with fail
  refine (C1.out _ K.out).mono ?_; rintro e0 w4 ⟨A4, c4, B4, d4, rfl, r4, k4⟩
  have K := Lib.hid (K.out.tr k4)
  have T0B := Lib.hid (T0B.out.kp k4)
  have T1B := Lib.hid (T1B.out.kp k4)
  have T2B := Lib.hid (T2B.out.kp k4)
  have J := Lib.hid r4
  clear k4 r4 zt0b0 zt0b1 zt0b2 zt1b0 zt1b1 zt1b2 zt2b0 zt2b1 zt2b2
  have zt0b0 := T0B.out.c0
  have zt0b1 := T0B.out.c1
  have zt0b2 := T0B.out.lt
  have zt2b0 := T2B.out.c0
  have zt2b1 := T2B.out.c1
  have zt2b2 := T2B.out.lt
  go_wp2_with fail
  refine (C2.out _ (K.out.al _)).mono ?_; rintro e0 w5 ⟨A5, c5, B5, d5, rfl, r5, k5⟩
  have K := Lib.hid ((K.out.al _).tr k5)
  have T0B := Lib.hid ((T0B.out.alloc_ _).kp k5)
  have T1B := Lib.hid ((T1B.out.alloc_ _).kp k5)
  have T2B := Lib.hid ((T2B.out.alloc_ _).kp k5)
  have J := Lib.hid ((J.out.alloc_ _).kp k5)
  have JB : Hid (Bk w5 w4.heap.size A4 a1 c4 B4 b1 d4) := (Bk.new rfl).kp k5
  have X := Lib.hid r5
  clear k5 r5 zt0b0 zt0b1 zt0b2 zt2b0 zt2b1 zt2b2
  have zt1b0 := T1B.out.c0
  have zt1b1 := T1B.out.c1
  have zt1b2 := T1B.out.lt
  have zt2b0 := T2B.out.c0
  have zt2b1 := T2B.out.c1
  have zt2b2 := T2B.out.lt
  go_wp2_with fail
  refine (C3.out _ (K.out.al _)).mono ?_; rintro e0 w6 ⟨A6, c6, B6, d6, rfl, r6, k6⟩
  have K := Lib.hid ((K.out.al _).tr k6)
  have T0B := Lib.hid ((T0B.out.alloc_ _).kp k6)
  have T1B := Lib.hid ((T1B.out.alloc_ _).kp k6)
  have T2B := Lib.hid ((T2B.out.alloc_ _).kp k6)
  have JB := Lib.hid ((JB.out.alloc_ _).kp k6)
  have J := Lib.hid ((J.out.alloc_ _).kp k6)
  have X := Lib.hid ((X.out.alloc_ _).kp k6)
  have XB : Hid (Bk w6 w5.heap.size A5 a2 c5 B5 b2 d5) := (Bk.new rfl).kp k6
  have Y := Lib.hid r6
  clear k6 r6 zt1b0 zt1b1 zt1b2 zt2b0 zt2b1 zt2b2
  have zjb0 := JB.out.c0
  have zjb1 := JB.out.c1
  have zjb2 := JB.out.lt
  have zt2b0 := T2B.out.c0
  have zt2b1 := T2B.out.c1
  have zt2b2 := T2B.out.lt
  go_wp2_with fail
  refine (C4.out _ _ _ _ _ (K.out.al _) (J.out.alloc_ _)).mono ?_; rintro e0 w7 ⟨A7, c7, B7, d7, rfl, r7, k7⟩
  have K := Lib.hid ((K.out.al _).tr k7)
  have T0B := Lib.hid ((T0B.out.alloc_ _).kp k7)
  have T1B := Lib.hid ((T1B.out.alloc_ _).kp k7)
  have T2B := Lib.hid ((T2B.out.alloc_ _).kp k7)
  have JB := Lib.hid ((JB.out.alloc_ _).kp k7)
  have XB := Lib.hid ((XB.out.alloc_ _).kp k7)
  have J := Lib.hid ((J.out.alloc_ _).kp k7)
  have X := Lib.hid ((X.out.alloc_ _).kp k7)
  have Y := Lib.hid ((Y.out.alloc_ _).kp k7)
  have YB : Hid (Bk w7 w6.heap.size A6 a3 c6 B6 b3 d6) := (Bk.new rfl).kp k7
  have Z := Lib.hid r7
  clear k7 r7 zjb0 zjb1 zjb2 zt2b0 zt2b1 zt2b2
  have zxb0 := XB.out.c0
  have zxb1 := XB.out.c1
  have zxb2 := XB.out.lt
  have zyb0 := YB.out.c0
  have zyb1 := YB.out.c1
  have zyb2 := YB.out.lt
  go_wp2_with fail
  refine (C5.out _ _ _ _ _ _ _ _ _ (K.out.al _) (X.out.alloc_ _) (Y.out.alloc_ _)).mono ?_; rintro e0 w8 ⟨A8, c8, B8, d8, rfl, r8, k8⟩
  have K := Lib.hid ((K.out.al _).tr k8)
  have T0B := Lib.hid ((T0B.out.alloc_ _).kp k8)
  have T1B := Lib.hid ((T1B.out.alloc_ _).kp k8)
  have T2B := Lib.hid ((T2B.out.alloc_ _).kp k8)
  have JB := Lib.hid ((JB.out.alloc_ _).kp k8)
  have XB := Lib.hid ((XB.out.alloc_ _).kp k8)
  have YB := Lib.hid ((YB.out.alloc_ _).kp k8)
  have Z := Lib.hid ((Z.out.alloc_ _).kp k8)
  have ZB : Hid (Bk w8 w7.heap.size A7 a4 c7 B7 b4 d7) := (Bk.new rfl).kp k8
  have V := Lib.hid r8
  clear k8 r8 zxb0 zxb1 zxb2 zyb0 zyb1 zyb2 X Y J
  have zzb0 := ZB.out.c0
  have zzb1 := ZB.out.c1
  have zzb2 := ZB.out.lt
  rcases HE2.out with ⟨h4, h5⟩ | ⟨h4, h5, z1, z2, z3, z4⟩
  · subst h4 h5
    go_wp2
    go_ret
    exact ⟨rfl, K.out.al _⟩
  · subst h4 h5 z1 z2 z3 z4
    go_wp2_with fail
    refine (tsame_u (V.out.alloc_ _) (Z.out.alloc_ _) L4.out.1 L4.out.2).mono ?_; rintro e0 w9 ⟨rfl, k9⟩
    have K := Lib.hid ((K.out.al _).tr k9)
    have T0B := Lib.hid ((T0B.out.alloc_ _).kp k9)
    have T1B := Lib.hid ((T1B.out.alloc_ _).kp k9)
    have T2B := Lib.hid ((T2B.out.alloc_ _).kp k9)
    have JB := Lib.hid ((JB.out.alloc_ _).kp k9)
    have XB := Lib.hid ((XB.out.alloc_ _).kp k9)
    have YB := Lib.hid ((YB.out.alloc_ _).kp k9)
    have ZB := Lib.hid ((ZB.out.alloc_ _).kp k9)
    have Z := Lib.hid ((Z.out.alloc_ _).kp k9)
    have V := Lib.hid ((V.out.alloc_ _).kp k9)
    have VB : Hid (Bk w9 w8.heap.size A8 a4 c8 B8 b4 d8) := (Bk.new rfl).kp k9
    clear k9 zzb0 zzb1 zzb2
    go_wp2
    go_ret
    exact ⟨rfl, K.out⟩

theorem mmjoins_walk (A B C D E F : Option Addr) (c d e f g h : Nat) (s xs t ys v zs : List Int) (w : World) (R0 : TR w A s B xs) (I0 : I64s xs) (R1 : TR w C t D ys) (I1 : I64s ys) (R2 : TR w E v F zs) (I2 : I64s zs) :
    Calls Try.prog 8 #[.agg #[.slice A s.length c, .slice B xs.length d], .agg #[.slice C t.length e, .slice D ys.length f], .agg #[.slice E v.length g, .slice F zs.length h]] w fun e w' => e = .returned (.bool true) ∧ Kp w w' := by
  by_cases f0 : 100 < s.length ∨ 100 < xs.length
  · exact mmjoins_far0 A B C D E F _ c _ d _ e _ f _ g _ h w  R0.s.len R0.d.len f0
  by_cases f1 : 100 < t.length ∨ 100 < ys.length
  · exact mmjoins_far1 A B C D E F _ c _ d _ e _ f _ g _ h w (by omega) (by omega) R1.s.len R1.d.len f1
  by_cases f2 : 100 < v.length ∨ 100 < zs.length
  · exact mmjoins_far2 A B C D E F _ c _ d _ e _ f _ g _ h w (by omega) (by omega) (by omega) (by omega) R2.s.len R2.d.len f2
  obtain ⟨l1, k1, e1, r1⟩ : ∃ l k e, glueV s xs t ys 0 = (l, k, e) := ⟨_, _, _, rfl⟩
  obtain ⟨l2, k2, e2, r2⟩ : ∃ l k e, matV s xs v zs = (l, k, e) := ⟨_, _, _, rfl⟩
  obtain ⟨l3, k3, e3, r3⟩ : ∃ l k e, matV t ys v zs = (l, k, e) := ⟨_, _, _, rfl⟩
  obtain ⟨l4, k4, e4, r4⟩ : ∃ l k e, matV l1 k1 v zs = (l, k, e) := ⟨_, _, _, rfl⟩
  obtain ⟨l5, k5, e5, r5⟩ : ∃ l k e, glueV l2 k2 l3 k3 0 = (l, k, e) := ⟨_, _, _, rfl⟩
  have i1 : I64s k1 := by have h := glue_i64 s t 0 I0 I1; rw [r1] at h; exact h
  by_cases h1 : e1 = 0
  · by_cases h2 : e2 = 0
    · by_cases h3 : e3 = 0
      · refine mmjoins_with A B C D E F _ c _ d _ e _ f _ g _ h w (by omega) (by omega) (by omega) (by omega) (by omega) (by omega) l1 k1 l2 k2 l3 k3 l4 k4 l5 k5 _ _ _ _ _ _ _ _ _ _ e1 e2 e3 e4 e5 (Lib.hid ⟨rfl, rfl⟩) h1 h2 h3 ?_
          (Lib.hid fun W k => pjoin_u s xs t ys 0 (R0.kp k) (R1.kp k) rfl rfl rfl rfl r1 rfl rfl) (Lib.hid fun W k => pmat_u s xs v zs (R0.kp k) (R2.kp k) I0 I2 rfl rfl rfl rfl r2 rfl rfl) (Lib.hid fun W k => pmat_u t ys v zs (R1.kp k) (R2.kp k) I1 I2 rfl rfl rfl rfl r3 rfl rfl) (Lib.hid fun W A0 B0 c0 d0 k r => pmat_u l1 k1 v zs r (R2.kp k) i1 I2 rfl rfl rfl rfl r4 rfl rfl) (Lib.hid fun W A0 B0 c0 d0 A1 B1 c1 d1 k r q => pjoin_u l2 k2 l3 k3 0 r q rfl rfl rfl rfl r5 rfl rfl)
        have g := mat_joins (s := s) (xs := xs) (t := t) (ys := ys) (u := v) (zs := zs) (by rw [r1]; exact h1) (by rw [r2]; exact h2) (by rw [r3]; exact h3)
        rw [r1, r2, r3] at g
        dsimp only at g
        rw [r4, r5] at g
        rcases g with ⟨g1, g2⟩ | ⟨g1, g2⟩
        · injection g1 with _ g1
          injection g1 with _ g1
          injection g2 with _ g2
          injection g2 with _ g2
          exact Or.inl ⟨g1, g2⟩
        · injection g2 with g2 g3
          injection g3 with g3 g4
          have g1' : e4 = 0 := g1
          subst g2 g3
          exact Or.inr ⟨g1', g4.trans g1', rfl, rfl, rfl, rfl⟩
      · exact mmjoins_e3 A B C D E F _ c _ d _ e _ f _ g _ h w (by omega) (by omega) (by omega) (by omega) (by omega) (by omega) l1 k1 l2 k2 l3 k3 l4 k4 _ _ _ _ _ _ _ _ e1 e2 e3 e4 h1 h2 h3
          (Lib.hid fun W k => pjoin_u s xs t ys 0 (R0.kp k) (R1.kp k) rfl rfl rfl rfl r1 rfl rfl) (Lib.hid fun W k => pmat_u s xs v zs (R0.kp k) (R2.kp k) I0 I2 rfl rfl rfl rfl r2 rfl rfl) (Lib.hid fun W k => pmat_u t ys v zs (R1.kp k) (R2.kp k) I1 I2 rfl rfl rfl rfl r3 rfl rfl) (Lib.hid fun W A0 B0 c0 d0 k r => pmat_u l1 k1 v zs r (R2.kp k) i1 I2 rfl rfl rfl rfl r4 rfl rfl)
    · exact mmjoins_e2 A B C D E F _ c _ d _ e _ f _ g _ h w (by omega) (by omega) (by omega) (by omega) (by omega) (by omega) l1 k1 l2 k2 l3 k3 l4 k4 _ _ _ _ _ _ _ _ e1 e2 e3 e4 h1 h2
        (Lib.hid fun W k => pjoin_u s xs t ys 0 (R0.kp k) (R1.kp k) rfl rfl rfl rfl r1 rfl rfl) (Lib.hid fun W k => pmat_u s xs v zs (R0.kp k) (R2.kp k) I0 I2 rfl rfl rfl rfl r2 rfl rfl) (Lib.hid fun W k => pmat_u t ys v zs (R1.kp k) (R2.kp k) I1 I2 rfl rfl rfl rfl r3 rfl rfl) (Lib.hid fun W A0 B0 c0 d0 k r => pmat_u l1 k1 v zs r (R2.kp k) i1 I2 rfl rfl rfl rfl r4 rfl rfl)
  · exact mmjoins_e1 A B C D E F _ c _ d _ e _ f _ g _ h w (by omega) (by omega) (by omega) (by omega) (by omega) (by omega) l1 k1 l2 k2 l3 k3 l4 k4 _ _ _ _ _ _ _ _ e1 e2 e3 e4 h1
      (Lib.hid fun W k => pjoin_u s xs t ys 0 (R0.kp k) (R1.kp k) rfl rfl rfl rfl r1 rfl rfl) (Lib.hid fun W k => pmat_u s xs v zs (R0.kp k) (R2.kp k) I0 I2 rfl rfl rfl rfl r2 rfl rfl) (Lib.hid fun W k => pmat_u t ys v zs (R1.kp k) (R2.kp k) I1 I2 rfl rfl rfl rfl r3 rfl rfl) (Lib.hid fun W A0 B0 c0 d0 k r => pmat_u l1 k1 v zs r (R2.kp k) i1 I2 rfl rfl rfl rfl r4 rfl rfl)
end Go.Proofs.Ytepnhmdjglpmeaa
