/- Of three tensors it does not matter which two are added first: the law's call returns true. -/
import Derived.Test.YtofolfnnjdccgaaElAw
import Derived.Test.YtofolfnnjdccgaaElR
namespace Go.Proofs.Ytofolfnnjdccgaa
open Go.RowKit Go.Proofs.ShM
set_option linter.unusedVariables false

set_option maxHeartbeats 4000000 in
set_option maxRecDepth 100000 in
theorem ethree_far0 (A B C D E F : Option Addr) (n c m d o e q f p g u h : Nat) (w : World) (zn : n ≤ 9223372036854775807) (zm : m ≤ 9223372036854775807) (hf : 100 < n ∨ 100 < m) :
    Calls Try.prog 9 #[.agg #[.slice A n c, .slice B m d], .agg #[.slice C o e, .slice D q f], .agg #[.slice E p g, .slice F u h]] w fun e w' => e = .returned (.bool true) ∧ Kp w w' := by
  have HN : Hid (∀ W, Calls Try.prog 11 #[.agg #[.slice A n c, .slice B m d]] W fun e w' => e = .returned (.bool false) ∧ Kp W w') := fun W => few_no zn zm hf
  clear hf
  go_enter Try.func9, Try.ntmps9
  go_wp2_with fail
  refine (elawake_any _).mono ?_; rintro e0 w0 ⟨rfl, k0⟩
  have K := Lib.hid ((((Kp.alloc_ _ _).al _).al _).tr k0)
  have T0B : Hid (Bk w0 (w.heap.size) A n c B m d) := (((Bk.new rfl).alloc_ _).alloc_ _).kp k0
  have T1B : Hid (Bk w0 (w.heap.size + 1) C o e D q f) := ((Bk.new (by simp)).alloc_ _).kp k0
  have T2B : Hid (Bk w0 (w.heap.size + 1 + 1) E p g F u h) := (Bk.new (by simp)).kp k0
  clear k0
  have zt0b0 := T0B.out.c0
  have zt0b1 := T0B.out.c1
  have zt0b2 := T0B.out.lt
  have zt1b0 := T1B.out.c0
  have zt1b1 := T1B.out.c1
  have zt1b2 := T1B.out.lt
  have zt2b0 := T2B.out.c0
  have zt2b1 := T2B.out.c1
  have zt2b2 := T2B.out.lt
  go_wp2_with fail
  refine (HN.out _).mono ?_; rintro e0 w1 ⟨rfl, k1⟩
  have K := Lib.hid (K.out.tr k1)
  have T0B := Lib.hid (T0B.out.kp k1)
  have T1B := Lib.hid (T1B.out.kp k1)
  have T2B := Lib.hid (T2B.out.kp k1)
  clear k1 zt0b0 zt0b1 zt0b2 zt1b0 zt1b1 zt1b2 zt2b0 zt2b1 zt2b2
  have zt0b0 := T0B.out.c0
  have zt0b1 := T0B.out.c1
  have zt0b2 := T0B.out.lt
  have zt1b0 := T1B.out.c0
  have zt1b1 := T1B.out.c1
  have zt1b2 := T1B.out.lt
  have zt2b0 := T2B.out.c0
  have zt2b1 := T2B.out.c1
  have zt2b2 := T2B.out.lt
  go_wp2
  go_ret
  exact ⟨rfl, K.out⟩

set_option maxHeartbeats 4000000 in
set_option maxRecDepth 100000 in
theorem ethree_far1 (A B C D E F : Option Addr) (n c m d o e q f p g u h : Nat) (w : World) (hn : n ≤ 100) (hm : m ≤ 100) (zo : o ≤ 9223372036854775807) (zq : q ≤ 9223372036854775807) (hf : 100 < o ∨ 100 < q) :
    Calls Try.prog 9 #[.agg #[.slice A n c, .slice B m d], .agg #[.slice C o e, .slice D q f], .agg #[.slice E p g, .slice F u h]] w fun e w' => e = .returned (.bool true) ∧ Kp w w' := by
  have HN : Hid (∀ W, Calls Try.prog 11 #[.agg #[.slice C o e, .slice D q f]] W fun e w' => e = .returned (.bool false) ∧ Kp W w') := fun W => few_no zo zq hf
  clear hf
  go_enter Try.func9, Try.ntmps9
  go_wp2_with fail
  refine (elawake_any _).mono ?_; rintro e0 w0 ⟨rfl, k0⟩
  have K := Lib.hid ((((Kp.alloc_ _ _).al _).al _).tr k0)
  have T0B : Hid (Bk w0 (w.heap.size) A n c B m d) := (((Bk.new rfl).alloc_ _).alloc_ _).kp k0
  have T1B : Hid (Bk w0 (w.heap.size + 1) C o e D q f) := ((Bk.new (by simp)).alloc_ _).kp k0
  have T2B : Hid (Bk w0 (w.heap.size + 1 + 1) E p g F u h) := (Bk.new (by simp)).kp k0
  clear k0
  have zt0b0 := T0B.out.c0
  have zt0b1 := T0B.out.c1
  have zt0b2 := T0B.out.lt
  have zt1b0 := T1B.out.c0
  have zt1b1 := T1B.out.c1
  have zt1b2 := T1B.out.lt
  have zt2b0 := T2B.out.c0
  have zt2b1 := T2B.out.c1
  have zt2b2 := T2B.out.lt
  go_wp2_with fail
  refine (few_yes hn hm).mono ?_; rintro e0 w1 ⟨rfl, k1⟩
  have K := Lib.hid (K.out.tr k1)
  have T0B := Lib.hid (T0B.out.kp k1)
  have T1B := Lib.hid (T1B.out.kp k1)
  have T2B := Lib.hid (T2B.out.kp k1)
  clear k1 zt0b0 zt0b1 zt0b2 zt1b0 zt1b1 zt1b2 zt2b0 zt2b1 zt2b2
  have zt0b0 := T0B.out.c0
  have zt0b1 := T0B.out.c1
  have zt0b2 := T0B.out.lt
  have zt1b0 := T1B.out.c0
  have zt1b1 := T1B.out.c1
  have zt1b2 := T1B.out.lt
  have zt2b0 := T2B.out.c0
  have zt2b1 := T2B.out.c1
  have zt2b2 := T2B.out.lt
  go_wp2_with fail
  refine (HN.out _).mono ?_; rintro e0 w2 ⟨rfl, k2⟩
  have K := Lib.hid (K.out.tr k2)
  have T0B := Lib.hid (T0B.out.kp k2)
  have T1B := Lib.hid (T1B.out.kp k2)
  have T2B := Lib.hid (T2B.out.kp k2)
  clear k2 zt0b0 zt0b1 zt0b2 zt1b0 zt1b1 zt1b2 zt2b0 zt2b1 zt2b2
  have zt0b0 := T0B.out.c0
  have zt0b1 := T0B.out.c1
  have zt0b2 := T0B.out.lt
  have zt1b0 := T1B.out.c0
  have zt1b1 := T1B.out.c1
  have zt1b2 := T1B.out.lt
  have zt2b0 := T2B.out.c0
  have zt2b1 := T2B.out.c1
  have zt2b2 := T2B.out.lt
  go_wp2
  go_ret
  exact ⟨rfl, K.out⟩

set_option maxHeartbeats 4000000 in
set_option maxRecDepth 100000 in
theorem ethree_far2 (A B C D E F : Option Addr) (n c m d o e q f p g u h : Nat) (w : World) (hn : n ≤ 100) (hm : m ≤ 100) (ho : o ≤ 100) (hq : q ≤ 100) (zp : p ≤ 9223372036854775807) (zu : u ≤ 9223372036854775807) (hf : 100 < p ∨ 100 < u) :
    Calls Try.prog 9 #[.agg #[.slice A n c, .slice B m d], .agg #[.slice C o e, .slice D q f], .agg #[.slice E p g, .slice F u h]] w fun e w' => e = .returned (.bool true) ∧ Kp w w' := by
  have HN : Hid (∀ W, Calls Try.prog 11 #[.agg #[.slice E p g, .slice F u h]] W fun e w' => e = .returned (.bool false) ∧ Kp W w') := fun W => few_no zp zu hf
  clear hf
  go_enter Try.func9, Try.ntmps9
  go_wp2_with fail
  refine (elawake_any _).mono ?_; rintro e0 w0 ⟨rfl, k0⟩
  have K := Lib.hid ((((Kp.alloc_ _ _).al _).al _).tr k0)
  have T0B : Hid (Bk w0 (w.heap.size) A n c B m d) := (((Bk.new rfl).alloc_ _).alloc_ _).kp k0
  have T1B : Hid (Bk w0 (w.heap.size + 1) C o e D q f) := ((Bk.new (by simp)).alloc_ _).kp k0
  have T2B : Hid (Bk w0 (w.heap.size + 1 + 1) E p g F u h) := (Bk.new (by simp)).kp k0
  clear k0
  have zt0b0 := T0B.out.c0
  have zt0b1 := T0B.out.c1
  have zt0b2 := T0B.out.lt
  have zt1b0 := T1B.out.c0
  have zt1b1 := T1B.out.c1
  have zt1b2 := T1B.out.lt
  have zt2b0 := T2B.out.c0
  have zt2b1 := T2B.out.c1
  have zt2b2 := T2B.out.lt
  go_wp2_with fail
  refine (few_yes hn hm).mono ?_; rintro e0 w1 ⟨rfl, k1⟩
  have K := Lib.hid (K.out.tr k1)
  have T0B := Lib.hid (T0B.out.kp k1)
  have T1B := Lib.hid (T1B.out.kp k1)
  have T2B := Lib.hid (T2B.out.kp k1)
  clear k1 zt0b0 zt0b1 zt0b2 zt1b0 zt1b1 zt1b2 zt2b0 zt2b1 zt2b2
  have zt0b0 := T0B.out.c0
  have zt0b1 := T0B.out.c1
  have zt0b2 := T0B.out.lt
  have zt1b0 := T1B.out.c0
  have zt1b1 := T1B.out.c1
  have zt1b2 := T1B.out.lt
  have zt2b0 := T2B.out.c0
  have zt2b1 := T2B.out.c1
  have zt2b2 := T2B.out.lt
  go_wp2_with fail
  refine (few_yes ho hq).mono ?_; rintro e0 w2 ⟨rfl, k2⟩
  have K := Lib.hid (K.out.tr k2)
  have T0B := Lib.hid (T0B.out.kp k2)
  have T1B := Lib.hid (T1B.out.kp k2)
  have T2B := Lib.hid (T2B.out.kp k2)
  clear k2 zt0b0 zt0b1 zt0b2 zt1b0 zt1b1 zt1b2 zt2b0 zt2b1 zt2b2
  have zt0b0 := T0B.out.c0
  have zt0b1 := T0B.out.c1
  have zt0b2 := T0B.out.lt
  have zt1b0 := T1B.out.c0
  have zt1b1 := T1B.out.c1
  have zt1b2 := T1B.out.lt
  have zt2b0 := T2B.out.c0
  have zt2b1 := T2B.out.c1
  have zt2b2 := T2B.out.lt
  go_wp2_with fail
  refine (HN.out _).mono ?_; rintro e0 w3 ⟨rfl, k3⟩
  have K := Lib.hid (K.out.tr k3)
  have T0B := Lib.hid (T0B.out.kp k3)
  have T1B := Lib.hid (T1B.out.kp k3)
  have T2B := Lib.hid (T2B.out.kp k3)
  clear k3 zt0b0 zt0b1 zt0b2 zt1b0 zt1b1 zt1b2 zt2b0 zt2b1 zt2b2
  have zt0b0 := T0B.out.c0
  have zt0b1 := T0B.out.c1
  have zt0b2 := T0B.out.lt
  have zt1b0 := T1B.out.c0
  have zt1b1 := T1B.out.c1
  have zt1b2 := T1B.out.lt
  have zt2b0 := T2B.out.c0
  have zt2b1 := T2B.out.c1
  have zt2b2 := T2B.out.lt
  go_wp2
  go_ret
  exact ⟨rfl, K.out⟩

set_option maxHeartbeats 8000000 in
set_option maxRecDepth 100000 in
theorem ethree_with (A B C D E F : Option Addr) (n c m d o e q f p g u h : Nat) (w : World) (hn : n ≤ 100) (hm : m ≤ 100) (ho : o ≤ 100) (hq : q ≤ 100) (hp : p ≤ 100) (hu : u ≤ 100) (l1 k1 l2 k2 l3 k3 l4 k4 : List Int) (a1 b1 a2 b2 a3 b3 a4 b4 : Nat) (e1 e2 e3 e4 : Int)
    (L2 : Hid (l2.length = a2 ∧ k2.length = b2)) (HE : Hid (e1 = 0 → e2 = 0 → e3 = 0 → e4 = 0 → l2 = l4 ∧ k2 = k4 ∧ a2 = a4 ∧ b2 = b4 ∧ ∀ W A0 B0 c0 d0, TR W A0 l2 B0 k2 → Calls Try.prog 17 #[.agg #[.slice A0 a2 c0, .slice B0 b2 d0]] W fun e w' => e = .returned (.bool true) ∧ Kp W w'))
    (C1 : Hid (∀ W, Kp w W → Calls Try.prog 14 #[.int .i64 10, .agg #[.slice A n c, .slice B m d], .agg #[.slice C o e, .slice D q f]] W (RetU l1 k1 a1 b1 e1 W)))
    (C2 : Hid (∀ W A0 B0 c0 d0, Kp w W → TR W A0 l1 B0 k1 → Calls Try.prog 14 #[.int .i64 10, .agg #[.slice A0 a1 c0, .slice B0 b1 d0], .agg #[.slice E p g, .slice F u h]] W (RetU l2 k2 a2 b2 e2 W)))
    (C3 : Hid (∀ W, Kp w W → Calls Try.prog 14 #[.int .i64 10, .agg #[.slice C o e, .slice D q f], .agg #[.slice E p g, .slice F u h]] W (RetU l3 k3 a3 b3 e3 W)))
    (C4 : Hid (∀ W A0 B0 c0 d0, Kp w W → TR W A0 l3 B0 k3 → Calls Try.prog 14 #[.int .i64 10, .agg #[.slice A n c, .slice B m d], .agg #[.slice A0 a3 c0, .slice B0 b3 d0]] W (RetU l4 k4 a4 b4 e4 W))) :
    Calls Try.prog 9 #[.agg #[.slice A n c, .slice B m d], .agg #[.slice C o e, .slice D q f], .agg #[.slice E p g, .slice F u h]] w fun e w' => e = .returned (.bool true) ∧ Kp w w' := by
  go_enter Try.func9, Try.ntmps9
  go_wp2_with fail
  refine (elawake_any _).mono ?_; rintro e0 w0 ⟨rfl, k0⟩
  have K := Lib.hid ((((Kp.alloc_ _ _).al _).al _).tr k0)
  have T0B : Hid (Bk w0 (w.heap.size) A n c B m d) := (((Bk.new rfl).alloc_ _).alloc_ _).kp k0
  have T1B : Hid (Bk w0 (w.heap.size + 1) C o e D q f) := ((Bk.new (by simp)).alloc_ _).kp k0
  have T2B : Hid (Bk w0 (w.heap.size + 1 + 1) E p g F u h) := (Bk.new (by simp)).kp k0
  clear k0
  have zt0b0 := T0B.out.c0
  have zt0b1 := T0B.out.c1
  have zt0b2 := T0B.out.lt
  have zt1b0 := T1B.out.c0
  have zt1b1 := T1B.out.c1
  have zt1b2 := T1B.out.lt
  have zt2b0 := T2B.out.c0
  have zt2b1 := T2B.out.c1
  have zt2b2 := T2B.out.lt
  go_wp2_with fail
  refine (few_yes hn hm).mono ?_; rintro e0 w1 ⟨rfl, k1⟩
  have K := Lib.hid (K.out.tr k1)
  have T0B := Lib.hid (T0B.out.kp k1)
  have T1B := Lib.hid (T1B.out.kp k1)
  have T2B := Lib.hid (T2B.out.kp k1)
  clear k1 zt0b0 zt0b1 zt0b2 zt1b0 zt1b1 zt1b2 zt2b0 zt2b1 zt2b2
  have zt0b0 := T0B.out.c0
  have zt0b1 := T0B.out.c1
  have zt0b2 := T0B.out.lt
  have zt1b0 := T1B.out.c0
  have zt1b1 := T1B.out.c1
  have zt1b2 := T1B.out.lt
  have zt2b0 := T2B.out.c0
  have zt2b1 := T2B.out.c1
  have zt2b2 := T2B.out.lt
  go_wp2_with fail
  refine (few_yes ho hq).mono ?_; rintro e0 w2 ⟨rfl, k2⟩
  have K := Lib.hid (K.out.tr k2)
  have T0B := Lib.hid (T0B.out.kp k2)
  have T1B := Lib.hid (T1B.out.kp k2)
  have T2B := Lib.hid (T2B.out.kp k2)
  clear k2 zt0b0 zt0b1 zt0b2 zt1b0 zt1b1 zt1b2 zt2b0 zt2b1 zt2b2
  have zt0b0 := T0B.out.c0
  have zt0b1 := T0B.out.c1
  have zt0b2 := T0B.out.lt
  have zt1b0 := T1B.out.c0
  have zt1b1 := T1B.out.c1
  have zt1b2 := T1B.out.lt
  have zt2b0 := T2B.out.c0
  have zt2b1 := T2B.out.c1
  have zt2b2 := T2B.out.lt
  go_wp2_with fail
  refine (few_yes hp hu).mono ?_; rintro e0 w3 ⟨rfl, k3⟩
  have K := Lib.hid (K.out.tr k3)
  have T0B := Lib.hid (T0B.out.kp k3)
  have T1B := Lib.hid (T1B.out.kp k3)
  have T2B := Lib.hid (T2B.out.kp k3)
  clear k3 zt0b0 zt0b1 zt0b2 zt1b0 zt1b1 zt1b2 zt2b0 zt2b1 zt2b2
  have zt0b0 := T0B.out.c0
  have zt0b1 := T0B.out.c1
  have zt0b2 := T0B.out.lt
  have zt1b0 := T1B.out.c0
  have zt1b1 := T1B.out.c1
  have zt1b2 := T1B.out.lt
  have zt2b0 := T2B.out.c0
  have zt2b1 := T2B.out.c1
  have zt2b2 := T2B.out.lt
  go_wp2_with fail
  refine (C1.out _ K.out).mono ?_; rintro e0 w4 ⟨A4, c4, B4, d4, rfl, r4, k4⟩
  have K := Lib.hid (K.out.tr k4)
  have T0B := Lib.hid (T0B.out.kp k4)
  have T1B := Lib.hid (T1B.out.kp k4)
  have T2B := Lib.hid (T2B.out.kp k4)
  have X := Lib.hid r4
  clear k4 r4 zt0b0 zt0b1 zt0b2 zt1b0 zt1b1 zt1b2 zt2b0 zt2b1 zt2b2
  have zt2b0 := T2B.out.c0
  have zt2b1 := T2B.out.c1
  have zt2b2 := T2B.out.lt
  go_wp2_with fail
  refine (C2.out _ _ _ _ _ (K.out.al _) (X.out.alloc_ _)).mono ?_; rintro e0 w5 ⟨A5, c5, B5, d5, rfl, r5, k5⟩
  have K := Lib.hid ((K.out.al _).tr k5)
  have T0B := Lib.hid ((T0B.out.alloc_ _).kp k5)
  have T1B := Lib.hid ((T1B.out.alloc_ _).kp k5)
  have T2B := Lib.hid ((T2B.out.alloc_ _).kp k5)
  have X := Lib.hid ((X.out.alloc_ _).kp k5)
  have XB : Hid (Bk w5 w4.heap.size A4 a1 c4 B4 b1 d4) := (Bk.new rfl).kp k5
  have Y := Lib.hid r5
  clear k5 r5 zt2b0 zt2b1 zt2b2
  have zt1b0 := T1B.out.c0
  have zt1b1 := T1B.out.c1
  have zt1b2 := T1B.out.lt
  have zt2b0 := T2B.out.c0
  have zt2b1 := T2B.out.c1
  have zt2b2 := T2B.out.lt
  go_wp2_with fail
  refine (C3.out _ (K.out.al _)).mono ?_; rintro e0 w6 ⟨A6, c6, B6, d6, rfl, r6, k6⟩
  have K := Lib.hid ((K.out.al _).tr k6)
  have T0B := Lib.hid ((T0B.out.alloc_ _).kp k6)
  have T1B := Lib.hid ((T1B.out.alloc_ _).kp k6)
  have T2B := Lib.hid ((T2B.out.alloc_ _).kp k6)
  have XB := Lib.hid ((XB.out.alloc_ _).kp k6)
  have X := Lib.hid ((X.out.alloc_ _).kp k6)
  have Y := Lib.hid ((Y.out.alloc_ _).kp k6)
  have YB : Hid (Bk w6 w5.heap.size A5 a2 c5 B5 b2 d5) := (Bk.new rfl).kp k6
  have Z := Lib.hid r6
  clear k6 r6 zt1b0 zt1b1 zt1b2 zt2b0 zt2b1 zt2b2
  have zt0b0 := T0B.out.c0
  have zt0b1 := T0B.out.c1
  have zt0b2 := T0B.out.lt
  go_wp2_with fail
  refine (C4.out _ _ _ _ _ (K.out.al _) (Z.out.alloc_ _)).mono ?_; rintro e0 w7 ⟨A7, c7, B7, d7, rfl, r7, k7⟩
  have K := Lib.hid ((K.out.al _).tr k7)
  have T0B := Lib.hid ((T0B.out.alloc_ _).kp k7)
  have T1B := Lib.hid ((T1B.out.alloc_ _).kp k7)
  have T2B := Lib.hid ((T2B.out.alloc_ _).kp k7)
  have XB := Lib.hid ((XB.out.alloc_ _).kp k7)
  have YB := Lib.hid ((YB.out.alloc_ _).kp k7)
  have X := Lib.hid ((X.out.alloc_ _).kp k7)
  have Y := Lib.hid ((Y.out.alloc_ _).kp k7)
  have Z := Lib.hid ((Z.out.alloc_ _).kp k7)
  have ZB : Hid (Bk w7 w6.heap.size A6 a3 c6 B6 b3 d6) := (Bk.new rfl).kp k7
  have V := Lib.hid r7
  clear k7 r7 zt0b0 zt0b1 zt0b2
  have zyb0 := YB.out.c0
  have zyb1 := YB.out.c1
  have zyb2 := YB.out.lt
  by_cases h1 : e1 = 0
  · skip
    by_cases h2 : e2 = 0
    · skip
      by_cases h3 : e3 = 0
      · skip
        by_cases h4 : e4 = 0
        · skip
          obtain ⟨q1, q2, q3, q4, HC⟩ := HE.out h1 h2 h3 h4
          subst h1 h2 h3 h4 q1 q2 q3 q4
          have HC := Lib.hid HC
          go_wp2_with fail
          refine (tsame_u (Y.out.alloc_ _) (V.out.alloc_ _) L2.out.1 L2.out.2).mono ?_; rintro e0 w8 ⟨rfl, k8⟩
          have K := Lib.hid ((K.out.al _).tr k8)
          have T0B := Lib.hid ((T0B.out.alloc_ _).kp k8)
          have T1B := Lib.hid ((T1B.out.alloc_ _).kp k8)
          have T2B := Lib.hid ((T2B.out.alloc_ _).kp k8)
          have XB := Lib.hid ((XB.out.alloc_ _).kp k8)
          have YB := Lib.hid ((YB.out.alloc_ _).kp k8)
          have ZB := Lib.hid ((ZB.out.alloc_ _).kp k8)
          have X := Lib.hid ((X.out.alloc_ _).kp k8)
          have Y := Lib.hid ((Y.out.alloc_ _).kp k8)
          have Z := Lib.hid ((Z.out.alloc_ _).kp k8)
          have V := Lib.hid ((V.out.alloc_ _).kp k8)
          have VB : Hid (Bk w8 w7.heap.size A7 a2 c7 B7 b2 d7) := (Bk.new rfl).kp k8
          clear k8 zyb0 zyb1 zyb2
          have zyb0 := YB.out.c0
          have zyb1 := YB.out.c1
          have zyb2 := YB.out.lt
          go_wp2_with fail
          refine (HC.out _ _ _ _ _ Y.out).mono ?_; rintro e0 w9 ⟨rfl, k9⟩
          have K := Lib.hid (K.out.tr k9)
          have T0B := Lib.hid (T0B.out.kp k9)
          have T1B := Lib.hid (T1B.out.kp k9)
          have T2B := Lib.hid (T2B.out.kp k9)
          have XB := Lib.hid (XB.out.kp k9)
          have YB := Lib.hid (YB.out.kp k9)
          have ZB := Lib.hid (ZB.out.kp k9)
          have VB := Lib.hid (VB.out.kp k9)
          have X := Lib.hid (X.out.kp k9)
          have Y := Lib.hid (Y.out.kp k9)
          have Z := Lib.hid (Z.out.kp k9)
          have V := Lib.hid (V.out.kp k9)
          clear k9 zyb0 zyb1 zyb2
          go_wp2
          go_ret
          exact ⟨rfl, K.out⟩
        · subst h1 h2 h3
          go_wp2
          go_ret
          exact ⟨rfl, K.out.al _⟩
      · subst h1 h2
        go_wp2
        go_ret
        exact ⟨rfl, K.out.al _⟩
    · subst h1
      go_wp2
      go_ret
      exact ⟨rfl, K.out.al _⟩
  · skip
    go_wp2
    go_ret
    exact ⟨rfl, K.out.al _⟩

theorem ethree_walk (A B C D E F : Option Addr) (c d e f g h : Nat) (s xs t ys v zs : List Int) (w : World) (R0 : TR w A s B xs) (I0 : I64s xs) (R1 : TR w C t D ys) (I1 : I64s ys) (R2 : TR w E v F zs) (I2 : I64s zs) :
    Calls Try.prog 9 #[.agg #[.slice A s.length c, .slice B xs.length d], .agg #[.slice C t.length e, .slice D ys.length f], .agg #[.slice E v.length g, .slice F zs.length h]] w fun e w' => e = .returned (.bool true) ∧ Kp w w' := by
  by_cases f0 : 100 < s.length ∨ 100 < xs.length
  · exact ethree_far0 A B C D E F _ c _ d _ e _ f _ g _ h w  R0.s.len R0.d.len f0
  by_cases f1 : 100 < t.length ∨ 100 < ys.length
  · exact ethree_far1 A B C D E F _ c _ d _ e _ f _ g _ h w (by omega) (by omega) R1.s.len R1.d.len f1
  by_cases f2 : 100 < v.length ∨ 100 < zs.length
  · exact ethree_far2 A B C D E F _ c _ d _ e _ f _ g _ h w (by omega) (by omega) (by omega) (by omega) R2.s.len R2.d.len f2
  obtain ⟨l1, k1, e1, r1⟩ : ∃ l k e, twoV 10 s xs t ys = (l, k, e) := ⟨_, _, _, rfl⟩
  obtain ⟨l2, k2, e2, r2⟩ : ∃ l k e, twoV 10 l1 k1 v zs = (l, k, e) := ⟨_, _, _, rfl⟩
  obtain ⟨l3, k3, e3, r3⟩ : ∃ l k e, twoV 10 t ys v zs = (l, k, e) := ⟨_, _, _, rfl⟩
  obtain ⟨l4, k4, e4, r4⟩ : ∃ l k e, twoV 10 s xs l3 k3 = (l, k, e) := ⟨_, _, _, rfl⟩
  have i1 : I64s k1 := by have := two_i64 10 s xs t ys; rw [r1] at this; exact this
  have i3 : I64s k3 := by have := two_i64 10 t ys v zs; rw [r3] at this; exact this
  refine ethree_with A B C D E F _ c _ d _ e _ f _ g _ h w (by omega) (by omega) (by omega) (by omega) (by omega) (by omega) l1 k1 l2 k2 l3 k3 l4 k4 _ _ _ _ _ _ _ _ e1 e2 e3 e4 (Lib.hid ⟨rfl, rfl⟩) (Lib.hid ?_)
    (Lib.hid fun W k => two_u s xs t ys (R0.kp k) (R1.kp k) I0 I1 rfl rfl rfl rfl r1 rfl rfl)
    (Lib.hid fun W A0 B0 c0 d0 k r => two_u l1 k1 v zs r (R2.kp k) i1 I2 rfl rfl rfl rfl r2 rfl rfl)
    (Lib.hid fun W k => two_u t ys v zs (R1.kp k) (R2.kp k) I1 I2 rfl rfl rfl rfl r3 rfl rfl)
    (Lib.hid fun W A0 B0 c0 d0 k r => two_u s xs l3 k3 (R0.kp k) r I0 i3 rfl rfl rfl rfl r4 rfl rfl)
  intro z1 z2 z3 z4
  subst z1 z2 z3 z4
  obtain ⟨rfl, rfl, hk⟩ := add_three r1 r2 r3 r4
  exact ⟨rfl, rfl, rfl, rfl, fun W A0 B0 c0 d0 r => tcheck_u l2 k2 r rfl rfl hk⟩
end Go.Proofs.Ytofolfnnjdccgaa
