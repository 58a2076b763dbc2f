/- The product of any two tensors, and what it is turned back to, are the document's: the law's call returns true. -/
import Derived.Test.YtepnhmdjglpmeaaMmG
namespace Go.Proofs.Ytepnhmdjglpmeaa
open Go.RowKit Go.Proofs.ShM
set_option linter.unusedVariables false
set_option linter.unusedSimpArgs false

set_option maxHeartbeats 8000000 in
set_option maxRecDepth 100000 in
theorem mtells_f0 (A B C D : Option Addr) (n c m d o e q f : Nat) (w : World) (zn : n ≤ 9223372036854775807) (zm : m ≤ 9223372036854775807) (hf : 100 < n ∨ 100 < m) :
    Calls Try.prog 3 #[.agg #[.slice A n c, .slice B m d], .agg #[.slice C o e, .slice D q f]] w fun e w' => e = .returned (.bool true) ∧ Kp w w' := by
  have HN : Hid (∀ W, Calls Try.prog 10 #[.agg #[.slice A n c, .slice B m d]] W fun e w' => e = .returned (.bool false) ∧ Kp W w') := fun W => few_no zn zm hf
  clear hf
  go_enter Try.func3, Try.ntmps3
  go_wp2_with fail
  refine (mmawake_any _).mono ?_; rintro e0 w0 ⟨rfl, k0⟩
  have K := Lib.hid (((Kp.alloc_ _ _).al _).tr k0)
  have T0B : Hid (Bk w0 (w.heap.size) A n c B m d) := ((Bk.new rfl).alloc_ _).kp k0
  have T1B : Hid (Bk w0 (w.heap.size + 1) C o e D q f) := (Bk.new (by simp)).kp k0
  clear k0
  have zt0b0 := T0B.out.c0
  have zt0b1 := T0B.out.c1
  have zt0b2 := T0B.out.lt
  have zt1b0 := T1B.out.c0
  have zt1b1 := T1B.out.c1
  have zt1b2 := T1B.out.lt
  go_wp2_with fail
  refine (HN.out _).mono ?_; rintro e0 w1 ⟨rfl, k1⟩
  have K := Lib.hid (K.out.tr k1)
  have T0B := Lib.hid (T0B.out.kp k1)
  have T1B := Lib.hid (T1B.out.kp k1)
  clear k1 zt0b0 zt0b1 zt0b2 zt1b0 zt1b1 zt1b2
  have zt0b0 := T0B.out.c0
  have zt0b1 := T0B.out.c1
  have zt0b2 := T0B.out.lt
  have zt1b0 := T1B.out.c0
  have zt1b1 := T1B.out.c1
  have zt1b2 := T1B.out.lt
  go_wp2
  go_ret
  exact ⟨rfl, K.out⟩

set_option maxHeartbeats 8000000 in
set_option maxRecDepth 100000 in
theorem mtells_f1 (A B C D : Option Addr) (n c m d o e q f : Nat) (w : World) (hn : n ≤ 100) (hm : m ≤ 100) (zo : o ≤ 9223372036854775807) (zq : q ≤ 9223372036854775807) (hf : 100 < o ∨ 100 < q) :
    Calls Try.prog 3 #[.agg #[.slice A n c, .slice B m d], .agg #[.slice C o e, .slice D q f]] w fun e w' => e = .returned (.bool true) ∧ Kp w w' := by
  have HN : Hid (∀ W, Calls Try.prog 10 #[.agg #[.slice C o e, .slice D q f]] W fun e w' => e = .returned (.bool false) ∧ Kp W w') := fun W => few_no zo zq hf
  clear hf
  go_enter Try.func3, Try.ntmps3
  go_wp2_with fail
  refine (mmawake_any _).mono ?_; rintro e0 w0 ⟨rfl, k0⟩
  have K := Lib.hid (((Kp.alloc_ _ _).al _).tr k0)
  have T0B : Hid (Bk w0 (w.heap.size) A n c B m d) := ((Bk.new rfl).alloc_ _).kp k0
  have T1B : Hid (Bk w0 (w.heap.size + 1) C o e D q f) := (Bk.new (by simp)).kp k0
  clear k0
  have zt0b0 := T0B.out.c0
  have zt0b1 := T0B.out.c1
  have zt0b2 := T0B.out.lt
  have zt1b0 := T1B.out.c0
  have zt1b1 := T1B.out.c1
  have zt1b2 := T1B.out.lt
  go_wp2_with fail
  refine (few_yes hn hm).mono ?_; rintro e0 w1 ⟨rfl, k1⟩
  have K := Lib.hid (K.out.tr k1)
  have T0B := Lib.hid (T0B.out.kp k1)
  have T1B := Lib.hid (T1B.out.kp k1)
  clear k1 zt0b0 zt0b1 zt0b2 zt1b0 zt1b1 zt1b2
  have zt0b0 := T0B.out.c0
  have zt0b1 := T0B.out.c1
  have zt0b2 := T0B.out.lt
  have zt1b0 := T1B.out.c0
  have zt1b1 := T1B.out.c1
  have zt1b2 := T1B.out.lt
  go_wp2_with fail
  refine (HN.out _).mono ?_; rintro e0 w2 ⟨rfl, k2⟩
  have K := Lib.hid (K.out.tr k2)
  have T0B := Lib.hid (T0B.out.kp k2)
  have T1B := Lib.hid (T1B.out.kp k2)
  clear k2 zt0b0 zt0b1 zt0b2 zt1b0 zt1b1 zt1b2
  have zt0b0 := T0B.out.c0
  have zt0b1 := T0B.out.c1
  have zt0b2 := T0B.out.lt
  have zt1b0 := T1B.out.c0
  have zt1b1 := T1B.out.c1
  have zt1b2 := T1B.out.lt
  go_wp2
  go_ret
  exact ⟨rfl, K.out⟩

set_option maxHeartbeats 8000000 in
set_option maxRecDepth 100000 in
theorem mtells_with (A B C D : Option Addr) (n c m d o e q f : Nat) (w : World) (hn : n ≤ 100) (hm : m ≤ 100) (ho : o ≤ 100) (hq : q ≤ 100) (l1 k1 l2 k2 l3 k3 : List Int) (a1 b1 a2 b2 a3 b3 : Nat) (e1 e2 e3 : Int)
    (L1 : Hid (l1.length = a1 ∧ k1.length = b1)) (L2 : Hid (l2.length = a2 ∧ k2.length = b2)) (L3 : Hid (l3.length = a3 ∧ k3.length = b3))
    (C1 : Hid (∀ W, Kp w W → Calls Try.prog 11 #[.agg #[.slice A n c, .slice B m d], .agg #[.slice C o e, .slice D q f]] W (RetU l1 k1 a1 b1 e1 W)))
    (D1 : Hid (∀ W, Kp w W → Calls Try.prog 12 #[.agg #[.slice A n c, .slice B m d], .agg #[.slice C o e, .slice D q f]] W (RetU l1 k1 a1 b1 e1 W)))
    (C2 : Hid (∀ W, Kp w W → Calls Try.prog 14 #[.agg #[.slice A n c, .slice B m d], .agg #[.slice C o e, .slice D q f]] W (RetU l2 k2 a2 b2 e2 W)))
    (D2 : Hid (∀ W, Kp w W → Calls Try.prog 15 #[.agg #[.slice A n c, .slice B m d], .agg #[.slice C o e, .slice D q f]] W (RetU l2 k2 a2 b2 e2 W)))
    (C3 : Hid (∀ W, Kp w W → Calls Try.prog 16 #[.agg #[.slice A n c, .slice B m d], .agg #[.slice C o e, .slice D q f]] W (RetU l3 k3 a3 b3 e3 W)))
    (D3 : Hid (∀ W, Kp w W → Calls Try.prog 17 #[.agg #[.slice A n c, .slice B m d], .agg #[.slice C o e, .slice D q f]] W (RetU l3 k3 a3 b3 e3 W))) :
    Calls Try.prog 3 #[.agg #[.slice A n c, .slice B m d], .agg #[.slice C o e, .slice D q f]] w fun e w' => e = .returned (.bool true) ∧ Kp w w' := by
  go_enter Try.func3, Try.ntmps3
  go_wp2_with fail
  refine (mmawake_any _).mono ?_; rintro e0 w0 ⟨rfl, k0⟩
  have K := Lib.hid (((Kp.alloc_ _ _).al _).tr k0)
  have T0B : Hid (Bk w0 (w.heap.size) A n c B m d) := ((Bk.new rfl).alloc_ _).kp k0
  have T1B : Hid (Bk w0 (w.heap.size + 1) C o e D q f) := (Bk.new (by simp)).kp k0
  clear k0
  have zt0b0 := T0B.out.c0
  have zt0b1 := T0B.out.c1
  have zt0b2 := T0B.out.lt
  have zt1b0 := T1B.out.c0
  have zt1b1 := T1B.out.c1
  have zt1b2 := T1B.out.lt
  go_wp2_with fail
  refine (few_yes hn hm).mono ?_; rintro e0 w1 ⟨rfl, k1⟩
  have K := Lib.hid (K.out.tr k1)
  have T0B := Lib.hid (T0B.out.kp k1)
  have T1B := Lib.hid (T1B.out.kp k1)
  clear k1 zt0b0 zt0b1 zt0b2 zt1b0 zt1b1 zt1b2
  have zt0b0 := T0B.out.c0
  have zt0b1 := T0B.out.c1
  have zt0b2 := T0B.out.lt
  have zt1b0 := T1B.out.c0
  have zt1b1 := T1B.out.c1
  have zt1b2 := T1B.out.lt
  go_wp2_with fail
  refine (few_yes ho hq).mono ?_; rintro e0 w2 ⟨rfl, k2⟩
  have K := Lib.hid (K.out.tr k2)
  have T0B := Lib.hid (T0B.out.kp k2)
  have T1B := Lib.hid (T1B.out.kp k2)
  clear k2 zt0b0 zt0b1 zt0b2 zt1b0 zt1b1 zt1b2
  have zt0b0 := T0B.out.c0
  have zt0b1 := T0B.out.c1
  have zt0b2 := T0B.out.lt
  have zt1b0 := T1B.out.c0
  have zt1b1 := T1B.out.c1
  have zt1b2 := T1B.out.lt
  go_wp2_with fail
  refine (C1.out _ K.out).mono ?_; rintro e0 w3 ⟨A3, c3, B3, d3, rfl, r3, k3⟩
  have K := Lib.hid (K.out.tr k3)
  have T0B := Lib.hid (T0B.out.kp k3)
  have T1B := Lib.hid (T1B.out.kp k3)
  have X := Lib.hid r3
  clear k3 r3 zt0b0 zt0b1 zt0b2 zt1b0 zt1b1 zt1b2
  have zt0b0 := T0B.out.c0
  have zt0b1 := T0B.out.c1
  have zt0b2 := T0B.out.lt
  have zt1b0 := T1B.out.c0
  have zt1b1 := T1B.out.c1
  have zt1b2 := T1B.out.lt
  have HB2 : Hid (w.heap.size + 1 + 1 ≤ w3.heap.size) := T1B.out.lt
  go_wp2_with fail
  refine (D1.out _ (K.out.al _)).mono ?_; rintro e0 w4 ⟨A4, c4, B4, d4, rfl, r4, k4⟩
  have K := Lib.hid ((K.out.al _).tr k4)
  have T0B := Lib.hid ((T0B.out.alloc_ _).kp k4)
  have T1B := Lib.hid ((T1B.out.alloc_ _).kp k4)
  have X := Lib.hid ((X.out.alloc_ _).kp k4)
  have XB : Hid (Bk w4 w3.heap.size A3 a1 c3 B3 b1 d3) := (Bk.new rfl).kp k4
  have Y := Lib.hid r4
  clear k4 r4 zt0b0 zt0b1 zt0b2 zt1b0 zt1b1 zt1b2
  have zt0b0 := T0B.out.c0
  have zt0b1 := T0B.out.c1
  have zt0b2 := T0B.out.lt
  have zt1b0 := T1B.out.c0
  have zt1b1 := T1B.out.c1
  have zt1b2 := T1B.out.lt
  have zxb0 := XB.out.c0
  have zxb1 := XB.out.c1
  have zxb2 := XB.out.lt
  have HXY : Hid (w3.heap.size < w4.heap.size) := XB.out.lt
  go_wp2_with fail
  refine (tsame_u (X.out.alloc_ _) (Y.out.alloc_ _) L1.out.1 L1.out.2).mono ?_; rintro e0 w5 ⟨rfl, k5⟩
  have K := Lib.hid ((K.out.al _).tr k5)
  have T0B := Lib.hid ((T0B.out.alloc_ _).kp k5)
  have T1B := Lib.hid ((T1B.out.alloc_ _).kp k5)
  have XB := Lib.hid ((XB.out.alloc_ _).kp k5)
  have YB : Hid (Bk w5 w4.heap.size A4 a1 c4 B4 b1 d4) := (Bk.new rfl).kp k5
  clear k5 zt0b0 zt0b1 zt0b2 zt1b0 zt1b1 zt1b2 zxb0 zxb1 zxb2 X Y
  have zt0b0 := T0B.out.c0
  have zt0b1 := T0B.out.c1
  have zt0b2 := T0B.out.lt
  have zt1b0 := T1B.out.c0
  have zt1b1 := T1B.out.c1
  have zt1b2 := T1B.out.lt
  have zxb0 := XB.out.c0
  have zxb1 := XB.out.c1
  have zxb2 := XB.out.lt
  have zyb0 := YB.out.c0
  have zyb1 := YB.out.c1
  have zyb2 := YB.out.lt
  clear zt0b0 zt0b1 zt0b2 zt1b0 zt1b1 zt1b2 zxb0 zxb1 zxb2 zyb0 zyb1 zyb2
  have hbx : w.heap.size + 1 + 1 ≤ w3.heap.size := HB2.out
  have hxy : w3.heap.size < w4.heap.size := HXY.out
  have n0x : w.heap.size ≠ w3.heap.size := by omega
  have n1x : w.heap.size + 1 ≠ w3.heap.size := by omega
  have nyx : w4.heap.size ≠ w3.heap.size := by omega
  have n0y : w.heap.size ≠ w4.heap.size := by omega
  have n1y : w.heap.size + 1 ≠ w4.heap.size := by omega
  have nxy : w3.heap.size ≠ w4.heap.size := by omega
  have lbx : w.heap.size ≤ w3.heap.size := by omega
  have lby : w.heap.size ≤ w4.heap.size := by omega
  have zt0b0 := T0B.out.c0
  have zt0b1 := T0B.out.c1
  have zt0b2 := T0B.out.lt
  have zt1b0 := T1B.out.c0
  have zt1b1 := T1B.out.c1
  have zt1b2 := T1B.out.lt
  have zxb0 := XB.out.c0
  have zxb1 := XB.out.c1
  have zxb2 := XB.out.lt
  have zyb0 := YB.out.c0
  have zyb1 := YB.out.c1
  have zyb2 := YB.out.lt
  go_wp2_with fail
  refine (C2.out _ K.out).mono ?_; rintro e0 w6 ⟨A6, c6, B6, d6, rfl, r6, k6⟩
  have K := Lib.hid (Kp.tr K.out k6)
  have T0B := Lib.hid (T0B.out.kp k6)
  have T1B := Lib.hid (T1B.out.kp k6)
  have XB := Lib.hid (XB.out.kp k6)
  have YB := Lib.hid (YB.out.kp k6)
  have X := Lib.hid r6
  clear k6 r6 zt0b0 zt0b1 zt0b2 zt1b0 zt1b1 zt1b2 zxb0 zxb1 zxb2 zyb0 zyb1 zyb2
  have zt0b0 := T0B.out.c0
  have zt0b1 := T0B.out.c1
  have zt0b2 := T0B.out.f0 0
  have zt0b3 := T0B.out.f0 1
  have zt1b0 := T1B.out.c0
  have zt1b1 := T1B.out.c1
  have zt1b2 := T1B.out.f0 0
  have zt1b3 := T1B.out.f0 1
  have zxb0 := XB.out.c0
  have zxb1 := XB.out.c1
  have zxb2 := XB.out.f0 0
  have zxb3 := XB.out.f0 1
  have zyb0 := YB.out.c0
  have zyb1 := YB.out.c1
  have zyb2 := YB.out.f0 0
  have zyb3 := YB.out.f0 1
  have yxb0 : ((w6.setCell ⟨w3.heap.size, 0, none⟩ (.slice A6 a2 c6)).setCell ⟨w3.heap.size, 1, none⟩ (.slice B6 b2 d6)).cell? ⟨w3.heap.size, 0, none⟩ = some (.slice A6 a2 c6) := (XB.out.put).c0
  have yxb1 : ((w6.setCell ⟨w3.heap.size, 0, none⟩ (.slice A6 a2 c6)).setCell ⟨w3.heap.size, 1, none⟩ (.slice B6 b2 d6)).cell? ⟨w3.heap.size, 1, none⟩ = some (.slice B6 b2 d6) := (XB.out.put).c1
  go_wp2_with fail
  refine (D2.out _ ((K.out.setCell (p := ⟨w3.heap.size, 0, none⟩) lbx _).setCell (p := ⟨w3.heap.size, 1, none⟩) lbx _)).mono ?_; rintro e0 w7 ⟨A7, c7, B7, d7, rfl, r7, k7⟩
  have K := Lib.hid (Kp.tr ((K.out.setCell (p := ⟨w3.heap.size, 0, none⟩) lbx _).setCell (p := ⟨w3.heap.size, 1, none⟩) lbx _) k7)
  have X := Lib.hid ((X.out.past XB.out _ _).kp k7)
  have T0B := Lib.hid ((T0B.out.other n0x _ _).kp k7)
  have T1B := Lib.hid ((T1B.out.other n1x _ _).kp k7)
  have YB := Lib.hid ((YB.out.other nyx _ _).kp k7)
  have XB := Lib.hid ((XB.out.put).kp k7)
  have Y := Lib.hid r7
  clear k7 r7 zt0b0 zt0b1 zt0b2 zt0b3 zt1b0 zt1b1 zt1b2 zt1b3 zxb0 zxb1 zxb2 zxb3 zyb0 zyb1 zyb2 zyb3 yxb0 yxb1
  have zt0b0 := T0B.out.c0
  have zt0b1 := T0B.out.c1
  have zt0b2 := T0B.out.f0 0
  have zt0b3 := T0B.out.f0 1
  have zt1b0 := T1B.out.c0
  have zt1b1 := T1B.out.c1
  have zt1b2 := T1B.out.f0 0
  have zt1b3 := T1B.out.f0 1
  have zxb0 := XB.out.c0
  have zxb1 := XB.out.c1
  have zxb2 := XB.out.f0 0
  have zxb3 := XB.out.f0 1
  have zyb0 := YB.out.c0
  have zyb1 := YB.out.c1
  have zyb2 := YB.out.f0 0
  have zyb3 := YB.out.f0 1
  have yyb0 : ((w7.setCell ⟨w4.heap.size, 0, none⟩ (.slice A7 a2 c7)).setCell ⟨w4.heap.size, 1, none⟩ (.slice B7 b2 d7)).cell? ⟨w4.heap.size, 0, none⟩ = some (.slice A7 a2 c7) := (YB.out.put).c0
  have yyb1 : ((w7.setCell ⟨w4.heap.size, 0, none⟩ (.slice A7 a2 c7)).setCell ⟨w4.heap.size, 1, none⟩ (.slice B7 b2 d7)).cell? ⟨w4.heap.size, 1, none⟩ = some (.slice B7 b2 d7) := (YB.out.put).c1
  go_wp2_with fail
  refine (tsame_u (X.out.past YB.out _ _) (Y.out.past YB.out _ _) L2.out.1 L2.out.2).mono ?_; rintro e0 w8 ⟨rfl, k8⟩
  have K := Lib.hid (Kp.tr ((K.out.setCell (p := ⟨w4.heap.size, 0, none⟩) lby _).setCell (p := ⟨w4.heap.size, 1, none⟩) lby _) k8)
  have T0B := Lib.hid ((T0B.out.other n0y _ _).kp k8)
  have T1B := Lib.hid ((T1B.out.other n1y _ _).kp k8)
  have XB := Lib.hid ((XB.out.other nxy _ _).kp k8)
  have YB := Lib.hid ((YB.out.put).kp k8)
  clear k8 zt0b0 zt0b1 zt0b2 zt0b3 zt1b0 zt1b1 zt1b2 zt1b3 zxb0 zxb1 zxb2 zxb3 zyb0 zyb1 zyb2 zyb3 yyb0 yyb1 X Y
  have zt0b0 := T0B.out.c0
  have zt0b1 := T0B.out.c1
  have zt0b2 := T0B.out.f0 0
  have zt0b3 := T0B.out.f0 1
  have zt1b0 := T1B.out.c0
  have zt1b1 := T1B.out.c1
  have zt1b2 := T1B.out.f0 0
  have zt1b3 := T1B.out.f0 1
  have zxb0 := XB.out.c0
  have zxb1 := XB.out.c1
  have zxb2 := XB.out.f0 0
  have zxb3 := XB.out.f0 1
  have zyb0 := YB.out.c0
  have zyb1 := YB.out.c1
  have zyb2 := YB.out.f0 0
  have zyb3 := YB.out.f0 1
  go_wp2_with fail
  refine (C3.out _ K.out).mono ?_; rintro e0 w9 ⟨A9, c9, B9, d9, rfl, r9, k9⟩
  have K := Lib.hid (Kp.tr K.out k9)
  have T0B := Lib.hid (T0B.out.kp k9)
  have T1B := Lib.hid (T1B.out.kp k9)
  have XB := Lib.hid (XB.out.kp k9)
  have YB := Lib.hid (YB.out.kp k9)
  have X := Lib.hid r9
  clear k9 r9 zt0b0 zt0b1 zt0b2 zt0b3 zt1b0 zt1b1 zt1b2 zt1b3 zxb0 zxb1 zxb2 zxb3 zyb0 zyb1 zyb2 zyb3
  have zt0b0 := T0B.out.c0
  have zt0b1 := T0B.out.c1
  have zt0b2 := T0B.out.f0 0
  have zt0b3 := T0B.out.f0 1
  have zt1b0 := T1B.out.c0
  have zt1b1 := T1B.out.c1
  have zt1b2 := T1B.out.f0 0
  have zt1b3 := T1B.out.f0 1
  have zxb0 := XB.out.c0
  have zxb1 := XB.out.c1
  have zxb2 := XB.out.f0 0
  have zxb3 := XB.out.f0 1
  have zyb0 := YB.out.c0
  have zyb1 := YB.out.c1
  have zyb2 := YB.out.f0 0
  have zyb3 := YB.out.f0 1
  have yxb0 : ((w9.setCell ⟨w3.heap.size, 0, none⟩ (.slice A9 a3 c9)).setCell ⟨w3.heap.size, 1, none⟩ (.slice B9 b3 d9)).cell? ⟨w3.heap.size, 0, none⟩ = some (.slice A9 a3 c9) := (XB.out.put).c0
  have yxb1 : ((w9.setCell ⟨w3.heap.size, 0, none⟩ (.slice A9 a3 c9)).setCell ⟨w3.heap.size, 1, none⟩ (.slice B9 b3 d9)).cell? ⟨w3.heap.size, 1, none⟩ = some (.slice B9 b3 d9) := (XB.out.put).c1
  go_wp2_with fail
  refine (D3.out _ ((K.out.setCell (p := ⟨w3.heap.size, 0, none⟩) lbx _).setCell (p := ⟨w3.heap.size, 1, none⟩) lbx _)).mono ?_; rintro e0 w10 ⟨A10, c10, B10, d10, rfl, r10, k10⟩
  have K := Lib.hid (Kp.tr ((K.out.setCell (p := ⟨w3.heap.size, 0, none⟩) lbx _).setCell (p := ⟨w3.heap.size, 1, none⟩) lbx _) k10)
  have X := Lib.hid ((X.out.past XB.out _ _).kp k10)
  have T0B := Lib.hid ((T0B.out.other n0x _ _).kp k10)
  have T1B := Lib.hid ((T1B.out.other n1x _ _).kp k10)
  have YB := Lib.hid ((YB.out.other nyx _ _).kp k10)
  have XB := Lib.hid ((XB.out.put).kp k10)
  have Y := Lib.hid r10
  clear k10 r10 zt0b0 zt0b1 zt0b2 zt0b3 zt1b0 zt1b1 zt1b2 zt1b3 zxb0 zxb1 zxb2 zxb3 zyb0 zyb1 zyb2 zyb3 yxb0 yxb1
  have zt0b0 := T0B.out.c0
  have zt0b1 := T0B.out.c1
  have zt0b2 := T0B.out.f0 0
  have zt0b3 := T0B.out.f0 1
  have zt1b0 := T1B.out.c0
  have zt1b1 := T1B.out.c1
  have zt1b2 := T1B.out.f0 0
  have zt1b3 := T1B.out.f0 1
  have zxb0 := XB.out.c0
  have zxb1 := XB.out.c1
  have zxb2 := XB.out.f0 0
  have zxb3 := XB.out.f0 1
  have zyb0 := YB.out.c0
  have zyb1 := YB.out.c1
  have zyb2 := YB.out.f0 0
  have zyb3 := YB.out.f0 1
  have yyb0 : ((w10.setCell ⟨w4.heap.size, 0, none⟩ (.slice A10 a3 c10)).setCell ⟨w4.heap.size, 1, none⟩ (.slice B10 b3 d10)).cell? ⟨w4.heap.size, 0, none⟩ = some (.slice A10 a3 c10) := (YB.out.put).c0
  have yyb1 : ((w10.setCell ⟨w4.heap.size, 0, none⟩ (.slice A10 a3 c10)).setCell ⟨w4.heap.size, 1, none⟩ (.slice B10 b3 d10)).cell? ⟨w4.heap.size, 1, none⟩ = some (.slice B10 b3 d10) := (YB.out.put).c1
  go_wp2_with fail
  refine (tsame_u (X.out.past YB.out _ _) (Y.out.past YB.out _ _) L3.out.1 L3.out.2).mono ?_; rintro e0 w11 ⟨rfl, k11⟩
  have K := Lib.hid (Kp.tr ((K.out.setCell (p := ⟨w4.heap.size, 0, none⟩) lby _).setCell (p := ⟨w4.heap.size, 1, none⟩) lby _) k11)
  have T0B := Lib.hid ((T0B.out.other n0y _ _).kp k11)
  have T1B := Lib.hid ((T1B.out.other n1y _ _).kp k11)
  have XB := Lib.hid ((XB.out.other nxy _ _).kp k11)
  have YB := Lib.hid ((YB.out.put).kp k11)
  clear k11 zt0b0 zt0b1 zt0b2 zt0b3 zt1b0 zt1b1 zt1b2 zt1b3 zxb0 zxb1 zxb2 zxb3 zyb0 zyb1 zyb2 zyb3 yyb0 yyb1 X Y
  have zt0b0 := T0B.out.c0
  have zt0b1 := T0B.out.c1
  have zt0b2 := T0B.out.f0 0
  have zt0b3 := T0B.out.f0 1
  have zt1b0 := T1B.out.c0
  have zt1b1 := T1B.out.c1
  have zt1b2 := T1B.out.f0 0
  have zt1b3 := T1B.out.f0 1
  have zxb0 := XB.out.c0
  have zxb1 := XB.out.c1
  have zxb2 := XB.out.f0 0
  have zxb3 := XB.out.f0 1
  have zyb0 := YB.out.c0
  have zyb1 := YB.out.c1
  have zyb2 := YB.out.f0 0
  have zyb3 := YB.out.f0 1
  go_wp2
  go_ret
  exact ⟨rfl, K.out⟩

theorem mtells_walk (A B C D : Option Addr) (c d e f : Nat) (s xs t ys : List Int) (w : World) (R0 : TR w A s B xs) (I0 : I64s xs) (R1 : TR w C t D ys) (I1 : I64s ys) :
    Calls Try.prog 3 #[.agg #[.slice A s.length c, .slice B xs.length d], .agg #[.slice C t.length e, .slice D ys.length f]] w fun e w' => e = .returned (.bool true) ∧ Kp w w' := by
  by_cases f0 : 100 < s.length ∨ 100 < xs.length
  · exact mtells_f0 A B C D _ c _ d _ e _ f w R0.s.len R0.d.len f0
  by_cases f1 : 100 < t.length ∨ 100 < ys.length
  · exact mtells_f1 A B C D _ c _ d _ e _ f w (by omega) (by omega) R1.s.len R1.d.len f1
  obtain ⟨l1, k1, e1, r1⟩ : ∃ l k e, matV s xs t ys = (l, k, e) := ⟨_, _, _, rfl⟩
  obtain ⟨l2, k2, e2, r2⟩ : ∃ l k e, leftV s xs t ys = (l, k, e) := ⟨_, _, _, rfl⟩
  obtain ⟨l3, k3, e3, r3⟩ : ∃ l k e, rightV s xs t ys = (l, k, e) := ⟨_, _, _, rfl⟩
  exact mtells_with A B C D _ c _ d _ e _ f w (by omega) (by omega) (by omega) (by omega) l1 k1 l2 k2 l3 k3 _ _ _ _ _ _ e1 e2 e3 (Lib.hid ⟨rfl, rfl⟩) (Lib.hid ⟨rfl, rfl⟩) (Lib.hid ⟨rfl, rfl⟩)
    (Lib.hid fun W k => pmat_u s xs t ys (R0.kp k) (R1.kp k) I0 I1 rfl rfl rfl rfl r1 rfl rfl) (Lib.hid fun W k => rmat_u s xs t ys (R0.kp k) (R1.kp k) I0 I1 rfl rfl rfl rfl r1 rfl rfl)
    (Lib.hid fun W k => pleft_u s xs t ys (R0.kp k) (R1.kp k) I0 I1 rfl rfl rfl rfl r2 rfl rfl) (Lib.hid fun W k => rleft_u s xs t ys (R0.kp k) (R1.kp k) I0 I1 rfl rfl rfl rfl r2 rfl rfl)
    (Lib.hid fun W k => pright_u s xs t ys (R0.kp k) (R1.kp k) I0 I1 rfl rfl rfl rfl r3 rfl rfl) (Lib.hid fun W k => rright_u s xs t ys (R0.kp k) (R1.kp k) I0 I1 rfl rfl rfl rfl r3 rfl rfl)
end Go.Proofs.Ytepnhmdjglpmeaa
