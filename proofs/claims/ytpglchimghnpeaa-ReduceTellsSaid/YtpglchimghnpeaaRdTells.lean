/- Any side of any tensor, added, its middle, its greatest number, and where that is, and a side that is there again, are the document's: the law's call returns true. -/
import Derived.Test.YtpglchimghnpeaaRdAw
namespace Go.Proofs.Ytpglchimghnpeaa
open Go.RowKit Go.Proofs.ShM
set_option linter.unusedVariables false
set_option linter.unusedSimpArgs false

set_option maxHeartbeats 8000000 in
set_option maxRecDepth 100000 in
theorem rtells_f0 (A B : Option Addr) (n c m d : Nat) (q1 q2 : Int) (w : World) (zn : n ≤ 9223372036854775807) (zm : m ≤ 9223372036854775807) (hf : 100 < n ∨ 100 < m) :
    Calls Try.prog 3 #[.agg #[.slice A n c, .slice B m d], .int .i64 q1, .int .i64 q2] w fun e w' => e = .returned (.bool true) ∧ Kp w w' := by
  have HN : Hid (∀ W, Calls Try.prog 7 #[.agg #[.slice A n c, .slice B m d]] W fun e w' => e = .returned (.bool false) ∧ Kp W w') := fun W => few_no zn zm hf
  clear hf
  go_enter Try.func3, Try.ntmps3
  go_wp2_with fail
  refine (rdawake_any _).mono ?_; rintro e0 w0 ⟨rfl, k0⟩
  have K := Lib.hid ((Kp.alloc_ _ _).tr k0)
  have T0B : Hid (Bk w0 (w.heap.size) A n c B m d) := (Bk.new rfl).kp k0
  clear k0
  have zt0b0 := T0B.out.c0
  have zt0b1 := T0B.out.c1
  have zt0b2 := T0B.out.lt
  go_wp2_with fail
  refine (HN.out _).mono ?_; rintro e0 w1 ⟨rfl, k1⟩
  have K := Lib.hid (K.out.tr k1)
  have T0B := Lib.hid (T0B.out.kp k1)
  clear k1 zt0b0 zt0b1 zt0b2
  have zt0b0 := T0B.out.c0
  have zt0b1 := T0B.out.c1
  have zt0b2 := T0B.out.lt
  go_wp2
  go_ret
  exact ⟨rfl, K.out⟩

set_option maxHeartbeats 8000000 in
set_option maxRecDepth 100000 in
theorem rtells_with (A B : Option Addr) (n c m d : Nat) (q1 q2 : Int) (w : World) (hn : n ≤ 100) (hm : m ≤ 100) (l1 k1 l2 k2 l3 k3 l4 k4 l5 k5 : List Int) (a1 b1 a2 b2 a3 b3 a4 b4 a5 b5 : Nat) (e1 e2 e3 e4 e5 : Int)
    (L1 : Hid (l1.length = a1 ∧ k1.length = b1)) (L2 : Hid (l2.length = a2 ∧ k2.length = b2)) (L3 : Hid (l3.length = a3 ∧ k3.length = b3)) (L4 : Hid (l4.length = a4 ∧ k4.length = b4)) (L5 : Hid (l5.length = a5 ∧ k5.length = b5))
    (C1 : Hid (∀ W, Kp w W → Calls Try.prog 8 #[.agg #[.slice A n c, .slice B m d], .int .i64 q1] W (RetU l1 k1 a1 b1 e1 W)))
    (D1 : Hid (∀ W, Kp w W → Calls Try.prog 9 #[.agg #[.slice A n c, .slice B m d], .int .i64 q1] W (RetU l1 k1 a1 b1 e1 W)))
    (C2 : Hid (∀ W, Kp w W → Calls Try.prog 11 #[.agg #[.slice A n c, .slice B m d], .int .i64 q1] W (RetU l2 k2 a2 b2 e2 W)))
    (D2 : Hid (∀ W, Kp w W → Calls Try.prog 12 #[.agg #[.slice A n c, .slice B m d], .int .i64 q1] W (RetU l2 k2 a2 b2 e2 W)))
    (C3 : Hid (∀ W, Kp w W → Calls Try.prog 13 #[.agg #[.slice A n c, .slice B m d], .int .i64 q1] W (RetU l3 k3 a3 b3 e3 W)))
    (D3 : Hid (∀ W, Kp w W → Calls Try.prog 14 #[.agg #[.slice A n c, .slice B m d], .int .i64 q1] W (RetU l3 k3 a3 b3 e3 W)))
    (C4 : Hid (∀ W, Kp w W → Calls Try.prog 15 #[.agg #[.slice A n c, .slice B m d], .int .i64 q1] W (RetU l4 k4 a4 b4 e4 W)))
    (D4 : Hid (∀ W, Kp w W → Calls Try.prog 16 #[.agg #[.slice A n c, .slice B m d], .int .i64 q1] W (RetU l4 k4 a4 b4 e4 W)))
    (C5 : Hid (∀ W, Kp w W → Calls Try.prog 17 #[.agg #[.slice A n c, .slice B m d], .int .i64 q1, .int .i64 q2] W (RetU l5 k5 a5 b5 e5 W)))
    (D5 : Hid (∀ W, Kp w W → Calls Try.prog 18 #[.agg #[.slice A n c, .slice B m d], .int .i64 q1, .int .i64 q2] W (RetU l5 k5 a5 b5 e5 W))) :
    Calls Try.prog 3 #[.agg #[.slice A n c, .slice B m d], .int .i64 q1, .int .i64 q2] w fun e w' => e = .returned (.bool true) ∧ Kp w w' := by
  go_enter Try.func3, Try.ntmps3
  go_wp2_with fail
  refine (rdawake_any _).mono ?_; rintro e0 w0 ⟨rfl, k0⟩
  have K := Lib.hid ((Kp.alloc_ _ _).tr k0)
  have T0B : Hid (Bk w0 (w.heap.size) A n c B m d) := (Bk.new rfl).kp k0
  clear k0
  have zt0b0 := T0B.out.c0
  have zt0b1 := T0B.out.c1
  have zt0b2 := T0B.out.lt
  go_wp2_with fail
  refine (few_yes hn hm).mono ?_; rintro e0 w1 ⟨rfl, k1⟩
  have K := Lib.hid (K.out.tr k1)
  have T0B := Lib.hid (T0B.out.kp k1)
  clear k1 zt0b0 zt0b1 zt0b2
  have zt0b0 := T0B.out.c0
  have zt0b1 := T0B.out.c1
  have zt0b2 := T0B.out.lt
  go_wp2_with fail
  refine (C1.out _ K.out).mono ?_; rintro e0 w2 ⟨A2, c2, B2, d2, rfl, r2, k2⟩
  have K := Lib.hid (K.out.tr k2)
  have T0B := Lib.hid (T0B.out.kp k2)
  have X := Lib.hid r2
  clear k2 r2 zt0b0 zt0b1 zt0b2
  have zt0b0 := T0B.out.c0
  have zt0b1 := T0B.out.c1
  have zt0b2 := T0B.out.lt
  have HB2 : Hid (w.heap.size + 1 ≤ w2.heap.size) := T0B.out.lt
  go_wp2_with fail
  refine (D1.out _ (K.out.al _)).mono ?_; rintro e0 w3 ⟨A3, c3, B3, d3, rfl, r3, k3⟩
  have K := Lib.hid ((K.out.al _).tr k3)
  have T0B := Lib.hid ((T0B.out.alloc_ _).kp k3)
  have X := Lib.hid ((X.out.alloc_ _).kp k3)
  have XB : Hid (Bk w3 w2.heap.size A2 a1 c2 B2 b1 d2) := (Bk.new rfl).kp k3
  have Y := Lib.hid r3
  clear k3 r3 zt0b0 zt0b1 zt0b2
  have zt0b0 := T0B.out.c0
  have zt0b1 := T0B.out.c1
  have zt0b2 := T0B.out.lt
  have zxb0 := XB.out.c0
  have zxb1 := XB.out.c1
  have zxb2 := XB.out.lt
  have HXY : Hid (w2.heap.size < w3.heap.size) := XB.out.lt
  go_wp2_with fail
  refine (tsame_u (X.out.alloc_ _) (Y.out.alloc_ _) L1.out.1 L1.out.2).mono ?_; rintro e0 w4 ⟨rfl, k4⟩
  have K := Lib.hid ((K.out.al _).tr k4)
  have T0B := Lib.hid ((T0B.out.alloc_ _).kp k4)
  have XB := Lib.hid ((XB.out.alloc_ _).kp k4)
  have YB : Hid (Bk w4 w3.heap.size A3 a1 c3 B3 b1 d3) := (Bk.new rfl).kp k4
  clear k4 zt0b0 zt0b1 zt0b2 zxb0 zxb1 zxb2 X Y
  have zt0b0 := T0B.out.c0
  have zt0b1 := T0B.out.c1
  have zt0b2 := T0B.out.lt
  have zxb0 := XB.out.c0
  have zxb1 := XB.out.c1
  have zxb2 := XB.out.lt
  have zyb0 := YB.out.c0
  have zyb1 := YB.out.c1
  have zyb2 := YB.out.lt
  clear zt0b0 zt0b1 zt0b2 zxb0 zxb1 zxb2 zyb0 zyb1 zyb2
  have hbx : w.heap.size + 1 ≤ w2.heap.size := HB2.out
  have hxy : w2.heap.size < w3.heap.size := HXY.out
  have n0x : w.heap.size ≠ w2.heap.size := by omega
  have nyx : w3.heap.size ≠ w2.heap.size := by omega
  have n0y : w.heap.size ≠ w3.heap.size := by omega
  have nxy : w2.heap.size ≠ w3.heap.size := by omega
  have lbx : w.heap.size ≤ w2.heap.size := by omega
  have lby : w.heap.size ≤ w3.heap.size := by omega
  have zt0b0 := T0B.out.c0
  have zt0b1 := T0B.out.c1
  have zt0b2 := T0B.out.lt
  have zxb0 := XB.out.c0
  have zxb1 := XB.out.c1
  have zxb2 := XB.out.lt
  have zyb0 := YB.out.c0
  have zyb1 := YB.out.c1
  have zyb2 := YB.out.lt
  go_wp2_with fail
  refine (C2.out _ K.out).mono ?_; rintro e0 w5 ⟨A5, c5, B5, d5, rfl, r5, k5⟩
  have K := Lib.hid (Kp.tr K.out k5)
  have T0B := Lib.hid (T0B.out.kp k5)
  have XB := Lib.hid (XB.out.kp k5)
  have YB := Lib.hid (YB.out.kp k5)
  have X := Lib.hid r5
  clear k5 r5 zt0b0 zt0b1 zt0b2 zxb0 zxb1 zxb2 zyb0 zyb1 zyb2
  have zt0b0 := T0B.out.c0
  have zt0b1 := T0B.out.c1
  have zt0b2 := T0B.out.f0 0
  have zt0b3 := T0B.out.f0 1
  have zxb0 := XB.out.c0
  have zxb1 := XB.out.c1
  have zxb2 := XB.out.f0 0
  have zxb3 := XB.out.f0 1
  have zyb0 := YB.out.c0
  have zyb1 := YB.out.c1
  have zyb2 := YB.out.f0 0
  have zyb3 := YB.out.f0 1
  have yxb0 : ((w5.setCell ⟨w2.heap.size, 0, none⟩ (.slice A5 a2 c5)).setCell ⟨w2.heap.size, 1, none⟩ (.slice B5 b2 d5)).cell? ⟨w2.heap.size, 0, none⟩ = some (.slice A5 a2 c5) := (XB.out.put).c0
  have yxb1 : ((w5.setCell ⟨w2.heap.size, 0, none⟩ (.slice A5 a2 c5)).setCell ⟨w2.heap.size, 1, none⟩ (.slice B5 b2 d5)).cell? ⟨w2.heap.size, 1, none⟩ = some (.slice B5 b2 d5) := (XB.out.put).c1
  go_wp2_with fail
  refine (D2.out _ ((K.out.setCell (p := ⟨w2.heap.size, 0, none⟩) lbx _).setCell (p := ⟨w2.heap.size, 1, none⟩) lbx _)).mono ?_; rintro e0 w6 ⟨A6, c6, B6, d6, rfl, r6, k6⟩
  have K := Lib.hid (Kp.tr ((K.out.setCell (p := ⟨w2.heap.size, 0, none⟩) lbx _).setCell (p := ⟨w2.heap.size, 1, none⟩) lbx _) k6)
  have X := Lib.hid ((X.out.past XB.out _ _).kp k6)
  have T0B := Lib.hid ((T0B.out.other n0x _ _).kp k6)
  have YB := Lib.hid ((YB.out.other nyx _ _).kp k6)
  have XB := Lib.hid ((XB.out.put).kp k6)
  have Y := Lib.hid r6
  clear k6 r6 zt0b0 zt0b1 zt0b2 zt0b3 zxb0 zxb1 zxb2 zxb3 zyb0 zyb1 zyb2 zyb3 yxb0 yxb1
  have zt0b0 := T0B.out.c0
  have zt0b1 := T0B.out.c1
  have zt0b2 := T0B.out.f0 0
  have zt0b3 := T0B.out.f0 1
  have zxb0 := XB.out.c0
  have zxb1 := XB.out.c1
  have zxb2 := XB.out.f0 0
  have zxb3 := XB.out.f0 1
  have zyb0 := YB.out.c0
  have zyb1 := YB.out.c1
  have zyb2 := YB.out.f0 0
  have zyb3 := YB.out.f0 1
  have yyb0 : ((w6.setCell ⟨w3.heap.size, 0, none⟩ (.slice A6 a2 c6)).setCell ⟨w3.heap.size, 1, none⟩ (.slice B6 b2 d6)).cell? ⟨w3.heap.size, 0, none⟩ = some (.slice A6 a2 c6) := (YB.out.put).c0
  have yyb1 : ((w6.setCell ⟨w3.heap.size, 0, none⟩ (.slice A6 a2 c6)).setCell ⟨w3.heap.size, 1, none⟩ (.slice B6 b2 d6)).cell? ⟨w3.heap.size, 1, none⟩ = some (.slice B6 b2 d6) := (YB.out.put).c1
  go_wp2_with fail
  refine (tsame_u (X.out.past YB.out _ _) (Y.out.past YB.out _ _) L2.out.1 L2.out.2).mono ?_; rintro e0 w7 ⟨rfl, k7⟩
  have K := Lib.hid (Kp.tr ((K.out.setCell (p := ⟨w3.heap.size, 0, none⟩) lby _).setCell (p := ⟨w3.heap.size, 1, none⟩) lby _) k7)
  have T0B := Lib.hid ((T0B.out.other n0y _ _).kp k7)
  have XB := Lib.hid ((XB.out.other nxy _ _).kp k7)
  have YB := Lib.hid ((YB.out.put).kp k7)
  clear k7 zt0b0 zt0b1 zt0b2 zt0b3 zxb0 zxb1 zxb2 zxb3 zyb0 zyb1 zyb2 zyb3 yyb0 yyb1 X Y
  have zt0b0 := T0B.out.c0
  have zt0b1 := T0B.out.c1
  have zt0b2 := T0B.out.f0 0
  have zt0b3 := T0B.out.f0 1
  have zxb0 := XB.out.c0
  have zxb1 := XB.out.c1
  have zxb2 := XB.out.f0 0
  have zxb3 := XB.out.f0 1
  have zyb0 := YB.out.c0
  have zyb1 := YB.out.c1
  have zyb2 := YB.out.f0 0
  have zyb3 := YB.out.f0 1
  go_wp2_with fail
  refine (C3.out _ K.out).mono ?_; rintro e0 w8 ⟨A8, c8, B8, d8, rfl, r8, k8⟩
  have K := Lib.hid (Kp.tr K.out k8)
  have T0B := Lib.hid (T0B.out.kp k8)
  have XB := Lib.hid (XB.out.kp k8)
  have YB := Lib.hid (YB.out.kp k8)
  have X := Lib.hid r8
  clear k8 r8 zt0b0 zt0b1 zt0b2 zt0b3 zxb0 zxb1 zxb2 zxb3 zyb0 zyb1 zyb2 zyb3
  have zt0b0 := T0B.out.c0
  have zt0b1 := T0B.out.c1
  have zt0b2 := T0B.out.f0 0
  have zt0b3 := T0B.out.f0 1
  have zxb0 := XB.out.c0
  have zxb1 := XB.out.c1
  have zxb2 := XB.out.f0 0
  have zxb3 := XB.out.f0 1
  have zyb0 := YB.out.c0
  have zyb1 := YB.out.c1
  have zyb2 := YB.out.f0 0
  have zyb3 := YB.out.f0 1
  have yxb0 : ((w8.setCell ⟨w2.heap.size, 0, none⟩ (.slice A8 a3 c8)).setCell ⟨w2.heap.size, 1, none⟩ (.slice B8 b3 d8)).cell? ⟨w2.heap.size, 0, none⟩ = some (.slice A8 a3 c8) := (XB.out.put).c0
  have yxb1 : ((w8.setCell ⟨w2.heap.size, 0, none⟩ (.slice A8 a3 c8)).setCell ⟨w2.heap.size, 1, none⟩ (.slice B8 b3 d8)).cell? ⟨w2.heap.size, 1, none⟩ = some (.slice B8 b3 d8) := (XB.out.put).c1
  go_wp2_with fail
  refine (D3.out _ ((K.out.setCell (p := ⟨w2.heap.size, 0, none⟩) lbx _).setCell (p := ⟨w2.heap.size, 1, none⟩) lbx _)).mono ?_; rintro e0 w9 ⟨A9, c9, B9, d9, rfl, r9, k9⟩
  have K := Lib.hid (Kp.tr ((K.out.setCell (p := ⟨w2.heap.size, 0, none⟩) lbx _).setCell (p := ⟨w2.heap.size, 1, none⟩) lbx _) k9)
  have X := Lib.hid ((X.out.past XB.out _ _).kp k9)
  have T0B := Lib.hid ((T0B.out.other n0x _ _).kp k9)
  have YB := Lib.hid ((YB.out.other nyx _ _).kp k9)
  have XB := Lib.hid ((XB.out.put).kp k9)
  have Y := Lib.hid r9
  clear k9 r9 zt0b0 zt0b1 zt0b2 zt0b3 zxb0 zxb1 zxb2 zxb3 zyb0 zyb1 zyb2 zyb3 yxb0 yxb1
  have zt0b0 := T0B.out.c0
  have zt0b1 := T0B.out.c1
  have zt0b2 := T0B.out.f0 0
  have zt0b3 := T0B.out.f0 1
  have zxb0 := XB.out.c0
  have zxb1 := XB.out.c1
  have zxb2 := XB.out.f0 0
  have zxb3 := XB.out.f0 1
  have zyb0 := YB.out.c0
  have zyb1 := YB.out.c1
  have zyb2 := YB.out.f0 0
  have zyb3 := YB.out.f0 1
  have yyb0 : ((w9.setCell ⟨w3.heap.size, 0, none⟩ (.slice A9 a3 c9)).setCell ⟨w3.heap.size, 1, none⟩ (.slice B9 b3 d9)).cell? ⟨w3.heap.size, 0, none⟩ = some (.slice A9 a3 c9) := (YB.out.put).c0
  have yyb1 : ((w9.setCell ⟨w3.heap.size, 0, none⟩ (.slice A9 a3 c9)).setCell ⟨w3.heap.size, 1, none⟩ (.slice B9 b3 d9)).cell? ⟨w3.heap.size, 1, none⟩ = some (.slice B9 b3 d9) := (YB.out.put).c1
  go_wp2_with fail
  refine (tsame_u (X.out.past YB.out _ _) (Y.out.past YB.out _ _) L3.out.1 L3.out.2).mono ?_; rintro e0 w10 ⟨rfl, k10⟩
  have K := Lib.hid (Kp.tr ((K.out.setCell (p := ⟨w3.heap.size, 0, none⟩) lby _).setCell (p := ⟨w3.heap.size, 1, none⟩) lby _) k10)
  have T0B := Lib.hid ((T0B.out.other n0y _ _).kp k10)
  have XB := Lib.hid ((XB.out.other nxy _ _).kp k10)
  have YB := Lib.hid ((YB.out.put).kp k10)
  clear k10 zt0b0 zt0b1 zt0b2 zt0b3 zxb0 zxb1 zxb2 zxb3 zyb0 zyb1 zyb2 zyb3 yyb0 yyb1 X Y
  have zt0b0 := T0B.out.c0
  have zt0b1 := T0B.out.c1
  have zt0b2 := T0B.out.f0 0
  have zt0b3 := T0B.out.f0 1
  have zxb0 := XB.out.c0
  have zxb1 := XB.out.c1
  have zxb2 := XB.out.f0 0
  have zxb3 := XB.out.f0 1
  have zyb0 := YB.out.c0
  have zyb1 := YB.out.c1
  have zyb2 := YB.out.f0 0
  have zyb3 := YB.out.f0 1
  go_wp2_with fail
  refine (C4.out _ K.out).mono ?_; rintro e0 w11 ⟨A11, c11, B11, d11, rfl, r11, k11⟩
  have K := Lib.hid (Kp.tr K.out k11)
  have T0B := Lib.hid (T0B.out.kp k11)
  have XB := Lib.hid (XB.out.kp k11)
  have YB := Lib.hid (YB.out.kp k11)
  have X := Lib.hid r11
  clear k11 r11 zt0b0 zt0b1 zt0b2 zt0b3 zxb0 zxb1 zxb2 zxb3 zyb0 zyb1 zyb2 zyb3
  have zt0b0 := T0B.out.c0
  have zt0b1 := T0B.out.c1
  have zt0b2 := T0B.out.f0 0
  have zt0b3 := T0B.out.f0 1
  have zxb0 := XB.out.c0
  have zxb1 := XB.out.c1
  have zxb2 := XB.out.f0 0
  have zxb3 := XB.out.f0 1
  have zyb0 := YB.out.c0
  have zyb1 := YB.out.c1
  have zyb2 := YB.out.f0 0
  have zyb3 := YB.out.f0 1
  have yxb0 : ((w11.setCell ⟨w2.heap.size, 0, none⟩ (.slice A11 a4 c11)).setCell ⟨w2.heap.size, 1, none⟩ (.slice B11 b4 d11)).cell? ⟨w2.heap.size, 0, none⟩ = some (.slice A11 a4 c11) := (XB.out.put).c0
  have yxb1 : ((w11.setCell ⟨w2.heap.size, 0, none⟩ (.slice A11 a4 c11)).setCell ⟨w2.heap.size, 1, none⟩ (.slice B11 b4 d11)).cell? ⟨w2.heap.size, 1, none⟩ = some (.slice B11 b4 d11) := (XB.out.put).c1
  go_wp2_with fail
  refine (D4.out _ ((K.out.setCell (p := ⟨w2.heap.size, 0, none⟩) lbx _).setCell (p := ⟨w2.heap.size, 1, none⟩) lbx _)).mono ?_; rintro e0 w12 ⟨A12, c12, B12, d12, rfl, r12, k12⟩
  have K := Lib.hid (Kp.tr ((K.out.setCell (p := ⟨w2.heap.size, 0, none⟩) lbx _).setCell (p := ⟨w2.heap.size, 1, none⟩) lbx _) k12)
  have X := Lib.hid ((X.out.past XB.out _ _).kp k12)
  have T0B := Lib.hid ((T0B.out.other n0x _ _).kp k12)
  have YB := Lib.hid ((YB.out.other nyx _ _).kp k12)
  have XB := Lib.hid ((XB.out.put).kp k12)
  have Y := Lib.hid r12
  clear k12 r12 zt0b0 zt0b1 zt0b2 zt0b3 zxb0 zxb1 zxb2 zxb3 zyb0 zyb1 zyb2 zyb3 yxb0 yxb1
  have zt0b0 := T0B.out.c0
  have zt0b1 := T0B.out.c1
  have zt0b2 := T0B.out.f0 0
  have zt0b3 := T0B.out.f0 1
  have zxb0 := XB.out.c0
  have zxb1 := XB.out.c1
  have zxb2 := XB.out.f0 0
  have zxb3 := XB.out.f0 1
  have zyb0 := YB.out.c0
  have zyb1 := YB.out.c1
  have zyb2 := YB.out.f0 0
  have zyb3 := YB.out.f0 1
  have yyb0 : ((w12.setCell ⟨w3.heap.size, 0, none⟩ (.slice A12 a4 c12)).setCell ⟨w3.heap.size, 1, none⟩ (.slice B12 b4 d12)).cell? ⟨w3.heap.size, 0, none⟩ = some (.slice A12 a4 c12) := (YB.out.put).c0
  have yyb1 : ((w12.setCell ⟨w3.heap.size, 0, none⟩ (.slice A12 a4 c12)).setCell ⟨w3.heap.size, 1, none⟩ (.slice B12 b4 d12)).cell? ⟨w3.heap.size, 1, none⟩ = some (.slice B12 b4 d12) := (YB.out.put).c1
  go_wp2_with fail
  refine (tsame_u (X.out.past YB.out _ _) (Y.out.past YB.out _ _) L4.out.1 L4.out.2).mono ?_; rintro e0 w13 ⟨rfl, k13⟩
  have K := Lib.hid (Kp.tr ((K.out.setCell (p := ⟨w3.heap.size, 0, none⟩) lby _).setCell (p := ⟨w3.heap.size, 1, none⟩) lby _) k13)
  have T0B := Lib.hid ((T0B.out.other n0y _ _).kp k13)
  have XB := Lib.hid ((XB.out.other nxy _ _).kp k13)
  have YB := Lib.hid ((YB.out.put).kp k13)
  clear k13 zt0b0 zt0b1 zt0b2 zt0b3 zxb0 zxb1 zxb2 zxb3 zyb0 zyb1 zyb2 zyb3 yyb0 yyb1 X Y
  have zt0b0 := T0B.out.c0
  have zt0b1 := T0B.out.c1
  have zt0b2 := T0B.out.f0 0
  have zt0b3 := T0B.out.f0 1
  have zxb0 := XB.out.c0
  have zxb1 := XB.out.c1
  have zxb2 := XB.out.f0 0
  have zxb3 := XB.out.f0 1
  have zyb0 := YB.out.c0
  have zyb1 := YB.out.c1
  have zyb2 := YB.out.f0 0
  have zyb3 := YB.out.f0 1
  go_wp2_with fail
  refine (C5.out _ K.out).mono ?_; rintro e0 w14 ⟨A14, c14, B14, d14, rfl, r14, k14⟩
  have K := Lib.hid (Kp.tr K.out k14)
  have T0B := Lib.hid (T0B.out.kp k14)
  have XB := Lib.hid (XB.out.kp k14)
  have YB := Lib.hid (YB.out.kp k14)
  have X := Lib.hid r14
  clear k14 r14 zt0b0 zt0b1 zt0b2 zt0b3 zxb0 zxb1 zxb2 zxb3 zyb0 zyb1 zyb2 zyb3
  have zt0b0 := T0B.out.c0
  have zt0b1 := T0B.out.c1
  have zt0b2 := T0B.out.f0 0
  have zt0b3 := T0B.out.f0 1
  have zxb0 := XB.out.c0
  have zxb1 := XB.out.c1
  have zxb2 := XB.out.f0 0
  have zxb3 := XB.out.f0 1
  have zyb0 := YB.out.c0
  have zyb1 := YB.out.c1
  have zyb2 := YB.out.f0 0
  have zyb3 := YB.out.f0 1
  have yxb0 : ((w14.setCell ⟨w2.heap.size, 0, none⟩ (.slice A14 a5 c14)).setCell ⟨w2.heap.size, 1, none⟩ (.slice B14 b5 d14)).cell? ⟨w2.heap.size, 0, none⟩ = some (.slice A14 a5 c14) := (XB.out.put).c0
  have yxb1 : ((w14.setCell ⟨w2.heap.size, 0, none⟩ (.slice A14 a5 c14)).setCell ⟨w2.heap.size, 1, none⟩ (.slice B14 b5 d14)).cell? ⟨w2.heap.size, 1, none⟩ = some (.slice B14 b5 d14) := (XB.out.put).c1
  go_wp2_with fail
  refine (D5.out _ ((K.out.setCell (p := ⟨w2.heap.size, 0, none⟩) lbx _).setCell (p := ⟨w2.heap.size, 1, none⟩) lbx _)).mono ?_; rintro e0 w15 ⟨A15, c15, B15, d15, rfl, r15, k15⟩
  have K := Lib.hid (Kp.tr ((K.out.setCell (p := ⟨w2.heap.size, 0, none⟩) lbx _).setCell (p := ⟨w2.heap.size, 1, none⟩) lbx _) k15)
  have X := Lib.hid ((X.out.past XB.out _ _).kp k15)
  have T0B := Lib.hid ((T0B.out.other n0x _ _).kp k15)
  have YB := Lib.hid ((YB.out.other nyx _ _).kp k15)
  have XB := Lib.hid ((XB.out.put).kp k15)
  have Y := Lib.hid r15
  clear k15 r15 zt0b0 zt0b1 zt0b2 zt0b3 zxb0 zxb1 zxb2 zxb3 zyb0 zyb1 zyb2 zyb3 yxb0 yxb1
  have zt0b0 := T0B.out.c0
  have zt0b1 := T0B.out.c1
  have zt0b2 := T0B.out.f0 0
  have zt0b3 := T0B.out.f0 1
  have zxb0 := XB.out.c0
  have zxb1 := XB.out.c1
  have zxb2 := XB.out.f0 0
  have zxb3 := XB.out.f0 1
  have zyb0 := YB.out.c0
  have zyb1 := YB.out.c1
  have zyb2 := YB.out.f0 0
  have zyb3 := YB.out.f0 1
  have yyb0 : ((w15.setCell ⟨w3.heap.size, 0, none⟩ (.slice A15 a5 c15)).setCell ⟨w3.heap.size, 1, none⟩ (.slice B15 b5 d15)).cell? ⟨w3.heap.size, 0, none⟩ = some (.slice A15 a5 c15) := (YB.out.put).c0
  have yyb1 : ((w15.setCell ⟨w3.heap.size, 0, none⟩ (.slice A15 a5 c15)).setCell ⟨w3.heap.size, 1, none⟩ (.slice B15 b5 d15)).cell? ⟨w3.heap.size, 1, none⟩ = some (.slice B15 b5 d15) := (YB.out.put).c1
  go_wp2_with fail
  refine (tsame_u (X.out.past YB.out _ _) (Y.out.past YB.out _ _) L5.out.1 L5.out.2).mono ?_; rintro e0 w16 ⟨rfl, k16⟩
  have K := Lib.hid (Kp.tr ((K.out.setCell (p := ⟨w3.heap.size, 0, none⟩) lby _).setCell (p := ⟨w3.heap.size, 1, none⟩) lby _) k16)
  have T0B := Lib.hid ((T0B.out.other n0y _ _).kp k16)
  have XB := Lib.hid ((XB.out.other nxy _ _).kp k16)
  have YB := Lib.hid ((YB.out.put).kp k16)
  clear k16 zt0b0 zt0b1 zt0b2 zt0b3 zxb0 zxb1 zxb2 zxb3 zyb0 zyb1 zyb2 zyb3 yyb0 yyb1 X Y
  have zt0b0 := T0B.out.c0
  have zt0b1 := T0B.out.c1
  have zt0b2 := T0B.out.f0 0
  have zt0b3 := T0B.out.f0 1
  have zxb0 := XB.out.c0
  have zxb1 := XB.out.c1
  have zxb2 := XB.out.f0 0
  have zxb3 := XB.out.f0 1
  have zyb0 := YB.out.c0
  have zyb1 := YB.out.c1
  have zyb2 := YB.out.f0 0
  have zyb3 := YB.out.f0 1
  go_wp2
  go_ret
  exact ⟨rfl, K.out⟩

theorem rtells_walk (A B : Option Addr) (c d : Nat) (q1 q2 : Int) (s xs : List Int) (w : World) (R0 : TR w A s B xs) (I0 : I64s xs) (HC : Hid (s.length ≤ c ∧ c ≤ 9223372036854775807)) :
    Calls Try.prog 3 #[.agg #[.slice A s.length c, .slice B xs.length d], .int .i64 q1, .int .i64 q2] w fun e w' => e = .returned (.bool true) ∧ Kp w w' := by
  by_cases f0 : 100 < s.length ∨ 100 < xs.length
  · exact rtells_f0 A B _ c _ d q1 q2 w R0.s.len R0.d.len f0
  obtain ⟨l1, k1, e1, r1⟩ : ∃ l k e, sumV s xs q1 = (l, k, e) := ⟨_, _, _, rfl⟩
  obtain ⟨l2, k2, e2, r2⟩ : ∃ l k e, meanV s xs q1 = (l, k, e) := ⟨_, _, _, rfl⟩
  obtain ⟨l3, k3, e3, r3⟩ : ∃ l k e, maxV s xs q1 = (l, k, e) := ⟨_, _, _, rfl⟩
  obtain ⟨l4, k4, e4, r4⟩ : ∃ l k e, firstV s xs q1 = (l, k, e) := ⟨_, _, _, rfl⟩
  obtain ⟨l5, k5, e5, r5⟩ : ∃ l k e, growV s xs q1 q2 = (l, k, e) := ⟨_, _, _, rfl⟩
  exact rtells_with A B _ c _ d q1 q2 w (by omega) (by omega) l1 k1 l2 k2 l3 k3 l4 k4 l5 k5 _ _ _ _ _ _ _ _ _ _ e1 e2 e3 e4 e5 (Lib.hid ⟨rfl, rfl⟩) (Lib.hid ⟨rfl, rfl⟩) (Lib.hid ⟨rfl, rfl⟩) (Lib.hid ⟨rfl, rfl⟩) (Lib.hid ⟨rfl, rfl⟩)
    (Lib.hid fun W k => psum_u s xs q1 (R0.kp k) HC I0 rfl rfl r1 rfl rfl) (Lib.hid fun W k => rsum_u s xs q1 (R0.kp k) HC I0 rfl rfl r1 rfl rfl)
    (Lib.hid fun W k => pmean_u s xs q1 (R0.kp k) HC I0 rfl rfl r2 rfl rfl) (Lib.hid fun W k => rmean_u s xs q1 (R0.kp k) HC I0 rfl rfl r2 rfl rfl)
    (Lib.hid fun W k => pmax_u s xs q1 (R0.kp k) HC I0 rfl rfl r3 rfl rfl) (Lib.hid fun W k => rmax_u s xs q1 (R0.kp k) HC I0 rfl rfl r3 rfl rfl)
    (Lib.hid fun W k => pfirst_u s xs q1 (R0.kp k) HC I0 rfl rfl r4 rfl rfl) (Lib.hid fun W k => rfirst_u s xs q1 (R0.kp k) HC I0 rfl rfl r4 rfl rfl)
    (Lib.hid fun W k => pgrow_u s xs q1 q2 (R0.kp k) rfl rfl r5 rfl rfl) (Lib.hid fun W k => rgrow_u s xs q1 q2 (R0.kp k) HC rfl rfl r5 rfl rfl)
end Go.Proofs.Ytpglchimghnpeaa
