/- Any tensor, number by number, and any two, are the document's: the law's call returns true. -/
import Derived.Test.YtofolfnnjdccgaaElAw
namespace Go.Proofs.Ytofolfnnjdccgaa
open Go.RowKit Go.Proofs.ShM
set_option linter.unusedVariables false

set_option maxHeartbeats 4000000 in
set_option maxRecDepth 100000 in
theorem etells_far0 (A B C D : Option Addr) (n c m d o e q f : Nat) (op : Int) (w : World) (zn : n ≤ 9223372036854775807) (zm : m ≤ 9223372036854775807) (hf : 100 < n ∨ 100 < m) :
    Calls Try.prog 3 #[.int .i64 op, .agg #[.slice A n c, .slice B m d], .agg #[.slice C o e, .slice D q f]] w fun e w' => e = .returned (.bool true) ∧ Kp w w' := by
  have HN : Hid (∀ W, Calls Try.prog 11 #[.agg #[.slice A n c, .slice B m d]] W fun e w' => e = .returned (.bool false) ∧ Kp W w') := fun W => few_no zn zm hf
  clear hf
  go_enter Try.func3, Try.ntmps3
  go_wp2_with fail
  refine (elawake_any _).mono ?_; rintro e0 w0 ⟨rfl, k0⟩
  have K := Lib.hid (((Kp.alloc_ _ _).al _).tr k0)
  have T0B : Hid (Bk w0 (w.heap.size) A n c B m d) := ((Bk.new rfl).alloc_ _).kp k0
  have T1B : Hid (Bk w0 (w.heap.size + 1) C o e D q f) := (Bk.new (by simp)).kp k0
  clear k0
  have zt0b0 := T0B.out.c0
  have zt0b1 := T0B.out.c1
  have zt0b2 := T0B.out.lt
  have zt1b0 := T1B.out.c0
  have zt1b1 := T1B.out.c1
  have zt1b2 := T1B.out.lt
  go_wp2_with fail
  refine (HN.out _).mono ?_; rintro e0 w1 ⟨rfl, k1⟩
  have K := Lib.hid (K.out.tr k1)
  have T0B := Lib.hid (T0B.out.kp k1)
  have T1B := Lib.hid (T1B.out.kp k1)
  clear k1 zt0b0 zt0b1 zt0b2 zt1b0 zt1b1 zt1b2
  have zt0b0 := T0B.out.c0
  have zt0b1 := T0B.out.c1
  have zt0b2 := T0B.out.lt
  have zt1b0 := T1B.out.c0
  have zt1b1 := T1B.out.c1
  have zt1b2 := T1B.out.lt
  go_wp2
  go_ret
  exact ⟨rfl, K.out⟩

set_option maxHeartbeats 4000000 in
set_option maxRecDepth 100000 in
theorem etells_far1 (A B C D : Option Addr) (n c m d o e q f : Nat) (op : Int) (w : World) (hn : n ≤ 100) (hm : m ≤ 100) (zo : o ≤ 9223372036854775807) (zq : q ≤ 9223372036854775807) (hf : 100 < o ∨ 100 < q) :
    Calls Try.prog 3 #[.int .i64 op, .agg #[.slice A n c, .slice B m d], .agg #[.slice C o e, .slice D q f]] w fun e w' => e = .returned (.bool true) ∧ Kp w w' := by
  have HN : Hid (∀ W, Calls Try.prog 11 #[.agg #[.slice C o e, .slice D q f]] W fun e w' => e = .returned (.bool false) ∧ Kp W w') := fun W => few_no zo zq hf
  clear hf
  go_enter Try.func3, Try.ntmps3
  go_wp2_with fail
  refine (elawake_any _).mono ?_; rintro e0 w0 ⟨rfl, k0⟩
  have K := Lib.hid (((Kp.alloc_ _ _).al _).tr k0)
  have T0B : Hid (Bk w0 (w.heap.size) A n c B m d) := ((Bk.new rfl).alloc_ _).kp k0
  have T1B : Hid (Bk w0 (w.heap.size + 1) C o e D q f) := (Bk.new (by simp)).kp k0
  clear k0
  have zt0b0 := T0B.out.c0
  have zt0b1 := T0B.out.c1
  have zt0b2 := T0B.out.lt
  have zt1b0 := T1B.out.c0
  have zt1b1 := T1B.out.c1
  have zt1b2 := T1B.out.lt
  go_wp2_with fail
  refine (few_yes hn hm).mono ?_; rintro e0 w1 ⟨rfl, k1⟩
  have K := Lib.hid (K.out.tr k1)
  have T0B := Lib.hid (T0B.out.kp k1)
  have T1B := Lib.hid (T1B.out.kp k1)
  clear k1 zt0b0 zt0b1 zt0b2 zt1b0 zt1b1 zt1b2
  have zt0b0 := T0B.out.c0
  have zt0b1 := T0B.out.c1
  have zt0b2 := T0B.out.lt
  have zt1b0 := T1B.out.c0
  have zt1b1 := T1B.out.c1
  have zt1b2 := T1B.out.lt
  go_wp2_with fail
  refine (HN.out _).mono ?_; rintro e0 w2 ⟨rfl, k2⟩
  have K := Lib.hid (K.out.tr k2)
  have T0B := Lib.hid (T0B.out.kp k2)
  have T1B := Lib.hid (T1B.out.kp k2)
  clear k2 zt0b0 zt0b1 zt0b2 zt1b0 zt1b1 zt1b2
  have zt0b0 := T0B.out.c0
  have zt0b1 := T0B.out.c1
  have zt0b2 := T0B.out.lt
  have zt1b0 := T1B.out.c0
  have zt1b1 := T1B.out.c1
  have zt1b2 := T1B.out.lt
  go_wp2
  go_ret
  exact ⟨rfl, K.out⟩

set_option maxHeartbeats 8000000 in
set_option maxRecDepth 100000 in
theorem etells_with (A B C D : Option Addr) (n c m d o e q f : Nat) (op : Int) (w : World) (hn : n ≤ 100) (hm : m ≤ 100) (ho : o ≤ 100) (hq : q ≤ 100) (l1 k1 l2 k2 : List Int) (a1 b1 a2 b2 : Nat) (e1 e2 : Int) (L1 : Hid (l1.length = a1 ∧ k1.length = b1)) (L2 : Hid (l2.length = a2 ∧ k2.length = b2))
    (C1 : Hid (∀ W, Kp w W → Calls Try.prog 12 #[.int .i64 op, .agg #[.slice A n c, .slice B m d]] W (RetU l1 k1 a1 b1 e1 W)))
    (D1 : Hid (∀ W, Kp w W → Calls Try.prog 13 #[.int .i64 op, .agg #[.slice A n c, .slice B m d]] W (RetU l1 k1 a1 b1 e1 W)))
    (C2 : Hid (∀ W, Kp w W → Calls Try.prog 14 #[.int .i64 op, .agg #[.slice A n c, .slice B m d], .agg #[.slice C o e, .slice D q f]] W (RetU l2 k2 a2 b2 e2 W)))
    (D2 : Hid (∀ W, Kp w W → Calls Try.prog 15 #[.int .i64 op, .agg #[.slice A n c, .slice B m d], .agg #[.slice C o e, .slice D q f]] W (RetU l2 k2 a2 b2 e2 W))) :
    Calls Try.prog 3 #[.int .i64 op, .agg #[.slice A n c, .slice B m d], .agg #[.slice C o e, .slice D q f]] w fun e w' => e = .returned (.bool true) ∧ Kp w w' := by
  go_enter Try.func3, Try.ntmps3
  go_wp2_with fail
  refine (elawake_any _).mono ?_; rintro e0 w0 ⟨rfl, k0⟩
  have K := Lib.hid (((Kp.alloc_ _ _).al _).tr k0)
  have T0B : Hid (Bk w0 (w.heap.size) A n c B m d) := ((Bk.new rfl).alloc_ _).kp k0
  have T1B : Hid (Bk w0 (w.heap.size + 1) C o e D q f) := (Bk.new (by simp)).kp k0
  clear k0
  have zt0b0 := T0B.out.c0
  have zt0b1 := T0B.out.c1
  have zt0b2 := T0B.out.lt
  have zt1b0 := T1B.out.c0
  have zt1b1 := T1B.out.c1
  have zt1b2 := T1B.out.lt
  go_wp2_with fail
  refine (few_yes hn hm).mono ?_; rintro e0 w1 ⟨rfl, k1⟩
  have K := Lib.hid (K.out.tr k1)
  have T0B := Lib.hid (T0B.out.kp k1)
  have T1B := Lib.hid (T1B.out.kp k1)
  clear k1 zt0b0 zt0b1 zt0b2 zt1b0 zt1b1 zt1b2
  have zt0b0 := T0B.out.c0
  have zt0b1 := T0B.out.c1
  have zt0b2 := T0B.out.lt
  have zt1b0 := T1B.out.c0
  have zt1b1 := T1B.out.c1
  have zt1b2 := T1B.out.lt
  go_wp2_with fail
  refine (few_yes ho hq).mono ?_; rintro e0 w2 ⟨rfl, k2⟩
  have K := Lib.hid (K.out.tr k2)
  have T0B := Lib.hid (T0B.out.kp k2)
  have T1B := Lib.hid (T1B.out.kp k2)
  clear k2 zt0b0 zt0b1 zt0b2 zt1b0 zt1b1 zt1b2
  have zt0b0 := T0B.out.c0
  have zt0b1 := T0B.out.c1
  have zt0b2 := T0B.out.lt
  have zt1b0 := T1B.out.c0
  have zt1b1 := T1B.out.c1
  have zt1b2 := T1B.out.lt
  go_wp2_with fail
  refine (C1.out _ K.out).mono ?_; rintro e0 w3 ⟨A3, c3, B3, d3, rfl, r3, k3⟩
  have K := Lib.hid (K.out.tr k3)
  have T0B := Lib.hid (T0B.out.kp k3)
  have T1B := Lib.hid (T1B.out.kp k3)
  have X := Lib.hid r3
  clear k3 r3 zt0b0 zt0b1 zt0b2 zt1b0 zt1b1 zt1b2
  have zt0b0 := T0B.out.c0
  have zt0b1 := T0B.out.c1
  have zt0b2 := T0B.out.lt
  have zt1b0 := T1B.out.c0
  have zt1b1 := T1B.out.c1
  have zt1b2 := T1B.out.lt
  go_wp2_with fail
  refine (D1.out _ (K.out.al _)).mono ?_; rintro e0 w4 ⟨A4, c4, B4, d4, rfl, r4, k4⟩
  have K := Lib.hid ((K.out.al _).tr k4)
  have T0B := Lib.hid ((T0B.out.alloc_ _).kp k4)
  have T1B := Lib.hid ((T1B.out.alloc_ _).kp k4)
  have X := Lib.hid ((X.out.alloc_ _).kp k4)
  have XB : Hid (Bk w4 w3.heap.size A3 a1 c3 B3 b1 d3) := (Bk.new rfl).kp k4
  have Y := Lib.hid r4
  clear k4 r4 zt0b0 zt0b1 zt0b2 zt1b0 zt1b1 zt1b2
  have zt0b0 := T0B.out.c0
  have zt0b1 := T0B.out.c1
  have zt0b2 := T0B.out.lt
  have zt1b0 := T1B.out.c0
  have zt1b1 := T1B.out.c1
  have zt1b2 := T1B.out.lt
  have zxb0 := XB.out.c0
  have zxb1 := XB.out.c1
  have zxb2 := XB.out.lt
  go_wp2_with fail
  refine (C2.out _ (K.out.al _)).mono ?_; rintro e0 w5 ⟨A5, c5, B5, d5, rfl, r5, k5⟩
  have K := Lib.hid ((K.out.al _).tr k5)
  have T0B := Lib.hid ((T0B.out.alloc_ _).kp k5)
  have T1B := Lib.hid ((T1B.out.alloc_ _).kp k5)
  have XB := Lib.hid ((XB.out.alloc_ _).kp k5)
  have X := Lib.hid ((X.out.alloc_ _).kp k5)
  have Y := Lib.hid ((Y.out.alloc_ _).kp k5)
  have YB : Hid (Bk w5 w4.heap.size A4 a1 c4 B4 b1 d4) := (Bk.new rfl).kp k5
  have P := Lib.hid r5
  clear k5 r5 zt0b0 zt0b1 zt0b2 zt1b0 zt1b1 zt1b2 zxb0 zxb1 zxb2
  have zt0b0 := T0B.out.c0
  have zt0b1 := T0B.out.c1
  have zt0b2 := T0B.out.lt
  have zt1b0 := T1B.out.c0
  have zt1b1 := T1B.out.c1
  have zt1b2 := T1B.out.lt
  have zxb0 := XB.out.c0
  have zxb1 := XB.out.c1
  have zxb2 := XB.out.lt
  have zyb0 := YB.out.c0
  have zyb1 := YB.out.c1
  have zyb2 := YB.out.lt
  go_wp2_with fail
  refine (D2.out _ (K.out.al _)).mono ?_; rintro e0 w6 ⟨A6, c6, B6, d6, rfl, r6, k6⟩
  have K := Lib.hid ((K.out.al _).tr k6)
  have T0B := Lib.hid ((T0B.out.alloc_ _).kp k6)
  have T1B := Lib.hid ((T1B.out.alloc_ _).kp k6)
  have XB := Lib.hid ((XB.out.alloc_ _).kp k6)
  have YB := Lib.hid ((YB.out.alloc_ _).kp k6)
  have X := Lib.hid ((X.out.alloc_ _).kp k6)
  have Y := Lib.hid ((Y.out.alloc_ _).kp k6)
  have P := Lib.hid ((P.out.alloc_ _).kp k6)
  have PB : Hid (Bk w6 w5.heap.size A5 a2 c5 B5 b2 d5) := (Bk.new rfl).kp k6
  have Q := Lib.hid r6
  clear k6 r6 zt0b0 zt0b1 zt0b2 zt1b0 zt1b1 zt1b2 zxb0 zxb1 zxb2 zyb0 zyb1 zyb2
  have zt0b0 := T0B.out.c0
  have zt0b1 := T0B.out.c1
  have zt0b2 := T0B.out.lt
  have zt1b0 := T1B.out.c0
  have zt1b1 := T1B.out.c1
  have zt1b2 := T1B.out.lt
  have zxb0 := XB.out.c0
  have zxb1 := XB.out.c1
  have zxb2 := XB.out.lt
  have zyb0 := YB.out.c0
  have zyb1 := YB.out.c1
  have zyb2 := YB.out.lt
  have zpb0 := PB.out.c0
  have zpb1 := PB.out.c1
  have zpb2 := PB.out.lt
  go_wp2_with fail
  refine (tsame_u (X.out.alloc_ _) (Y.out.alloc_ _) L1.out.1 L1.out.2).mono ?_; rintro e0 w7 ⟨rfl, k7⟩
  have K := Lib.hid ((K.out.al _).tr k7)
  have T0B := Lib.hid ((T0B.out.alloc_ _).kp k7)
  have T1B := Lib.hid ((T1B.out.alloc_ _).kp k7)
  have XB := Lib.hid ((XB.out.alloc_ _).kp k7)
  have YB := Lib.hid ((YB.out.alloc_ _).kp k7)
  have PB := Lib.hid ((PB.out.alloc_ _).kp k7)
  have X := Lib.hid ((X.out.alloc_ _).kp k7)
  have Y := Lib.hid ((Y.out.alloc_ _).kp k7)
  have P := Lib.hid ((P.out.alloc_ _).kp k7)
  have Q := Lib.hid ((Q.out.alloc_ _).kp k7)
  have QB : Hid (Bk w7 w6.heap.size A6 a2 c6 B6 b2 d6) := (Bk.new rfl).kp k7
  clear k7 zt0b0 zt0b1 zt0b2 zt1b0 zt1b1 zt1b2 zxb0 zxb1 zxb2 zyb0 zyb1 zyb2 zpb0 zpb1 zpb2
  have zt0b0 := T0B.out.c0
  have zt0b1 := T0B.out.c1
  have zt0b2 := T0B.out.lt
  have zt1b0 := T1B.out.c0
  have zt1b1 := T1B.out.c1
  have zt1b2 := T1B.out.lt
  have zxb0 := XB.out.c0
  have zxb1 := XB.out.c1
  have zxb2 := XB.out.lt
  have zyb0 := YB.out.c0
  have zyb1 := YB.out.c1
  have zyb2 := YB.out.lt
  have zpb0 := PB.out.c0
  have zpb1 := PB.out.c1
  have zpb2 := PB.out.lt
  have zqb0 := QB.out.c0
  have zqb1 := QB.out.c1
  have zqb2 := QB.out.lt
  go_wp2_with fail
  refine (tsame_u P.out Q.out L2.out.1 L2.out.2).mono ?_; rintro e0 w8 ⟨rfl, k8⟩
  have K := Lib.hid (K.out.tr k8)
  have T0B := Lib.hid (T0B.out.kp k8)
  have T1B := Lib.hid (T1B.out.kp k8)
  have XB := Lib.hid (XB.out.kp k8)
  have YB := Lib.hid (YB.out.kp k8)
  have PB := Lib.hid (PB.out.kp k8)
  have QB := Lib.hid (QB.out.kp k8)
  have X := Lib.hid (X.out.kp k8)
  have Y := Lib.hid (Y.out.kp k8)
  have P := Lib.hid (P.out.kp k8)
  have Q := Lib.hid (Q.out.kp k8)
  clear k8 zt0b0 zt0b1 zt0b2 zt1b0 zt1b1 zt1b2 zxb0 zxb1 zxb2 zyb0 zyb1 zyb2 zpb0 zpb1 zpb2 zqb0 zqb1 zqb2
  have zt0b0 := T0B.out.c0
  have zt0b1 := T0B.out.c1
  have zt0b2 := T0B.out.lt
  have zt1b0 := T1B.out.c0
  have zt1b1 := T1B.out.c1
  have zt1b2 := T1B.out.lt
  have zxb0 := XB.out.c0
  have zxb1 := XB.out.c1
  have zxb2 := XB.out.lt
  have zyb0 := YB.out.c0
  have zyb1 := YB.out.c1
  have zyb2 := YB.out.lt
  have zpb0 := PB.out.c0
  have zpb1 := PB.out.c1
  have zpb2 := PB.out.lt
  have zqb0 := QB.out.c0
  have zqb1 := QB.out.c1
  have zqb2 := QB.out.lt
  go_wp2
  go_ret
  exact ⟨rfl, K.out⟩

theorem etells_walk (A B C D : Option Addr) (c d e f : Nat) (op : Int) (s xs t ys : List Int) (w : World) (R0 : TR w A s B xs) (I0 : I64s xs) (R1 : TR w C t D ys) (I1 : I64s ys) :
    Calls Try.prog 3 #[.int .i64 op, .agg #[.slice A s.length c, .slice B xs.length d], .agg #[.slice C t.length e, .slice D ys.length f]] w fun e w' => e = .returned (.bool true) ∧ Kp w w' := by
  by_cases f0 : 100 < s.length ∨ 100 < xs.length
  · exact etells_far0 A B C D _ c _ d _ e _ f op w  R0.s.len R0.d.len f0
  by_cases f1 : 100 < t.length ∨ 100 < ys.length
  · exact etells_far1 A B C D _ c _ d _ e _ f op w (by omega) (by omega) R1.s.len R1.d.len f1
  obtain ⟨l1, k1, e1, r1⟩ : ∃ l k e, oneV op s xs = (l, k, e) := ⟨_, _, _, rfl⟩
  obtain ⟨l2, k2, e2, r2⟩ : ∃ l k e, twoV op s xs t ys = (l, k, e) := ⟨_, _, _, rfl⟩
  exact etells_with A B C D _ c _ d _ e _ f op w (by omega) (by omega) (by omega) (by omega) l1 k1 l2 k2 _ _ _ _ e1 e2 (Lib.hid ⟨rfl, rfl⟩) (Lib.hid ⟨rfl, rfl⟩)
    (Lib.hid fun W k => one_u s xs (R0.kp k) I0 rfl rfl r1 rfl rfl) (Lib.hid fun W k => rone_u s xs (R0.kp k) I0 rfl rfl r1 rfl rfl)
    (Lib.hid fun W k => two_u s xs t ys (R0.kp k) (R1.kp k) I0 I1 rfl rfl rfl rfl r2 rfl rfl) (Lib.hid fun W k => rtwo_u s xs t ys (R0.kp k) (R1.kp k) I0 I1 rfl rfl rfl rfl r2 rfl rfl)
end Go.Proofs.Ytofolfnnjdccgaa
