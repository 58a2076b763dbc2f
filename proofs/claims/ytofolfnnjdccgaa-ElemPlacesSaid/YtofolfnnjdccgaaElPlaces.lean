/- Each number of a product is what its two numbers' is, and there is an error just if two have one: the law's call returns true. -/
import Derived.Test.YtofolfnnjdccgaaElAw
import Derived.Test.YtofolfnnjdccgaaElL
import Derived.Deep.CutRange
namespace Go.Proofs.Ytofolfnnjdccgaa
open Go.RowKit Go.Proofs.ShM
set_option linter.unusedVariables false

set_option maxHeartbeats 4000000 in
set_option maxRecDepth 100000 in
theorem eplaces_far0 (A B C D : Option Addr) (n c m d o e q f : Nat) (q1 : Int) (w : World) (zn : n ≤ 9223372036854775807) (zm : m ≤ 9223372036854775807) (hf : 100 < n ∨ 100 < m) :
    Calls Try.prog 5 #[.agg #[.slice A n c, .slice B m d], .agg #[.slice C o e, .slice D q f], .int .u8 q1] w fun e w' => e = .returned (.bool true) ∧ Kp w w' := by
  have HN : Hid (∀ W, Calls Try.prog 11 #[.agg #[.slice A n c, .slice B m d]] W fun e w' => e = .returned (.bool false) ∧ Kp W w') := fun W => few_no zn zm hf
  clear hf
  go_enter Try.func5, Try.ntmps5
  go_wp2_with fail
  refine (elawake_any _).mono ?_; rintro e0 w0 ⟨rfl, k0⟩
  have K := Lib.hid (((Kp.alloc_ _ _).al _).tr k0)
  have T0B : Hid (Bk w0 (w.heap.size) A n c B m d) := ((Bk.new rfl).alloc_ _).kp k0
  have T1B : Hid (Bk w0 (w.heap.size + 1) C o e D q f) := (Bk.new (by simp)).kp k0
  clear k0
  have zt0b0 := T0B.out.c0
  have zt0b1 := T0B.out.c1
  have zt0b2 := T0B.out.lt
  have zt1b0 := T1B.out.c0
  have zt1b1 := T1B.out.c1
  have zt1b2 := T1B.out.lt
  go_wp2_with fail
  refine (HN.out _).mono ?_; rintro e0 w1 ⟨rfl, k1⟩
  have K := Lib.hid (K.out.tr k1)
  have T0B := Lib.hid (T0B.out.kp k1)
  have T1B := Lib.hid (T1B.out.kp k1)
  clear k1 zt0b0 zt0b1 zt0b2 zt1b0 zt1b1 zt1b2
  have zt0b0 := T0B.out.c0
  have zt0b1 := T0B.out.c1
  have zt0b2 := T0B.out.lt
  have zt1b0 := T1B.out.c0
  have zt1b1 := T1B.out.c1
  have zt1b2 := T1B.out.lt
  go_wp2
  go_ret
  exact ⟨rfl, K.out⟩

set_option maxHeartbeats 4000000 in
set_option maxRecDepth 100000 in
theorem eplaces_far1 (A B C D : Option Addr) (n c m d o e q f : Nat) (q1 : Int) (w : World) (hn : n ≤ 100) (hm : m ≤ 100) (zo : o ≤ 9223372036854775807) (zq : q ≤ 9223372036854775807) (hf : 100 < o ∨ 100 < q) :
    Calls Try.prog 5 #[.agg #[.slice A n c, .slice B m d], .agg #[.slice C o e, .slice D q f], .int .u8 q1] w fun e w' => e = .returned (.bool true) ∧ Kp w w' := by
  have HN : Hid (∀ W, Calls Try.prog 11 #[.agg #[.slice C o e, .slice D q f]] W fun e w' => e = .returned (.bool false) ∧ Kp W w') := fun W => few_no zo zq hf
  clear hf
  go_enter Try.func5, Try.ntmps5
  go_wp2_with fail
  refine (elawake_any _).mono ?_; rintro e0 w0 ⟨rfl, k0⟩
  have K := Lib.hid (((Kp.alloc_ _ _).al _).tr k0)
  have T0B : Hid (Bk w0 (w.heap.size) A n c B m d) := ((Bk.new rfl).alloc_ _).kp k0
  have T1B : Hid (Bk w0 (w.heap.size + 1) C o e D q f) := (Bk.new (by simp)).kp k0
  clear k0
  have zt0b0 := T0B.out.c0
  have zt0b1 := T0B.out.c1
  have zt0b2 := T0B.out.lt
  have zt1b0 := T1B.out.c0
  have zt1b1 := T1B.out.c1
  have zt1b2 := T1B.out.lt
  go_wp2_with fail
  refine (few_yes hn hm).mono ?_; rintro e0 w1 ⟨rfl, k1⟩
  have K := Lib.hid (K.out.tr k1)
  have T0B := Lib.hid (T0B.out.kp k1)
  have T1B := Lib.hid (T1B.out.kp k1)
  clear k1 zt0b0 zt0b1 zt0b2 zt1b0 zt1b1 zt1b2
  have zt0b0 := T0B.out.c0
  have zt0b1 := T0B.out.c1
  have zt0b2 := T0B.out.lt
  have zt1b0 := T1B.out.c0
  have zt1b1 := T1B.out.c1
  have zt1b2 := T1B.out.lt
  go_wp2_with fail
  refine (HN.out _).mono ?_; rintro e0 w2 ⟨rfl, k2⟩
  have K := Lib.hid (K.out.tr k2)
  have T0B := Lib.hid (T0B.out.kp k2)
  have T1B := Lib.hid (T1B.out.kp k2)
  clear k2 zt0b0 zt0b1 zt0b2 zt1b0 zt1b1 zt1b2
  have zt0b0 := T0B.out.c0
  have zt0b1 := T0B.out.c1
  have zt0b2 := T0B.out.lt
  have zt1b0 := T1B.out.c0
  have zt1b1 := T1B.out.c1
  have zt1b2 := T1B.out.lt
  go_wp2
  go_ret
  exact ⟨rfl, K.out⟩

set_option maxHeartbeats 8000000 in
set_option maxRecDepth 100000 in
theorem eplaces_err (A B C D : Option Addr) (n c m d o e q f : Nat) (q1 : Int) (w : World) (hn : n ≤ 100) (hm : m ≤ 100) (ho : o ≤ 100) (hq : q ≤ 100) (e1 : Int) (he : ¬ e1 = 0)
    (C1 : Hid (∀ W, Kp w W → Calls Try.prog 14 #[.int .i64 12, .agg #[.slice A n c, .slice B m d], .agg #[.slice C o e, .slice D q f]] W (RetU [] [] 0 0 e1 W))) :
    Calls Try.prog 5 #[.agg #[.slice A n c, .slice B m d], .agg #[.slice C o e, .slice D q f], .int .u8 q1] w fun e w' => e = .returned (.bool true) ∧ Kp w w' := by
  go_enter Try.func5, Try.ntmps5
  go_wp2_with fail
  refine (elawake_any _).mono ?_; rintro e0 w0 ⟨rfl, k0⟩
  have K := Lib.hid (((Kp.alloc_ _ _).al _).tr k0)
  have T0B : Hid (Bk w0 (w.heap.size) A n c B m d) := ((Bk.new rfl).alloc_ _).kp k0
  have T1B : Hid (Bk w0 (w.heap.size + 1) C o e D q f) := (Bk.new (by simp)).kp k0
  clear k0
  have zt0b0 := T0B.out.c0
  have zt0b1 := T0B.out.c1
  have zt0b2 := T0B.out.lt
  have zt1b0 := T1B.out.c0
  have zt1b1 := T1B.out.c1
  have zt1b2 := T1B.out.lt
  go_wp2_with fail
  refine (few_yes hn hm).mono ?_; rintro e0 w1 ⟨rfl, k1⟩
  have K := Lib.hid (K.out.tr k1)
  have T0B := Lib.hid (T0B.out.kp k1)
  have T1B := Lib.hid (T1B.out.kp k1)
  clear k1 zt0b0 zt0b1 zt0b2 zt1b0 zt1b1 zt1b2
  have zt0b0 := T0B.out.c0
  have zt0b1 := T0B.out.c1
  have zt0b2 := T0B.out.lt
  have zt1b0 := T1B.out.c0
  have zt1b1 := T1B.out.c1
  have zt1b2 := T1B.out.lt
  go_wp2_with fail
  refine (few_yes ho hq).mono ?_; rintro e0 w2 ⟨rfl, k2⟩
  have K := Lib.hid (K.out.tr k2)
  have T0B := Lib.hid (T0B.out.kp k2)
  have T1B := Lib.hid (T1B.out.kp k2)
  clear k2 zt0b0 zt0b1 zt0b2 zt1b0 zt1b1 zt1b2
  have zt0b0 := T0B.out.c0
  have zt0b1 := T0B.out.c1
  have zt0b2 := T0B.out.lt
  have zt1b0 := T1B.out.c0
  have zt1b1 := T1B.out.c1
  have zt1b2 := T1B.out.lt
  go_wp2_with fail
  refine (C1.out _ K.out).mono ?_; rintro e0 w3 ⟨A3, c3, B3, d3, rfl, r3, k3⟩
  have K := Lib.hid (K.out.tr k3)
  have T0B := Lib.hid (T0B.out.kp k3)
  have T1B := Lib.hid (T1B.out.kp k3)
  have P := Lib.hid r3
  clear k3 r3 zt0b0 zt0b1 zt0b2 zt1b0 zt1b1 zt1b2
  have zt0b0 := T0B.out.c0
  have zt0b1 := T0B.out.c1
  have zt0b2 := T0B.out.lt
  have zt1b0 := T1B.out.c0
  have zt1b1 := T1B.out.c1
  have zt1b2 := T1B.out.lt
  go_wp2
  go_ret
  exact ⟨rfl, K.out.al _⟩

set_option maxHeartbeats 8000000 in
set_option maxRecDepth 100000 in
theorem eplaces_with (A B C D : Option Addr) (n c m d o e q f : Nat) (q1 : Int) (w : World) (hn : n ≤ 100) (hm : m ≤ 100) (ho : o ≤ 100) (hq : q ≤ 100) (h1 : 0 ≤ q1) (h2 : q1 ≤ 255) (l1 Z X Y : List Int) (a1 b1 k : Nat) (x y z : Int) (hb1 : 1 ≤ b1) (hb2 : b1 ≤ 64)
    (hk : q1.tmod (b1 : Int) = (k : Int)) (hkb : k < b1) (HX : Hid (X[k]? = some x ∧ Y[k]? = some y ∧ Z[k]? = some z ∧ X.length = b1 ∧ Y.length = b1 ∧ Z.length = b1))
    (C1 : Hid (∀ W, Kp w W → Calls Try.prog 14 #[.int .i64 12, .agg #[.slice A n c, .slice B m d], .agg #[.slice C o e, .slice D q f]] W (RetU l1 Z a1 b1 0 W)))
    (C2 : Hid (∀ W A0 c0, Kp w W → Rd W A0 l1 → Calls Try.prog 19 #[.agg #[.slice A n c, .slice B m d], .slice A0 a1 c0] W (RetU l1 X a1 b1 0 W)))
    (C3 : Hid (∀ W A0 c0, Kp w W → Rd W A0 l1 → Calls Try.prog 19 #[.agg #[.slice C o e, .slice D q f], .slice A0 a1 c0] W (RetU l1 Y a1 b1 0 W)))
    (HM : Hid (∀ W, Calls Try.prog 20 #[.int .i64 x, .int .i64 y] W fun e w' => e = .returned (.tuple #[.int .i64 z, .int .i64 0]) ∧ Kp W w'))
    (C5 : Hid (∀ W A0 B0 c0 d0, TR W A0 l1 B0 Z → Calls Try.prog 17 #[.agg #[.slice A0 a1 c0, .slice B0 b1 d0]] W fun e w' => e = .returned (.bool true) ∧ Kp W w')) :
    Calls Try.prog 5 #[.agg #[.slice A n c, .slice B m d], .agg #[.slice C o e, .slice D q f], .int .u8 q1] w fun e w' => e = .returned (.bool true) ∧ Kp w w' := by
  have hb0 : ¬ (b1 : Int) = 0 := by omega
  have j1 : (0 : Int) ≤ (k : Int) := by omega
  have j2 : (k : Int) < (b1 : Int) := by omega
  go_enter Try.func5, Try.ntmps5
  go_wp2_with fail
  refine (elawake_any _).mono ?_; rintro e0 w0 ⟨rfl, k0⟩
  have K := Lib.hid (((Kp.alloc_ _ _).al _).tr k0)
  have T0B : Hid (Bk w0 (w.heap.size) A n c B m d) := ((Bk.new rfl).alloc_ _).kp k0
  have T1B : Hid (Bk w0 (w.heap.size + 1) C o e D q f) := (Bk.new (by simp)).kp k0
  clear k0
  have zt0b0 := T0B.out.c0
  have zt0b1 := T0B.out.c1
  have zt0b2 := T0B.out.lt
  have zt1b0 := T1B.out.c0
  have zt1b1 := T1B.out.c1
  have zt1b2 := T1B.out.lt
  go_wp2_with fail
  refine (few_yes hn hm).mono ?_; rintro e0 w1 ⟨rfl, k1⟩
  have K := Lib.hid (K.out.tr k1)
  have T0B := Lib.hid (T0B.out.kp k1)
  have T1B := Lib.hid (T1B.out.kp k1)
  clear k1 zt0b0 zt0b1 zt0b2 zt1b0 zt1b1 zt1b2
  have zt0b0 := T0B.out.c0
  have zt0b1 := T0B.out.c1
  have zt0b2 := T0B.out.lt
  have zt1b0 := T1B.out.c0
  have zt1b1 := T1B.out.c1
  have zt1b2 := T1B.out.lt
  go_wp2_with fail
  refine (few_yes ho hq).mono ?_; rintro e0 w2 ⟨rfl, k2⟩
  have K := Lib.hid (K.out.tr k2)
  have T0B := Lib.hid (T0B.out.kp k2)
  have T1B := Lib.hid (T1B.out.kp k2)
  clear k2 zt0b0 zt0b1 zt0b2 zt1b0 zt1b1 zt1b2
  have zt0b0 := T0B.out.c0
  have zt0b1 := T0B.out.c1
  have zt0b2 := T0B.out.lt
  have zt1b0 := T1B.out.c0
  have zt1b1 := T1B.out.c1
  have zt1b2 := T1B.out.lt
  go_wp2_with fail
  refine (C1.out _ K.out).mono ?_; rintro e0 w3 ⟨A3, c3, B3, d3, rfl, r3, k3⟩
  have K := Lib.hid (K.out.tr k3)
  have T0B := Lib.hid (T0B.out.kp k3)
  have T1B := Lib.hid (T1B.out.kp k3)
  have P := Lib.hid r3
  clear k3 r3 zt0b0 zt0b1 zt0b2 zt1b0 zt1b1 zt1b2
  have zt0b0 := T0B.out.c0
  have zt0b1 := T0B.out.c1
  have zt0b2 := T0B.out.lt
  go_wp2_with fail
  refine (C2.out _ _ _ (K.out.al _) (P.out.alloc_ _).s).mono ?_; rintro e0 w4 ⟨A4, c4, B4, d4, rfl, r4, k4⟩
  have K := Lib.hid ((K.out.al _).tr k4)
  have T0B := Lib.hid ((T0B.out.alloc_ _).kp k4)
  have T1B := Lib.hid ((T1B.out.alloc_ _).kp k4)
  have P := Lib.hid ((P.out.alloc_ _).kp k4)
  have PB : Hid (Bk w4 w3.heap.size A3 a1 c3 B3 b1 d3) := (Bk.new rfl).kp k4
  have U := Lib.hid r4
  clear k4 r4 zt0b0 zt0b1 zt0b2
  have zpb0 := PB.out.c0
  have zpb1 := PB.out.c1
  have zpb2 := PB.out.lt
  have zt1b0 := T1B.out.c0
  have zt1b1 := T1B.out.c1
  have zt1b2 := T1B.out.lt
  go_wp2_with fail
  refine (C3.out _ _ _ (K.out.al _) (P.out.alloc_ _).s).mono ?_; rintro e0 w5 ⟨A5, c5, B5, d5, rfl, r5, k5⟩
  have K := Lib.hid ((K.out.al _).tr k5)
  have T0B := Lib.hid ((T0B.out.alloc_ _).kp k5)
  have T1B := Lib.hid ((T1B.out.alloc_ _).kp k5)
  have PB := Lib.hid ((PB.out.alloc_ _).kp k5)
  have P := Lib.hid ((P.out.alloc_ _).kp k5)
  have U := Lib.hid ((U.out.alloc_ _).kp k5)
  have UB : Hid (Bk w5 w4.heap.size A4 a1 c4 B4 b1 d4) := (Bk.new rfl).kp k5
  have V := Lib.hid r5
  clear k5 r5 zpb0 zpb1 zpb2 zt1b0 zt1b1 zt1b2
  have zpb0 := PB.out.c0
  have zpb1 := PB.out.c1
  have zpb2 := PB.out.lt
  have zub0 := UB.out.c0
  have zub1 := UB.out.c1
  have zub2 := UB.out.lt
  go_upto_region 12 with fail
  obtain ⟨W0, HW0⟩ : ∃ W0, Hid (W0 = w5.alloc (.cells #[.slice A5 a1 c5, .slice B5 b1 d5] 24)) := ⟨_, rfl⟩
  have hkx : Kp w5 W0 := by rw [HW0.out]; exact Kp.alloc_ _ _
  have VB : Hid (Bk W0 w5.heap.size A5 a1 c5 B5 b1 d5) := by show Bk _ _ _ _ _ _ _ _; rw [HW0.out]; exact Bk.new rfl
  rw [← HW0.out]
  have K := Lib.hid (K.out.tr hkx)
  have PB := Lib.hid (PB.out.kp hkx)
  have UB := Lib.hid (UB.out.kp hkx)
  have P := Lib.hid (P.out.kp hkx)
  have U := Lib.hid (U.out.kp hkx)
  have V := Lib.hid (V.out.kp hkx)
  clear hkx HW0 zpb0 zpb1 zpb2 zub0 zub1 zub2
  obtain ⟨x1, x2, x3, x4, x5, x6⟩ := HX.out
  obtain ⟨au, x', rfl, hbl, hx', hc⟩ := U.out.d.at_ (k := k) (by omega)
  obtain rfl : x = x' := by rw [x1] at hx'; exact Option.some.inj hx'
  obtain ⟨av, y', rfl, hbl2, hy', hc2⟩ := V.out.d.at_ (k := k) (by omega)
  obtain rfl : y = y' := by rw [x2] at hy'; exact Option.some.inj hy'
  have u1 := UB.out.c1
  have v1 := VB.out.c1
  have HKQ : Hid (∀ V', Kp W0.drew V' → Hid (Kp W0 V') ∧ V'.cell? ⟨w4.heap.size, 1, none⟩ = some (.slice (some au) b1 d4) ∧ V'.cell? ⟨w5.heap.size, 1, none⟩ = some (.slice (some av) b1 d5) ∧ V'.cell? (au.add k) = some (.int .i64 x) ∧ V'.cell? (av.add k) = some (.int .i64 y)) := by
    intro V' kV
    have k2 : Kp W0 V' := undrew kV
    exact ⟨k2, (UB.out.kp k2).c1, (VB.out.kp k2).c1, (k2.cell (by rw [block_of_add]; exact hbl)).trans hc, (k2.cell (by rw [block_of_add]; exact hbl2)).trans hc2⟩
  have HPZ := Lib.hid (P.out.d.at_ (k := k) (by omega))
  have HZ3 := Lib.hid x3
  clear x1 x2 x3 x4 x5 x6 hx' hy' hbl hbl2
  go_cut [15, 16] (fun n f wx => n = .int .i64 z ∧ f = .int .i64 0 ∧ Hid (Kp W0 wx))
  case first =>
    go_region_held3 (fun V => V.cell? ⟨w4.heap.size, 1, none⟩ = some (.slice (some au) b1 d4) ∧ V.cell? ⟨w5.heap.size, 1, none⟩ = some (.slice (some av) b1 d5) ∧ V.cell? (au.add k) = some (.int .i64 x) ∧ V.cell? (av.add k) = some (.int .i64 y)) (first | exact ⟨u1, v1, hc, hc2⟩ | exact ⟨q3, q4, q5, q6⟩)
      (first | (go_at_call 20; refine (HM.out _).mono ?_; rintro e w7 ⟨rfl, k7⟩; obtain ⟨K7, q3, q4, q5, q6⟩ := HKQ.out _ k7; clear k7))
    all_goals go_wp2
    all_goals go_meet
    all_goals exact ⟨rfl, rfl, K7⟩
  case rest =>
    obtain ⟨rfl, rfl, K7⟩ := hcut
    have K := Lib.hid (K.out.tr K7.out)
    have PB := Lib.hid (PB.out.kp K7.out)
    obtain ⟨ap, z', rfl, hbp, hz', hcp⟩ := HPZ.out
    obtain rfl : z = z' := by rw [HZ3.out] at hz'; exact Option.some.inj hz'
    have P := Lib.hid (P.out.kp K7.out)
    have hcp' := (K7.out.cell (by rw [block_of_add]; exact hbp)).trans hcp
    have p0 := PB.out.c0
    have p1 := PB.out.c1
    clear hcp hz' hbp u1 v1 hc hc2
    go_wp2_with fail
    refine (C5.out _ _ _ _ _ P.out).mono ?_; rintro e0 w8 ⟨rfl, k8⟩
    have K := Lib.hid (K.out.tr k8)
    clear k8 p0 p1 hcp'
    go_wp2
    go_ret
    exact ⟨rfl, K.out⟩

theorem eplaces_walk (A B C D : Option Addr) (c d e f : Nat) (q1 : Int) (s xs t ys : List Int) (w : World) (h1 : 0 ≤ q1) (h2 : q1 ≤ 255) (R0 : TR w A s B xs) (I0 : I64s xs) (R1 : TR w C t D ys) (I1 : I64s ys) :
    Calls Try.prog 5 #[.agg #[.slice A s.length c, .slice B xs.length d], .agg #[.slice C t.length e, .slice D ys.length f], .int .u8 q1] w fun e w' => e = .returned (.bool true) ∧ Kp w w' := by
  by_cases f0 : 100 < s.length ∨ 100 < xs.length
  · exact eplaces_far0 A B C D _ c _ d _ e _ f q1 w  R0.s.len R0.d.len f0
  by_cases f1 : 100 < t.length ∨ 100 < ys.length
  · exact eplaces_far1 A B C D _ c _ d _ e _ f q1 w (by omega) (by omega) R1.s.len R1.d.len f1
  obtain ⟨l1, k1, e1, r1⟩ : ∃ l k e, twoV 12 s xs t ys = (l, k, e) := ⟨_, _, _, rfl⟩
  by_cases he : e1 = 0
  · obtain ⟨j, Z, t1, t2, hj, ee, hl, hk, hz⟩ := two_zero (op := 12) (by omega) (s := s) (xs := xs) (t := t) (ys := ys) (by rw [r1]; exact he)
    obtain ⟨_, _, hoj, f1', f2'⟩ := joined hj
    have hN := tok_len hk
    have hN2 := hN.2.1
    obtain ⟨N, hNe⟩ : ∃ N, (sizeV j).toNat = N := ⟨_, rfl⟩
    have hpos : (0 : Int) < (Z.length : Int) := by omega
    have g1 := Int.tmod_nonneg (Z.length : Int) h1
    have g2 := Int.tmod_lt_of_pos q1 hpos
    obtain ⟨k, hk'⟩ : ∃ k : Nat, q1.tmod (Z.length : Int) = (k : Int) := ⟨(q1.tmod (Z.length : Int)).toNat, by omega⟩
    have hkl : k < Z.length := by omega
    have hzk := hz k (by omega)
    unfold atN at hzk
    have sx : (spreadL s xs j (sizeV j).toNat).length = Z.length := by rw [spread_len, hl]
    have sy : (spreadL t ys j (sizeV j).toNat).length = Z.length := by rw [spread_len, hl]
    have gx := spread_get (s := s) (d := xs) (g := j) (k := (sizeV j).toNat) (i := k) (by omega)
    have gy := spread_get (s := t) (d := ys) (g := j) (k := (sizeV j).toNat) (i := k) (by omega)
    refine eplaces_with A B C D _ c _ d _ e _ f q1 w (by omega) (by omega) (by omega) (by omega) h1 h2 j Z (spreadL s xs j (sizeV j).toNat) (spreadL t ys j (sizeV j).toNat) _ Z.length k _ _ (Z.getD k 0) (by omega) (by omega) hk' hkl
      (Lib.hid ⟨gx, gy, by simp [List.getD, List.getElem?_eq_getElem hkl], sx, sy, rfl⟩)
      (Lib.hid fun W k => two_u s xs t ys (R0.kp k) (R1.kp k) I0 I1 rfl rfl rfl rfl ee rfl rfl)
      (Lib.hid fun W A0 c0 k r => spread_u s xs j (R0.kp k) r rfl rfl rfl (spread_is t1 f1') rfl sx)
      (Lib.hid fun W A0 c0 k r => spread_u t ys j (R1.kp k) r rfl rfl rfl (spread_is t2 f2') rfl sy)
      (Lib.hid fun W => ?_)
      (Lib.hid fun W A0 B0 c0 d0 r => tcheck_u j Z r rfl rfl hk)
    have hm := Fx.mul_any _ _ (getD_i64 I0 (srcI s j k).toNat) (getD_i64 I1 (srcI t j k).toNat) W
    refine hm.mono ?_
    rintro e0 w0 ⟨q, g⟩
    rw [show ∀ a b, numsV 12 a b = FixM.mulV a b from fun a b => rfl] at hzk
    rw [hzk] at q
    exact ⟨q, g.below⟩
  · have ee : twoV 12 s xs t ys = ([], [], e1) := by
      have := two_err 12 s xs t ys (by rw [r1]; exact he)
      rw [r1] at this ⊢
      exact this
    exact eplaces_err A B C D _ c _ d _ e _ f q1 w (by omega) (by omega) (by omega) (by omega) e1 he (Lib.hid fun W k => two_u s xs t ys (R0.kp k) (R1.kp k) I0 I1 rfl rfl rfl rfl ee rfl rfl)
end Go.Proofs.Ytofolfnnjdccgaa
