/- By One throughout a product, and a quotient, is the tensor itself; turned to its other side twice it is itself; what is below 0 is cut off once: the law's call returns true. -/
import Derived.Test.YtofolfnnjdccgaaElAw
import Derived.Test.YtofolfnnjdccgaaElN
namespace Go.Proofs.Ytofolfnnjdccgaa
open Go.RowKit Go.Proofs.ShM
set_option linter.unusedVariables false

set_option maxHeartbeats 4000000 in
set_option maxRecDepth 100000 in
theorem eones_far0 (A B : Option Addr) (n c m d : Nat) (w : World) (zn : n ≤ 9223372036854775807) (zm : m ≤ 9223372036854775807) (hf : 100 < n ∨ 100 < m) :
    Calls Try.prog 6 #[.agg #[.slice A n c, .slice B m d]] w fun e w' => e = .returned (.bool true) ∧ Kp w w' := by
  have HN : Hid (∀ W, Calls Try.prog 11 #[.agg #[.slice A n c, .slice B m d]] W fun e w' => e = .returned (.bool false) ∧ Kp W w') := fun W => few_no zn zm hf
  clear hf
  go_enter Try.func6, Try.ntmps6
  go_wp2_with fail
  refine (elawake_any _).mono ?_; rintro e0 w0 ⟨rfl, k0⟩
  have K := Lib.hid ((Kp.alloc_ _ _).tr k0)
  have T0B : Hid (Bk w0 (w.heap.size) A n c B m d) := (Bk.new rfl).kp k0
  clear k0
  have zt0b0 := T0B.out.c0
  have zt0b1 := T0B.out.c1
  have zt0b2 := T0B.out.lt
  go_wp2_with fail
  refine (HN.out _).mono ?_; rintro e0 w1 ⟨rfl, k1⟩
  have K := Lib.hid (K.out.tr k1)
  have T0B := Lib.hid (T0B.out.kp k1)
  clear k1 zt0b0 zt0b1 zt0b2
  have zt0b0 := T0B.out.c0
  have zt0b1 := T0B.out.c1
  have zt0b2 := T0B.out.lt
  go_wp2
  go_ret
  exact ⟨rfl, K.out⟩

set_option maxHeartbeats 4000000 in
set_option maxRecDepth 100000 in
theorem eones_far1 (A B : Option Addr) (n c m d : Nat) (w : World) (hn : n ≤ 100) (hm : m ≤ 100) (HC0 : Hid (∀ W, Kp w W → Calls Try.prog 17 #[.agg #[.slice A n c, .slice B m d]] W fun e w' => e = .returned (.bool false) ∧ Kp W w')) :
    Calls Try.prog 6 #[.agg #[.slice A n c, .slice B m d]] w fun e w' => e = .returned (.bool true) ∧ Kp w w' := by
  go_enter Try.func6, Try.ntmps6
  go_wp2_with fail
  refine (elawake_any _).mono ?_; rintro e0 w0 ⟨rfl, k0⟩
  have K := Lib.hid ((Kp.alloc_ _ _).tr k0)
  have T0B : Hid (Bk w0 (w.heap.size) A n c B m d) := (Bk.new rfl).kp k0
  clear k0
  have zt0b0 := T0B.out.c0
  have zt0b1 := T0B.out.c1
  have zt0b2 := T0B.out.lt
  go_wp2_with fail
  refine (few_yes hn hm).mono ?_; rintro e0 w1 ⟨rfl, k1⟩
  have K := Lib.hid (K.out.tr k1)
  have T0B := Lib.hid (T0B.out.kp k1)
  clear k1 zt0b0 zt0b1 zt0b2
  have zt0b0 := T0B.out.c0
  have zt0b1 := T0B.out.c1
  have zt0b2 := T0B.out.lt
  go_wp2_with fail
  refine (HC0.out _ K.out).mono ?_; rintro e0 w2 ⟨rfl, k2⟩
  have K := Lib.hid (K.out.tr k2)
  have T0B := Lib.hid (T0B.out.kp k2)
  clear k2 zt0b0 zt0b1 zt0b2
  have zt0b0 := T0B.out.c0
  have zt0b1 := T0B.out.c1
  have zt0b2 := T0B.out.lt
  go_wp2
  go_ret
  exact ⟨rfl, K.out⟩

set_option maxHeartbeats 8000000 in
set_option maxRecDepth 100000 in
theorem eones_with (A B : Option Addr) (n c m d : Nat) (w : World) (hn : n ≤ 100) (hm : m ≤ 100) (HC0 : Hid (∀ W, Kp w W → Calls Try.prog 17 #[.agg #[.slice A n c, .slice B m d]] W fun e w' => e = .returned (.bool true) ∧ Kp W w')) (s xs r l3 k3 l4 k4 : List Int) (a3 b3 a4 b4 : Nat) (e3 e4 : Int) (hm64 : m ≤ 64)
    (L0 : Hid (s.length = n ∧ xs.length = m)) (LR : Hid (r.length = m)) (HT : Hid (TR w A s B xs)) (HR : Hid (∀ (k : Nat) (x : Int), xs[k]? = some x → r[k]? = some (max x 0)))
    (HE : Hid (e3 = 0 → e4 = 0 ∧ s = l4 ∧ xs = k4 ∧ n = a4 ∧ m = b4))
    (C0 : Hid (∀ W, Kp w W → Calls Try.prog 18 #[.slice none 0 0, .int .i64 4294967296] W (RetU [] [4294967296] 0 1 0 W)))
    (C1 : Hid (∀ W A0 B0 c0 d0, Kp w W → TR W A0 [] B0 [4294967296] → Calls Try.prog 14 #[.int .i64 12, .agg #[.slice A n c, .slice B m d], .agg #[.slice A0 0 c0, .slice B0 1 d0]] W (RetU s xs n m 0 W)))
    (C2 : Hid (∀ W A0 B0 c0 d0, Kp w W → TR W A0 [] B0 [4294967296] → Calls Try.prog 14 #[.int .i64 13, .agg #[.slice A n c, .slice B m d], .agg #[.slice A0 0 c0, .slice B0 1 d0]] W (RetU s xs n m 0 W)))
    (C3 : Hid (∀ W, Kp w W → Calls Try.prog 12 #[.int .i64 20, .agg #[.slice A n c, .slice B m d]] W (RetU l3 k3 a3 b3 e3 W)))
    (C4 : Hid (∀ W A0 B0 c0 d0, Kp w W → TR W A0 l3 B0 k3 → Calls Try.prog 12 #[.int .i64 20, .agg #[.slice A0 a3 c0, .slice B0 b3 d0]] W (RetU l4 k4 a4 b4 e4 W)))
    (C5 : Hid (∀ W, Kp w W → Calls Try.prog 12 #[.int .i64 21, .agg #[.slice A n c, .slice B m d]] W (RetU s r n m 0 W)))
    (C6 : Hid (∀ W A0 B0 c0 d0, Kp w W → TR W A0 s B0 r → Calls Try.prog 12 #[.int .i64 21, .agg #[.slice A0 n c0, .slice B0 m d0]] W (RetU s r n m 0 W))) :
    Calls Try.prog 6 #[.agg #[.slice A n c, .slice B m d]] w fun e w' => e = .returned (.bool true) ∧ Kp w w' := by
  go_enter Try.func6, Try.ntmps6
  go_wp2_with fail
  refine (elawake_any _).mono ?_; rintro e0 w0 ⟨rfl, k0⟩
  have K := Lib.hid ((Kp.alloc_ _ _).tr k0)
  have T0B : Hid (Bk w0 (w.heap.size) A n c B m d) := (Bk.new rfl).kp k0
  clear k0
  have zt0b0 := T0B.out.c0
  have zt0b1 := T0B.out.c1
  have zt0b2 := T0B.out.lt
  go_wp2_with fail
  refine (few_yes hn hm).mono ?_; rintro e0 w1 ⟨rfl, k1⟩
  have K := Lib.hid (K.out.tr k1)
  have T0B := Lib.hid (T0B.out.kp k1)
  clear k1 zt0b0 zt0b1 zt0b2
  have zt0b0 := T0B.out.c0
  have zt0b1 := T0B.out.c1
  have zt0b2 := T0B.out.lt
  go_wp2_with fail
  refine (HC0.out _ K.out).mono ?_; rintro e0 w2 ⟨rfl, k2⟩
  have K := Lib.hid (K.out.tr k2)
  have T0B := Lib.hid (T0B.out.kp k2)
  clear k2 zt0b0 zt0b1 zt0b2
  have zt0b0 := T0B.out.c0
  have zt0b1 := T0B.out.c1
  have zt0b2 := T0B.out.lt
  go_wp2_with fail
  refine (C0.out _ K.out).mono ?_; rintro e0 w3 ⟨A3, c3, B3, d3, rfl, r3, k3⟩
  have K := Lib.hid (K.out.tr k3)
  have T0B := Lib.hid (T0B.out.kp k3)
  have O := Lib.hid r3
  clear k3 r3 zt0b0 zt0b1 zt0b2
  have zt0b0 := T0B.out.c0
  have zt0b1 := T0B.out.c1
  have zt0b2 := T0B.out.lt
  go_wp2_with fail
  refine (C1.out _ _ _ _ _ (K.out.al _) (O.out.alloc_ _)).mono ?_; rintro e0 w4 ⟨A4, c4, B4, d4, rfl, r4, k4⟩
  have K := Lib.hid ((K.out.al _).tr k4)
  have T0B := Lib.hid ((T0B.out.alloc_ _).kp k4)
  have O := Lib.hid ((O.out.alloc_ _).kp k4)
  have OB : Hid (Bk w4 w3.heap.size A3 0 c3 B3 1 d3) := (Bk.new rfl).kp k4
  have P := Lib.hid r4
  clear k4 r4 zt0b0 zt0b1 zt0b2
  have zt0b0 := T0B.out.c0
  have zt0b1 := T0B.out.c1
  have zt0b2 := T0B.out.lt
  have zob0 := OB.out.c0
  have zob1 := OB.out.c1
  have zob2 := OB.out.lt
  go_wp2_with fail
  refine (C2.out _ _ _ _ _ (K.out.al _) (O.out.alloc_ _)).mono ?_; rintro e0 w5 ⟨A5, c5, B5, d5, rfl, r5, k5⟩
  have K := Lib.hid ((K.out.al _).tr k5)
  have T0B := Lib.hid ((T0B.out.alloc_ _).kp k5)
  have P := Lib.hid ((P.out.alloc_ _).kp k5)
  have PB : Hid (Bk w5 w4.heap.size A4 n c4 B4 m d4) := (Bk.new rfl).kp k5
  have Q := Lib.hid r5
  clear k5 r5 zt0b0 zt0b1 zt0b2 zob0 zob1 zob2 O OB
  have zt0b0 := T0B.out.c0
  have zt0b1 := T0B.out.c1
  have zt0b2 := T0B.out.lt
  go_wp2_with fail
  refine (C3.out _ (K.out.al _)).mono ?_; rintro e0 w6 ⟨A6, c6, B6, d6, rfl, r6, k6⟩
  have K := Lib.hid ((K.out.al _).tr k6)
  have T0B := Lib.hid ((T0B.out.alloc_ _).kp k6)
  have PB := Lib.hid ((PB.out.alloc_ _).kp k6)
  have P := Lib.hid ((P.out.alloc_ _).kp k6)
  have Q := Lib.hid ((Q.out.alloc_ _).kp k6)
  have QB : Hid (Bk w6 w5.heap.size A5 n c5 B5 m d5) := (Bk.new rfl).kp k6
  have N := Lib.hid r6
  clear k6 r6 zt0b0 zt0b1 zt0b2
  go_wp2_with fail
  refine (C4.out _ _ _ _ _ (K.out.al _) (N.out.alloc_ _)).mono ?_; rintro e0 w7 ⟨A7, c7, B7, d7, rfl, r7, k7⟩
  have K := Lib.hid ((K.out.al _).tr k7)
  have T0B := Lib.hid ((T0B.out.alloc_ _).kp k7)
  have PB := Lib.hid ((PB.out.alloc_ _).kp k7)
  have QB := Lib.hid ((QB.out.alloc_ _).kp k7)
  have P := Lib.hid ((P.out.alloc_ _).kp k7)
  have Q := Lib.hid ((Q.out.alloc_ _).kp k7)
  have N := Lib.hid ((N.out.alloc_ _).kp k7)
  have NB : Hid (Bk w7 w6.heap.size A6 a3 c6 B6 b3 d6) := (Bk.new rfl).kp k7
  have M := Lib.hid r7
  clear k7 r7
  have zt0b0 := T0B.out.c0
  have zt0b1 := T0B.out.c1
  have zt0b2 := T0B.out.lt
  go_wp2_with fail
  refine (C5.out _ (K.out.al _)).mono ?_; rintro e0 w8 ⟨A8, c8, B8, d8, rfl, r8, k8⟩
  have K := Lib.hid ((K.out.al _).tr k8)
  have T0B := Lib.hid ((T0B.out.alloc_ _).kp k8)
  have PB := Lib.hid ((PB.out.alloc_ _).kp k8)
  have QB := Lib.hid ((QB.out.alloc_ _).kp k8)
  have NB := Lib.hid ((NB.out.alloc_ _).kp k8)
  have P := Lib.hid ((P.out.alloc_ _).kp k8)
  have Q := Lib.hid ((Q.out.alloc_ _).kp k8)
  have N := Lib.hid ((N.out.alloc_ _).kp k8)
  have M := Lib.hid ((M.out.alloc_ _).kp k8)
  have MB : Hid (Bk w8 w7.heap.size A7 a4 c7 B7 b4 d7) := (Bk.new rfl).kp k8
  have R := Lib.hid r8
  clear k8 r8 zt0b0 zt0b1 zt0b2
  go_wp2_with fail
  refine (C6.out _ _ _ _ _ (K.out.al _) (R.out.alloc_ _)).mono ?_; rintro e0 w9 ⟨A9, c9, B9, d9, rfl, r9, k9⟩
  have K := Lib.hid ((K.out.al _).tr k9)
  have T0B := Lib.hid ((T0B.out.alloc_ _).kp k9)
  have PB := Lib.hid ((PB.out.alloc_ _).kp k9)
  have QB := Lib.hid ((QB.out.alloc_ _).kp k9)
  have NB := Lib.hid ((NB.out.alloc_ _).kp k9)
  have MB := Lib.hid ((MB.out.alloc_ _).kp k9)
  have P := Lib.hid ((P.out.alloc_ _).kp k9)
  have Q := Lib.hid ((Q.out.alloc_ _).kp k9)
  have N := Lib.hid ((N.out.alloc_ _).kp k9)
  have M := Lib.hid ((M.out.alloc_ _).kp k9)
  have R := Lib.hid ((R.out.alloc_ _).kp k9)
  have RB : Hid (Bk w9 w8.heap.size A8 n c8 B8 m d8) := (Bk.new rfl).kp k9
  have S := Lib.hid r9
  clear k9 r9
  go_wp2
  obtain ⟨W0, HW0⟩ : ∃ W0, Hid (W0 = w9.alloc (.cells #[.slice A9 n c9, .slice B9 m d9] 24)) := ⟨_, rfl⟩
  have hkx : Kp w9 W0 := by rw [HW0.out]; exact Kp.alloc_ _ _
  have SB : Hid (Bk W0 w9.heap.size A9 n c9 B9 m d9) := by show Bk _ _ _ _ _ _ _ _; rw [HW0.out]; exact Bk.new rfl
  rw [← HW0.out]
  have K := Lib.hid (K.out.tr hkx)
  have T0B := Lib.hid (T0B.out.kp hkx)
  have PB := Lib.hid (PB.out.kp hkx)
  have QB := Lib.hid (QB.out.kp hkx)
  have NB := Lib.hid (NB.out.kp hkx)
  have MB := Lib.hid (MB.out.kp hkx)
  have RB := Lib.hid (RB.out.kp hkx)
  have P := Lib.hid (P.out.kp hkx)
  have Q := Lib.hid (Q.out.kp hkx)
  have N := Lib.hid (N.out.kp hkx)
  have M := Lib.hid (M.out.kp hkx)
  have R := Lib.hid (R.out.kp hkx)
  have S := Lib.hid (S.out.kp hkx)
  clear hkx HW0 
  go_loopw [18] (fun i wr => ∃ k : Nat, i = .int .i64 k ∧ Hid (k ≤ m) ∧ Hid (Kp W0 wr)) (fun i _ => m - (intOf i).toNat)
  case atStart => exact ⟨0, rfl, Lib.hid (Nat.zero_le _), Kp.refl _⟩
  case round =>
    obtain ⟨k, rfl, hkm, hk0⟩ := hrel
    have hkm' : k ≤ m := hkm.out
    have K := Lib.hid (K.out.tr hk0.out)
    have T0B := Lib.hid (T0B.out.kp hk0.out)
    have PB := Lib.hid (PB.out.kp hk0.out)
    have QB := Lib.hid (QB.out.kp hk0.out)
    have NB := Lib.hid (NB.out.kp hk0.out)
    have MB := Lib.hid (MB.out.kp hk0.out)
    have RB := Lib.hid (RB.out.kp hk0.out)
    have SB := Lib.hid (SB.out.kp hk0.out)
    have P := Lib.hid (P.out.kp hk0.out)
    have Q := Lib.hid (Q.out.kp hk0.out)
    have N := Lib.hid (N.out.kp hk0.out)
    have M := Lib.hid (M.out.kp hk0.out)
    have R := Lib.hid (R.out.kp hk0.out)
    have S := Lib.hid (S.out.kp hk0.out)
    by_cases hlt : k < m
    · have hlx : k < xs.length := by rw [L0.out.2]; exact hlt
      obtain ⟨ad, x, rfl, hbl, hx, hc⟩ := (HT.out.kp K.out).d.at_ hlx
      obtain ⟨ar, y, rfl, hbl2, hy, hc2⟩ := R.out.d.at_ (k := k) (by rw [LR.out]; exact hlt)
      have hyx : y = max x 0 := by rw [HR.out k x hx] at hy; exact (Option.some.inj hy).symm
      have t0 := T0B.out.c1
      have r0 := RB.out.c1
      have j1 : (0 : Int) ≤ (k : Int) := by omega
      have j2 : (k : Int) < (m : Int) := by omega
      have y1 : (decide (y < 0)) = false := by simp; omega
      have y2 : (decide (y < x)) = false := by simp; omega
      by_cases hy0 : y = 0
      · have y3 : (y != 0) = false := by simpa using hy0
        clear hx hy hyx hy0 hlx
        go_wp2
        go_quiet (fail)
        go_wp2
        go_roundw
        case rel => exact ⟨k + 1, by go_num, Lib.hid hlt, hk0.out.tr (Kp.drewN_ _ _)⟩
        case measure => simp [intOf]; omega
      · have y3 : (y != 0) = true := by simpa using hy0
        have y4 : (y != x) = false := by simp; omega
        clear hx hy hyx hy0 hlx
        go_wp2
        go_quiet (fail)
        go_wp2
        go_roundw
        case rel => exact ⟨k + 1, by go_num, Lib.hid hlt, hk0.out.tr (Kp.drewN_ _ _)⟩
        case measure => simp [intOf]; omega
    · have hkm2 : k = m := by omega
      subst hkm2
      have zrb0 := RB.out.c0
      have zrb1 := RB.out.c1
      have zrb2 := RB.out.lt
      have zt0b0 := T0B.out.c0
      have zt0b1 := T0B.out.c1
      have zt0b2 := T0B.out.lt
      have zpb0 := PB.out.c0
      have zpb1 := PB.out.c1
      have zpb2 := PB.out.lt
      go_wp2_with fail
      refine (tsame_u P.out (HT.out.kp K.out) L0.out.1 L0.out.2).mono ?_; rintro e0 w10 ⟨rfl, k10⟩
      have K := Lib.hid (K.out.tr k10)
      have T0B := Lib.hid (T0B.out.kp k10)
      have PB := Lib.hid (PB.out.kp k10)
      have QB := Lib.hid (QB.out.kp k10)
      have NB := Lib.hid (NB.out.kp k10)
      have MB := Lib.hid (MB.out.kp k10)
      have RB := Lib.hid (RB.out.kp k10)
      have SB := Lib.hid (SB.out.kp k10)
      have P := Lib.hid (P.out.kp k10)
      have Q := Lib.hid (Q.out.kp k10)
      have N := Lib.hid (N.out.kp k10)
      have M := Lib.hid (M.out.kp k10)
      have R := Lib.hid (R.out.kp k10)
      have S := Lib.hid (S.out.kp k10)
      clear k10 zrb0 zrb1 zrb2 zt0b0 zt0b1 zt0b2 zpb0 zpb1 zpb2
      have zqb0 := QB.out.c0
      have zqb1 := QB.out.c1
      have zqb2 := QB.out.lt
      have zt0b0 := T0B.out.c0
      have zt0b1 := T0B.out.c1
      have zt0b2 := T0B.out.lt
      go_wp2_with fail
      refine (tsame_u Q.out (HT.out.kp K.out) L0.out.1 L0.out.2).mono ?_; rintro e0 w11 ⟨rfl, k11⟩
      have K := Lib.hid (K.out.tr k11)
      have T0B := Lib.hid (T0B.out.kp k11)
      have PB := Lib.hid (PB.out.kp k11)
      have QB := Lib.hid (QB.out.kp k11)
      have NB := Lib.hid (NB.out.kp k11)
      have MB := Lib.hid (MB.out.kp k11)
      have RB := Lib.hid (RB.out.kp k11)
      have SB := Lib.hid (SB.out.kp k11)
      have P := Lib.hid (P.out.kp k11)
      have Q := Lib.hid (Q.out.kp k11)
      have N := Lib.hid (N.out.kp k11)
      have M := Lib.hid (M.out.kp k11)
      have R := Lib.hid (R.out.kp k11)
      have S := Lib.hid (S.out.kp k11)
      clear k11 zqb0 zqb1 zqb2 zt0b0 zt0b1 zt0b2
      have zmb0 := MB.out.c0
      have zmb1 := MB.out.c1
      have zmb2 := MB.out.lt
      have zt0b0 := T0B.out.c0
      have zt0b1 := T0B.out.c1
      have zt0b2 := T0B.out.lt
      by_cases h3 : e3 = 0
      · obtain ⟨q1, q2, q3, q4, q5⟩ := HE.out h3
        subst h3 q1 q2 q3 q4 q5
        go_wp2_with fail
        refine (tsame_u M.out (HT.out.kp K.out) L0.out.1 L0.out.2).mono ?_; rintro e0 w12 ⟨rfl, k12⟩
        have K := Lib.hid (K.out.tr k12)
        have T0B := Lib.hid (T0B.out.kp k12)
        have PB := Lib.hid (PB.out.kp k12)
        have QB := Lib.hid (QB.out.kp k12)
        have NB := Lib.hid (NB.out.kp k12)
        have MB := Lib.hid (MB.out.kp k12)
        have RB := Lib.hid (RB.out.kp k12)
        have SB := Lib.hid (SB.out.kp k12)
        have P := Lib.hid (P.out.kp k12)
        have Q := Lib.hid (Q.out.kp k12)
        have N := Lib.hid (N.out.kp k12)
        have M := Lib.hid (M.out.kp k12)
        have R := Lib.hid (R.out.kp k12)
        have S := Lib.hid (S.out.kp k12)
        clear k12 zmb0 zmb1 zmb2 zt0b0 zt0b1 zt0b2
        have zrb0 := RB.out.c0
        have zrb1 := RB.out.c1
        have zrb2 := RB.out.lt
        have zsb0 := SB.out.c0
        have zsb1 := SB.out.c1
        have zsb2 := SB.out.lt
        go_wp2_with fail
        refine (tsame_u R.out S.out L0.out.1 LR.out).mono ?_; rintro e0 w13 ⟨rfl, k13⟩
        have K := Lib.hid (K.out.tr k13)
        have T0B := Lib.hid (T0B.out.kp k13)
        have PB := Lib.hid (PB.out.kp k13)
        have QB := Lib.hid (QB.out.kp k13)
        have NB := Lib.hid (NB.out.kp k13)
        have MB := Lib.hid (MB.out.kp k13)
        have RB := Lib.hid (RB.out.kp k13)
        have SB := Lib.hid (SB.out.kp k13)
        have P := Lib.hid (P.out.kp k13)
        have Q := Lib.hid (Q.out.kp k13)
        have N := Lib.hid (N.out.kp k13)
        have M := Lib.hid (M.out.kp k13)
        have R := Lib.hid (R.out.kp k13)
        have S := Lib.hid (S.out.kp k13)
        clear k13 zrb0 zrb1 zrb2 zsb0 zsb1 zsb2
        go_wp2
        go_ret
        exact ⟨rfl, K.out⟩
      · skip
        clear zmb0 zmb1 zmb2 zt0b0 zt0b1 zt0b2
        have zrb0 := RB.out.c0
        have zrb1 := RB.out.c1
        have zrb2 := RB.out.lt
        have zsb0 := SB.out.c0
        have zsb1 := SB.out.c1
        have zsb2 := SB.out.lt
        go_wp2_with fail
        refine (tsame_u R.out S.out L0.out.1 LR.out).mono ?_; rintro e0 w12 ⟨rfl, k12⟩
        have K := Lib.hid (K.out.tr k12)
        have T0B := Lib.hid (T0B.out.kp k12)
        have PB := Lib.hid (PB.out.kp k12)
        have QB := Lib.hid (QB.out.kp k12)
        have NB := Lib.hid (NB.out.kp k12)
        have MB := Lib.hid (MB.out.kp k12)
        have RB := Lib.hid (RB.out.kp k12)
        have SB := Lib.hid (SB.out.kp k12)
        have P := Lib.hid (P.out.kp k12)
        have Q := Lib.hid (Q.out.kp k12)
        have N := Lib.hid (N.out.kp k12)
        have M := Lib.hid (M.out.kp k12)
        have R := Lib.hid (R.out.kp k12)
        have S := Lib.hid (S.out.kp k12)
        clear k12 zrb0 zrb1 zrb2 zsb0 zsb1 zsb2
        go_wp2
        go_ret
        exact ⟨rfl, K.out⟩

theorem eones_walk (A B : Option Addr) (c d : Nat) (s xs : List Int) (w : World) (R0 : TR w A s B xs) (I0 : I64s xs) :
    Calls Try.prog 6 #[.agg #[.slice A s.length c, .slice B xs.length d]] w fun e w' => e = .returned (.bool true) ∧ Kp w w' := by
  by_cases f0 : 100 < s.length ∨ 100 < xs.length
  · exact eones_far0 A B _ c _ d w  R0.s.len R0.d.len f0
  by_cases b0 : tokV s xs = false
  · exact eones_far1 A B _ c _ d w (by omega) (by omega) (Lib.hid fun W k => tcheck_u s xs (R0.kp k) rfl rfl b0)
  have b0 : tokV s xs = true := by simpa using b0
  obtain ⟨l3, k3, e3, r3⟩ : ∃ l k e, oneV 20 s xs = (l, k, e) := ⟨_, _, _, rfl⟩
  obtain ⟨l4, k4, e4, r4⟩ : ∃ l k e, oneV 20 l3 k3 = (l, k, e) := ⟨_, _, _, rfl⟩
  have hi3 : I64s k3 := by have := one_i64 20 s I0; rw [r3] at this; exact this
  have hir : I64s (xs.map (max · 0)) := by have := one_i64 21 s I0; rw [relu_one b0] at this; exact this
  have hi1 : I64s [4294967296] := by unfold I64s; decide
  refine eones_with A B _ c _ d w (by omega) (by omega) (Lib.hid fun W k => tcheck_u s xs (R0.kp k) rfl rfl b0) s xs (xs.map (max · 0)) l3 k3 l4 k4 _ _ _ _ e3 e4 (tok_len b0).2.2.2 (Lib.hid ⟨rfl, rfl⟩) (Lib.hid (by simp)) (Lib.hid R0) (Lib.hid fun k x hx => by simp [List.getElem?_map, hx]) (Lib.hid ?_)
    (Lib.hid fun W k => full_u [] 4294967296 (Rd.nil _ _) rfl rfl rfl rfl)
    (Lib.hid fun W A0 B0 c0 d0 k r => two_u s xs [] [4294967296] (R0.kp k) r I0 hi1 rfl rfl rfl rfl (mul_one b0 I0) rfl rfl)
    (Lib.hid fun W A0 B0 c0 d0 k r => two_u s xs [] [4294967296] (R0.kp k) r I0 hi1 rfl rfl rfl rfl (div_one b0 I0) rfl rfl)
    (Lib.hid fun W k => one_u s xs (R0.kp k) I0 rfl rfl r3 rfl rfl)
    (Lib.hid fun W A0 B0 c0 d0 k r => one_u l3 k3 r hi3 rfl rfl r4 rfl rfl)
    (Lib.hid fun W k => one_u s xs (R0.kp k) I0 rfl rfl (relu_one b0) rfl (by simp))
    (Lib.hid fun W A0 B0 c0 d0 k r => one_u s (xs.map (max · 0)) r hir rfl (by simp) (relu_two b0) rfl (by simp))
  intro z
  have hz : (oneV 20 s xs).2.2 = 0 := by rw [r3]; exact z
  obtain ⟨ns, q1, q2⟩ := neg_two I0 hz
  rw [q1] at r3
  obtain ⟨rfl, rfl, rfl⟩ : s = l3 ∧ ns = k3 ∧ 0 = e3 := by simpa using r3
  rw [q2] at r4
  obtain ⟨rfl, rfl, rfl⟩ : s = l4 ∧ xs = k4 ∧ 0 = e4 := by simpa using r4
  exact ⟨rfl, rfl, rfl, rfl, rfl⟩
end Go.Proofs.Ytofolfnnjdccgaa
