/- Two sides are added to the same, whichever is first, and the greatest number of all does not hang on it either: the law's call returns true. -/
import Derived.Test.YtpglchimghnpeaaRdAw
import Derived.Test.YtpglchimghnpeaaRdL
namespace Go.Proofs.Ytpglchimghnpeaa
open Go.RowKit Go.Proofs.ShM
set_option linter.unusedVariables false
set_option linter.unusedSimpArgs false

set_option maxHeartbeats 4000000 in
set_option maxRecDepth 100000 in
theorem rtwice_far0 (A B : Option Addr) (n c m d : Nat) (w : World) (zn : n ≤ 9223372036854775807) (zm : m ≤ 9223372036854775807) (hf : 100 < n ∨ 100 < m) :
    Calls Try.prog 4 #[.agg #[.slice A n c, .slice B m d]] w fun e w' => e = .returned (.bool true) ∧ Kp w w' := by
  have HN : Hid (∀ W, Calls Try.prog 7 #[.agg #[.slice A n c, .slice B m d]] W fun e w' => e = .returned (.bool false) ∧ Kp W w') := fun W => few_no zn zm hf
  clear hf
  go_enter Try.func4, Try.ntmps4
  go_wp2_with fail
  refine (rdawake_any _).mono ?_; rintro e0 w0 ⟨rfl, k0⟩
  have K := Lib.hid ((Kp.alloc_ _ _).tr k0)
  have T0B : Hid (Bk w0 (w.heap.size) A n c B m d) := (Bk.new rfl).kp k0
  clear k0
  have zt0b0 := T0B.out.c0
  have zt0b1 := T0B.out.c1
  have zt0b2 := T0B.out.lt
  go_wp2_with fail
  refine (HN.out _).mono ?_; rintro e0 w1 ⟨rfl, k1⟩
  have K := Lib.hid (K.out.tr k1)
  have T0B := Lib.hid (T0B.out.kp k1)
  clear k1 zt0b0 zt0b1 zt0b2
  have zt0b0 := T0B.out.c0
  have zt0b1 := T0B.out.c1
  have zt0b2 := T0B.out.lt
  go_wp2
  go_ret
  exact ⟨rfl, K.out⟩

set_option maxHeartbeats 4000000 in
set_option maxRecDepth 100000 in
theorem rtwice_far1 (A B : Option Addr) (n c m d : Nat) (w : World) (hn : n ≤ 100) (hm : m ≤ 100) (HC0 : Hid (∀ W, Kp w W → Calls Try.prog 19 #[.agg #[.slice A n c, .slice B m d]] W fun e w' => e = .returned (.bool false) ∧ Kp W w')) :
    Calls Try.prog 4 #[.agg #[.slice A n c, .slice B m d]] w fun e w' => e = .returned (.bool true) ∧ Kp w w' := by
  go_enter Try.func4, Try.ntmps4
  go_wp2_with fail
  refine (rdawake_any _).mono ?_; rintro e0 w0 ⟨rfl, k0⟩
  have K := Lib.hid ((Kp.alloc_ _ _).tr k0)
  have T0B : Hid (Bk w0 (w.heap.size) A n c B m d) := (Bk.new rfl).kp k0
  clear k0
  have zt0b0 := T0B.out.c0
  have zt0b1 := T0B.out.c1
  have zt0b2 := T0B.out.lt
  go_wp2_with fail
  refine (few_yes hn hm).mono ?_; rintro e0 w1 ⟨rfl, k1⟩
  have K := Lib.hid (K.out.tr k1)
  have T0B := Lib.hid (T0B.out.kp k1)
  clear k1 zt0b0 zt0b1 zt0b2
  have zt0b0 := T0B.out.c0
  have zt0b1 := T0B.out.c1
  have zt0b2 := T0B.out.lt
  go_wp2_with fail
  refine (HC0.out _ K.out).mono ?_; rintro e0 w2 ⟨rfl, k2⟩
  have K := Lib.hid (K.out.tr k2)
  have T0B := Lib.hid (T0B.out.kp k2)
  clear k2 zt0b0 zt0b1 zt0b2
  have zt0b0 := T0B.out.c0
  have zt0b1 := T0B.out.c1
  have zt0b2 := T0B.out.lt
  go_wp2
  go_ret
  exact ⟨rfl, K.out⟩

set_option maxHeartbeats 8000000 in
set_option maxRecDepth 100000 in
theorem rtwice_far2 (A B : Option Addr) (n c m d : Nat) (w : World) (hn : n ≤ 100) (hm : m ≤ 100) (HC0 : Hid (∀ W, Kp w W → Calls Try.prog 19 #[.agg #[.slice A n c, .slice B m d]] W fun e w' => e = .returned (.bool true) ∧ Kp W w')) (hx : ((n : Int) != 2) = true) :
    Calls Try.prog 4 #[.agg #[.slice A n c, .slice B m d]] w fun e w' => e = .returned (.bool true) ∧ Kp w w' := by
  go_enter Try.func4, Try.ntmps4
  go_wp2_with fail
  refine (rdawake_any _).mono ?_; rintro e0 w0 ⟨rfl, k0⟩
  have K := Lib.hid ((Kp.alloc_ _ _).tr k0)
  have T0B : Hid (Bk w0 (w.heap.size) A n c B m d) := (Bk.new rfl).kp k0
  clear k0
  have zt0b0 := T0B.out.c0
  have zt0b1 := T0B.out.c1
  have zt0b2 := T0B.out.lt
  go_wp2_with fail
  refine (few_yes hn hm).mono ?_; rintro e0 w1 ⟨rfl, k1⟩
  have K := Lib.hid (K.out.tr k1)
  have T0B := Lib.hid (T0B.out.kp k1)
  clear k1 zt0b0 zt0b1 zt0b2
  have zt0b0 := T0B.out.c0
  have zt0b1 := T0B.out.c1
  have zt0b2 := T0B.out.lt
  go_wp2_with fail
  refine (HC0.out _ K.out).mono ?_; rintro e0 w2 ⟨rfl, k2⟩
  have K := Lib.hid (K.out.tr k2)
  have T0B := Lib.hid (T0B.out.kp k2)
  clear k2 zt0b0 zt0b1 zt0b2
  have zt0b0 := T0B.out.c0
  have zt0b1 := T0B.out.c1
  have zt0b2 := T0B.out.lt
  go_wp2
  go_ret
  exact ⟨rfl, K.out⟩

set_option maxHeartbeats 8000000 in
set_option maxRecDepth 100000 in
theorem rtwice_far3 (A B : Option Addr) (c m d : Nat) (xs : List Int) (w : World) (h2 : 2 ≤ 100) (hm : m ≤ 100) (HC0 : Hid (∀ W, Kp w W → Calls Try.prog 19 #[.agg #[.slice A 2 c, .slice B m d]] W fun e w' => e = .returned (.bool true) ∧ Kp W w')) (HT : Hid (Rd w B xs)) (HL : Hid (xs.length = m)) (hbig : Hid (¬ Sm 1099511627776 xs)) :
    Calls Try.prog 4 #[.agg #[.slice A 2 c, .slice B m d]] w fun e w' => e = .returned (.bool true) ∧ Kp w w' := by
  have hn2 : ((2 : Int) != 2) = false := by decide
  go_enter Try.func4, Try.ntmps4
  go_wp2_with fail
  refine (rdawake_any _).mono ?_; rintro e0 w0 ⟨rfl, k0⟩
  have K := Lib.hid ((Kp.alloc_ _ _).tr k0)
  have HT := Lib.hid ((HT.out.alloc_ _).kp k0)
  have T0B : Hid (Bk w0 (w.heap.size) A 2 c B m d) := (Bk.new rfl).kp k0
  clear k0
  have zt0b0 := T0B.out.c0
  have zt0b1 := T0B.out.c1
  have zt0b2 := T0B.out.lt
  go_wp2_with fail
  refine (few_yes h2 hm).mono ?_; rintro e0 w1 ⟨rfl, k1⟩
  have K := Lib.hid (K.out.tr k1)
  have T0B := Lib.hid (T0B.out.kp k1)
  have HT := Lib.hid (HT.out.kp k1)
  clear k1 zt0b0 zt0b1 zt0b2
  have zt0b0 := T0B.out.c0
  have zt0b1 := T0B.out.c1
  have zt0b2 := T0B.out.lt
  go_wp2_with fail
  refine (HC0.out _ K.out).mono ?_; rintro e0 w2 ⟨rfl, k2⟩
  have K := Lib.hid (K.out.tr k2)
  have T0B := Lib.hid (T0B.out.kp k2)
  have HT := Lib.hid (HT.out.kp k2)
  clear k2 zt0b0 zt0b1 zt0b2
  have zt0b0 := T0B.out.c0
  have zt0b1 := T0B.out.c1
  have zt0b2 := T0B.out.lt
  have t0 := T0B.out.c0
  have t1 := T0B.out.c1
  clear zt0b0 zt0b1 zt0b2
  go_wp2
  go_loopw [4] (fun i wr => ∃ (i' : Nat), i = .int .i64 i' ∧ Hid (i' ≤ m) ∧ Hid (∀ j, j < i' → -1099511627776 ≤ xs.getD j 0 ∧ xs.getD j 0 ≤ 1099511627776) ∧ Hid (wr = w2)) (fun i _ => m - (intOf i).toNat)
  case atStart => exact ⟨0, rfl, Lib.hid (Nat.zero_le _), Lib.hid (fun j hj => absurd hj (Nat.not_lt_zero _)), Lib.hid rfl⟩
  case round =>
    obtain ⟨i, rfl, hil, hsm, hw0⟩ := hrel
    obtain rfl : w2 = wr := hw0.out.symm
    have hil' : i ≤ m := hil.out
    by_cases hlt : i < m
    · obtain ⟨ax, v, eax, hbv, hv, hcv⟩ := HT.out.at_ (k := i) (by rw [HL.out]; exact hlt)
      have i1 : (0 : Int) ≤ (i : Int) := by omega
      have i2 : (i : Int) < (m : Int) := by omega
      have HV := Lib.hid (And.intro hv hlt)
      subst eax
      by_cases c1 : v < -1099511627776
      · have c1' : (decide (v < -1099511627776)) = true := by simpa using c1
        clear hv c1
        go_wp2
        go_ret
        exact ⟨rfl, K.out⟩
      · have c1' : (decide (v < -1099511627776)) = false := by simpa using c1
        by_cases c2 : 1099511627776 < v
        · have c2' : (decide (1099511627776 < v)) = true := by simpa using c2
          clear hv c1 c2
          go_wp2
          go_ret
          exact ⟨rfl, K.out⟩
        · have c2' : (decide (1099511627776 < v)) = false := by simpa using c2
          have HS : Hid (∀ j, j < i + 1 → -1099511627776 ≤ xs.getD j 0 ∧ xs.getD j 0 ≤ 1099511627776) := fun j hj => by
            by_cases e : j = i
            · subst e; rw [List.getD, hv]; exact ⟨by show _ ≤ v; omega, by show v ≤ _; omega⟩
            · exact hsm.out j (by omega)
          clear hv c1 c2
          go_wp2
          go_roundw
          case rel => exact ⟨i + 1, by go_num, Lib.hid hlt, HS.out, by first | exact Lib.hid rfl | exact Lib.hid trivial⟩
          case measure => simp [intOf]; omega
    · exact absurd (fun j hj => hsm.out j (by rw [HL.out] at hj; omega)) hbig.out

set_option maxHeartbeats 8000000 in
set_option maxRecDepth 100000 in
theorem rtwice_with (A B : Option Addr) (c m d : Nat) (r s : Nat) (xs k1 k3 p1 p3 : List Int) (b1 b3 f1 f3 : Nat) (z y : Int) (w : World) (h2 : 2 ≤ 100) (hm : m ≤ 100) (HC0 : Hid (∀ W, Kp w W → Calls Try.prog 19 #[.agg #[.slice A 2 c, .slice B m d]] W fun e w' => e = .returned (.bool true) ∧ Kp W w')) (HT : Hid (TR w A [(r : Int), (s : Int)] B xs)) (HL : Hid (xs.length = m)) (hsml : Hid (Sm 1099511627776 xs))
    (C1 : Hid (∀ W, Kp w W → Calls Try.prog 8 #[.agg #[.slice A 2 c, .slice B m d], .int .i64 0] W (RetUc [(s : Int)] k1 1 b1 0 W)))
    (C2 : Hid (∀ W A0 B0 c0 d0, Kp w W → TR W A0 [(s : Int)] B0 k1 → Hid (([(s : Int)] : List Int).length ≤ c0 ∧ c0 ≤ 9223372036854775807) → Calls Try.prog 8 #[.agg #[.slice A0 1 c0, .slice B0 b1 d0], .int .i64 0] W (RetU [] [z] 0 1 0 W)))
    (C3 : Hid (∀ W, Kp w W → Calls Try.prog 8 #[.agg #[.slice A 2 c, .slice B m d], .int .i64 1] W (RetUc [(r : Int)] k3 1 b3 0 W)))
    (C4 : Hid (∀ W A0 B0 c0 d0, Kp w W → TR W A0 [(r : Int)] B0 k3 → Hid (([(r : Int)] : List Int).length ≤ c0 ∧ c0 ≤ 9223372036854775807) → Calls Try.prog 8 #[.agg #[.slice A0 1 c0, .slice B0 b3 d0], .int .i64 0] W (RetU [] [z] 0 1 0 W)))
    (D1 : Hid (∀ W, Kp w W → Calls Try.prog 13 #[.agg #[.slice A 2 c, .slice B m d], .int .i64 0] W (RetUc [(s : Int)] p1 1 f1 0 W)))
    (D2 : Hid (∀ W A0 B0 c0 d0, Kp w W → TR W A0 [(s : Int)] B0 p1 → Hid (([(s : Int)] : List Int).length ≤ c0 ∧ c0 ≤ 9223372036854775807) → Calls Try.prog 13 #[.agg #[.slice A0 1 c0, .slice B0 f1 d0], .int .i64 0] W (RetU [] [y] 0 1 0 W)))
    (D3 : Hid (∀ W, Kp w W → Calls Try.prog 13 #[.agg #[.slice A 2 c, .slice B m d], .int .i64 1] W (RetUc [(r : Int)] p3 1 f3 0 W)))
    (D4 : Hid (∀ W A0 B0 c0 d0, Kp w W → TR W A0 [(r : Int)] B0 p3 → Hid (([(r : Int)] : List Int).length ≤ c0 ∧ c0 ≤ 9223372036854775807) → Calls Try.prog 13 #[.agg #[.slice A0 1 c0, .slice B0 f3 d0], .int .i64 0] W (RetU [] [y] 0 1 0 W))) :
    Calls Try.prog 4 #[.agg #[.slice A 2 c, .slice B m d]] w fun e w' => e = .returned (.bool true) ∧ Kp w w' := by
  have hn2 : ((2 : Int) != 2) = false := by decide
  go_enter Try.func4, Try.ntmps4
  go_wp2_with fail
  refine (rdawake_any _).mono ?_; rintro e0 w0 ⟨rfl, k0⟩
  have K := Lib.hid ((Kp.alloc_ _ _).tr k0)
  have HT := Lib.hid ((HT.out.alloc_ _).kp k0)
  have T0B : Hid (Bk w0 (w.heap.size) A 2 c B m d) := (Bk.new rfl).kp k0
  clear k0
  have zt0b0 := T0B.out.c0
  have zt0b1 := T0B.out.c1
  have zt0b2 := T0B.out.lt
  go_wp2_with fail
  refine (few_yes h2 hm).mono ?_; rintro e0 w1 ⟨rfl, k1⟩
  have K := Lib.hid (K.out.tr k1)
  have T0B := Lib.hid (T0B.out.kp k1)
  have HT := Lib.hid (HT.out.kp k1)
  clear k1 zt0b0 zt0b1 zt0b2
  have zt0b0 := T0B.out.c0
  have zt0b1 := T0B.out.c1
  have zt0b2 := T0B.out.lt
  go_wp2_with fail
  refine (HC0.out _ K.out).mono ?_; rintro e0 w2 ⟨rfl, k2⟩
  have K := Lib.hid (K.out.tr k2)
  have T0B := Lib.hid (T0B.out.kp k2)
  have HT := Lib.hid (HT.out.kp k2)
  clear k2 zt0b0 zt0b1 zt0b2
  have zt0b0 := T0B.out.c0
  have zt0b1 := T0B.out.c1
  have zt0b2 := T0B.out.lt
  have t0 := T0B.out.c0
  have t1 := T0B.out.c1
  clear zt0b0 zt0b1 zt0b2
  go_wp2
  go_loopw [4] (fun i wr => ∃ (i' : Nat), i = .int .i64 i' ∧ Hid (i' ≤ m) ∧ Hid (True) ∧ Hid (wr = w2)) (fun i _ => m - (intOf i).toNat)
  case atStart => exact ⟨0, rfl, Lib.hid (Nat.zero_le _), Lib.hid (trivial), Lib.hid rfl⟩
  case round =>
    obtain ⟨i, rfl, hil, hsm, hw0⟩ := hrel
    obtain rfl : w2 = wr := hw0.out.symm
    have hil' : i ≤ m := hil.out
    by_cases hlt : i < m
    · obtain ⟨ax, v, eax, hbv, hv, hcv⟩ := HT.out.d.at_ (k := i) (by rw [HL.out]; exact hlt)
      have i1 : (0 : Int) ≤ (i : Int) := by omega
      have i2 : (i : Int) < (m : Int) := by omega
      have HV := Lib.hid (And.intro hv hlt)
      subst eax
      by_cases c1 : v < -1099511627776
      · have := hsml.out i (by rw [HL.out]; exact hlt)
        rw [List.getD, hv, Option.getD_some] at this
        omega
      · have c1' : (decide (v < -1099511627776)) = false := by simpa using c1
        by_cases c2 : 1099511627776 < v
        · have := hsml.out i (by rw [HL.out]; exact hlt)
          rw [List.getD, hv, Option.getD_some] at this
          omega
        · have c2' : (decide (1099511627776 < v)) = false := by simpa using c2
          have HS : Hid True := trivial
          clear hv c1 c2
          go_wp2
          go_roundw
          case rel => exact ⟨i + 1, by go_num, Lib.hid hlt, HS.out, by first | exact Lib.hid rfl | exact Lib.hid trivial⟩
          case measure => simp [intOf]; omega
    · skip
      go_wp2_with fail
      refine (C1.out _ K.out).mono ?_; rintro e0 w3 ⟨A3, c3, B3, d3, rfl, r3, k3, HCPa⟩
      have K := Lib.hid (K.out.tr k3)
      have T0B := Lib.hid (T0B.out.kp k3)
      have HT := Lib.hid (HT.out.kp k3)
      have Pa := Lib.hid r3
      clear k3 r3 t0 t1
      go_wp2_with fail
      refine (C2.out _ _ _ _ _ (K.out.al _) (Pa.out.alloc_ _) HCPa).mono ?_; rintro e0 w4 ⟨A4, c4, B4, d4, rfl, r4, k4⟩
      have K := Lib.hid ((K.out.al _).tr k4)
      have T0B := Lib.hid ((T0B.out.alloc_ _).kp k4)
      have HT := Lib.hid ((HT.out.alloc_ _).kp k4)
      have Pa := Lib.hid ((Pa.out.alloc_ _).kp k4)
      have PaB : Hid (Bk w4 w3.heap.size A3 1 c3 B3 b1 d3) := (Bk.new rfl).kp k4
      have Pb := Lib.hid r4
      clear k4 r4
      have zt0b0 := T0B.out.c0
      have zt0b1 := T0B.out.c1
      have zt0b2 := T0B.out.lt
      go_wp2_with fail
      refine (C3.out _ (K.out.al _)).mono ?_; rintro e0 w5 ⟨A5, c5, B5, d5, rfl, r5, k5, HCPc⟩
      have K := Lib.hid ((K.out.al _).tr k5)
      have T0B := Lib.hid ((T0B.out.alloc_ _).kp k5)
      have PaB := Lib.hid ((PaB.out.alloc_ _).kp k5)
      have HT := Lib.hid ((HT.out.alloc_ _).kp k5)
      have Pa := Lib.hid ((Pa.out.alloc_ _).kp k5)
      have Pb := Lib.hid ((Pb.out.alloc_ _).kp k5)
      have PbB : Hid (Bk w5 w4.heap.size A4 0 c4 B4 1 d4) := (Bk.new rfl).kp k5
      have Pc := Lib.hid r5
      clear k5 r5 zt0b0 zt0b1 zt0b2
      go_wp2_with fail
      refine (C4.out _ _ _ _ _ (K.out.al _) (Pc.out.alloc_ _) HCPc).mono ?_; rintro e0 w6 ⟨A6, c6, B6, d6, rfl, r6, k6⟩
      have K := Lib.hid ((K.out.al _).tr k6)
      have T0B := Lib.hid ((T0B.out.alloc_ _).kp k6)
      have PaB := Lib.hid ((PaB.out.alloc_ _).kp k6)
      have PbB := Lib.hid ((PbB.out.alloc_ _).kp k6)
      have HT := Lib.hid ((HT.out.alloc_ _).kp k6)
      have Pa := Lib.hid ((Pa.out.alloc_ _).kp k6)
      have Pb := Lib.hid ((Pb.out.alloc_ _).kp k6)
      have Pc := Lib.hid ((Pc.out.alloc_ _).kp k6)
      have PcB : Hid (Bk w6 w5.heap.size A5 1 c5 B5 b3 d5) := (Bk.new rfl).kp k6
      have Pd := Lib.hid r6
      clear k6 r6
      have zt0b0 := T0B.out.c0
      have zt0b1 := T0B.out.c1
      have zt0b2 := T0B.out.lt
      go_wp2_with fail
      refine (D1.out _ (K.out.al _)).mono ?_; rintro e0 w7 ⟨A7, c7, B7, d7, rfl, r7, k7, HCMa⟩
      have K := Lib.hid ((K.out.al _).tr k7)
      have T0B := Lib.hid ((T0B.out.alloc_ _).kp k7)
      have PaB := Lib.hid ((PaB.out.alloc_ _).kp k7)
      have PbB := Lib.hid ((PbB.out.alloc_ _).kp k7)
      have PcB := Lib.hid ((PcB.out.alloc_ _).kp k7)
      have HT := Lib.hid ((HT.out.alloc_ _).kp k7)
      have Pa := Lib.hid ((Pa.out.alloc_ _).kp k7)
      have Pb := Lib.hid ((Pb.out.alloc_ _).kp k7)
      have Pc := Lib.hid ((Pc.out.alloc_ _).kp k7)
      have Pd := Lib.hid ((Pd.out.alloc_ _).kp k7)
      have PdB : Hid (Bk w7 w6.heap.size A6 0 c6 B6 1 d6) := (Bk.new rfl).kp k7
      have Ma := Lib.hid r7
      clear k7 r7 zt0b0 zt0b1 zt0b2
      go_wp2_with fail
      refine (D2.out _ _ _ _ _ (K.out.al _) (Ma.out.alloc_ _) HCMa).mono ?_; rintro e0 w8 ⟨A8, c8, B8, d8, rfl, r8, k8⟩
      have K := Lib.hid ((K.out.al _).tr k8)
      have T0B := Lib.hid ((T0B.out.alloc_ _).kp k8)
      have PaB := Lib.hid ((PaB.out.alloc_ _).kp k8)
      have PbB := Lib.hid ((PbB.out.alloc_ _).kp k8)
      have PcB := Lib.hid ((PcB.out.alloc_ _).kp k8)
      have PdB := Lib.hid ((PdB.out.alloc_ _).kp k8)
      have HT := Lib.hid ((HT.out.alloc_ _).kp k8)
      have Pa := Lib.hid ((Pa.out.alloc_ _).kp k8)
      have Pb := Lib.hid ((Pb.out.alloc_ _).kp k8)
      have Pc := Lib.hid ((Pc.out.alloc_ _).kp k8)
      have Pd := Lib.hid ((Pd.out.alloc_ _).kp k8)
      have Ma := Lib.hid ((Ma.out.alloc_ _).kp k8)
      have MaB : Hid (Bk w8 w7.heap.size A7 1 c7 B7 f1 d7) := (Bk.new rfl).kp k8
      have Mb := Lib.hid r8
      clear k8 r8
      have zt0b0 := T0B.out.c0
      have zt0b1 := T0B.out.c1
      have zt0b2 := T0B.out.lt
      go_wp2_with fail
      refine (D3.out _ (K.out.al _)).mono ?_; rintro e0 w9 ⟨A9, c9, B9, d9, rfl, r9, k9, HCMc⟩
      have K := Lib.hid ((K.out.al _).tr k9)
      have T0B := Lib.hid ((T0B.out.alloc_ _).kp k9)
      have PaB := Lib.hid ((PaB.out.alloc_ _).kp k9)
      have PbB := Lib.hid ((PbB.out.alloc_ _).kp k9)
      have PcB := Lib.hid ((PcB.out.alloc_ _).kp k9)
      have PdB := Lib.hid ((PdB.out.alloc_ _).kp k9)
      have MaB := Lib.hid ((MaB.out.alloc_ _).kp k9)
      have HT := Lib.hid ((HT.out.alloc_ _).kp k9)
      have Pa := Lib.hid ((Pa.out.alloc_ _).kp k9)
      have Pb := Lib.hid ((Pb.out.alloc_ _).kp k9)
      have Pc := Lib.hid ((Pc.out.alloc_ _).kp k9)
      have Pd := Lib.hid ((Pd.out.alloc_ _).kp k9)
      have Ma := Lib.hid ((Ma.out.alloc_ _).kp k9)
      have Mb := Lib.hid ((Mb.out.alloc_ _).kp k9)
      have MbB : Hid (Bk w9 w8.heap.size A8 0 c8 B8 1 d8) := (Bk.new rfl).kp k9
      have Mc := Lib.hid r9
      clear k9 r9 zt0b0 zt0b1 zt0b2
      go_wp2_with fail
      refine (D4.out _ _ _ _ _ (K.out.al _) (Mc.out.alloc_ _) HCMc).mono ?_; rintro e0 w10 ⟨A10, c10, B10, d10, rfl, r10, k10⟩
      have K := Lib.hid ((K.out.al _).tr k10)
      have T0B := Lib.hid ((T0B.out.alloc_ _).kp k10)
      have PaB := Lib.hid ((PaB.out.alloc_ _).kp k10)
      have PbB := Lib.hid ((PbB.out.alloc_ _).kp k10)
      have PcB := Lib.hid ((PcB.out.alloc_ _).kp k10)
      have PdB := Lib.hid ((PdB.out.alloc_ _).kp k10)
      have MaB := Lib.hid ((MaB.out.alloc_ _).kp k10)
      have MbB := Lib.hid ((MbB.out.alloc_ _).kp k10)
      have HT := Lib.hid ((HT.out.alloc_ _).kp k10)
      have Pa := Lib.hid ((Pa.out.alloc_ _).kp k10)
      have Pb := Lib.hid ((Pb.out.alloc_ _).kp k10)
      have Pc := Lib.hid ((Pc.out.alloc_ _).kp k10)
      have Pd := Lib.hid ((Pd.out.alloc_ _).kp k10)
      have Ma := Lib.hid ((Ma.out.alloc_ _).kp k10)
      have Mb := Lib.hid ((Mb.out.alloc_ _).kp k10)
      have Mc := Lib.hid ((Mc.out.alloc_ _).kp k10)
      have McB : Hid (Bk w10 w9.heap.size A9 1 c9 B9 f3 d9) := (Bk.new rfl).kp k10
      have Md := Lib.hid r10
      clear k10 r10
      have zpbb0 := PbB.out.c0
      have zpbb1 := PbB.out.c1
      have zpbb2 := PbB.out.lt
      have zpdb0 := PdB.out.c0
      have zpdb1 := PdB.out.c1
      have zpdb2 := PdB.out.lt
      go_wp2_with fail
      refine (tsame_u (Pb.out.alloc_ _) (Pd.out.alloc_ _) rfl rfl).mono ?_; rintro e0 w11 ⟨rfl, k11⟩
      have K := Lib.hid ((K.out.al _).tr k11)
      have T0B := Lib.hid ((T0B.out.alloc_ _).kp k11)
      have PaB := Lib.hid ((PaB.out.alloc_ _).kp k11)
      have PbB := Lib.hid ((PbB.out.alloc_ _).kp k11)
      have PcB := Lib.hid ((PcB.out.alloc_ _).kp k11)
      have PdB := Lib.hid ((PdB.out.alloc_ _).kp k11)
      have MaB := Lib.hid ((MaB.out.alloc_ _).kp k11)
      have MbB := Lib.hid ((MbB.out.alloc_ _).kp k11)
      have McB := Lib.hid ((McB.out.alloc_ _).kp k11)
      have HT := Lib.hid ((HT.out.alloc_ _).kp k11)
      have Pa := Lib.hid ((Pa.out.alloc_ _).kp k11)
      have Pb := Lib.hid ((Pb.out.alloc_ _).kp k11)
      have Pc := Lib.hid ((Pc.out.alloc_ _).kp k11)
      have Pd := Lib.hid ((Pd.out.alloc_ _).kp k11)
      have Ma := Lib.hid ((Ma.out.alloc_ _).kp k11)
      have Mb := Lib.hid ((Mb.out.alloc_ _).kp k11)
      have Mc := Lib.hid ((Mc.out.alloc_ _).kp k11)
      have Md := Lib.hid ((Md.out.alloc_ _).kp k11)
      have MdB : Hid (Bk w11 w10.heap.size A10 0 c10 B10 1 d10) := (Bk.new rfl).kp k11
      clear k11 zpbb0 zpbb1 zpbb2 zpdb0 zpdb1 zpdb2
      have zmbb0 := MbB.out.c0
      have zmbb1 := MbB.out.c1
      have zmbb2 := MbB.out.lt
      have zmdb0 := MdB.out.c0
      have zmdb1 := MdB.out.c1
      have zmdb2 := MdB.out.lt
      go_wp2_with fail
      refine (tsame_u Mb.out Md.out rfl rfl).mono ?_; rintro e0 w12 ⟨rfl, k12⟩
      have K := Lib.hid (K.out.tr k12)
      have T0B := Lib.hid (T0B.out.kp k12)
      have PaB := Lib.hid (PaB.out.kp k12)
      have PbB := Lib.hid (PbB.out.kp k12)
      have PcB := Lib.hid (PcB.out.kp k12)
      have PdB := Lib.hid (PdB.out.kp k12)
      have MaB := Lib.hid (MaB.out.kp k12)
      have MbB := Lib.hid (MbB.out.kp k12)
      have McB := Lib.hid (McB.out.kp k12)
      have MdB := Lib.hid (MdB.out.kp k12)
      have HT := Lib.hid (HT.out.kp k12)
      have Pa := Lib.hid (Pa.out.kp k12)
      have Pb := Lib.hid (Pb.out.kp k12)
      have Pc := Lib.hid (Pc.out.kp k12)
      have Pd := Lib.hid (Pd.out.kp k12)
      have Ma := Lib.hid (Ma.out.kp k12)
      have Mb := Lib.hid (Mb.out.kp k12)
      have Mc := Lib.hid (Mc.out.kp k12)
      have Md := Lib.hid (Md.out.kp k12)
      clear k12 zmbb0 zmbb1 zmbb2 zmdb0 zmdb1 zmdb2
      have zpbb0 := PbB.out.c0
      have zpbb1 := PbB.out.c1
      have zpbb2 := PbB.out.lt
      go_wp2
      go_ret
      exact ⟨rfl, K.out⟩

theorem rtwice_walk (A B : Option Addr) (c d : Nat) (s xs : List Int) (w : World) (R0 : TR w A s B xs) (I0 : I64s xs) (HC : Hid (s.length ≤ c ∧ c ≤ 9223372036854775807)) :
    Calls Try.prog 4 #[.agg #[.slice A s.length c, .slice B xs.length d]] w fun e w' => e = .returned (.bool true) ∧ Kp w w' := by
  by_cases f0 : 100 < s.length ∨ 100 < xs.length
  · exact rtwice_far0 A B _ c _ d w  R0.s.len R0.d.len f0
  by_cases b0 : tokV s xs = false
  · exact rtwice_far1 A B _ c _ d w (by omega) (by omega) (Lib.hid fun W k => tcheck_u s xs (R0.kp k) rfl rfl b0)
  have b0 : tokV s xs = true := by simpa using b0
  by_cases hx : s.length = 2
  · obtain ⟨r', s', rfl⟩ : ∃ x y, s = [x, y] := by
      match s, hx with
      | [x, y], _ => exact ⟨x, y, rfl⟩
    have ho := (tok_iff.1 b0).1
    have g0 := side_pos (ok_all ho) (a := 0) (by simp)
    have g1 := side_pos (ok_all ho) (a := 1) (by simp)
    have g0' : 1 ≤ r' := g0.1
    have g1' : 1 ≤ s' := g1.1
    obtain ⟨r, rfl⟩ : ∃ r : Nat, r' = (r : Int) := ⟨r'.toNat, by omega⟩
    obtain ⟨t, rfl⟩ : ∃ t : Nat, s' = (t : Int) := ⟨s'.toNat, by omega⟩
    by_cases hsm : Sm 1099511627776 xs
    · obtain ⟨k1, k3, z, q1, q2, q3, q4, q5, q6⟩ := sums_two hsm b0
      obtain ⟨p1, p3, y, v1, v2, v3, v4, v5, v6⟩ := maxs_two I0 b0
      exact rtwice_with A B c _ d r t xs k1 k3 p1 p3 _ _ _ _ z y w (by omega) (by omega) (Lib.hid fun W k => tcheck_u [(r : Int), (t : Int)] xs (R0.kp k) rfl rfl b0) (Lib.hid R0) (Lib.hid rfl) hsm
        (Lib.hid fun W k => psum_uc _ xs 0 (R0.kp k) HC I0 rfl rfl q1 rfl rfl) (Lib.hid fun W A0 B0 c0 d0 k h hc => psum_u _ k1 0 h hc q5 rfl rfl q2 rfl rfl)
        (Lib.hid fun W k => psum_uc _ xs 1 (R0.kp k) HC I0 rfl rfl q3 rfl rfl) (Lib.hid fun W A0 B0 c0 d0 k h hc => psum_u _ k3 0 h hc q6 rfl rfl q4 rfl rfl)
        (Lib.hid fun W k => pmax_uc _ xs 0 (R0.kp k) HC I0 rfl rfl v1 rfl rfl) (Lib.hid fun W A0 B0 c0 d0 k h hc => pmax_u _ p1 0 h hc v5 rfl rfl v2 rfl rfl)
        (Lib.hid fun W k => pmax_uc _ xs 1 (R0.kp k) HC I0 rfl rfl v3 rfl rfl) (Lib.hid fun W A0 B0 c0 d0 k h hc => pmax_u _ p3 0 h hc v6 rfl rfl v4 rfl rfl)
    · exact rtwice_far3 A B c _ d xs w (by omega) (by omega) (Lib.hid fun W k => tcheck_u [(r : Int), (t : Int)] xs (R0.kp k) rfl rfl b0) (Lib.hid R0.d) (Lib.hid rfl) hsm
  · exact rtwice_far2 A B _ c _ d w (by omega) (by omega) (Lib.hid fun W k => tcheck_u s xs (R0.kp k) rfl rfl b0) (by rw [bne_iff_ne]; omega)
end Go.Proofs.Ytpglchimghnpeaa
