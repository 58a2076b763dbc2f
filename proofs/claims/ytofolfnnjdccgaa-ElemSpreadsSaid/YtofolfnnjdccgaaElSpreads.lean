/- Two tensors are reckoned as they are when both were stretched, and one that is stretched, and reckoned alone, is what it is reckoned, and then stretched: the law's call returns true. -/
import Derived.Test.YtofolfnnjdccgaaElAw
import Derived.Test.YtofolfnnjdccgaaElR
namespace Go.Proofs.Ytofolfnnjdccgaa
open Go.RowKit Go.Proofs.ShM
set_option linter.unusedVariables false

/-- The answer is a list, so many numbers, and the error. -/
def RetS (l : List Int) (a : Nat) (err : Int) (w : World) (e : Ending) (w' : World) : Prop := ∃ A c, e = .returned (.tuple #[.slice A a c, .int .i64 err]) ∧ Rd w' A l ∧ Kp w w'
theorem join_s {A B : Option Addr} {c d n m a : Nat} {w : World} {l : List Int} {err : Int} (s t : List Int) (h : Rd w A s) (g : Rd w B t) (hn : n = s.length) (hm : m = t.length) (hr : joinV s t = (l, err)) (ha : l.length = a) :
    Calls Try.prog 21 #[.slice A n c, .slice B m d] w (RetS l a err w) := by
  subst hn hm ha
  refine (join_any A B c d s t w h g).mono fun e w' r => ?_
  rw [hr] at r
  obtain ⟨A', c', e1, o, k⟩ := r
  exact ⟨A', c', e1, o.rd, k⟩

set_option maxHeartbeats 4000000 in
set_option maxRecDepth 100000 in
theorem espreads_far0 (A B C D : Option Addr) (n c m d o e q f : Nat) (op : Int) (w : World) (zn : n ≤ 9223372036854775807) (zm : m ≤ 9223372036854775807) (hf : 100 < n ∨ 100 < m) :
    Calls Try.prog 8 #[.int .i64 op, .agg #[.slice A n c, .slice B m d], .agg #[.slice C o e, .slice D q f]] w fun e w' => e = .returned (.bool true) ∧ Kp w w' := by
  have HN : Hid (∀ W, Calls Try.prog 11 #[.agg #[.slice A n c, .slice B m d]] W fun e w' => e = .returned (.bool false) ∧ Kp W w') := fun W => few_no zn zm hf
  clear hf
  go_enter Try.func8, Try.ntmps8
  go_wp2_with fail
  refine (elawake_any _).mono ?_; rintro e0 w0 ⟨rfl, k0⟩
  have K := Lib.hid (((Kp.alloc_ _ _).al _).tr k0)
  have T0B : Hid (Bk w0 (w.heap.size) A n c B m d) := ((Bk.new rfl).alloc_ _).kp k0
  have T1B : Hid (Bk w0 (w.heap.size + 1) C o e D q f) := (Bk.new (by simp)).kp k0
  clear k0
  have zt0b0 := T0B.out.c0
  have zt0b1 := T0B.out.c1
  have zt0b2 := T0B.out.lt
  have zt1b0 := T1B.out.c0
  have zt1b1 := T1B.out.c1
  have zt1b2 := T1B.out.lt
  go_wp2_with fail
  refine (HN.out _).mono ?_; rintro e0 w1 ⟨rfl, k1⟩
  have K := Lib.hid (K.out.tr k1)
  have T0B := Lib.hid (T0B.out.kp k1)
  have T1B := Lib.hid (T1B.out.kp k1)
  clear k1 zt0b0 zt0b1 zt0b2 zt1b0 zt1b1 zt1b2
  have zt0b0 := T0B.out.c0
  have zt0b1 := T0B.out.c1
  have zt0b2 := T0B.out.lt
  have zt1b0 := T1B.out.c0
  have zt1b1 := T1B.out.c1
  have zt1b2 := T1B.out.lt
  go_wp2
  go_ret
  exact ⟨rfl, K.out⟩

set_option maxHeartbeats 4000000 in
set_option maxRecDepth 100000 in
theorem espreads_far1 (A B C D : Option Addr) (n c m d o e q f : Nat) (op : Int) (w : World) (hn : n ≤ 100) (hm : m ≤ 100) (zo : o ≤ 9223372036854775807) (zq : q ≤ 9223372036854775807) (hf : 100 < o ∨ 100 < q) :
    Calls Try.prog 8 #[.int .i64 op, .agg #[.slice A n c, .slice B m d], .agg #[.slice C o e, .slice D q f]] w fun e w' => e = .returned (.bool true) ∧ Kp w w' := by
  have HN : Hid (∀ W, Calls Try.prog 11 #[.agg #[.slice C o e, .slice D q f]] W fun e w' => e = .returned (.bool false) ∧ Kp W w') := fun W => few_no zo zq hf
  clear hf
  go_enter Try.func8, Try.ntmps8
  go_wp2_with fail
  refine (elawake_any _).mono ?_; rintro e0 w0 ⟨rfl, k0⟩
  have K := Lib.hid (((Kp.alloc_ _ _).al _).tr k0)
  have T0B : Hid (Bk w0 (w.heap.size) A n c B m d) := ((Bk.new rfl).alloc_ _).kp k0
  have T1B : Hid (Bk w0 (w.heap.size + 1) C o e D q f) := (Bk.new (by simp)).kp k0
  clear k0
  have zt0b0 := T0B.out.c0
  have zt0b1 := T0B.out.c1
  have zt0b2 := T0B.out.lt
  have zt1b0 := T1B.out.c0
  have zt1b1 := T1B.out.c1
  have zt1b2 := T1B.out.lt
  go_wp2_with fail
  refine (few_yes hn hm).mono ?_; rintro e0 w1 ⟨rfl, k1⟩
  have K := Lib.hid (K.out.tr k1)
  have T0B := Lib.hid (T0B.out.kp k1)
  have T1B := Lib.hid (T1B.out.kp k1)
  clear k1 zt0b0 zt0b1 zt0b2 zt1b0 zt1b1 zt1b2
  have zt0b0 := T0B.out.c0
  have zt0b1 := T0B.out.c1
  have zt0b2 := T0B.out.lt
  have zt1b0 := T1B.out.c0
  have zt1b1 := T1B.out.c1
  have zt1b2 := T1B.out.lt
  go_wp2_with fail
  refine (HN.out _).mono ?_; rintro e0 w2 ⟨rfl, k2⟩
  have K := Lib.hid (K.out.tr k2)
  have T0B := Lib.hid (T0B.out.kp k2)
  have T1B := Lib.hid (T1B.out.kp k2)
  clear k2 zt0b0 zt0b1 zt0b2 zt1b0 zt1b1 zt1b2
  have zt0b0 := T0B.out.c0
  have zt0b1 := T0B.out.c1
  have zt0b2 := T0B.out.lt
  have zt1b0 := T1B.out.c0
  have zt1b1 := T1B.out.c1
  have zt1b2 := T1B.out.lt
  go_wp2
  go_ret
  exact ⟨rfl, K.out⟩

set_option maxHeartbeats 8000000 in
set_option maxRecDepth 100000 in
theorem espreads_out (A B C D : Option Addr) (n c m d o e q f : Nat) (op : Int) (w : World) (hn : n ≤ 100) (hm : m ≤ 100) (ho : o ≤ 100) (hq : q ≤ 100) (l1 l2 k2 l3 k3 : List Int) (a1 a2 b2 a3 b3 : Nat) (e1 e2 e3 : Int) (he : ¬ (e1 = 0 ∧ e2 = 0 ∧ e3 = 0))
    (CJ : Hid (∀ W, Kp w W → Calls Try.prog 21 #[.slice A n c, .slice C o e] W (RetS l1 a1 e1 W)))
    (C1 : Hid (∀ W A0 c0, Kp w W → Rd W A0 l1 → Calls Try.prog 19 #[.agg #[.slice A n c, .slice B m d], .slice A0 a1 c0] W (RetU l2 k2 a2 b2 e2 W)))
    (C2 : Hid (∀ W A0 c0, Kp w W → Rd W A0 l1 → Calls Try.prog 19 #[.agg #[.slice C o e, .slice D q f], .slice A0 a1 c0] W (RetU l3 k3 a3 b3 e3 W))) :
    Calls Try.prog 8 #[.int .i64 op, .agg #[.slice A n c, .slice B m d], .agg #[.slice C o e, .slice D q f]] w fun e w' => e = .returned (.bool true) ∧ Kp w w' := by
  go_enter Try.func8, Try.ntmps8
  go_wp2_with fail
  refine (elawake_any _).mono ?_; rintro e0 w0 ⟨rfl, k0⟩
  have K := Lib.hid (((Kp.alloc_ _ _).al _).tr k0)
  have T0B : Hid (Bk w0 (w.heap.size) A n c B m d) := ((Bk.new rfl).alloc_ _).kp k0
  have T1B : Hid (Bk w0 (w.heap.size + 1) C o e D q f) := (Bk.new (by simp)).kp k0
  clear k0
  have zt0b0 := T0B.out.c0
  have zt0b1 := T0B.out.c1
  have zt0b2 := T0B.out.lt
  have zt1b0 := T1B.out.c0
  have zt1b1 := T1B.out.c1
  have zt1b2 := T1B.out.lt
  go_wp2_with fail
  refine (few_yes hn hm).mono ?_; rintro e0 w1 ⟨rfl, k1⟩
  have K := Lib.hid (K.out.tr k1)
  have T0B := Lib.hid (T0B.out.kp k1)
  have T1B := Lib.hid (T1B.out.kp k1)
  clear k1 zt0b0 zt0b1 zt0b2 zt1b0 zt1b1 zt1b2
  have zt0b0 := T0B.out.c0
  have zt0b1 := T0B.out.c1
  have zt0b2 := T0B.out.lt
  have zt1b0 := T1B.out.c0
  have zt1b1 := T1B.out.c1
  have zt1b2 := T1B.out.lt
  go_wp2_with fail
  refine (few_yes ho hq).mono ?_; rintro e0 w2 ⟨rfl, k2⟩
  have K := Lib.hid (K.out.tr k2)
  have T0B := Lib.hid (T0B.out.kp k2)
  have T1B := Lib.hid (T1B.out.kp k2)
  clear k2 zt0b0 zt0b1 zt0b2 zt1b0 zt1b1 zt1b2
  have zt0b0 := T0B.out.c0
  have zt0b1 := T0B.out.c1
  have zt0b2 := T0B.out.lt
  have zt1b0 := T1B.out.c0
  have zt1b1 := T1B.out.c1
  have zt1b2 := T1B.out.lt
  go_wp2_with fail
  refine (CJ.out _ K.out).mono ?_; rintro e0 w3 ⟨A3, c3, rfl, r3, k3⟩
  have K := Lib.hid (K.out.tr k3)
  have T0B := Lib.hid (T0B.out.kp k3)
  have T1B := Lib.hid (T1B.out.kp k3)
  have J := Lib.hid r3
  clear k3 r3 zt0b0 zt0b1 zt0b2 zt1b0 zt1b1 zt1b2
  have zt0b0 := T0B.out.c0
  have zt0b1 := T0B.out.c1
  have zt0b2 := T0B.out.lt
  go_wp2_with fail
  refine (C1.out _ _ _ K.out J.out).mono ?_; rintro e0 w4 ⟨A4, c4, B4, d4, rfl, r4, k4⟩
  have K := Lib.hid (K.out.tr k4)
  have T0B := Lib.hid (T0B.out.kp k4)
  have T1B := Lib.hid (T1B.out.kp k4)
  have J := Lib.hid (J.out.kp k4)
  have X := Lib.hid r4
  clear k4 r4 zt0b0 zt0b1 zt0b2
  have zt1b0 := T1B.out.c0
  have zt1b1 := T1B.out.c1
  have zt1b2 := T1B.out.lt
  go_wp2_with fail
  refine (C2.out _ _ _ (K.out.al _) (J.out.alloc_ _)).mono ?_; rintro e0 w5 ⟨A5, c5, B5, d5, rfl, r5, k5⟩
  have K := Lib.hid ((K.out.al _).tr k5)
  have T0B := Lib.hid ((T0B.out.alloc_ _).kp k5)
  have T1B := Lib.hid ((T1B.out.alloc_ _).kp k5)
  have J := Lib.hid ((J.out.alloc_ _).kp k5)
  have X := Lib.hid ((X.out.alloc_ _).kp k5)
  have XB : Hid (Bk w5 w4.heap.size A4 a2 c4 B4 b2 d4) := (Bk.new rfl).kp k5
  have Y := Lib.hid r5
  clear k5 r5 zt1b0 zt1b1 zt1b2
  by_cases h1 : e1 = 0
  · skip
    by_cases h2 : e2 = 0
    · skip
      by_cases h3 : e3 = 0
      · exact absurd ⟨h1, h2, h3⟩ he
      · subst h1 h2
        go_wp2
        go_ret
        exact ⟨rfl, K.out.al _⟩
    · subst h1
      go_wp2
      go_ret
      exact ⟨rfl, K.out.al _⟩
  · skip
    go_wp2
    go_ret
    exact ⟨rfl, K.out.al _⟩

set_option maxHeartbeats 8000000 in
set_option maxRecDepth 100000 in
theorem espreads_with (A B C D : Option Addr) (n c m d o e q f : Nat) (op : Int) (w : World) (hn : n ≤ 100) (hm : m ≤ 100) (ho : o ≤ 100) (hq : q ≤ 100) (j X Y l1 k1 l5 k5 l6 k6 l7 k7 : List Int) (nj N1 N2 a1 b1 a5 b5 a6 b6 a7 b7 : Nat) (e1 e5 e7 : Int)
    (L1 : Hid (l1.length = a1 ∧ k1.length = b1)) (L6 : Hid (l6.length = a6 ∧ k6.length = b6)) (HE : Hid (e5 = 0 → e7 = 0 ∧ l6 = l7 ∧ k6 = k7 ∧ a6 = a7 ∧ b6 = b7))
    (CJ : Hid (∀ W, Kp w W → Calls Try.prog 21 #[.slice A n c, .slice C o e] W (RetS j nj 0 W)))
    (C1 : Hid (∀ W A0 c0, Kp w W → Rd W A0 j → Calls Try.prog 19 #[.agg #[.slice A n c, .slice B m d], .slice A0 nj c0] W (RetU j X nj N1 0 W)))
    (C2 : Hid (∀ W A0 c0, Kp w W → Rd W A0 j → Calls Try.prog 19 #[.agg #[.slice C o e, .slice D q f], .slice A0 nj c0] W (RetU j Y nj N2 0 W)))
    (C3 : Hid (∀ W, Kp w W → Calls Try.prog 14 #[.int .i64 op, .agg #[.slice A n c, .slice B m d], .agg #[.slice C o e, .slice D q f]] W (RetU l1 k1 a1 b1 e1 W)))
    (C4 : Hid (∀ W A0 B0 c0 d0 A1 B1 c1 d1, Kp w W → TR W A0 j B0 X → TR W A1 j B1 Y → Calls Try.prog 14 #[.int .i64 op, .agg #[.slice A0 nj c0, .slice B0 N1 d0], .agg #[.slice A1 nj c1, .slice B1 N2 d1]] W (RetU l1 k1 a1 b1 e1 W)))
    (C5 : Hid (∀ W, Kp w W → Calls Try.prog 12 #[.int .i64 op, .agg #[.slice A n c, .slice B m d]] W (RetU l5 k5 a5 b5 e5 W)))
    (C6 : Hid (∀ W A0 B0 c0 d0, Kp w W → TR W A0 j B0 X → Calls Try.prog 12 #[.int .i64 op, .agg #[.slice A0 nj c0, .slice B0 N1 d0]] W (RetU l6 k6 a6 b6 e5 W)))
    (C7 : Hid (∀ W A0 B0 c0 d0 A1 c1, Kp w W → TR W A0 l5 B0 k5 → Rd W A1 j → Calls Try.prog 19 #[.agg #[.slice A0 a5 c0, .slice B0 b5 d0], .slice A1 nj c1] W (RetU l7 k7 a7 b7 e7 W))) :
    Calls Try.prog 8 #[.int .i64 op, .agg #[.slice A n c, .slice B m d], .agg #[.slice C o e, .slice D q f]] w fun e w' => e = .returned (.bool true) ∧ Kp w w' := by
  go_enter Try.func8, Try.ntmps8
  go_wp2_with fail
  refine (elawake_any _).mono ?_; rintro e0 w0 ⟨rfl, k0⟩
  have K := Lib.hid (((Kp.alloc_ _ _).al _).tr k0)
  have T0B : Hid (Bk w0 (w.heap.size) A n c B m d) := ((Bk.new rfl).alloc_ _).kp k0
  have T1B : Hid (Bk w0 (w.heap.size + 1) C o e D q f) := (Bk.new (by simp)).kp k0
  clear k0
  have zt0b0 := T0B.out.c0
  have zt0b1 := T0B.out.c1
  have zt0b2 := T0B.out.lt
  have zt1b0 := T1B.out.c0
  have zt1b1 := T1B.out.c1
  have zt1b2 := T1B.out.lt
  go_wp2_with fail
  refine (few_yes hn hm).mono ?_; rintro e0 w1 ⟨rfl, k1⟩
  have K := Lib.hid (K.out.tr k1)
  have T0B := Lib.hid (T0B.out.kp k1)
  have T1B := Lib.hid (T1B.out.kp k1)
  clear k1 zt0b0 zt0b1 zt0b2 zt1b0 zt1b1 zt1b2
  have zt0b0 := T0B.out.c0
  have zt0b1 := T0B.out.c1
  have zt0b2 := T0B.out.lt
  have zt1b0 := T1B.out.c0
  have zt1b1 := T1B.out.c1
  have zt1b2 := T1B.out.lt
  go_wp2_with fail
  refine (few_yes ho hq).mono ?_; rintro e0 w2 ⟨rfl, k2⟩
  have K := Lib.hid (K.out.tr k2)
  have T0B := Lib.hid (T0B.out.kp k2)
  have T1B := Lib.hid (T1B.out.kp k2)
  clear k2 zt0b0 zt0b1 zt0b2 zt1b0 zt1b1 zt1b2
  have zt0b0 := T0B.out.c0
  have zt0b1 := T0B.out.c1
  have zt0b2 := T0B.out.lt
  have zt1b0 := T1B.out.c0
  have zt1b1 := T1B.out.c1
  have zt1b2 := T1B.out.lt
  go_wp2_with fail
  refine (CJ.out _ K.out).mono ?_; rintro e0 w3 ⟨A3, c3, rfl, r3, k3⟩
  have K := Lib.hid (K.out.tr k3)
  have T0B := Lib.hid (T0B.out.kp k3)
  have T1B := Lib.hid (T1B.out.kp k3)
  have J := Lib.hid r3
  clear k3 r3 zt0b0 zt0b1 zt0b2 zt1b0 zt1b1 zt1b2
  have zt0b0 := T0B.out.c0
  have zt0b1 := T0B.out.c1
  have zt0b2 := T0B.out.lt
  go_wp2_with fail
  refine (C1.out _ _ _ K.out J.out).mono ?_; rintro e0 w4 ⟨A4, c4, B4, d4, rfl, r4, k4⟩
  have K := Lib.hid (K.out.tr k4)
  have T0B := Lib.hid (T0B.out.kp k4)
  have T1B := Lib.hid (T1B.out.kp k4)
  have J := Lib.hid (J.out.kp k4)
  have X1 := Lib.hid r4
  clear k4 r4 zt0b0 zt0b1 zt0b2
  have zt1b0 := T1B.out.c0
  have zt1b1 := T1B.out.c1
  have zt1b2 := T1B.out.lt
  go_wp2_with fail
  refine (C2.out _ _ _ (K.out.al _) (J.out.alloc_ _)).mono ?_; rintro e0 w5 ⟨A5, c5, B5, d5, rfl, r5, k5⟩
  have K := Lib.hid ((K.out.al _).tr k5)
  have T0B := Lib.hid ((T0B.out.alloc_ _).kp k5)
  have T1B := Lib.hid ((T1B.out.alloc_ _).kp k5)
  have J := Lib.hid ((J.out.alloc_ _).kp k5)
  have X1 := Lib.hid ((X1.out.alloc_ _).kp k5)
  have X1B : Hid (Bk w5 w4.heap.size A4 nj c4 B4 N1 d4) := (Bk.new rfl).kp k5
  have Y1 := Lib.hid r5
  clear k5 r5 zt1b0 zt1b1 zt1b2
  have zt0b0 := T0B.out.c0
  have zt0b1 := T0B.out.c1
  have zt0b2 := T0B.out.lt
  have zt1b0 := T1B.out.c0
  have zt1b1 := T1B.out.c1
  have zt1b2 := T1B.out.lt
  go_wp2_with fail
  refine (C3.out _ (K.out.al _)).mono ?_; rintro e0 w6 ⟨A6, c6, B6, d6, rfl, r6, k6⟩
  have K := Lib.hid ((K.out.al _).tr k6)
  have T0B := Lib.hid ((T0B.out.alloc_ _).kp k6)
  have T1B := Lib.hid ((T1B.out.alloc_ _).kp k6)
  have X1B := Lib.hid ((X1B.out.alloc_ _).kp k6)
  have J := Lib.hid ((J.out.alloc_ _).kp k6)
  have X1 := Lib.hid ((X1.out.alloc_ _).kp k6)
  have Y1 := Lib.hid ((Y1.out.alloc_ _).kp k6)
  have Y1B : Hid (Bk w6 w5.heap.size A5 nj c5 B5 N2 d5) := (Bk.new rfl).kp k6
  have P := Lib.hid r6
  clear k6 r6 zt0b0 zt0b1 zt0b2 zt1b0 zt1b1 zt1b2
  have zx1b0 := X1B.out.c0
  have zx1b1 := X1B.out.c1
  have zx1b2 := X1B.out.lt
  have zy1b0 := Y1B.out.c0
  have zy1b1 := Y1B.out.c1
  have zy1b2 := Y1B.out.lt
  go_wp2_with fail
  refine (C4.out _ _ _ _ _ _ _ _ _ (K.out.al _) (X1.out.alloc_ _) (Y1.out.alloc_ _)).mono ?_; rintro e0 w7 ⟨A7, c7, B7, d7, rfl, r7, k7⟩
  have K := Lib.hid ((K.out.al _).tr k7)
  have T0B := Lib.hid ((T0B.out.alloc_ _).kp k7)
  have T1B := Lib.hid ((T1B.out.alloc_ _).kp k7)
  have X1B := Lib.hid ((X1B.out.alloc_ _).kp k7)
  have Y1B := Lib.hid ((Y1B.out.alloc_ _).kp k7)
  have J := Lib.hid ((J.out.alloc_ _).kp k7)
  have X1 := Lib.hid ((X1.out.alloc_ _).kp k7)
  have Y1 := Lib.hid ((Y1.out.alloc_ _).kp k7)
  have P := Lib.hid ((P.out.alloc_ _).kp k7)
  have PB : Hid (Bk w7 w6.heap.size A6 a1 c6 B6 b1 d6) := (Bk.new rfl).kp k7
  have Q := Lib.hid r7
  clear k7 r7 zx1b0 zx1b1 zx1b2 zy1b0 zy1b1 zy1b2
  have zt0b0 := T0B.out.c0
  have zt0b1 := T0B.out.c1
  have zt0b2 := T0B.out.lt
  go_wp2_with fail
  refine (C5.out _ (K.out.al _)).mono ?_; rintro e0 w8 ⟨A8, c8, B8, d8, rfl, r8, k8⟩
  have K := Lib.hid ((K.out.al _).tr k8)
  have T0B := Lib.hid ((T0B.out.alloc_ _).kp k8)
  have T1B := Lib.hid ((T1B.out.alloc_ _).kp k8)
  have X1B := Lib.hid ((X1B.out.alloc_ _).kp k8)
  have Y1B := Lib.hid ((Y1B.out.alloc_ _).kp k8)
  have PB := Lib.hid ((PB.out.alloc_ _).kp k8)
  have J := Lib.hid ((J.out.alloc_ _).kp k8)
  have X1 := Lib.hid ((X1.out.alloc_ _).kp k8)
  have Y1 := Lib.hid ((Y1.out.alloc_ _).kp k8)
  have P := Lib.hid ((P.out.alloc_ _).kp k8)
  have Q := Lib.hid ((Q.out.alloc_ _).kp k8)
  have QB : Hid (Bk w8 w7.heap.size A7 a1 c7 B7 b1 d7) := (Bk.new rfl).kp k8
  have U := Lib.hid r8
  clear k8 r8 zt0b0 zt0b1 zt0b2
  have zx1b0 := X1B.out.c0
  have zx1b1 := X1B.out.c1
  have zx1b2 := X1B.out.lt
  go_wp2_with fail
  refine (C6.out _ _ _ _ _ (K.out.al _) (X1.out.alloc_ _)).mono ?_; rintro e0 w9 ⟨A9, c9, B9, d9, rfl, r9, k9⟩
  have K := Lib.hid ((K.out.al _).tr k9)
  have T0B := Lib.hid ((T0B.out.alloc_ _).kp k9)
  have T1B := Lib.hid ((T1B.out.alloc_ _).kp k9)
  have X1B := Lib.hid ((X1B.out.alloc_ _).kp k9)
  have Y1B := Lib.hid ((Y1B.out.alloc_ _).kp k9)
  have PB := Lib.hid ((PB.out.alloc_ _).kp k9)
  have QB := Lib.hid ((QB.out.alloc_ _).kp k9)
  have J := Lib.hid ((J.out.alloc_ _).kp k9)
  have X1 := Lib.hid ((X1.out.alloc_ _).kp k9)
  have Y1 := Lib.hid ((Y1.out.alloc_ _).kp k9)
  have P := Lib.hid ((P.out.alloc_ _).kp k9)
  have Q := Lib.hid ((Q.out.alloc_ _).kp k9)
  have U := Lib.hid ((U.out.alloc_ _).kp k9)
  have UB : Hid (Bk w9 w8.heap.size A8 a5 c8 B8 b5 d8) := (Bk.new rfl).kp k9
  have V := Lib.hid r9
  clear k9 r9 zx1b0 zx1b1 zx1b2
  have zub0 := UB.out.c0
  have zub1 := UB.out.c1
  have zub2 := UB.out.lt
  go_wp2_with fail
  refine (C7.out _ _ _ _ _ _ _ (K.out.al _) (U.out.alloc_ _) (J.out.alloc_ _)).mono ?_; rintro e0 w10 ⟨A10, c10, B10, d10, rfl, r10, k10⟩
  have K := Lib.hid ((K.out.al _).tr k10)
  have T0B := Lib.hid ((T0B.out.alloc_ _).kp k10)
  have T1B := Lib.hid ((T1B.out.alloc_ _).kp k10)
  have X1B := Lib.hid ((X1B.out.alloc_ _).kp k10)
  have Y1B := Lib.hid ((Y1B.out.alloc_ _).kp k10)
  have PB := Lib.hid ((PB.out.alloc_ _).kp k10)
  have QB := Lib.hid ((QB.out.alloc_ _).kp k10)
  have UB := Lib.hid ((UB.out.alloc_ _).kp k10)
  have J := Lib.hid ((J.out.alloc_ _).kp k10)
  have X1 := Lib.hid ((X1.out.alloc_ _).kp k10)
  have Y1 := Lib.hid ((Y1.out.alloc_ _).kp k10)
  have P := Lib.hid ((P.out.alloc_ _).kp k10)
  have Q := Lib.hid ((Q.out.alloc_ _).kp k10)
  have U := Lib.hid ((U.out.alloc_ _).kp k10)
  have V := Lib.hid ((V.out.alloc_ _).kp k10)
  have VB : Hid (Bk w10 w9.heap.size A9 a6 c9 B9 b6 d9) := (Bk.new rfl).kp k10
  have Z := Lib.hid r10
  clear k10 r10 zub0 zub1 zub2
  have zpb0 := PB.out.c0
  have zpb1 := PB.out.c1
  have zpb2 := PB.out.lt
  have zqb0 := QB.out.c0
  have zqb1 := QB.out.c1
  have zqb2 := QB.out.lt
  go_wp2_with fail
  refine (tsame_u (P.out.alloc_ _) (Q.out.alloc_ _) L1.out.1 L1.out.2).mono ?_; rintro e0 w11 ⟨rfl, k11⟩
  have K := Lib.hid ((K.out.al _).tr k11)
  have T0B := Lib.hid ((T0B.out.alloc_ _).kp k11)
  have T1B := Lib.hid ((T1B.out.alloc_ _).kp k11)
  have X1B := Lib.hid ((X1B.out.alloc_ _).kp k11)
  have Y1B := Lib.hid ((Y1B.out.alloc_ _).kp k11)
  have PB := Lib.hid ((PB.out.alloc_ _).kp k11)
  have QB := Lib.hid ((QB.out.alloc_ _).kp k11)
  have UB := Lib.hid ((UB.out.alloc_ _).kp k11)
  have VB := Lib.hid ((VB.out.alloc_ _).kp k11)
  have J := Lib.hid ((J.out.alloc_ _).kp k11)
  have X1 := Lib.hid ((X1.out.alloc_ _).kp k11)
  have Y1 := Lib.hid ((Y1.out.alloc_ _).kp k11)
  have P := Lib.hid ((P.out.alloc_ _).kp k11)
  have Q := Lib.hid ((Q.out.alloc_ _).kp k11)
  have U := Lib.hid ((U.out.alloc_ _).kp k11)
  have V := Lib.hid ((V.out.alloc_ _).kp k11)
  have Z := Lib.hid ((Z.out.alloc_ _).kp k11)
  have ZB : Hid (Bk w11 w10.heap.size A10 a7 c10 B10 b7 d10) := (Bk.new rfl).kp k11
  clear k11 zpb0 zpb1 zpb2 zqb0 zqb1 zqb2
  have zvb0 := VB.out.c0
  have zvb1 := VB.out.c1
  have zvb2 := VB.out.lt
  have zzb0 := ZB.out.c0
  have zzb1 := ZB.out.c1
  have zzb2 := ZB.out.lt
  by_cases h5 : e5 = 0
  · obtain ⟨q1, q2, q3, q4, q5⟩ := HE.out h5
    subst h5 q1 q2 q3 q4 q5
    go_wp2_with fail
    refine (tsame_u V.out Z.out L6.out.1 L6.out.2).mono ?_; rintro e0 w12 ⟨rfl, k12⟩
    have K := Lib.hid (K.out.tr k12)
    have T0B := Lib.hid (T0B.out.kp k12)
    have T1B := Lib.hid (T1B.out.kp k12)
    have X1B := Lib.hid (X1B.out.kp k12)
    have Y1B := Lib.hid (Y1B.out.kp k12)
    have PB := Lib.hid (PB.out.kp k12)
    have QB := Lib.hid (QB.out.kp k12)
    have UB := Lib.hid (UB.out.kp k12)
    have VB := Lib.hid (VB.out.kp k12)
    have ZB := Lib.hid (ZB.out.kp k12)
    have J := Lib.hid (J.out.kp k12)
    have X1 := Lib.hid (X1.out.kp k12)
    have Y1 := Lib.hid (Y1.out.kp k12)
    have P := Lib.hid (P.out.kp k12)
    have Q := Lib.hid (Q.out.kp k12)
    have U := Lib.hid (U.out.kp k12)
    have V := Lib.hid (V.out.kp k12)
    have Z := Lib.hid (Z.out.kp k12)
    clear k12 zvb0 zvb1 zvb2 zzb0 zzb1 zzb2
    go_wp2
    go_ret
    exact ⟨rfl, K.out⟩
  · skip
    go_wp2
    go_ret
    exact ⟨rfl, K.out⟩

theorem espreads_walk (A B C D : Option Addr) (c d e f : Nat) (op : Int) (s xs t ys : List Int) (w : World) (R0 : TR w A s B xs) (I0 : I64s xs) (R1 : TR w C t D ys) (I1 : I64s ys) :
    Calls Try.prog 8 #[.int .i64 op, .agg #[.slice A s.length c, .slice B xs.length d], .agg #[.slice C t.length e, .slice D ys.length f]] w fun e w' => e = .returned (.bool true) ∧ Kp w w' := by
  by_cases f0 : 100 < s.length ∨ 100 < xs.length
  · exact espreads_far0 A B C D _ c _ d _ e _ f op w  R0.s.len R0.d.len f0
  by_cases f1 : 100 < t.length ∨ 100 < ys.length
  · exact espreads_far1 A B C D _ c _ d _ e _ f op w (by omega) (by omega) R1.s.len R1.d.len f1
  obtain ⟨l1, e1, r1⟩ : ∃ l e, joinV s t = (l, e) := ⟨_, _, rfl⟩
  obtain ⟨l2, k2, e2, r2⟩ : ∃ l k e, spreadV s xs l1 = (l, k, e) := ⟨_, _, _, rfl⟩
  obtain ⟨l3, k3, e3, r3⟩ : ∃ l k e, spreadV t ys l1 = (l, k, e) := ⟨_, _, _, rfl⟩
  by_cases hz : e1 = 0 ∧ e2 = 0 ∧ e3 = 0
  · obtain ⟨z1, z2, z3⟩ := hz
    subst z1 z2 z3
    have b0 : tokV s xs = true := by
      rcases spread_cases s xs l1 with h | h | h
      · rw [h.2] at r2; cases r2
      · rw [h.2.2] at r2; cases r2
      · exact h.1
    have b1 : tokV t ys = true := by
      rcases spread_cases t ys l1 with h | h | h
      · rw [h.2] at r3; cases r3
      · rw [h.2.2] at r3; cases r3
      · exact h.1
    obtain ⟨_, _, _, f1, f2⟩ := joined r1
    obtain ⟨g1, g2⟩ := one_spread (op := op) b0 f1
    have g3 := two_spread (op := op) b0 b1 r1
    have ix := spread_i64 (s := s) (g := l1) I0 (sizeV l1).toNat
    have iy := spread_i64 (s := t) (g := l1) I1 (sizeV l1).toNat
    obtain ⟨p1, p2, p3, rp⟩ : ∃ l k e, twoV op s xs t ys = (l, k, e) := ⟨_, _, _, rfl⟩
    obtain ⟨l5, k5, e5, r5⟩ : ∃ l k e, oneV op s xs = (l, k, e) := ⟨_, _, _, rfl⟩
    obtain ⟨l6, k6, e6, r6⟩ : ∃ l k e, oneV op l1 (spreadL s xs l1 (sizeV l1).toNat) = (l, k, e) := ⟨_, _, _, rfl⟩
    obtain ⟨l7, k7, e7, r7⟩ : ∃ l k e, spreadV l5 k5 l1 = (l, k, e) := ⟨_, _, _, rfl⟩
    have e56 : e6 = e5 := by rw [r5, r6] at g1; exact g1
    subst e56
    refine espreads_with A B C D _ c _ d _ e _ f op w (by omega) (by omega) (by omega) (by omega) l1 (spreadL s xs l1 (sizeV l1).toNat) (spreadL t ys l1 (sizeV l1).toNat) p1 p2 l5 k5 l6 k6 l7 k7 _ _ _ _ _ _ _ _ _ _ _ p3 e6 e7 (Lib.hid ⟨rfl, rfl⟩) (Lib.hid ⟨rfl, rfl⟩) (Lib.hid ?_)
      (Lib.hid fun W k => join_s s t (R0.kp k).s (R1.kp k).s rfl rfl r1 rfl)
      (Lib.hid fun W A0 c0 k r => spread_u s xs l1 (R0.kp k) r rfl rfl rfl (spread_is b0 f1) rfl rfl)
      (Lib.hid fun W A0 c0 k r => spread_u t ys l1 (R1.kp k) r rfl rfl rfl (spread_is b1 f2) rfl rfl)
      (Lib.hid fun W k => two_u s xs t ys (R0.kp k) (R1.kp k) I0 I1 rfl rfl rfl rfl rp rfl rfl)
      (Lib.hid fun W A0 B0 c0 d0 A1 B1 c1 d1 k r r' => two_u l1 _ l1 _ r r' ix iy rfl rfl rfl rfl (by rw [← g3]; exact rp) rfl rfl)
      (Lib.hid fun W k => one_u s xs (R0.kp k) I0 rfl rfl r5 rfl rfl)
      (Lib.hid fun W A0 B0 c0 d0 k r => one_u l1 _ r ix rfl rfl r6 rfl rfl)
      (Lib.hid fun W A0 B0 c0 d0 A1 c1 k r r' => spread_u l5 k5 l1 r r' rfl rfl rfl r7 rfl rfl)
    intro z
    obtain ⟨Z, q1, q2, q3⟩ := g2 (by rw [r5]; exact z)
    rw [q1] at r5
    rw [q2] at r6
    obtain ⟨rfl, rfl, rfl⟩ : s = l5 ∧ Z = k5 ∧ 0 = e6 := by simpa using r5
    rw [q3] at r7
    obtain ⟨rfl, rfl⟩ : l1 = l6 ∧ _ = k6 := by simpa using r6
    obtain ⟨rfl, rfl, rfl⟩ : l1 = l7 ∧ _ = k7 ∧ 0 = e7 := by simpa using r7
    exact ⟨rfl, rfl, rfl, rfl, rfl⟩
  · exact espreads_out A B C D _ c _ d _ e _ f op w (by omega) (by omega) (by omega) (by omega) l1 l2 k2 l3 k3 _ _ _ _ _ e1 e2 e3 hz
      (Lib.hid fun W k => join_s s t (R0.kp k).s (R1.kp k).s rfl rfl r1 rfl)
      (Lib.hid fun W A0 c0 k r => spread_u s xs l1 (R0.kp k) r rfl rfl rfl r2 rfl rfl)
      (Lib.hid fun W A0 c0 k r => spread_u t ys l1 (R1.kp k) r rfl rfl rfl r3 rfl rfl)
end Go.Proofs.Ytofolfnnjdccgaa
