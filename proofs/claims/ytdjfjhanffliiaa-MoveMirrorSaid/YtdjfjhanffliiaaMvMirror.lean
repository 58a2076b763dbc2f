/- A part of a side, turned, is the part of the side at the other end of what was turned: the law's call returns true. -/
import Derived.Test.YtdjfjhanffliiaaMvP
import Derived.Test.YtdjfjhanffliiaaMvAw
namespace Go.Proofs.Ytdjfjhanffliiaa
open Go.RowKit Go.Proofs.ShM
set_option linter.unusedVariables false

theorem slice_bad {s xs : List Int} {k : Nat} {a b : Int} (h : tokV s xs = true) (hb : ¬ (0 ≤ a ∧ a < b ∧ b ≤ s.getD k 0)) : sliceV s xs k a b = ([], [], 20) := by
  unfold sliceV
  rw [if_neg (by simp [h]), Int.toNat_natCast, if_pos (by omega)]
/-- A part's other end, its error and what it is. -/
theorem mirror_two {s xs : List Int} {k : Nat} (h : tokV s xs = true) (hk : k < s.length) (a b : Int) :
    (sliceV s.reverse (turnD s xs) ((s.length : Int) - 1 - k) a b = ([], [], 20) ∧ sliceV s xs k a b = ([], [], 20)) ∨
    ∃ l2 k2 l3 k3, sliceV s xs k a b = (l2, k2, 0) ∧ turnV l2 k2 = (l3, k3, 0) ∧ sliceV s.reverse (turnD s xs) ((s.length : Int) - 1 - k) a b = (l3, k3, 0) := by
  have hx : s[k]? = some s[k] := List.getElem?_eq_getElem hk
  have hgd : s.getD k 0 = s[k] := by rw [List.getD, hx]; rfl
  have hc : (s.length : Int) - 1 - k = ((s.length - 1 - k : Nat) : Int) := by omega
  have hr : s.reverse.getD (s.length - 1 - k) 0 = s[k] := by rw [rev_getD (by omega), show s.length - 1 - (s.length - 1 - k) = k by omega, hgd]
  rw [hc]
  by_cases g : 0 ≤ a ∧ a < b ∧ b ≤ s[k]
  · obtain ⟨h1, h2, h3⟩ := g
    have o1 := ok_set (tok_len h).1 hx (y := b - a) (by omega) (by omega)
    right
    refine ⟨_, _, _, _, slice_is h hx h1 h2 h3, turn_is (moved_tok o1), ?_⟩
    rw [slice_mirror h hx h1 h2 h3 o1]
    exact turn_is (moved_tok o1)
  · left
    exact ⟨slice_bad (turn_tok h) (by rw [hr]; exact g), slice_bad h (by rw [hgd]; exact g)⟩

set_option maxHeartbeats 4000000 in
set_option maxRecDepth 100000 in
theorem mmirror_far0 (A B : Option Addr) (n c m d : Nat) (q1 q2 q3 : Int) (HAW : Hid (∀ W, Calls Try.prog 9 #[] W fun e w' => e = .returned (.bool true) ∧ Kp W w')) (w : World) (zn : n ≤ 9223372036854775807) (zm : m ≤ 9223372036854775807) (hf : 100 < n ∨ 100 < m) :
    Calls Try.prog 8 #[.agg #[.slice A n c, .slice B m d], .int .i64 q1, .int .i64 q2, .int .i64 q3] w fun e w' => e = .returned (.bool true) ∧ Kp w w' := by
  have HN : Hid (∀ W, Calls Try.prog 10 #[.agg #[.slice A n c, .slice B m d]] W fun e w' => e = .returned (.bool false) ∧ Kp W w') := fun W => few_no zn zm hf
  clear hf
  go_enter Try.func8, Try.ntmps8
  go_wp2_with fail
  refine (HAW.out _).mono ?_; rintro e0 w0 ⟨rfl, k0⟩
  have K := Lib.hid ((Kp.alloc_ _ _).tr k0)
  have T0B : Hid (Bk w0 (w.heap.size) A n c B m d) := (Bk.new rfl).kp k0
  clear k0
  have zt0b0 := T0B.out.c0
  have zt0b1 := T0B.out.c1
  have zt0b2 := T0B.out.lt
  go_wp2_with fail
  refine (HN.out _).mono ?_; rintro e0 w1 ⟨rfl, k1⟩
  have K := Lib.hid (K.out.tr k1)
  have T0B := Lib.hid (T0B.out.kp k1)
  clear k1 zt0b0 zt0b1 zt0b2
  have zt0b0 := T0B.out.c0
  have zt0b1 := T0B.out.c1
  have zt0b2 := T0B.out.lt
  go_wp2
  go_ret
  exact ⟨rfl, K.out⟩

set_option maxHeartbeats 4000000 in
set_option maxRecDepth 100000 in
theorem mmirror_far1 (A B : Option Addr) (n c m d : Nat) (q1 q2 q3 : Int) (HAW : Hid (∀ W, Calls Try.prog 9 #[] W fun e w' => e = .returned (.bool true) ∧ Kp W w')) (w : World) (hn : n ≤ 100) (hm : m ≤ 100) (HC0 : Hid (∀ W, Kp w W → Calls Try.prog 22 #[.agg #[.slice A n c, .slice B m d]] W fun e w' => e = .returned (.bool false) ∧ Kp W w')) :
    Calls Try.prog 8 #[.agg #[.slice A n c, .slice B m d], .int .i64 q1, .int .i64 q2, .int .i64 q3] w fun e w' => e = .returned (.bool true) ∧ Kp w w' := by
  go_enter Try.func8, Try.ntmps8
  go_wp2_with fail
  refine (HAW.out _).mono ?_; rintro e0 w0 ⟨rfl, k0⟩
  have K := Lib.hid ((Kp.alloc_ _ _).tr k0)
  have T0B : Hid (Bk w0 (w.heap.size) A n c B m d) := (Bk.new rfl).kp k0
  clear k0
  have zt0b0 := T0B.out.c0
  have zt0b1 := T0B.out.c1
  have zt0b2 := T0B.out.lt
  go_wp2_with fail
  refine (few_yes hn hm).mono ?_; rintro e0 w1 ⟨rfl, k1⟩
  have K := Lib.hid (K.out.tr k1)
  have T0B := Lib.hid (T0B.out.kp k1)
  clear k1 zt0b0 zt0b1 zt0b2
  have zt0b0 := T0B.out.c0
  have zt0b1 := T0B.out.c1
  have zt0b2 := T0B.out.lt
  go_wp2_with fail
  refine (HC0.out _ K.out).mono ?_; rintro e0 w2 ⟨rfl, k2⟩
  have K := Lib.hid (K.out.tr k2)
  have T0B := Lib.hid (T0B.out.kp k2)
  clear k2 zt0b0 zt0b1 zt0b2
  have zt0b0 := T0B.out.c0
  have zt0b1 := T0B.out.c1
  have zt0b2 := T0B.out.lt
  go_wp2
  go_ret
  exact ⟨rfl, K.out⟩

set_option maxHeartbeats 4000000 in
set_option maxRecDepth 100000 in
theorem mmirror_far2 (A B : Option Addr) (n c m d : Nat) (q1 q2 q3 : Int) (HAW : Hid (∀ W, Calls Try.prog 9 #[] W fun e w' => e = .returned (.bool true) ∧ Kp W w')) (w : World) (hn : n ≤ 100) (hm : m ≤ 100) (HC0 : Hid (∀ W, Kp w W → Calls Try.prog 22 #[.agg #[.slice A n c, .slice B m d]] W fun e w' => e = .returned (.bool true) ∧ Kp W w')) (hx : q1 < 0) :
    Calls Try.prog 8 #[.agg #[.slice A n c, .slice B m d], .int .i64 q1, .int .i64 q2, .int .i64 q3] w fun e w' => e = .returned (.bool true) ∧ Kp w w' := by
  go_enter Try.func8, Try.ntmps8
  go_wp2_with fail
  refine (HAW.out _).mono ?_; rintro e0 w0 ⟨rfl, k0⟩
  have K := Lib.hid ((Kp.alloc_ _ _).tr k0)
  have T0B : Hid (Bk w0 (w.heap.size) A n c B m d) := (Bk.new rfl).kp k0
  clear k0
  have zt0b0 := T0B.out.c0
  have zt0b1 := T0B.out.c1
  have zt0b2 := T0B.out.lt
  go_wp2_with fail
  refine (few_yes hn hm).mono ?_; rintro e0 w1 ⟨rfl, k1⟩
  have K := Lib.hid (K.out.tr k1)
  have T0B := Lib.hid (T0B.out.kp k1)
  clear k1 zt0b0 zt0b1 zt0b2
  have zt0b0 := T0B.out.c0
  have zt0b1 := T0B.out.c1
  have zt0b2 := T0B.out.lt
  go_wp2_with fail
  refine (HC0.out _ K.out).mono ?_; rintro e0 w2 ⟨rfl, k2⟩
  have K := Lib.hid (K.out.tr k2)
  have T0B := Lib.hid (T0B.out.kp k2)
  clear k2 zt0b0 zt0b1 zt0b2
  have zt0b0 := T0B.out.c0
  have zt0b1 := T0B.out.c1
  have zt0b2 := T0B.out.lt
  go_wp2
  go_ret
  exact ⟨rfl, K.out⟩

set_option maxHeartbeats 4000000 in
set_option maxRecDepth 100000 in
theorem mmirror_far3 (A B : Option Addr) (n c m d : Nat) (q1 q2 q3 : Int) (HAW : Hid (∀ W, Calls Try.prog 9 #[] W fun e w' => e = .returned (.bool true) ∧ Kp W w')) (w : World) (hn : n ≤ 100) (hm : m ≤ 100) (HC0 : Hid (∀ W, Kp w W → Calls Try.prog 22 #[.agg #[.slice A n c, .slice B m d]] W fun e w' => e = .returned (.bool true) ∧ Kp W w')) (hx0 : ¬ q1 < 0) (hx : (n : Int) ≤ q1) :
    Calls Try.prog 8 #[.agg #[.slice A n c, .slice B m d], .int .i64 q1, .int .i64 q2, .int .i64 q3] w fun e w' => e = .returned (.bool true) ∧ Kp w w' := by
  go_enter Try.func8, Try.ntmps8
  go_wp2_with fail
  refine (HAW.out _).mono ?_; rintro e0 w0 ⟨rfl, k0⟩
  have K := Lib.hid ((Kp.alloc_ _ _).tr k0)
  have T0B : Hid (Bk w0 (w.heap.size) A n c B m d) := (Bk.new rfl).kp k0
  clear k0
  have zt0b0 := T0B.out.c0
  have zt0b1 := T0B.out.c1
  have zt0b2 := T0B.out.lt
  go_wp2_with fail
  refine (few_yes hn hm).mono ?_; rintro e0 w1 ⟨rfl, k1⟩
  have K := Lib.hid (K.out.tr k1)
  have T0B := Lib.hid (T0B.out.kp k1)
  clear k1 zt0b0 zt0b1 zt0b2
  have zt0b0 := T0B.out.c0
  have zt0b1 := T0B.out.c1
  have zt0b2 := T0B.out.lt
  go_wp2_with fail
  refine (HC0.out _ K.out).mono ?_; rintro e0 w2 ⟨rfl, k2⟩
  have K := Lib.hid (K.out.tr k2)
  have T0B := Lib.hid (T0B.out.kp k2)
  clear k2 zt0b0 zt0b1 zt0b2
  have zt0b0 := T0B.out.c0
  have zt0b1 := T0B.out.c1
  have zt0b2 := T0B.out.lt
  go_wp2
  go_ret
  exact ⟨rfl, K.out⟩

set_option maxHeartbeats 8000000 in
set_option maxRecDepth 100000 in
theorem mmirror_with (A B : Option Addr) (n c m d : Nat) (q1 q2 q3 : Int) (HAW : Hid (∀ W, Calls Try.prog 9 #[] W fun e w' => e = .returned (.bool true) ∧ Kp W w')) (w : World) (hn : n ≤ 100) (hm : m ≤ 100) (HC0 : Hid (∀ W, Kp w W → Calls Try.prog 22 #[.agg #[.slice A n c, .slice B m d]] W fun e w' => e = .returned (.bool true) ∧ Kp W w')) (hx0 : ¬ q1 < 0) (hx1 : ¬ (n : Int) ≤ q1) (q4 : Int) (hq4 : (n : Int) - 1 - q1 = q4) (u v l1 k1 l2 k2 l3 k3 : List Int) (a0 b0 a1 b1 a2 b2 a3 b3 : Nat) (e1 e3 : Int)
    (L1 : Hid (l1.length = a1 ∧ k1.length = b1)) (HE : Hid (e1 = 0 → e3 = 0 ∧ l1 = l3 ∧ k1 = k3 ∧ a1 = a3 ∧ b1 = b3))
    (C1 : Hid (∀ W, Kp w W → Calls Try.prog 14 #[.agg #[.slice A n c, .slice B m d]] W (RetU u v a0 b0 0 W)))
    (C2 : Hid (∀ W A0 B0 c0 d0, Kp w W → TR W A0 u B0 v → Calls Try.prog 16 #[.agg #[.slice A0 a0 c0, .slice B0 b0 d0], .int .i64 q4, .int .i64 q2, .int .i64 q3] W (RetU l1 k1 a1 b1 e1 W)))
    (C3 : Hid (∀ W, Kp w W → Calls Try.prog 16 #[.agg #[.slice A n c, .slice B m d], .int .i64 q1, .int .i64 q2, .int .i64 q3] W (RetU l2 k2 a2 b2 e1 W)))
    (C4 : Hid (∀ W A0 B0 c0 d0, Kp w W → TR W A0 l2 B0 k2 → Calls Try.prog 14 #[.agg #[.slice A0 a2 c0, .slice B0 b2 d0]] W (RetU l3 k3 a3 b3 e3 W))) :
    Calls Try.prog 8 #[.agg #[.slice A n c, .slice B m d], .int .i64 q1, .int .i64 q2, .int .i64 q3] w fun e w' => e = .returned (.bool true) ∧ Kp w w' := by
  have g1 : IntKind.i64.wrap ((n : Int) - 1) = (n : Int) - 1 := IntWalk.i64_in _ (by omega)
  have g2 : IntKind.i64.wrap ((n : Int) - 1 - q1) = q4 := by rw [IntWalk.i64_in _ (by omega)]; exact hq4
  go_enter Try.func8, Try.ntmps8
  go_wp2_with fail
  refine (HAW.out _).mono ?_; rintro e0 w0 ⟨rfl, k0⟩
  have K := Lib.hid ((Kp.alloc_ _ _).tr k0)
  have T0B : Hid (Bk w0 (w.heap.size) A n c B m d) := (Bk.new rfl).kp k0
  clear k0
  have zt0b0 := T0B.out.c0
  have zt0b1 := T0B.out.c1
  have zt0b2 := T0B.out.lt
  go_wp2_with fail
  refine (few_yes hn hm).mono ?_; rintro e0 w1 ⟨rfl, k1⟩
  have K := Lib.hid (K.out.tr k1)
  have T0B := Lib.hid (T0B.out.kp k1)
  clear k1 zt0b0 zt0b1 zt0b2
  have zt0b0 := T0B.out.c0
  have zt0b1 := T0B.out.c1
  have zt0b2 := T0B.out.lt
  go_wp2_with fail
  refine (HC0.out _ K.out).mono ?_; rintro e0 w2 ⟨rfl, k2⟩
  have K := Lib.hid (K.out.tr k2)
  have T0B := Lib.hid (T0B.out.kp k2)
  clear k2 zt0b0 zt0b1 zt0b2
  have zt0b0 := T0B.out.c0
  have zt0b1 := T0B.out.c1
  have zt0b2 := T0B.out.lt
  go_wp2_with fail
  refine (C1.out _ K.out).mono ?_; rintro e0 w3 ⟨A3, c3, B3, d3, rfl, r3, k3⟩
  have K := Lib.hid (K.out.tr k3)
  have T0B := Lib.hid (T0B.out.kp k3)
  have U := Lib.hid r3
  clear k3 r3 zt0b0 zt0b1 zt0b2
  have zt0b0 := T0B.out.c0
  have zt0b1 := T0B.out.c1
  have zt0b2 := T0B.out.lt
  go_wp2_with fail
  refine (C2.out _ _ _ _ _ (K.out.al _) (U.out.alloc_ _)).mono ?_; rintro e0 w4 ⟨A4, c4, B4, d4, rfl, r4, k4⟩
  have K := Lib.hid ((K.out.al _).tr k4)
  have T0B := Lib.hid ((T0B.out.alloc_ _).kp k4)
  have U := Lib.hid ((U.out.alloc_ _).kp k4)
  have UB : Hid (Bk w4 w3.heap.size A3 a0 c3 B3 b0 d3) := (Bk.new rfl).kp k4
  have X := Lib.hid r4
  clear k4 r4 zt0b0 zt0b1 zt0b2
  have zt0b0 := T0B.out.c0
  have zt0b1 := T0B.out.c1
  have zt0b2 := T0B.out.lt
  go_wp2_with fail
  refine (C3.out _ (K.out.al _)).mono ?_; rintro e0 w5 ⟨A5, c5, B5, d5, rfl, r5, k5⟩
  have K := Lib.hid ((K.out.al _).tr k5)
  have T0B := Lib.hid ((T0B.out.alloc_ _).kp k5)
  have UB := Lib.hid ((UB.out.alloc_ _).kp k5)
  have U := Lib.hid ((U.out.alloc_ _).kp k5)
  have X := Lib.hid ((X.out.alloc_ _).kp k5)
  have XB : Hid (Bk w5 w4.heap.size A4 a1 c4 B4 b1 d4) := (Bk.new rfl).kp k5
  have Y := Lib.hid r5
  clear k5 r5 zt0b0 zt0b1 zt0b2
  go_wp2_with fail
  refine (C4.out _ _ _ _ _ (K.out.al _) (Y.out.alloc_ _)).mono ?_; rintro e0 w6 ⟨A6, c6, B6, d6, rfl, r6, k6⟩
  have K := Lib.hid ((K.out.al _).tr k6)
  have T0B := Lib.hid ((T0B.out.alloc_ _).kp k6)
  have UB := Lib.hid ((UB.out.alloc_ _).kp k6)
  have XB := Lib.hid ((XB.out.alloc_ _).kp k6)
  have U := Lib.hid ((U.out.alloc_ _).kp k6)
  have X := Lib.hid ((X.out.alloc_ _).kp k6)
  have Y := Lib.hid ((Y.out.alloc_ _).kp k6)
  have YB : Hid (Bk w6 w5.heap.size A5 a2 c5 B5 b2 d5) := (Bk.new rfl).kp k6
  have Z := Lib.hid r6
  clear k6 r6
  have zxb0 := XB.out.c0
  have zxb1 := XB.out.c1
  have zxb2 := XB.out.lt
  by_cases h1 : e1 = 0
  · obtain ⟨r1, r2, r3, r4, r5⟩ := HE.out h1
    subst h1 r1 r2 r3 r4 r5
    go_wp2_with fail
    refine (tsame_u (X.out.alloc_ _) (Z.out.alloc_ _) L1.out.1 L1.out.2).mono ?_; rintro e0 w7 ⟨rfl, k7⟩
    have K := Lib.hid ((K.out.al _).tr k7)
    have T0B := Lib.hid ((T0B.out.alloc_ _).kp k7)
    have UB := Lib.hid ((UB.out.alloc_ _).kp k7)
    have XB := Lib.hid ((XB.out.alloc_ _).kp k7)
    have YB := Lib.hid ((YB.out.alloc_ _).kp k7)
    have U := Lib.hid ((U.out.alloc_ _).kp k7)
    have X := Lib.hid ((X.out.alloc_ _).kp k7)
    have Y := Lib.hid ((Y.out.alloc_ _).kp k7)
    have Z := Lib.hid ((Z.out.alloc_ _).kp k7)
    have ZB : Hid (Bk w7 w6.heap.size A6 a1 c6 B6 b1 d6) := (Bk.new rfl).kp k7
    clear k7 zxb0 zxb1 zxb2
    go_wp2
    go_ret
    exact ⟨rfl, K.out⟩
  · skip
    go_wp2
    go_ret
    exact ⟨rfl, K.out.al _⟩
theorem mmirror_walk (A B : Option Addr) (c d : Nat) (q1 q2 q3 : Int) (s xs : List Int) (w : World) (R0 : TR w A s B xs) (I0 : I64s xs) :
    Calls Try.prog 8 #[.agg #[.slice A s.length c, .slice B xs.length d], .int .i64 q1, .int .i64 q2, .int .i64 q3] w fun e w' => e = .returned (.bool true) ∧ Kp w w' := by
  by_cases f0 : 100 < s.length ∨ 100 < xs.length
  · exact mmirror_far0 A B _ c _ d q1 q2 q3 (Lib.hid fun W => mvawake_any W) w  R0.s.len R0.d.len f0
  by_cases b0 : tokV s xs = false
  · exact mmirror_far1 A B _ c _ d q1 q2 q3 (Lib.hid fun W => mvawake_any W) w (by omega) (by omega) (Lib.hid fun W k => tcheck_u s xs (R0.kp k) rfl rfl b0)
  have b0 : tokV s xs = true := by simpa using b0
  by_cases hx : q1 < 0
  · exact mmirror_far2 A B _ c _ d q1 q2 q3 (Lib.hid fun W => mvawake_any W) w (by omega) (by omega) (Lib.hid fun W k => tcheck_u s xs (R0.kp k) rfl rfl b0) hx
  by_cases hx' : (s.length : Int) ≤ q1
  · exact mmirror_far3 A B _ c _ d q1 q2 q3 (Lib.hid fun W => mvawake_any W) w (by omega) (by omega) (Lib.hid fun W k => tcheck_u s xs (R0.kp k) rfl rfl b0) hx hx'
  obtain ⟨k, rfl⟩ : ∃ k : Nat, q1 = (k : Int) := ⟨q1.toNat, by omega⟩
  obtain ⟨l1, k1, e1, r1⟩ : ∃ l k' e, sliceV s.reverse (turnD s xs) ((s.length : Int) - 1 - k) q2 q3 = (l, k', e) := ⟨_, _, _, rfl⟩
  obtain ⟨l2, k2, e2, r2⟩ : ∃ l k' e, sliceV s xs k q2 q3 = (l, k', e) := ⟨_, _, _, rfl⟩
  obtain ⟨l3, k3, e3, r3⟩ : ∃ l k' e, turnV l2 k2 = (l, k', e) := ⟨_, _, _, rfl⟩
  have hm := mirror_two b0 (k := k) (by omega) q2 q3
  have he : e2 = e1 ∧ (e1 = 0 → e3 = 0 ∧ l1 = l3 ∧ k1 = k3) := by
    rcases hm with ⟨m1, m2⟩ | ⟨a2, c2, a3, c3, m1, m2, m3⟩
    · rw [m1] at r1; rw [m2] at r2
      obtain ⟨rfl, rfl, rfl⟩ : [] = l1 ∧ [] = k1 ∧ 20 = e1 := by simpa using r1
      obtain ⟨rfl, rfl, rfl⟩ : [] = l2 ∧ [] = k2 ∧ 20 = e2 := by simpa using r2
      exact ⟨rfl, fun h => by cases h⟩
    · rw [m3] at r1; rw [m1] at r2
      obtain ⟨rfl, rfl, rfl⟩ : a3 = l1 ∧ c3 = k1 ∧ 0 = e1 := by simpa using r1
      obtain ⟨rfl, rfl, rfl⟩ : a2 = l2 ∧ c2 = k2 ∧ 0 = e2 := by simpa using r2
      rw [m2] at r3
      obtain ⟨rfl, rfl, rfl⟩ : a3 = l3 ∧ c3 = k3 ∧ 0 = e3 := by simpa using r3
      exact ⟨rfl, fun _ => ⟨rfl, rfl, rfl⟩⟩
  obtain ⟨rfl, hE⟩ := he
  exact mmirror_with A B _ c _ d k q2 q3 (Lib.hid fun W => mvawake_any W) w (by omega) (by omega) (Lib.hid fun W k => tcheck_u s xs (R0.kp k) rfl rfl b0) hx hx' _ rfl s.reverse (turnD s xs) l1 k1 l2 k2 l3 k3 _ _ _ _ _ _ _ _ e2 e3 (Lib.hid ⟨rfl, rfl⟩) (Lib.hid fun z => by obtain ⟨z1, z2, z3⟩ := hE z; subst z2 z3; exact ⟨z1, rfl, rfl, rfl, rfl⟩)
    (Lib.hid fun W k => pturn_u s xs (R0.kp k) rfl rfl (turn_is b0) rfl rfl)
    (Lib.hid fun W A0 B0 c0 d0 _ r => pslice_u s.reverse (turnD s xs) _ q2 q3 r rfl rfl r1 rfl rfl)
    (Lib.hid fun W k' => pslice_u s xs k q2 q3 (R0.kp k') rfl rfl r2 rfl rfl)
    (Lib.hid fun W A0 B0 c0 d0 _ r => pturn_u l2 k2 r rfl rfl r3 rfl rfl)
end Go.Proofs.Ytdjfjhanffliiaa
