/- Turned twice a tensor is itself, each number stands at its index, the last number first, and in another shape, and back, it is itself: the law's call returns true. -/
import Derived.Test.YtdjfjhanffliiaaMvCe
namespace Go.Proofs.ShM
theorem reshape_back {s xs g : List Int} (h : tokV s xs = true) (k : (reshapeV s xs g).2.2 = 0) : (reshapeV s xs g).2.1 = xs ∧ reshapeV (reshapeV s xs g).1 (reshapeV s xs g).2.1 s = (s, xs, 0) := by
  obtain ⟨ho, hn, h1, h64⟩ := tok_len h
  by_cases c : sizeV g = (xs.length : Int)
  · have e : reshapeV s xs g = (g, xs, 0) := by unfold reshapeV; rw [if_neg (by simp [h]), if_pos c]
    rw [e]
    have hg : tokV g xs = true := by
      cases hog : okS g with
      | true => exact tok_iff.2 ⟨hog, by rw [← c, size_ok hog]⟩
      | false => rw [size_no hog] at c; omega
    refine ⟨rfl, ?_⟩
    have hs := size_nat ho
    unfold reshapeV
    rw [if_neg (by simp [hg]), if_pos (by rw [size_ok ho, ← hs, hn])]
  · unfold reshapeV at k
    rw [if_neg (by simp [h]), if_neg c] at k
    simp at k
end Go.Proofs.ShM
namespace Go.Proofs.Ytdjfjhanffliiaa
open Go.RowKit Go.Proofs.ShM
set_option linter.unusedVariables false
set_option linter.unusedSimpArgs false

set_option maxHeartbeats 8000000 in
set_option maxRecDepth 100000 in
theorem mturns_f0 (A B E F : Option Addr) (n c m d p g u h : Nat) (w : World) (zn : n ≤ 9223372036854775807) (zm : m ≤ 9223372036854775807) (zp : p ≤ 9223372036854775807) (zu : u ≤ 9223372036854775807) (hf : 100 < n ∨ 100 < m) :
    Calls Try.prog 4 #[.agg #[.slice A n c, .slice B m d], .slice E p g, .slice F u h] w fun e w' => e = .returned (.bool true) ∧ Kp w w' := by
  have HN : Hid (∀ W, Calls Try.prog 10 #[.agg #[.slice A n c, .slice B m d]] W fun e w' => e = .returned (.bool false) ∧ Kp W w') := fun W => few_no zn zm hf
  clear hf
  go_enter Try.func4, Try.ntmps4
  go_wp2_with fail
  refine (mvawake_any _).mono ?_; rintro e0 w0 ⟨rfl, k0⟩
  have K := Lib.hid ((Kp.alloc_ _ _).tr k0)
  have T0B : Hid (Bk w0 (w.heap.size) A n c B m d) := (Bk.new rfl).kp k0
  clear k0
  have zt0b0 := T0B.out.c0
  have zt0b1 := T0B.out.c1
  have zt0b2 := T0B.out.lt
  go_wp2_with fail
  refine (HN.out _).mono ?_; rintro e0 w1 ⟨rfl, k1⟩
  have K := Lib.hid (K.out.tr k1)
  have T0B := Lib.hid (T0B.out.kp k1)
  clear k1 zt0b0 zt0b1 zt0b2
  have zt0b0 := T0B.out.c0
  have zt0b1 := T0B.out.c1
  have zt0b2 := T0B.out.lt
  go_wp2
  go_ret
  exact ⟨rfl, K.out⟩

set_option maxHeartbeats 8000000 in
set_option maxRecDepth 100000 in
theorem mturns_f1 (A B E F : Option Addr) (n c m d p g u h : Nat) (w : World) (hn : n ≤ 100) (hm : m ≤ 100) (zp : p ≤ 9223372036854775807) (zu : u ≤ 9223372036854775807) (hp : 100 < p) :
    Calls Try.prog 4 #[.agg #[.slice A n c, .slice B m d], .slice E p g, .slice F u h] w fun e w' => e = .returned (.bool true) ∧ Kp w w' := by
  go_enter Try.func4, Try.ntmps4
  go_wp2_with fail
  refine (mvawake_any _).mono ?_; rintro e0 w0 ⟨rfl, k0⟩
  have K := Lib.hid ((Kp.alloc_ _ _).tr k0)
  have T0B : Hid (Bk w0 (w.heap.size) A n c B m d) := (Bk.new rfl).kp k0
  clear k0
  have zt0b0 := T0B.out.c0
  have zt0b1 := T0B.out.c1
  have zt0b2 := T0B.out.lt
  go_wp2_with fail
  refine (few_yes hn hm).mono ?_; rintro e0 w1 ⟨rfl, k1⟩
  have K := Lib.hid (K.out.tr k1)
  have T0B := Lib.hid (T0B.out.kp k1)
  clear k1 zt0b0 zt0b1 zt0b2
  have zt0b0 := T0B.out.c0
  have zt0b1 := T0B.out.c1
  have zt0b2 := T0B.out.lt
  go_wp2
  go_ret
  exact ⟨rfl, K.out⟩

set_option maxHeartbeats 8000000 in
set_option maxRecDepth 100000 in
theorem mturns_f2 (A B E F : Option Addr) (n c m d p g u h : Nat) (w : World) (hn : n ≤ 100) (hm : m ≤ 100) (hp : p ≤ 100) (zu : u ≤ 9223372036854775807) (hu : 100 < u) :
    Calls Try.prog 4 #[.agg #[.slice A n c, .slice B m d], .slice E p g, .slice F u h] w fun e w' => e = .returned (.bool true) ∧ Kp w w' := by
  go_enter Try.func4, Try.ntmps4
  go_wp2_with fail
  refine (mvawake_any _).mono ?_; rintro e0 w0 ⟨rfl, k0⟩
  have K := Lib.hid ((Kp.alloc_ _ _).tr k0)
  have T0B : Hid (Bk w0 (w.heap.size) A n c B m d) := (Bk.new rfl).kp k0
  clear k0
  have zt0b0 := T0B.out.c0
  have zt0b1 := T0B.out.c1
  have zt0b2 := T0B.out.lt
  go_wp2_with fail
  refine (few_yes hn hm).mono ?_; rintro e0 w1 ⟨rfl, k1⟩
  have K := Lib.hid (K.out.tr k1)
  have T0B := Lib.hid (T0B.out.kp k1)
  clear k1 zt0b0 zt0b1 zt0b2
  have zt0b0 := T0B.out.c0
  have zt0b1 := T0B.out.c1
  have zt0b2 := T0B.out.lt
  go_wp2
  go_ret
  exact ⟨rfl, K.out⟩

set_option maxHeartbeats 8000000 in
set_option maxRecDepth 100000 in
theorem mturns_f3 (A B E F : Option Addr) (n c m d p g u h : Nat) (w : World) (hn : n ≤ 100) (hm : m ≤ 100) (hp : p ≤ 100) (hu : u ≤ 100) (HC0 : Hid (∀ W, Kp w W → Calls Try.prog 22 #[.agg #[.slice A n c, .slice B m d]] W fun e w' => e = .returned (.bool false) ∧ Kp W w')) :
    Calls Try.prog 4 #[.agg #[.slice A n c, .slice B m d], .slice E p g, .slice F u h] w fun e w' => e = .returned (.bool true) ∧ Kp w w' := by
  go_enter Try.func4, Try.ntmps4
  go_wp2_with fail
  refine (mvawake_any _).mono ?_; rintro e0 w0 ⟨rfl, k0⟩
  have K := Lib.hid ((Kp.alloc_ _ _).tr k0)
  have T0B : Hid (Bk w0 (w.heap.size) A n c B m d) := (Bk.new rfl).kp k0
  clear k0
  have zt0b0 := T0B.out.c0
  have zt0b1 := T0B.out.c1
  have zt0b2 := T0B.out.lt
  go_wp2_with fail
  refine (few_yes hn hm).mono ?_; rintro e0 w1 ⟨rfl, k1⟩
  have K := Lib.hid (K.out.tr k1)
  have T0B := Lib.hid (T0B.out.kp k1)
  clear k1 zt0b0 zt0b1 zt0b2
  have zt0b0 := T0B.out.c0
  have zt0b1 := T0B.out.c1
  have zt0b2 := T0B.out.lt
  go_wp2_with fail
  refine (HC0.out _ K.out).mono ?_; rintro e0 w2 ⟨rfl, k2⟩
  have K := Lib.hid (K.out.tr k2)
  have T0B := Lib.hid (T0B.out.kp k2)
  clear k2 zt0b0 zt0b1 zt0b2
  have zt0b0 := T0B.out.c0
  have zt0b1 := T0B.out.c1
  have zt0b2 := T0B.out.lt
  go_wp2
  go_ret
  exact ⟨rfl, K.out⟩

set_option maxHeartbeats 8000000 in
set_option maxRecDepth 100000 in
theorem mturns_with (A B E F : Option Addr) (n c m d p g u h : Nat) (w : World) (hn : n ≤ 100) (hm : m ≤ 100) (hp : p ≤ 100) (hu : u ≤ 100) (HC0 : Hid (∀ W, Kp w W → Calls Try.prog 22 #[.agg #[.slice A n c, .slice B m d]] W fun e w' => e = .returned (.bool true) ∧ Kp W w')) (s xs sr v ix l5 k5 l6 k6 : List Int) (a5 b5 a6 b6 : Nat) (px pe e5 e6 : Int)
    (L0 : Hid (s.length = n ∧ xs.length = m)) (LR : Hid (sr.length = n ∧ v.length = m ∧ tokV sr v = true)) (LI : Hid (ix.length = u)) (HT : Hid (TR w A s B xs)) (HI : Hid (Rd w F ix))
    (HE : Hid (e5 = 0 → e6 = 0 ∧ s = l6 ∧ xs = k6 ∧ n = a6 ∧ m = b6 ∧ k5 = xs ∧ m = b5))
    (C1 : Hid (∀ W, Kp w W → Calls Try.prog 14 #[.agg #[.slice A n c, .slice B m d]] W (RetU sr v n m 0 W)))
    (C2 : Hid (∀ W A0 B0 c0 d0, Kp w W → TR W A0 sr B0 v → Calls Try.prog 14 #[.agg #[.slice A0 n c0, .slice B0 m d0]] W (RetU s xs n m 0 W)))
    (C3 : Hid (∀ W, Kp w W → Calls Try.prog 23 #[.agg #[.slice A n c, .slice B m d], .slice F u h] W (RetK px pe W)))
    (C4 : Hid (∀ W A0 B0 c0 d0 Az cz zs, zs = ix.reverse → Kp w W → TR W A0 sr B0 v → Rd W Az zs → Calls Try.prog 23 #[.agg #[.slice A0 n c0, .slice B0 m d0], .slice Az zs.length cz] W (RetK px pe W)))
    (C5 : Hid (∀ W, Kp w W → Calls Try.prog 11 #[.agg #[.slice A n c, .slice B m d], .slice E p g] W (RetU l5 k5 a5 b5 e5 W)))
    (C6 : Hid (∀ W A0 B0 c0 d0, Kp w W → TR W A0 l5 B0 k5 → Calls Try.prog 11 #[.agg #[.slice A0 a5 c0, .slice B0 b5 d0], .slice A n c] W (RetU l6 k6 a6 b6 e6 W))) :
    Calls Try.prog 4 #[.agg #[.slice A n c, .slice B m d], .slice E p g, .slice F u h] w fun e w' => e = .returned (.bool true) ∧ Kp w w' := by
  go_enter Try.func4, Try.ntmps4
  go_wp2_with fail
  refine (mvawake_any _).mono ?_; rintro e0 w0 ⟨rfl, k0⟩
  have K := Lib.hid ((Kp.alloc_ _ _).tr k0)
  have HT := Lib.hid ((HT.out.alloc_ _).kp k0)
  have T0B : Hid (Bk w0 (w.heap.size) A n c B m d) := (Bk.new rfl).kp k0
  clear k0
  have zt0b0 := T0B.out.c0
  have zt0b1 := T0B.out.c1
  have zt0b2 := T0B.out.lt
  go_wp2_with fail
  refine (few_yes hn hm).mono ?_; rintro e0 w1 ⟨rfl, k1⟩
  have K := Lib.hid (K.out.tr k1)
  have T0B := Lib.hid (T0B.out.kp k1)
  have HT := Lib.hid (HT.out.kp k1)
  clear k1 zt0b0 zt0b1 zt0b2
  have zt0b0 := T0B.out.c0
  have zt0b1 := T0B.out.c1
  have zt0b2 := T0B.out.lt
  go_wp2_with fail
  refine (HC0.out _ K.out).mono ?_; rintro e0 w2 ⟨rfl, k2⟩
  have K := Lib.hid (K.out.tr k2)
  have T0B := Lib.hid (T0B.out.kp k2)
  have HT := Lib.hid (HT.out.kp k2)
  clear k2 zt0b0 zt0b1 zt0b2
  have zt0b0 := T0B.out.c0
  have zt0b1 := T0B.out.c1
  have zt0b2 := T0B.out.lt
  go_wp2_with fail
  refine (C1.out _ K.out).mono ?_; rintro e0 w3 ⟨A3, c3, B3, d3, rfl, r3, k3⟩
  have K := Lib.hid (K.out.tr k3)
  have T0B := Lib.hid (T0B.out.kp k3)
  have HT := Lib.hid (HT.out.kp k3)
  have Y := Lib.hid r3
  clear k3 r3 zt0b0 zt0b1 zt0b2
  go_wp2_with fail
  refine (C2.out _ _ _ _ _ (K.out.al _) (Y.out.alloc_ _)).mono ?_; rintro e0 w4 ⟨A4, c4, B4, d4, rfl, r4, k4⟩
  have K := Lib.hid ((K.out.al _).tr k4)
  have T0B := Lib.hid ((T0B.out.alloc_ _).kp k4)
  have HT := Lib.hid ((HT.out.alloc_ _).kp k4)
  have Y := Lib.hid ((Y.out.alloc_ _).kp k4)
  have YB : Hid (Bk w4 w3.heap.size A3 n c3 B3 m d3) := (Bk.new rfl).kp k4
  have X := Lib.hid r4
  clear k4 r4
  go_wp2
  obtain ⟨W0, HW0⟩ : ∃ W0, Hid (W0 = w4.alloc (.cells #[.slice A4 n c4, .slice B4 m d4] 24)) := ⟨_, rfl⟩
  have hkx : Kp w4 W0 := by rw [HW0.out]; exact Kp.alloc_ _ _
  have XB : Hid (Bk W0 w4.heap.size A4 n c4 B4 m d4) := by show Bk _ _ _ _ _ _ _ _; rw [HW0.out]; exact Bk.new rfl
  rw [← HW0.out]
  have K := Lib.hid (K.out.tr hkx)
  have T0B := Lib.hid (T0B.out.kp hkx)
  have YB := Lib.hid (YB.out.kp hkx)
  have HT := Lib.hid (HT.out.kp hkx)
  have Y := Lib.hid (Y.out.kp hkx)
  have X := Lib.hid (X.out.kp hkx)
  clear hkx HW0 
  go_loopw [12, 13] (fun v i wr => ∃ (k : Nat) (zs : List Int) (Az : Option Addr) (cz : Nat), i = .int .i64 ((k : Int) - 1) ∧ v = .slice Az zs.length cz ∧ Hid (k ≤ u) ∧ Hid (zs = (ix.drop k).reverse) ∧ Hid (Own W0.heap.size wr (.slice Az zs.length cz) zs) ∧ Hid (Kp W0 wr)) (fun _ i _ => (intOf i + 1).toNat)
  case atStart => exact ⟨u, [], none, 0, by go_num, rfl, Lib.hid (Nat.le_refl _), Lib.hid (by rw [← LI.out]; simp), Own.nil_ _ _, Kp.refl _⟩
  case round =>
    obtain ⟨k, zs, Az, cz, rfl, rfl, hkl, hz, hown, hk0⟩ := hrel
    have hkl' : k ≤ u := hkl.out
    have HZL : Hid (zs.length = u - k) := by show zs.length = _; rw [hz.out]; simp; rw [LI.out]
    have K := Lib.hid (K.out.tr hk0.out)
    have T0B := Lib.hid (T0B.out.kp hk0.out)
    have YB := Lib.hid (YB.out.kp hk0.out)
    have XB := Lib.hid (XB.out.kp hk0.out)
    have HT := Lib.hid (HT.out.kp hk0.out)
    have Y := Lib.hid (Y.out.kp hk0.out)
    have X := Lib.hid (X.out.kp hk0.out)
    cases k with
    | zero =>
      have HZ := Lib.hid (rev_end hz.out)
      have Z := Lib.hid hown.out.sl.rd
      have zt0b0 := T0B.out.c0
      have zt0b1 := T0B.out.c1
      have zt0b2 := T0B.out.lt
      go_wp2_with fail
      refine (C3.out _ K.out).mono ?_; rintro e0 w5 ⟨rfl, k5⟩
      have K := Lib.hid (K.out.tr k5)
      have T0B := Lib.hid (T0B.out.kp k5)
      have YB := Lib.hid (YB.out.kp k5)
      have XB := Lib.hid (XB.out.kp k5)
      have HT := Lib.hid (HT.out.kp k5)
      have Y := Lib.hid (Y.out.kp k5)
      have X := Lib.hid (X.out.kp k5)
      have Z := Lib.hid (Z.out.kp k5)
      clear k5 zt0b0 zt0b1 zt0b2
      have zyb0 := YB.out.c0
      have zyb1 := YB.out.c1
      have zyb2 := YB.out.lt
      go_wp2_with fail
      refine (C4.out _ _ _ _ _ _ _ _ HZ.out K.out Y.out Z.out).mono ?_; rintro e0 w6 ⟨rfl, k6⟩
      have K := Lib.hid (K.out.tr k6)
      have T0B := Lib.hid (T0B.out.kp k6)
      have YB := Lib.hid (YB.out.kp k6)
      have XB := Lib.hid (XB.out.kp k6)
      have HT := Lib.hid (HT.out.kp k6)
      have Y := Lib.hid (Y.out.kp k6)
      have X := Lib.hid (X.out.kp k6)
      clear k6 zyb0 zyb1 zyb2 Z
      have zt0b0 := T0B.out.c0
      have zt0b1 := T0B.out.c1
      have zt0b2 := T0B.out.lt
      go_wp2_with fail
      refine (C5.out _ K.out).mono ?_; rintro e0 w7 ⟨A7, c7, B7, d7, rfl, r7, k7⟩
      have K := Lib.hid (K.out.tr k7)
      have T0B := Lib.hid (T0B.out.kp k7)
      have YB := Lib.hid (YB.out.kp k7)
      have XB := Lib.hid (XB.out.kp k7)
      have HT := Lib.hid (HT.out.kp k7)
      have Y := Lib.hid (Y.out.kp k7)
      have X := Lib.hid (X.out.kp k7)
      have R := Lib.hid r7
      clear k7 r7 zt0b0 zt0b1 zt0b2
      have zt0b0 := T0B.out.c0
      have zt0b1 := T0B.out.c1
      have zt0b2 := T0B.out.lt
      go_wp2_with fail
      refine (C6.out _ _ _ _ _ (K.out.al _) (R.out.alloc_ _)).mono ?_; rintro e0 w8 ⟨A8, c8, B8, d8, rfl, r8, k8⟩
      have K := Lib.hid ((K.out.al _).tr k8)
      have T0B := Lib.hid ((T0B.out.alloc_ _).kp k8)
      have YB := Lib.hid ((YB.out.alloc_ _).kp k8)
      have XB := Lib.hid ((XB.out.alloc_ _).kp k8)
      have HT := Lib.hid ((HT.out.alloc_ _).kp k8)
      have Y := Lib.hid ((Y.out.alloc_ _).kp k8)
      have X := Lib.hid ((X.out.alloc_ _).kp k8)
      have R := Lib.hid ((R.out.alloc_ _).kp k8)
      have RB : Hid (Bk w8 w7.heap.size A7 a5 c7 B7 b5 d7) := (Bk.new rfl).kp k8
      have M := Lib.hid r8
      clear k8 r8 zt0b0 zt0b1 zt0b2
      have zt0b0 := T0B.out.c0
      have zt0b1 := T0B.out.c1
      have zt0b2 := T0B.out.lt
      have zxb0 := XB.out.c0
      have zxb1 := XB.out.c1
      have zxb2 := XB.out.lt
      have zrb0 := RB.out.c0
      have zrb1 := RB.out.c1
      have zrb2 := RB.out.lt
      by_cases h5 : e5 = 0
      · obtain ⟨r1, r2, r3, r4, r5, r6, r7⟩ := HE.out h5
        subst h5 r1 r2 r3 r4 r5 r6 r7
        go_wp2_with fail
        refine (tsame_u (M.out.alloc_ _) (HT.out.alloc_ _) L0.out.1 L0.out.2).mono ?_; rintro e0 w9 ⟨rfl, k9⟩
        have K := Lib.hid ((K.out.al _).tr k9)
        have T0B := Lib.hid ((T0B.out.alloc_ _).kp k9)
        have YB := Lib.hid ((YB.out.alloc_ _).kp k9)
        have XB := Lib.hid ((XB.out.alloc_ _).kp k9)
        have RB := Lib.hid ((RB.out.alloc_ _).kp k9)
        have HT := Lib.hid ((HT.out.alloc_ _).kp k9)
        have Y := Lib.hid ((Y.out.alloc_ _).kp k9)
        have X := Lib.hid ((X.out.alloc_ _).kp k9)
        have R := Lib.hid ((R.out.alloc_ _).kp k9)
        have M := Lib.hid ((M.out.alloc_ _).kp k9)
        have MB : Hid (Bk w9 w8.heap.size A8 n c8 B8 m d8) := (Bk.new rfl).kp k9
        clear k9 zt0b0 zt0b1 zt0b2 zxb0 zxb1 zxb2 zrb0 zrb1 zrb2
        have zrb0 := RB.out.c0
        have zrb1 := RB.out.c1
        have zrb2 := RB.out.lt
        have zt0b0 := T0B.out.c0
        have zt0b1 := T0B.out.c1
        have zt0b2 := T0B.out.lt
        go_wp2_with fail
        refine (same_k _ _ R.out.d HT.out.d L0.out.2.symm L0.out.2.symm (r := true) (by simp)).mono ?_; rintro e0 w10 ⟨rfl, k10⟩
        have K := Lib.hid (K.out.tr k10)
        have T0B := Lib.hid (T0B.out.kp k10)
        have YB := Lib.hid (YB.out.kp k10)
        have XB := Lib.hid (XB.out.kp k10)
        have RB := Lib.hid (RB.out.kp k10)
        have MB := Lib.hid (MB.out.kp k10)
        have HT := Lib.hid (HT.out.kp k10)
        have Y := Lib.hid (Y.out.kp k10)
        have X := Lib.hid (X.out.kp k10)
        have R := Lib.hid (R.out.kp k10)
        have M := Lib.hid (M.out.kp k10)
        clear k10 zrb0 zrb1 zrb2 zt0b0 zt0b1 zt0b2
        have zxb0 := XB.out.c0
        have zxb1 := XB.out.c1
        have zxb2 := XB.out.lt
        have zt0b0 := T0B.out.c0
        have zt0b1 := T0B.out.c1
        have zt0b2 := T0B.out.lt
        go_wp2_with fail
        refine (tsame_u X.out HT.out L0.out.1 L0.out.2).mono ?_; rintro e0 w11 ⟨rfl, k11⟩
        have K := Lib.hid (K.out.tr k11)
        have T0B := Lib.hid (T0B.out.kp k11)
        have YB := Lib.hid (YB.out.kp k11)
        have XB := Lib.hid (XB.out.kp k11)
        have RB := Lib.hid (RB.out.kp k11)
        have MB := Lib.hid (MB.out.kp k11)
        have HT := Lib.hid (HT.out.kp k11)
        have Y := Lib.hid (Y.out.kp k11)
        have X := Lib.hid (X.out.kp k11)
        have R := Lib.hid (R.out.kp k11)
        have M := Lib.hid (M.out.kp k11)
        clear k11 zxb0 zxb1 zxb2 zt0b0 zt0b1 zt0b2
        have zyb0 := YB.out.c0
        have zyb1 := YB.out.c1
        have zyb2 := YB.out.lt
        go_wp2_with fail
        refine (tcheck_u sr v Y.out LR.out.1.symm LR.out.2.1.symm LR.out.2.2).mono ?_; rintro e0 w12 ⟨rfl, k12⟩
        have K := Lib.hid (K.out.tr k12)
        have T0B := Lib.hid (T0B.out.kp k12)
        have YB := Lib.hid (YB.out.kp k12)
        have XB := Lib.hid (XB.out.kp k12)
        have RB := Lib.hid (RB.out.kp k12)
        have MB := Lib.hid (MB.out.kp k12)
        have HT := Lib.hid (HT.out.kp k12)
        have Y := Lib.hid (Y.out.kp k12)
        have X := Lib.hid (X.out.kp k12)
        have R := Lib.hid (R.out.kp k12)
        have M := Lib.hid (M.out.kp k12)
        clear k12 zyb0 zyb1 zyb2
        go_wp2
        go_ret
        exact ⟨rfl, K.out⟩
      · skip
        go_wp2_with fail
        refine (tsame_u (X.out.alloc_ _) (HT.out.alloc_ _) L0.out.1 L0.out.2).mono ?_; rintro e0 w9 ⟨rfl, k9⟩
        have K := Lib.hid ((K.out.al _).tr k9)
        have T0B := Lib.hid ((T0B.out.alloc_ _).kp k9)
        have YB := Lib.hid ((YB.out.alloc_ _).kp k9)
        have XB := Lib.hid ((XB.out.alloc_ _).kp k9)
        have RB := Lib.hid ((RB.out.alloc_ _).kp k9)
        have HT := Lib.hid ((HT.out.alloc_ _).kp k9)
        have Y := Lib.hid ((Y.out.alloc_ _).kp k9)
        have X := Lib.hid ((X.out.alloc_ _).kp k9)
        have R := Lib.hid ((R.out.alloc_ _).kp k9)
        have M := Lib.hid ((M.out.alloc_ _).kp k9)
        have MB : Hid (Bk w9 w8.heap.size A8 a6 c8 B8 b6 d8) := (Bk.new rfl).kp k9
        clear k9 zt0b0 zt0b1 zt0b2 zxb0 zxb1 zxb2 zrb0 zrb1 zrb2
        have zyb0 := YB.out.c0
        have zyb1 := YB.out.c1
        have zyb2 := YB.out.lt
        go_wp2_with fail
        refine (tcheck_u sr v Y.out LR.out.1.symm LR.out.2.1.symm LR.out.2.2).mono ?_; rintro e0 w10 ⟨rfl, k10⟩
        have K := Lib.hid (K.out.tr k10)
        have T0B := Lib.hid (T0B.out.kp k10)
        have YB := Lib.hid (YB.out.kp k10)
        have XB := Lib.hid (XB.out.kp k10)
        have RB := Lib.hid (RB.out.kp k10)
        have MB := Lib.hid (MB.out.kp k10)
        have HT := Lib.hid (HT.out.kp k10)
        have Y := Lib.hid (Y.out.kp k10)
        have X := Lib.hid (X.out.kp k10)
        have R := Lib.hid (R.out.kp k10)
        have M := Lib.hid (M.out.kp k10)
        clear k10 zyb0 zyb1 zyb2
        go_wp2
        go_ret
        exact ⟨rfl, K.out⟩
    | succ k =>
      obtain ⟨ad, x, rfl, hb, hx, hc⟩ := (HI.out.kp K.out).at_ (k := k) (by rw [LI.out]; omega)
      have e1 : ((k + 1 : Nat) : Int) - 1 = (k : Int) := by omega
      rw [e1]
      have HX := Lib.hid hx
      have HBs : Hid (W0.heap.size ≤ wr.heap.size) := hk0.out.size
      have i0 : (0 : Int) ≤ (k : Int) := by omega
      have i1 : (k : Int) < (u : Int) := by omega
      clear hx hb e1
      go_wp2_with (at_builtin; refine wpList_app rfl (.tmp 60) (.tmp 65) rfl _ zs rfl (hown.out.kp (Kp.alloc_ _ _)) _ _ [x] _ rfl rfl (Rd.one _ _ _) (by have := HZL.out; simp; omega) (by have := HBs.out; simp; omega) ?_; intro zs2 A2 c2 w2' HZ2 hown2 hb2; have HB := Lib.hid ((Kp.al hk0.out _).trans (hb2)); have HO2 := Lib.hid hown2; clear hown2 hb2)
      go_roundw
      case rel => exact ⟨k, zs2, A2, c2, by go_num, rfl, Lib.hid (by omega), Lib.hid (rev_step hz.out HX.out HZ2.out), HO2.out, HB.out⟩
      case measure => simp [intOf]

theorem mturns_walk (A B E F : Option Addr) (c d g h : Nat) (s xs gs ix : List Int) (w : World) (R0 : TR w A s B xs) (I0 : I64s xs) (E1 : Rd w E gs) (E2 : Rd w F ix) :
    Calls Try.prog 4 #[.agg #[.slice A s.length c, .slice B xs.length d], .slice E gs.length g, .slice F ix.length h] w fun e w' => e = .returned (.bool true) ∧ Kp w w' := by
  by_cases f0 : 100 < s.length ∨ 100 < xs.length
  · exact mturns_f0 A B E F _ c _ d _ g _ h w R0.s.len R0.d.len E1.len E2.len f0
  by_cases f1 : 100 < gs.length
  · exact mturns_f1 A B E F _ c _ d _ g _ h w (by omega) (by omega) E1.len E2.len f1
  by_cases f2 : 100 < ix.length
  · exact mturns_f2 A B E F _ c _ d _ g _ h w (by omega) (by omega) (by omega) E2.len f2
  by_cases b0 : tokV s xs = false
  · exact mturns_f3 A B E F _ c _ d _ g _ h w (by omega) (by omega) (by omega) (by omega) (Lib.hid fun W k => tcheck_u s xs (R0.kp k) rfl rfl b0)
  have b0 : tokV s xs = true := by simpa using b0
  obtain ⟨l5, k5, e5, r5⟩ : ∃ l k e, reshapeV s xs gs = (l, k, e) := ⟨_, _, _, rfl⟩
  obtain ⟨l6, k6, e6, r6⟩ : ∃ l k e, reshapeV l5 k5 s = (l, k, e) := ⟨_, _, _, rfl⟩
  have hE : e5 = 0 → k5 = xs ∧ e6 = 0 ∧ s = l6 ∧ xs = k6 := by
    intro z
    have h := reshape_back (g := gs) b0 (by rw [r5]; exact z)
    rw [r5] at h
    obtain ⟨h1, h2⟩ := h
    dsimp only at h1 h2
    rw [r6] at h2
    obtain ⟨rfl, rfl, rfl⟩ : l6 = s ∧ k6 = xs ∧ e6 = 0 := by simpa using h2
    exact ⟨h1, rfl, rfl, rfl⟩
  have hta := turn_tok b0
  refine mturns_with A B E F _ c _ d _ g _ h w (by omega) (by omega) (by omega) (by omega) (Lib.hid fun W k => tcheck_u s xs (R0.kp k) rfl rfl b0) s xs s.reverse (turnD s xs) ix l5 k5 l6 k6 _ _ _ _ (atV s xs ix).1 (atV s xs ix).2 e5 e6
    (Lib.hid ⟨rfl, rfl⟩) (Lib.hid ⟨List.length_reverse .., turnD_len s xs, hta⟩) (Lib.hid rfl) (Lib.hid R0) (Lib.hid E2) (Lib.hid ?_)
    (Lib.hid fun W k => pturn_u s xs (R0.kp k) rfl rfl (turn_is b0) (List.length_reverse ..) (turnD_len s xs))
    (Lib.hid fun W A0 B0 c0 d0 _ r => pturn_u s.reverse (turnD s xs) r (List.length_reverse ..).symm (turnD_len s xs).symm (turn_twice b0) rfl rfl)
    (Lib.hid fun W k => at_any A B F c d h s xs ix W (R0.s.kp k) (R0.d.kp k) (E2.kp k))
    (Lib.hid fun W A0 B0 c0 d0 Az cz zs hz _ r rz => by
      subst hz
      have hh := at_any A0 B0 Az c0 d0 cz s.reverse (turnD s xs) ix.reverse W r.s r.d rz
      rw [turn_at b0, turnD_len, show s.reverse.length = s.length from List.length_reverse ..] at hh
      exact hh)
    (Lib.hid fun W k => preshape_u s xs gs (R0.kp k) (E1.kp k) rfl rfl rfl r5 rfl rfl)
    (Lib.hid fun W A0 B0 c0 d0 k r => preshape_u l5 k5 s r (R0.s.kp k) rfl rfl rfl r6 rfl rfl)
  intro z
  obtain ⟨h1, h2, h3, h4⟩ := hE z
  subst h1 h3 h4
  exact ⟨h2, rfl, rfl, rfl, rfl, rfl, rfl⟩
end Go.Proofs.Ytdjfjhanffliiaa
