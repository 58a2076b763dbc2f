/- What is put at an index is there, and all other numbers are as they were: the law's call returns true. -/
import Derived.Test.YtdekchfapblgeaaTnBk
namespace Go.Proofs.Ytdekchfapblgeaa
open Go.RowKit Go.Proofs.ShM

set_option maxHeartbeats 4000000 in
set_option maxRecDepth 100000 in
/-- Beyond a hundred, or of what may be no tensor, nothing is asked. -/
theorem twrites_far (A B : Option Addr) (c d n m : Nat) (p q x : Int) (w : World) (zn : n ≤ 9223372036854775807) (zm : m ≤ 9223372036854775807) (hf : 100 < n ∨ 100 < m ∨ (n ≤ 100 ∧ m ≤ 100 ∧ ∀ W, Kp w W → Calls Try.prog 22 #[.agg #[.slice A n c, .slice B m d]] W fun e w' => e = .returned (.bool false) ∧ Kp W w')) :
    Calls Try.prog 4 #[.agg #[.slice A n c, .slice B m d], .int .i64 p, .int .i64 q, .int .i64 x] w fun e w' => e = .returned (.bool true) ∧ Kp w w' := by
  by_cases h1 : 100 < n ∨ 100 < m
  · have HN : Hid (∀ W, Calls Try.prog 10 #[.agg #[.slice A n c, .slice B m d]] W fun e w' => e = .returned (.bool false) ∧ Kp W w') := fun W => few_no zn zm h1
    clear hf h1
    go_enter Try.func4, Try.ntmps4
    go_wp2_with fail
    refine (tnawake_any _).mono ?_; rintro e0 w0 ⟨rfl, k0⟩
    have TB : Hid (Bk w0 w.heap.size A n c B m d) := (Bk.new rfl).kp k0
    have t0 := TB.out.c0
    have t1 := TB.out.c1
    have K := Lib.hid ((Kp.alloc_ _ _).tr k0)
    clear k0
    go_wp2_with fail
    refine (HN.out _).mono ?_; rintro e0 w1 ⟨rfl, k1⟩
    go_wp2
    go_ret
    exact ⟨rfl, K.out.tr k1⟩
  · have hn : n ≤ 100 := by omega
    have hm : m ≤ 100 := by omega
    have HC : Hid (∀ W, Kp w W → Calls Try.prog 22 #[.agg #[.slice A n c, .slice B m d]] W fun e w' => e = .returned (.bool false) ∧ Kp W w') := by
      rcases hf with h | h | h
      · omega
      · omega
      · exact h.2.2
    clear hf h1
    go_enter Try.func4, Try.ntmps4
    go_wp2_with fail
    refine (tnawake_any _).mono ?_; rintro e0 w0 ⟨rfl, k0⟩
    have TB : Hid (Bk w0 w.heap.size A n c B m d) := (Bk.new rfl).kp k0
    have t0 := TB.out.c0
    have t1 := TB.out.c1
    have K := Lib.hid ((Kp.alloc_ _ _).tr k0)
    clear k0
    go_wp2_with fail
    refine (few_yes hn hm).mono ?_; rintro e0 w1 ⟨rfl, k1⟩
    have TB := Lib.hid (TB.out.kp k1)
    have K := Lib.hid (K.out.tr k1)
    clear k1 t0 t1
    have t0 := TB.out.c0
    have t1 := TB.out.c1
    go_wp2_with fail
    refine (HC.out _ K.out).mono ?_; rintro e0 w2 ⟨rfl, k2⟩
    go_wp2
    go_ret
    exact ⟨rfl, K.out.tr k2⟩

set_option maxHeartbeats 4000000 in
set_option maxRecDepth 100000 in
/-- One of the places is none. -/
theorem twrites_none (A B : Option Addr) (c d n m : Nat) (p q x : Int) (w : World) (hn : n ≤ 100) (hm : m ≤ 100) (l1 l2 : List Int) (e1 e2 : Int)
    (HC : Hid (∀ W, Kp w W → Calls Try.prog 22 #[.agg #[.slice A n c, .slice B m d]] W fun e w' => e = .returned (.bool true) ∧ Kp W w'))
    (C1 : Hid (∀ W, Kp w W → Calls Try.prog 24 #[.slice A n c, .int .i64 p] W (RetL l1 e1 W)))
    (C2 : Hid (∀ W, Kp w W → Calls Try.prog 24 #[.slice A n c, .int .i64 q] W (RetL l2 e2 W))) (he : (e1 = 20 ∨ (e1 = 0 ∧ e2 = 20))) :
    Calls Try.prog 4 #[.agg #[.slice A n c, .slice B m d], .int .i64 p, .int .i64 q, .int .i64 x] w fun e w' => e = .returned (.bool true) ∧ Kp w w' := by
  rcases he with rfl | ⟨rfl, rfl⟩
  all_goals
    go_enter Try.func4, Try.ntmps4
    go_wp2_with fail
    refine (tnawake_any _).mono ?_; rintro e0 w0 ⟨rfl, k0⟩
    have TB : Hid (Bk w0 w.heap.size A n c B m d) := (Bk.new rfl).kp k0
    have t0 := TB.out.c0
    have t1 := TB.out.c1
    have K := Lib.hid ((Kp.alloc_ _ _).tr k0)
    clear k0
    go_wp2_with fail
    refine (few_yes hn hm).mono ?_; rintro e0 w1 ⟨rfl, k1⟩
    have TB := Lib.hid (TB.out.kp k1)
    have K := Lib.hid (K.out.tr k1)
    clear k1 t0 t1
    have t0 := TB.out.c0
    have t1 := TB.out.c1
    go_wp2_with fail
    refine (HC.out _ K.out).mono ?_; rintro e0 w2 ⟨rfl, k2⟩
    have TB := Lib.hid (TB.out.kp k2)
    have K := Lib.hid (K.out.tr k2)
    clear k2 t0 t1
    have t0 := TB.out.c0
    have t1 := TB.out.c1
    go_wp2_with fail
    refine (C1.out _ K.out).mono ?_; rintro e0 w3 ⟨A3, c3, rfl, r3, k3⟩
    have TB := Lib.hid (TB.out.kp k3)
    have K := Lib.hid (K.out.tr k3)
    clear k3 t0 t1 r3
    have t0 := TB.out.c0
    have t1 := TB.out.c1
    go_wp2_with fail
    refine (C2.out _ K.out).mono ?_; rintro e0 w4 ⟨A4, c4, rfl, r4, k4⟩
    go_wp2
    go_ret
    exact ⟨rfl, K.out.tr k4⟩

set_option maxHeartbeats 8000000 in
set_option maxRecDepth 100000 in
theorem twrites_with (A : Option Addr) (bd : Addr) (c d n m n1 n2 : Nat) (P Q : Nat) (x y : Int) (w : World) (hn : n ≤ 100) (hm : m ≤ 64) (hp : P < m) (hq : Q < m) (l1 l2 sl sd : List Int) (H1 : Hid (l1.length = n1)) (H2 : Hid (l2.length = n2)) (hbl : bd.block < w.heap.size) (hy : w.cell? (bd.add Q) = some (.int .i64 y))
    (z : Int) (hz : P ≠ Q → z = y)
    (HC : Hid (∀ W, Kp w W → Calls Try.prog 22 #[.agg #[.slice A n c, .slice (some bd) m d]] W fun e w' => e = .returned (.bool true) ∧ Kp W w'))
    (C1 : Hid (∀ W, Kp w W → Calls Try.prog 24 #[.slice A n c, .int .i64 (P : Int)] W (RetL l1 0 W)))
    (C2 : Hid (∀ W, Kp w W → Calls Try.prog 24 #[.slice A n c, .int .i64 (Q : Int)] W (RetL l2 0 W)))
    (C3 : Hid (∀ W A1 c1, Kp w W → Rd W A1 l1 → Calls Try.prog 14 #[.agg #[.slice A n c, .slice (some bd) m d], .slice A1 n1 c1, .int .i64 x] W (RetU sl sd n m 0 W)))
    (C4 : Hid (∀ W A0 B0 c0 d0 A1 c1, TR W A0 sl B0 sd → Rd W A1 l1 → Calls Try.prog 20 #[.agg #[.slice A0 n c0, .slice B0 m d0], .slice A1 n1 c1] W (RetK x 0 W)))
    (C5 : Hid (∀ W A0 B0 c0 d0 A1 c1, TR W A0 sl B0 sd → Rd W A1 l2 → Calls Try.prog 20 #[.agg #[.slice A0 n c0, .slice B0 m d0], .slice A1 n2 c1] W (RetK z 0 W)))
    (C6 : Hid (∀ W A1 c1, Kp w W → Rd W A1 l2 → Calls Try.prog 20 #[.agg #[.slice A n c, .slice (some bd) m d], .slice A1 n2 c1] W (RetK y 0 W)))
    (C7 : Hid (∀ W A0 B0 c0 d0, TR W A0 sl B0 sd → Calls Try.prog 22 #[.agg #[.slice A0 n c0, .slice B0 m d0]] W fun e w' => e = .returned (.bool true) ∧ Kp W w')) :
    Calls Try.prog 4 #[.agg #[.slice A n c, .slice (some bd) m d], .int .i64 (P : Int), .int .i64 (Q : Int), .int .i64 x] w fun e w' => e = .returned (.bool true) ∧ Kp w w' := by
  have HY := Lib.hid hy
  clear hy
  obtain ⟨M, hM⟩ : ∃ M : Nat, M = max P Q := ⟨_, rfl⟩
  have hMm : M < m := by omega
  have hmx : ∀ (W : World) (ts : Array TypeId) (t : TypeId), (Builtin.max_ ts t #[.int .i64 (P : Int), .int .i64 (Q : Int)]).run Try.prog W = .ok (.int .i64 (M : Int)) W := fun W ts t => by
    rw [run_max_int2]
    by_cases hc : (Q : Int) > (P : Int)
    · rw [if_pos hc, show (Q : Int) = (M : Int) by omega]
    · rw [if_neg hc, show (P : Int) = (M : Int) by omega]
  have hm0 : ∀ (W : World) (ts : Array TypeId) (t : TypeId), (Builtin.max_ ts t #[.int .i64 0, .int .i64 (Q : Int)]).run Try.prog W = .ok (.int .i64 (Q : Int)) W := fun W ts t => by
    rw [run_max_int2]
    by_cases hc : (Q : Int) > 0
    · rw [if_pos hc]
    · rw [if_neg hc, show (0 : Int) = (Q : Int) by omega]
  have hmn : ∀ (W : World) (ts : Array TypeId) (t : TypeId), (Builtin.min_ ts t #[.int .i64 (Q : Int), .int .i64 ((m : Int) - 1)]).run Try.prog W = .ok (.int .i64 (Q : Int)) W := fun W ts t => by
    rw [run_min_int2]
    by_cases hc : (m : Int) - 1 < (Q : Int)
    · rw [if_pos hc, show (m : Int) - 1 = (Q : Int) by omega]
    · rw [if_neg hc]
  clear hM
  have FX := Lib.hid (And.intro hmx (And.intro hm0 hmn))
  clear hmx hm0 hmn
  go_enter Try.func4, Try.ntmps4
  go_wp2_with fail
  refine (tnawake_any _).mono ?_; rintro e0 w0 ⟨rfl, k0⟩
  have TB : Hid (Bk w0 w.heap.size A n c (some bd) m d) := (Bk.new rfl).kp k0
  have t0 := TB.out.c0
  have t1 := TB.out.c1
  have K := Lib.hid ((Kp.alloc_ _ _).tr k0)
  clear k0
  go_wp2_with fail
  refine (few_yes hn (by omega)).mono ?_; rintro e0 w1 ⟨rfl, k1⟩
  have TB := Lib.hid (TB.out.kp k1)
  have K := Lib.hid (K.out.tr k1)
  clear k1 t0 t1
  have t0 := TB.out.c0
  have t1 := TB.out.c1
  go_wp2_with fail
  refine (HC.out _ K.out).mono ?_; rintro e0 w2 ⟨rfl, k2⟩
  have TB := Lib.hid (TB.out.kp k2)
  have K := Lib.hid (K.out.tr k2)
  clear k2 t0 t1
  have t0 := TB.out.c0
  have t1 := TB.out.c1
  go_wp2_with fail
  refine (C1.out _ K.out).mono ?_; rintro e0 w3 ⟨A3, c3, rfl, r3, k3⟩
  rw [H1.out]
  have TB := Lib.hid (TB.out.kp k3)
  have K := Lib.hid (K.out.tr k3)
  have X1 := Lib.hid r3.rd
  clear k3 t0 t1 r3
  have t0 := TB.out.c0
  have t1 := TB.out.c1
  go_wp2_with fail
  refine (C2.out _ K.out).mono ?_; rintro e0 w4 ⟨A4, c4, rfl, r4, k4⟩
  rw [H2.out]
  have TB := Lib.hid (TB.out.kp k4)
  have K := Lib.hid (K.out.tr k4)
  have X1 := Lib.hid (X1.out.kp k4)
  have X2 := Lib.hid r4.rd
  clear k4 t0 t1 r4
  have t0 := TB.out.c0
  have t1 := TB.out.c1
  go_wp2_with fail
  refine (C3.out _ _ _ K.out X1.out).mono ?_; rintro e0 w5 ⟨A5, c5, B5, d5, rfl, r5, k5⟩
  have TB := Lib.hid (TB.out.kp k5)
  have K := Lib.hid (K.out.tr k5)
  have X1 := Lib.hid (X1.out.kp k5)
  have X2 := Lib.hid (X2.out.kp k5)
  have RW := Lib.hid r5
  clear k5 t0 t1 r5
  go_wp2_with fail
  refine (C4.out _ _ _ _ _ _ _ (RW.out.alloc_ _) (X1.out.alloc_ _)).mono ?_; rintro e0 w6 ⟨rfl, k6⟩
  have TB := Lib.hid ((TB.out.alloc_ _).kp k6)
  have K := Lib.hid ((K.out.al _).tr k6)
  have X2 := Lib.hid ((X2.out.alloc_ _).kp k6)
  have RW := Lib.hid ((RW.out.alloc_ _).kp k6)
  have WB : Hid (Bk w6 w5.heap.size A5 n c5 B5 m d5) := (Bk.new rfl).kp k6
  clear k6 X1
  have u0 := WB.out.c0
  have u1 := WB.out.c1
  go_wp2_with fail
  refine (C5.out _ _ _ _ _ _ _ RW.out X2.out).mono ?_; rintro e0 w7 ⟨rfl, k7⟩
  have TB := Lib.hid (TB.out.kp k7)
  have K := Lib.hid (K.out.tr k7)
  have X2 := Lib.hid (X2.out.kp k7)
  have RW := Lib.hid (RW.out.kp k7)
  have WB := Lib.hid (WB.out.kp k7)
  clear k7 u0 u1
  have t0 := TB.out.c0
  have t1 := TB.out.c1
  go_wp2_with fail
  refine (C6.out _ _ _ K.out X2.out).mono ?_; rintro e0 w8 ⟨rfl, k8⟩
  have TB := Lib.hid (TB.out.kp k8)
  have K := Lib.hid (K.out.tr k8)
  have RW := Lib.hid (RW.out.kp k8)
  have WB := Lib.hid (WB.out.kp k8)
  clear k8 t0 t1
  have t1 := TB.out.c1
  have u0 := WB.out.c0
  have u1 := WB.out.c1
  have hbt := TB.out.lt
  have tail : ∀ w9, Kp w8 w9 → w9.cell? (bd.add Q) = some (.int .i64 y) ∧ w9.cell? ⟨w.heap.size, 1, none⟩ = some (.slice (some bd) m d) := fun w9 k9 => ⟨((K.out.tr k9).cell (by rw [block_of_add]; exact hbl)).trans HY.out, (TB.out.kp k9).c1⟩
  have TL := Lib.hid tail
  clear tail
  by_cases e : P = Q
  · subst e
    go_wp2_with fail
    refine (C7.out _ _ _ _ _ RW.out).mono ?_; rintro e0 w9 ⟨rfl, k9⟩
    have K := Lib.hid (K.out.tr k9)
    obtain ⟨hc, t1'⟩ := TL.out w9 k9
    clear k9 t1 u0 u1
    obtain ⟨hmx, hm0, hmn⟩ := FX.out
    go_wp2

    go_ret
    exact ⟨rfl, K.out⟩
  · have e1 : ¬ (P : Int) = (Q : Int) := by omega
    have ez := hz e
    subst ez
    go_wp2_with fail
    refine (C7.out _ _ _ _ _ RW.out).mono ?_; rintro e0 w9 ⟨rfl, k9⟩
    have K := Lib.hid (K.out.tr k9)
    obtain ⟨hc, t1'⟩ := TL.out w9 k9
    clear k9 t1 u0 u1
    obtain ⟨hmx, hm0, hmn⟩ := FX.out
    go_wp2

    go_ret
    exact ⟨rfl, K.out⟩

theorem twrites_walk (A B : Option Addr) (c d : Nat) (s xs : List Int) (p q x : Int) (w : World) (hT : TR w A s B xs) :
    Calls Try.prog 4 #[.agg #[.slice A s.length c, .slice B xs.length d], .int .i64 p, .int .i64 q, .int .i64 x] w fun e w' => e = .returned (.bool true) ∧ Kp w w' := by
  by_cases hf : 100 < s.length ∨ 100 < xs.length
  · exact twrites_far A B c d _ _ p q x w hT.s.len hT.d.len (by omega)
  · have hn : s.length ≤ 100 := by omega
    have hm : xs.length ≤ 100 := by omega
    cases hk : tokV s xs with
    | false => exact twrites_far A B c d _ _ p q x w hT.s.len hT.d.len (.inr (.inr ⟨hn, hm, fun W k => tcheck_u s xs (hT.kp k) rfl rfl hk⟩))
    | true =>
      obtain ⟨_, t2, t3, t4⟩ := tok_len hk
      have HC : Hid (∀ W, Kp w W → Calls Try.prog 22 #[.agg #[.slice A s.length c, .slice B xs.length d]] W fun e w' => e = .returned (.bool true) ∧ Kp W w') := Lib.hid fun W k => tcheck_u s xs (hT.kp k) rfl rfl hk
      by_cases hp : p < 0 ∨ sizeV s ≤ p
      · exact twrites_none A B c d _ _ p q x w hn hm _ _ _ _ HC (Lib.hid fun W k => index_n s p (hT.kp k).s rfl (index_no hp)) (Lib.hid fun W k => index_n s q (hT.kp k).s rfl (show indexV s q = ((indexV s q).1, (indexV s q).2) from rfl)) (.inl rfl)
      · have p0 : 0 ≤ p := by omega
        have p1 : p < sizeV s := by omega
        by_cases hq : q < 0 ∨ sizeV s ≤ q
        · exact twrites_none A B c d _ _ p q x w hn hm _ _ _ _ HC (Lib.hid fun W k => index_n s p (hT.kp k).s rfl (index_yes p0 p1)) (Lib.hid fun W k => index_n s q (hT.kp k).s rfl (index_no hq)) (.inr ⟨rfl, rfl⟩)
        · have q0 : 0 ≤ q := by omega
          have q1 : q < sizeV s := by omega
          obtain ⟨P, rfl⟩ : ∃ P : Nat, p = P := ⟨p.toNat, by omega⟩
          obtain ⟨Q, rfl⟩ : ∃ Q : Nat, q = Q := ⟨q.toNat, by omega⟩
          have hP : P < xs.length := by omega
          have hQ : Q < xs.length := by omega
          obtain ⟨bd, rfl, hbl, hcell⟩ := hT.d.2 (by omega)
          have g1 : (xs.set P x).getD P 0 = x := by simp [List.getD_eq_getElem?_getD, hP]
          have hy : w.cell? (bd.add Q) = some (.int .i64 (xs.getD Q 0)) := hcell Q _ (by simp [List.getD_eq_getElem?_getD, hQ])
          refine twrites_with A bd c d _ _ _ _ P Q x (xs.getD Q 0) w hn t4 hP hQ (digs s P) (digs s Q) s (xs.set P x) (Lib.hid rfl) (Lib.hid rfl) hbl hy ((xs.set P x).getD Q 0) ?_ HC
            (Lib.hid fun W k => index_n s _ (hT.kp k).s rfl (index_yes p0 p1)) (Lib.hid fun W k => index_n s _ (hT.kp k).s rfl (index_yes q0 q1))
            (Lib.hid fun W A1 c1 k r => with_u s xs (digs s P) x (hT.kp k) r rfl rfl rfl (with_at hk x p0 p1) rfl (by simp))
            (Lib.hid fun W A0 B0 c0 d0 A1 c1 r r1 => at_u s (xs.set P x) (digs s P) r r1 rfl (by simp) rfl ((at_at (tok_set hk P x) p0 p1).trans (by rw [Int.toNat_natCast, g1])))
            (Lib.hid fun W A0 B0 c0 d0 A1 c1 r r1 => at_u s (xs.set P x) (digs s Q) r r1 rfl (by simp) rfl (at_at (tok_set hk P x) q0 q1))
            (Lib.hid fun W A1 c1 k r => at_u s xs (digs s Q) (hT.kp k) r rfl rfl rfl (at_at hk q0 q1))
            (Lib.hid fun W A0 B0 c0 d0 r => tcheck_u s (xs.set P x) r rfl (by simp) (tok_set hk P x))
          intro hne
          simp [List.getD_eq_getElem?_getD, hne]
end Go.Proofs.Ytdekchfapblgeaa
