/- A tensor stretched to its own shape, folded to it, and stretched in two steps: the law's call returns true. -/
import Derived.Test.YtdekchfapblgeaaTnBk
namespace Go.Proofs.Ytdekchfapblgeaa
open Go.RowKit Go.Proofs.ShM

set_option maxHeartbeats 4000000 in
set_option maxRecDepth 100000 in
/-- Beyond a hundred, or of what may be no tensor, nothing is asked. -/
theorem tspreads_far (A B C D : Option Addr) (c d e h n m o p : Nat) (w : World) (zn : n ≤ 9223372036854775807) (zm : m ≤ 9223372036854775807) (zo : o ≤ 9223372036854775807) (zp : p ≤ 9223372036854775807) (hf : 100 < n ∨ 100 < m ∨ 100 < o ∨ 100 < p ∨ (∀ W, Kp w W → Calls Try.prog 22 #[.agg #[.slice A n c, .slice B m d]] W fun e w' => e = .returned (.bool false) ∧ Kp W w')) :
    Calls Try.prog 5 #[.agg #[.slice A n c, .slice B m d], .slice C o e, .slice D p h] w fun e w' => e = .returned (.bool true) ∧ Kp w w' := by
  by_cases h1 : 100 < n ∨ 100 < m
  · have HN : Hid (∀ W, Calls Try.prog 10 #[.agg #[.slice A n c, .slice B m d]] W fun e w' => e = .returned (.bool false) ∧ Kp W w') := fun W => few_no zn zm h1
    clear hf h1
    go_enter Try.func5, Try.ntmps5
    go_wp2_with fail
    refine (tnawake_any _).mono ?_; rintro e0 w0 ⟨rfl, k0⟩
    have TB : Hid (Bk w0 w.heap.size A n c B m d) := (Bk.new rfl).kp k0
    have t0 := TB.out.c0
    have t1 := TB.out.c1
    have K := Lib.hid ((Kp.alloc_ _ _).tr k0)
    clear k0
    go_wp2_with fail
    refine (HN.out _).mono ?_; rintro e0 w1 ⟨rfl, k1⟩
    go_wp2
    go_ret
    exact ⟨rfl, K.out.tr k1⟩
  · have hn : n ≤ 100 := by omega
    have hm : m ≤ 100 := by omega
    by_cases hq : 100 < o ∨ 100 < p
    · clear hf h1
      by_cases h2 : 100 < o
      all_goals by_cases h3 : 100 < p
      all_goals
        first
        | exact absurd hq (by omega)
        | (clear hq
           go_enter Try.func5, Try.ntmps5
           go_wp2_with fail
           refine (tnawake_any _).mono ?_; rintro e0 w0 ⟨rfl, k0⟩
           have TB : Hid (Bk w0 w.heap.size A n c B m d) := (Bk.new rfl).kp k0
           have t0 := TB.out.c0
           have t1 := TB.out.c1
           have K := Lib.hid ((Kp.alloc_ _ _).tr k0)
           clear k0
           go_wp2_with fail
           refine (few_yes hn hm).mono ?_; rintro e0 w1 ⟨rfl, k1⟩
           go_wp2
           go_ret
           exact ⟨rfl, K.out.tr k1⟩)
    · have ho : o ≤ 100 := by omega
      have hp : p ≤ 100 := by omega
      have HC : Hid (∀ W, Kp w W → Calls Try.prog 22 #[.agg #[.slice A n c, .slice B m d]] W fun e w' => e = .returned (.bool false) ∧ Kp W w') := by
        rcases hf with h | h | h | h | h
        · omega
        · omega
        · omega
        · omega
        · exact h
      clear hf h1 hq
      go_enter Try.func5, Try.ntmps5
      go_wp2_with fail
      refine (tnawake_any _).mono ?_; rintro e0 w0 ⟨rfl, k0⟩
      have TB : Hid (Bk w0 w.heap.size A n c B m d) := (Bk.new rfl).kp k0
      have t0 := TB.out.c0
      have t1 := TB.out.c1
      have K := Lib.hid ((Kp.alloc_ _ _).tr k0)
      clear k0
      go_wp2_with fail
      refine (few_yes hn hm).mono ?_; rintro e0 w1 ⟨rfl, k1⟩
      have TB := Lib.hid (TB.out.kp k1)
      have K := Lib.hid (K.out.tr k1)
      clear k1 t0 t1
      have t0 := TB.out.c0
      have t1 := TB.out.c1
      go_wp2_with fail
      refine (HC.out _ K.out).mono ?_; rintro e0 w2 ⟨rfl, k2⟩
      go_wp2
      go_ret
      exact ⟨rfl, K.out.tr k2⟩

set_option maxHeartbeats 8000000 in
set_option maxRecDepth 100000 in
theorem tspreads_with (A B C D : Option Addr) (c d e h n m o p : Nat) (w : World) (hn : n ≤ 100) (hm : m ≤ 100) (ho : o ≤ 100) (hp : p ≤ 100) (hm1 : 1 ≤ m) (s xs l3 k3 l4 k4 l5 k5 : List Int) (a3 b3 a4 b4 a5 b5 : Nat) (e3 e4 e5 : Int)
    (L0 : Hid (s.length = n ∧ xs.length = m)) (L4 : Hid (l4.length = a4 ∧ k4.length = b4)) (HT : Hid (TR w A s B xs))
    (HE : Hid (e3 = 0 → e4 = 0 → e5 = 0 ∧ l4 = l5 ∧ k4 = k5 ∧ a4 = a5 ∧ b4 = b5 ∧ m ≤ b3 ∧ (b3 : Int).tmod (m : Int) = 0))
    (HC : Hid (∀ W, Kp w W → Calls Try.prog 22 #[.agg #[.slice A n c, .slice B m d]] W fun e w' => e = .returned (.bool true) ∧ Kp W w'))
    (C1 : Hid (∀ W, Kp w W → Calls Try.prog 16 #[.agg #[.slice A n c, .slice B m d], .slice A n c] W (RetU s xs n m 0 W)))
    (C2 : Hid (∀ W, Kp w W → Calls Try.prog 18 #[.agg #[.slice A n c, .slice B m d], .slice A n c] W (RetU s xs n m 0 W)))
    (C3 : Hid (∀ W, Kp w W → Calls Try.prog 16 #[.agg #[.slice A n c, .slice B m d], .slice C o e] W (RetU l3 k3 a3 b3 e3 W)))
    (C4 : Hid (∀ W A0 B0 c0 d0, Kp w W → TR W A0 l3 B0 k3 → Calls Try.prog 16 #[.agg #[.slice A0 a3 c0, .slice B0 b3 d0], .slice D p h] W (RetU l4 k4 a4 b4 e4 W)))
    (C5 : Hid (∀ W, Kp w W → Calls Try.prog 16 #[.agg #[.slice A n c, .slice B m d], .slice D p h] W (RetU l5 k5 a5 b5 e5 W))) :
    Calls Try.prog 5 #[.agg #[.slice A n c, .slice B m d], .slice C o e, .slice D p h] w fun e w' => e = .returned (.bool true) ∧ Kp w w' := by
  go_enter Try.func5, Try.ntmps5
  go_wp2_with fail
  refine (tnawake_any _).mono ?_; rintro e0 w0 ⟨rfl, k0⟩
  have K := Lib.hid ((Kp.alloc_ _ _).tr k0)
  have TB : Hid (Bk w0 w.heap.size A n c B m d) := (Bk.new rfl).kp k0
  clear k0
  have tb0 := TB.out.c0
  have tb1 := TB.out.c1
  have tb2 := TB.out.lt
  go_wp2_with fail
  refine (few_yes hn hm).mono ?_; rintro e0 w1 ⟨rfl, k1⟩
  have K := Lib.hid (K.out.tr k1)
  have TB := Lib.hid (TB.out.kp k1)
  clear k1 tb0 tb1 tb2
  have tb0 := TB.out.c0
  have tb1 := TB.out.c1
  have tb2 := TB.out.lt
  go_wp2_with fail
  refine (HC.out _ K.out).mono ?_; rintro e0 w2 ⟨rfl, k2⟩
  have K := Lib.hid (K.out.tr k2)
  have TB := Lib.hid (TB.out.kp k2)
  clear k2 tb0 tb1 tb2
  have tb0 := TB.out.c0
  have tb1 := TB.out.c1
  have tb2 := TB.out.lt
  go_wp2_with fail
  refine (C1.out _ K.out).mono ?_; rintro e0 w3 ⟨A3, c3, B3, d3, rfl, r3, k3⟩
  have K := Lib.hid (K.out.tr k3)
  have TB := Lib.hid (TB.out.kp k3)
  have OR := Lib.hid r3
  clear k3 r3 tb0 tb1 tb2
  have tb0 := TB.out.c0
  have tb1 := TB.out.c1
  have tb2 := TB.out.lt
  go_wp2_with fail
  refine (C2.out _ (K.out.al _)).mono ?_; rintro e0 w4 ⟨A4, c4, B4, d4, rfl, r4, k4⟩
  have K := Lib.hid ((K.out.al _).tr k4)
  have TB := Lib.hid ((TB.out.alloc_ _).kp k4)
  have OR := Lib.hid ((OR.out.alloc_ _).kp k4)
  have OB : Hid (Bk w4 w3.heap.size A3 n c3 B3 m d3) := (Bk.new rfl).kp k4
  have SR := Lib.hid r4
  clear k4 r4 tb0 tb1 tb2
  have tb0 := TB.out.c0
  have tb1 := TB.out.c1
  have tb2 := TB.out.lt
  have ob0 := OB.out.c0
  have ob1 := OB.out.c1
  have ob2 := OB.out.lt
  go_wp2_with fail
  refine (C3.out _ (K.out.al _)).mono ?_; rintro e0 w5 ⟨A5, c5, B5, d5, rfl, r5, k5⟩
  have K := Lib.hid ((K.out.al _).tr k5)
  have TB := Lib.hid ((TB.out.alloc_ _).kp k5)
  have OB := Lib.hid ((OB.out.alloc_ _).kp k5)
  have OR := Lib.hid ((OR.out.alloc_ _).kp k5)
  have SR := Lib.hid ((SR.out.alloc_ _).kp k5)
  have SB : Hid (Bk w5 w4.heap.size A4 n c4 B4 m d4) := (Bk.new rfl).kp k5
  have AR := Lib.hid r5
  clear k5 r5 tb0 tb1 tb2 ob0 ob1 ob2
  have tb0 := TB.out.c0
  have tb1 := TB.out.c1
  have tb2 := TB.out.lt
  have ob0 := OB.out.c0
  have ob1 := OB.out.c1
  have ob2 := OB.out.lt
  have sb0 := SB.out.c0
  have sb1 := SB.out.c1
  have sb2 := SB.out.lt
  go_wp2_with fail
  refine (C4.out _ _ _ _ _ (K.out.al _) (AR.out.alloc_ _)).mono ?_; rintro e0 w6 ⟨A6, c6, B6, d6, rfl, r6, k6⟩
  have K := Lib.hid ((K.out.al _).tr k6)
  have TB := Lib.hid ((TB.out.alloc_ _).kp k6)
  have OB := Lib.hid ((OB.out.alloc_ _).kp k6)
  have SB := Lib.hid ((SB.out.alloc_ _).kp k6)
  have OR := Lib.hid ((OR.out.alloc_ _).kp k6)
  have SR := Lib.hid ((SR.out.alloc_ _).kp k6)
  have AR := Lib.hid ((AR.out.alloc_ _).kp k6)
  have AB : Hid (Bk w6 w5.heap.size A5 a3 c5 B5 b3 d5) := (Bk.new rfl).kp k6
  have BR := Lib.hid r6
  clear k6 r6 tb0 tb1 tb2 ob0 ob1 ob2 sb0 sb1 sb2
  have tb0 := TB.out.c0
  have tb1 := TB.out.c1
  have tb2 := TB.out.lt
  have ob0 := OB.out.c0
  have ob1 := OB.out.c1
  have ob2 := OB.out.lt
  have sb0 := SB.out.c0
  have sb1 := SB.out.c1
  have sb2 := SB.out.lt
  have ab0 := AB.out.c0
  have ab1 := AB.out.c1
  have ab2 := AB.out.lt
  go_wp2_with fail
  refine (C5.out _ (K.out.al _)).mono ?_; rintro e0 w7 ⟨A7, c7, B7, d7, rfl, r7, k7⟩
  have K := Lib.hid ((K.out.al _).tr k7)
  have TB := Lib.hid ((TB.out.alloc_ _).kp k7)
  have OB := Lib.hid ((OB.out.alloc_ _).kp k7)
  have SB := Lib.hid ((SB.out.alloc_ _).kp k7)
  have AB := Lib.hid ((AB.out.alloc_ _).kp k7)
  have OR := Lib.hid ((OR.out.alloc_ _).kp k7)
  have SR := Lib.hid ((SR.out.alloc_ _).kp k7)
  have AR := Lib.hid ((AR.out.alloc_ _).kp k7)
  have BR := Lib.hid ((BR.out.alloc_ _).kp k7)
  have BB : Hid (Bk w7 w6.heap.size A6 a4 c6 B6 b4 d6) := (Bk.new rfl).kp k7
  have CR := Lib.hid r7
  clear k7 r7 tb0 tb1 tb2 ob0 ob1 ob2 sb0 sb1 sb2 ab0 ab1 ab2
  have tb0 := TB.out.c0
  have tb1 := TB.out.c1
  have tb2 := TB.out.lt
  have ob0 := OB.out.c0
  have ob1 := OB.out.c1
  have ob2 := OB.out.lt
  have sb0 := SB.out.c0
  have sb1 := SB.out.c1
  have sb2 := SB.out.lt
  have ab0 := AB.out.c0
  have ab1 := AB.out.c1
  have ab2 := AB.out.lt
  have bb0 := BB.out.c0
  have bb1 := BB.out.c1
  have bb2 := BB.out.lt
  go_wp2_with fail
  refine (tsame_u (OR.out.alloc_ _) (HT.out.kp (K.out.al _)) L0.out.1 L0.out.2).mono ?_; rintro e0 w8 ⟨rfl, k8⟩
  have K := Lib.hid ((K.out.al _).tr k8)
  have TB := Lib.hid ((TB.out.alloc_ _).kp k8)
  have OB := Lib.hid ((OB.out.alloc_ _).kp k8)
  have SB := Lib.hid ((SB.out.alloc_ _).kp k8)
  have AB := Lib.hid ((AB.out.alloc_ _).kp k8)
  have BB := Lib.hid ((BB.out.alloc_ _).kp k8)
  have OR := Lib.hid ((OR.out.alloc_ _).kp k8)
  have SR := Lib.hid ((SR.out.alloc_ _).kp k8)
  have AR := Lib.hid ((AR.out.alloc_ _).kp k8)
  have BR := Lib.hid ((BR.out.alloc_ _).kp k8)
  have CR := Lib.hid ((CR.out.alloc_ _).kp k8)
  have CB : Hid (Bk w8 w7.heap.size A7 a5 c7 B7 b5 d7) := (Bk.new rfl).kp k8
  clear k8 tb0 tb1 tb2 ob0 ob1 ob2 sb0 sb1 sb2 ab0 ab1 ab2 bb0 bb1 bb2
  have tb0 := TB.out.c0
  have tb1 := TB.out.c1
  have tb2 := TB.out.lt
  have ob0 := OB.out.c0
  have ob1 := OB.out.c1
  have ob2 := OB.out.lt
  have sb0 := SB.out.c0
  have sb1 := SB.out.c1
  have sb2 := SB.out.lt
  have ab0 := AB.out.c0
  have ab1 := AB.out.c1
  have ab2 := AB.out.lt
  have bb0 := BB.out.c0
  have bb1 := BB.out.c1
  have bb2 := BB.out.lt
  have cb0 := CB.out.c0
  have cb1 := CB.out.c1
  have cb2 := CB.out.lt
  go_wp2_with fail
  refine (tsame_u SR.out (HT.out.kp K.out) L0.out.1 L0.out.2).mono ?_; rintro e0 w9 ⟨rfl, k9⟩
  have K := Lib.hid (K.out.tr k9)
  have TB := Lib.hid (TB.out.kp k9)
  have OB := Lib.hid (OB.out.kp k9)
  have SB := Lib.hid (SB.out.kp k9)
  have AB := Lib.hid (AB.out.kp k9)
  have BB := Lib.hid (BB.out.kp k9)
  have CB := Lib.hid (CB.out.kp k9)
  have OR := Lib.hid (OR.out.kp k9)
  have SR := Lib.hid (SR.out.kp k9)
  have AR := Lib.hid (AR.out.kp k9)
  have BR := Lib.hid (BR.out.kp k9)
  have CR := Lib.hid (CR.out.kp k9)
  clear k9 tb0 tb1 tb2 ob0 ob1 ob2 sb0 sb1 sb2 ab0 ab1 ab2 bb0 bb1 bb2 cb0 cb1 cb2
  have tb0 := TB.out.c0
  have tb1 := TB.out.c1
  have tb2 := TB.out.lt
  have ob0 := OB.out.c0
  have ob1 := OB.out.c1
  have ob2 := OB.out.lt
  have sb0 := SB.out.c0
  have sb1 := SB.out.c1
  have sb2 := SB.out.lt
  have ab0 := AB.out.c0
  have ab1 := AB.out.c1
  have ab2 := AB.out.lt
  have bb0 := BB.out.c0
  have bb1 := BB.out.c1
  have bb2 := BB.out.lt
  have cb0 := CB.out.c0
  have cb1 := CB.out.c1
  have cb2 := CB.out.lt
  by_cases h3 : e3 = 0
  · by_cases h4 : e4 = 0
    · obtain ⟨q0, q1, q2, q3, q4, q5, q6⟩ := HE.out h3 h4
      subst h3 h4 q0 q1 q2 q3 q4
      have hmi : ¬ (m : Int) = 0 := by omega
      go_wp2_with fail
      refine (tsame_u BR.out CR.out L4.out.1 L4.out.2).mono ?_; rintro e0 w10 ⟨rfl, k10⟩
      have K := Lib.hid (K.out.tr k10)
      have TB := Lib.hid (TB.out.kp k10)
      have OB := Lib.hid (OB.out.kp k10)
      have SB := Lib.hid (SB.out.kp k10)
      have AB := Lib.hid (AB.out.kp k10)
      have BB := Lib.hid (BB.out.kp k10)
      have CB := Lib.hid (CB.out.kp k10)
      have OR := Lib.hid (OR.out.kp k10)
      have SR := Lib.hid (SR.out.kp k10)
      have AR := Lib.hid (AR.out.kp k10)
      have BR := Lib.hid (BR.out.kp k10)
      have CR := Lib.hid (CR.out.kp k10)
      clear k10 tb0 tb1 tb2 ob0 ob1 ob2 sb0 sb1 sb2 ab0 ab1 ab2 bb0 bb1 bb2 cb0 cb1 cb2
      have tb0 := TB.out.c0
      have tb1 := TB.out.c1
      have tb2 := TB.out.lt
      have ob0 := OB.out.c0
      have ob1 := OB.out.c1
      have ob2 := OB.out.lt
      have sb0 := SB.out.c0
      have sb1 := SB.out.c1
      have sb2 := SB.out.lt
      have ab0 := AB.out.c0
      have ab1 := AB.out.c1
      have ab2 := AB.out.lt
      have bb0 := BB.out.c0
      have bb1 := BB.out.c1
      have bb2 := BB.out.lt
      have cb0 := CB.out.c0
      have cb1 := CB.out.c1
      have cb2 := CB.out.lt
      go_wp2
      go_ret
      exact ⟨rfl, K.out⟩
    · subst h3
      go_wp2
      go_ret
      exact ⟨rfl, K.out⟩
  · go_wp2
    go_ret
    exact ⟨rfl, K.out⟩

theorem tspreads_walk (A B C D : Option Addr) (c d e h : Nat) (s xs g t : List Int) (w : World) (hT : TR w A s B xs) (hi : I64s xs) (hC : Rd w C g) (hD : Rd w D t) :
    Calls Try.prog 5 #[.agg #[.slice A s.length c, .slice B xs.length d], .slice C g.length e, .slice D t.length h] w fun e w' => e = .returned (.bool true) ∧ Kp w w' := by
  by_cases hf : 100 < s.length ∨ 100 < xs.length ∨ 100 < g.length ∨ 100 < t.length
  · exact tspreads_far A B C D c d e h _ _ _ _ w hT.s.len hT.d.len hC.len hD.len (by omega)
  · cases hk : tokV s xs with
    | false => exact tspreads_far A B C D c d e h _ _ _ _ w hT.s.len hT.d.len hC.len hD.len (.inr (.inr (.inr (.inr fun W k => tcheck_u s xs (hT.kp k) rfl rfl hk))))
    | true =>
      obtain ⟨_, _, l1, _⟩ := tok_len hk
      obtain ⟨l3, k3, e3, r3⟩ : ∃ l k e, spreadV s xs g = (l, k, e) := ⟨_, _, _, rfl⟩
      obtain ⟨l4, k4, e4, r4⟩ : ∃ l k e, spreadV l3 k3 t = (l, k, e) := ⟨_, _, _, rfl⟩
      obtain ⟨l5, k5, e5, r5⟩ : ∃ l k e, spreadV s xs t = (l, k, e) := ⟨_, _, _, rfl⟩
      refine tspreads_with A B C D c d e h _ _ _ _ w (by omega) (by omega) (by omega) (by omega) l1 s xs l3 k3 l4 k4 l5 k5 _ _ _ _ _ _ e3 e4 e5 (Lib.hid ⟨rfl, rfl⟩) (Lib.hid ⟨rfl, rfl⟩) (Lib.hid hT) (Lib.hid ?_)
        (Lib.hid fun W k => tcheck_u s xs (hT.kp k) rfl rfl hk)
        (Lib.hid fun W k => spread_u s xs s (hT.kp k) (hT.kp k).s rfl rfl rfl (spread_self hk) rfl rfl)
        (Lib.hid fun W k => fold_u s xs s (hT.kp k) (hT.kp k).s hi rfl rfl rfl (fold_self hk hi) rfl rfl)
        (Lib.hid fun W k => spread_u s xs g (hT.kp k) (hC.kp k) rfl rfl rfl r3 rfl rfl)
        (Lib.hid fun W A0 B0 c0 d0 k r => spread_u _ _ t r (hD.kp k) rfl rfl rfl r4 rfl rfl)
        (Lib.hid fun W k => spread_u s xs t (hT.kp k) (hD.kp k) rfl rfl rfl r5 rfl rfl)
      intro z3 z4
      have hh := spreads_two (s := s) (d := xs) (g := g) (u := t) hk
      rw [r3] at hh
      simp only [r4, r5] at hh
      obtain ⟨q1, q2, cc, q3⟩ := hh z3 z4
      simp only [Prod.mk.injEq] at q1
      obtain ⟨q4, q5, q6⟩ := q1
      subst q4 q5
      refine ⟨by rw [← q6]; exact z4, rfl, rfl, rfl, rfl, q2, ?_⟩
      rw [q3, Int.natCast_mul]
      exact Int.mul_tmod_left _ _
end Go.Proofs.Ytdekchfapblgeaa
