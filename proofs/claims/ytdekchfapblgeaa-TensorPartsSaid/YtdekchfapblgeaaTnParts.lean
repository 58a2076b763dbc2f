/- What is folded in two steps is what is folded at once: the law's call returns true. -/
import Derived.Test.YtdekchfapblgeaaTnBk
namespace Go.Proofs.Ytdekchfapblgeaa
open Go.RowKit Go.Proofs.ShM

set_option maxHeartbeats 4000000 in
set_option maxRecDepth 100000 in
/-- Beyond a hundred, or of what may be no tensor, nothing is asked. -/
theorem tparts_far (A B C D : Option Addr) (c d e h n m o p : Nat) (w : World) (zn : n ≤ 9223372036854775807) (zm : m ≤ 9223372036854775807) (zo : o ≤ 9223372036854775807) (zp : p ≤ 9223372036854775807) (hf : 100 < n ∨ 100 < m ∨ 100 < o ∨ 100 < p) :
    Calls Try.prog 7 #[.agg #[.slice A n c, .slice B m d], .slice C o e, .slice D p h] w fun e w' => e = .returned (.bool true) ∧ Kp w w' := by
  by_cases h1 : 100 < n ∨ 100 < m
  · have HN : Hid (∀ W, Calls Try.prog 10 #[.agg #[.slice A n c, .slice B m d]] W fun e w' => e = .returned (.bool false) ∧ Kp W w') := fun W => few_no zn zm h1
    clear hf h1
    go_enter Try.func7, Try.ntmps7
    go_wp2_with fail
    refine (tnawake_any _).mono ?_; rintro e0 w0 ⟨rfl, k0⟩
    have TB : Hid (Bk w0 w.heap.size A n c B m d) := (Bk.new rfl).kp k0
    have t0 := TB.out.c0
    have t1 := TB.out.c1
    have K := Lib.hid ((Kp.alloc_ _ _).tr k0)
    clear k0
    go_wp2_with fail
    refine (HN.out _).mono ?_; rintro e0 w1 ⟨rfl, k1⟩
    go_wp2
    go_ret
    exact ⟨rfl, K.out.tr k1⟩
  · have hn : n ≤ 100 := by omega
    have hm : m ≤ 100 := by omega
    by_cases hq : 100 < o ∨ 100 < p
    · clear hf h1
      by_cases h2 : 100 < o
      all_goals by_cases h3 : 100 < p
      all_goals
        first
        | exact absurd hq (by omega)
        | (clear hq
           go_enter Try.func7, Try.ntmps7
           go_wp2_with fail
           refine (tnawake_any _).mono ?_; rintro e0 w0 ⟨rfl, k0⟩
           have TB : Hid (Bk w0 w.heap.size A n c B m d) := (Bk.new rfl).kp k0
           have t0 := TB.out.c0
           have t1 := TB.out.c1
           have K := Lib.hid ((Kp.alloc_ _ _).tr k0)
           clear k0
           go_wp2_with fail
           refine (few_yes hn hm).mono ?_; rintro e0 w1 ⟨rfl, k1⟩
           go_wp2
           go_ret
           exact ⟨rfl, K.out.tr k1⟩)
    · omega

namespace TnP
/-- None of the first k numbers is great. -/
def Sm (xs : List Int) (k : Nat) : Prop := ∀ i, i < k → -1099511627776 ≤ xs.getD i 0 ∧ xs.getD i 0 ≤ 1099511627776
theorem sm0 (xs : List Int) : Sm xs 0 := fun i h => by omega
theorem sm1 {xs : List Int} {k : Nat} {x : Int} (h : Sm xs k) (hx : xs[k]? = some x) (h1 : ¬ x < -1099511627776) (h2 : ¬ 1099511627776 < x) : Sm xs (k + 1) := fun i hi => by
  by_cases e : i = k
  · subst e
    rw [List.getD_eq_getElem?_getD, hx, Option.getD_some]; omega
  · exact h i (by omega)
end TnP

set_option maxHeartbeats 8000000 in
set_option maxRecDepth 100000 in
theorem tparts_with (A B C D : Option Addr) (c d e h n m o p : Nat) (w : World) (hn : n ≤ 100) (hm : m ≤ 100) (ho : o ≤ 100) (hp : p ≤ 100) (s xs l3 k3 l4 k4 l5 k5 : List Int) (a3 b3 a4 b4 a5 b5 : Nat) (e3 e4 e5 : Int) (r4 : Bool)
    (L0 : Hid (s.length = n ∧ xs.length = m)) (L4 : Hid (l4.length = a4 ∧ k4.length = b4)) (HT : Hid (TR w A s B xs))
    (HE : Hid (TnP.Sm xs m → e3 = 0 → e4 = 0 → e5 = 0 ∧ l4 = l5 ∧ k4 = k5 ∧ a4 = a5 ∧ b4 = b5 ∧ r4 = true))
    (C1 : Hid (∀ W, Kp w W → Calls Try.prog 18 #[.agg #[.slice A n c, .slice B m d], .slice C o e] W (RetU l3 k3 a3 b3 e3 W)))
    (C2 : Hid (∀ W A0 B0 c0 d0, Kp w W → TR W A0 l3 B0 k3 → Calls Try.prog 18 #[.agg #[.slice A0 a3 c0, .slice B0 b3 d0], .slice D p h] W (RetU l4 k4 a4 b4 e4 W)))
    (C3 : Hid (∀ W, Kp w W → Calls Try.prog 18 #[.agg #[.slice A n c, .slice B m d], .slice D p h] W (RetU l5 k5 a5 b5 e5 W)))
    (C4 : Hid (∀ W A0 B0 c0 d0, TR W A0 l4 B0 k4 → Calls Try.prog 22 #[.agg #[.slice A0 a4 c0, .slice B0 b4 d0]] W fun e w' => e = .returned (.bool r4) ∧ Kp W w')) :
    Calls Try.prog 7 #[.agg #[.slice A n c, .slice B m d], .slice C o e, .slice D p h] w fun e w' => e = .returned (.bool true) ∧ Kp w w' := by
  go_enter Try.func7, Try.ntmps7
  go_wp2_with fail
  refine (tnawake_any _).mono ?_; rintro e0 w0 ⟨rfl, k0⟩
  have K := Lib.hid ((Kp.alloc_ _ _).tr k0)
  have TB : Hid (Bk w0 w.heap.size A n c B m d) := (Bk.new rfl).kp k0
  clear k0
  have tb0 := TB.out.c0
  have tb1 := TB.out.c1
  have tb2 := TB.out.lt
  go_wp2_with fail
  refine (few_yes hn hm).mono ?_; rintro e0 w1 ⟨rfl, k1⟩
  have K := Lib.hid (K.out.tr k1)
  have TB := Lib.hid (TB.out.kp k1)
  clear k1 tb0 tb1 tb2
  have tb0 := TB.out.c0
  have tb1 := TB.out.c1
  have tb2 := TB.out.lt
  go_wp2
  go_loop [8] (fun i => ∃ k : Nat, i = .int .i64 k ∧ k ≤ m ∧ Hid (TnP.Sm xs k)) (fun i => m - (intOf i).toNat)
  case atStart => exact ⟨0, rfl, Nat.zero_le _, TnP.sm0 xs⟩
  case round =>
    obtain ⟨k, rfl, hkm, hr⟩ := hrel
    by_cases hk : k < m
    · obtain ⟨ad, x, rfl, _, hx, hc⟩ := (HT.out.kp K.out).d.at_ (k := k) (by have := L0.out.2; omega)
      have HX := Lib.hid hx
      clear hx
      by_cases hx1 : x < -1099511627776
      · go_wp2
        go_ret
        exact ⟨rfl, K.out⟩
      · by_cases hx2 : 1099511627776 < x
        · go_wp2
          go_ret
          exact ⟨rfl, K.out⟩
        · go_wp2
          go_round
          case rel => exact ⟨k + 1, by go_num, hk, TnP.sm1 hr.out HX.out hx1 hx2⟩
          case measure => simp [intOf]; omega
    · obtain rfl : k = m := by omega
      have HE := Lib.hid (HE.out hr.out)
      clear hr
      go_wp2_with fail
      refine (C1.out _ K.out).mono ?_; rintro e0 w2 ⟨A2, c2, B2, d2, rfl, r2, k2⟩
      have K := Lib.hid (K.out.tr k2)
      have TB := Lib.hid (TB.out.kp k2)
      have AR := Lib.hid r2
      clear k2 r2 tb0 tb1 tb2
      have tb0 := TB.out.c0
      have tb1 := TB.out.c1
      have tb2 := TB.out.lt
      go_wp2_with fail
      refine (C2.out _ _ _ _ _ (K.out.al _) (AR.out.alloc_ _)).mono ?_; rintro e0 w3 ⟨A3, c3, B3, d3, rfl, r3, k3⟩
      have K := Lib.hid ((K.out.al _).tr k3)
      have TB := Lib.hid ((TB.out.alloc_ _).kp k3)
      have AR := Lib.hid ((AR.out.alloc_ _).kp k3)
      have AB : Hid (Bk w3 w2.heap.size A2 a3 c2 B2 b3 d2) := (Bk.new rfl).kp k3
      have BR := Lib.hid r3
      clear k3 r3 tb0 tb1 tb2
      have tb0 := TB.out.c0
      have tb1 := TB.out.c1
      have tb2 := TB.out.lt
      have ab0 := AB.out.c0
      have ab1 := AB.out.c1
      have ab2 := AB.out.lt
      go_wp2_with fail
      refine (C3.out _ (K.out.al _)).mono ?_; rintro e0 w4 ⟨A4, c4, B4, d4, rfl, r4, k4⟩
      have K := Lib.hid ((K.out.al _).tr k4)
      have TB := Lib.hid ((TB.out.alloc_ _).kp k4)
      have AB := Lib.hid ((AB.out.alloc_ _).kp k4)
      have AR := Lib.hid ((AR.out.alloc_ _).kp k4)
      have BR := Lib.hid ((BR.out.alloc_ _).kp k4)
      have BB : Hid (Bk w4 w3.heap.size A3 a4 c3 B3 b4 d3) := (Bk.new rfl).kp k4
      have CR := Lib.hid r4
      clear k4 r4 tb0 tb1 tb2 ab0 ab1 ab2
      have tb0 := TB.out.c0
      have tb1 := TB.out.c1
      have tb2 := TB.out.lt
      have ab0 := AB.out.c0
      have ab1 := AB.out.c1
      have ab2 := AB.out.lt
      have bb0 := BB.out.c0
      have bb1 := BB.out.c1
      have bb2 := BB.out.lt
      by_cases h3 : e3 = 0
      · by_cases h4 : e4 = 0
        · obtain ⟨q0, q1, q2, q3, q4, q5⟩ := HE.out h3 h4
          subst h3 h4 q0 q1 q2 q3 q4 q5
          go_wp2_with fail
          refine (tsame_u (BR.out.alloc_ _) (CR.out.alloc_ _) L4.out.1 L4.out.2).mono ?_; rintro e0 w5 ⟨rfl, k5⟩
          have K := Lib.hid ((K.out.al _).tr k5)
          have TB := Lib.hid ((TB.out.alloc_ _).kp k5)
          have AB := Lib.hid ((AB.out.alloc_ _).kp k5)
          have BB := Lib.hid ((BB.out.alloc_ _).kp k5)
          have AR := Lib.hid ((AR.out.alloc_ _).kp k5)
          have BR := Lib.hid ((BR.out.alloc_ _).kp k5)
          have CR := Lib.hid ((CR.out.alloc_ _).kp k5)
          have CB : Hid (Bk w5 w4.heap.size A4 a4 c4 B4 b4 d4) := (Bk.new rfl).kp k5
          clear k5 tb0 tb1 tb2 ab0 ab1 ab2 bb0 bb1 bb2
          have tb0 := TB.out.c0
          have tb1 := TB.out.c1
          have tb2 := TB.out.lt
          have ab0 := AB.out.c0
          have ab1 := AB.out.c1
          have ab2 := AB.out.lt
          have bb0 := BB.out.c0
          have bb1 := BB.out.c1
          have bb2 := BB.out.lt
          have cb0 := CB.out.c0
          have cb1 := CB.out.c1
          have cb2 := CB.out.lt
          go_wp2_with fail
          refine (C4.out _ _ _ _ _ BR.out).mono ?_; rintro e0 w6 ⟨rfl, k6⟩
          have K := Lib.hid (K.out.tr k6)
          have TB := Lib.hid (TB.out.kp k6)
          have AB := Lib.hid (AB.out.kp k6)
          have BB := Lib.hid (BB.out.kp k6)
          have CB := Lib.hid (CB.out.kp k6)
          have AR := Lib.hid (AR.out.kp k6)
          have BR := Lib.hid (BR.out.kp k6)
          have CR := Lib.hid (CR.out.kp k6)
          clear k6 tb0 tb1 tb2 ab0 ab1 ab2 bb0 bb1 bb2 cb0 cb1 cb2
          have tb0 := TB.out.c0
          have tb1 := TB.out.c1
          have tb2 := TB.out.lt
          have ab0 := AB.out.c0
          have ab1 := AB.out.c1
          have ab2 := AB.out.lt
          have bb0 := BB.out.c0
          have bb1 := BB.out.c1
          have bb2 := BB.out.lt
          have cb0 := CB.out.c0
          have cb1 := CB.out.c1
          have cb2 := CB.out.lt
          go_wp2
          go_ret
          exact ⟨rfl, K.out⟩
        · subst h3
          go_wp2
          go_ret
          exact ⟨rfl, K.out.al _⟩
      · go_wp2
        go_ret
        exact ⟨rfl, K.out.al _⟩

theorem tparts_walk (A B C D : Option Addr) (c d e h : Nat) (s xs g t : List Int) (w : World) (hT : TR w A s B xs) (hi : I64s xs) (hC : Rd w C g) (hD : Rd w D t) :
    Calls Try.prog 7 #[.agg #[.slice A s.length c, .slice B xs.length d], .slice C g.length e, .slice D t.length h] w fun e w' => e = .returned (.bool true) ∧ Kp w w' := by
  by_cases hf : 100 < s.length ∨ 100 < xs.length ∨ 100 < g.length ∨ 100 < t.length
  · exact tparts_far A B C D c d e h _ _ _ _ w hT.s.len hT.d.len hC.len hD.len hf
  · have i3 := foldV_i64 s xs g
    obtain ⟨l3, k3, e3, r3⟩ : ∃ l k e, foldV s xs g = (l, k, e) := ⟨_, _, _, rfl⟩
    obtain ⟨l4, k4, e4, r4⟩ : ∃ l k e, foldV l3 k3 t = (l, k, e) := ⟨_, _, _, rfl⟩
    obtain ⟨l5, k5, e5, r5⟩ : ∃ l k e, foldV s xs t = (l, k, e) := ⟨_, _, _, rfl⟩
    rw [r3] at i3
    refine tparts_with A B C D c d e h _ _ _ _ w (by omega) (by omega) (by omega) (by omega) s xs l3 k3 l4 k4 l5 k5 _ _ _ _ _ _ e3 e4 e5 (tokV l4 k4) (Lib.hid ⟨rfl, rfl⟩) (Lib.hid ⟨rfl, rfl⟩) (Lib.hid hT) (Lib.hid ?_)
      (Lib.hid fun W k => fold_u s xs g (hT.kp k) (hC.kp k) hi rfl rfl rfl r3 rfl rfl)
      (Lib.hid fun W A0 B0 c0 d0 k r => fold_u _ _ t r (hD.kp k) i3 rfl rfl rfl r4 rfl rfl)
      (Lib.hid fun W k => fold_u s xs t (hT.kp k) (hD.kp k) hi rfl rfl rfl r5 rfl rfl)
      (Lib.hid fun W A0 B0 c0 d0 r => tcheck_u l4 k4 r rfl rfl rfl)
    intro hs z3 z4
    have hh := parts_two (t := s) (d := xs) (s := g) (u := t) hs
    rw [r3] at hh
    simp only [r4, r5] at hh
    obtain ⟨q1, q2⟩ := hh z3 z4
    simp only [Prod.mk.injEq] at q1
    obtain ⟨q4, q5, q6⟩ := q1
    subst q4 q5
    exact ⟨by rw [← q6]; exact z4, rfl, rfl, rfl, rfl, q2⟩
end Go.Proofs.Ytdekchfapblgeaa
