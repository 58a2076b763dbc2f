/- A tensor of one number: stretched it is the one of the greater shape, folded that number as often as it was folded. The law's call returns true. -/
import Derived.Test.YtdekchfapblgeaaTnBk
namespace Go.Proofs.Ytdekchfapblgeaa
open Go.RowKit Go.Proofs.ShM

set_option maxHeartbeats 4000000 in
set_option maxRecDepth 100000 in
/-- Beyond a hundred, or of a great number, nothing is asked. -/
theorem tfull_far (A C : Option Addr) (c e n o : Nat) (x : Int) (w : World) (zn : n ≤ 9223372036854775807) (zo : o ≤ 9223372036854775807) (hf : 100 < n ∨ 100 < o ∨ x < -1099511627776 ∨ 1099511627776 < x) :
    Calls Try.prog 6 #[.slice A n c, .slice C o e, .int .i64 x] w fun e w' => e = .returned (.bool true) ∧ Kp w w' := by
  by_cases h1 : 100 < n
  · clear hf
    go_enter Try.func6, Try.ntmps6
    go_wp2_with fail
    refine (tnawake_any _).mono ?_; rintro e0 w0 ⟨rfl, k0⟩
    go_wp2
    go_ret
    exact ⟨rfl, k0⟩
  · by_cases h2 : 100 < o
    · clear hf
      go_enter Try.func6, Try.ntmps6
      go_wp2_with fail
      refine (tnawake_any _).mono ?_; rintro e0 w0 ⟨rfl, k0⟩
      go_wp2
      go_ret
      exact ⟨rfl, k0⟩
    · by_cases h3 : x < -1099511627776
      · clear hf
        go_enter Try.func6, Try.ntmps6
        go_wp2_with fail
        refine (tnawake_any _).mono ?_; rintro e0 w0 ⟨rfl, k0⟩
        go_wp2
        go_ret
        exact ⟨rfl, k0⟩
      · have h4 : 1099511627776 < x := by omega
        clear hf
        go_enter Try.func6, Try.ntmps6
        go_wp2_with fail
        refine (tnawake_any _).mono ?_; rintro e0 w0 ⟨rfl, k0⟩
        go_wp2
        go_ret
        exact ⟨rfl, k0⟩

set_option maxHeartbeats 4000000 in
set_option maxRecDepth 100000 in
/-- No shape. -/
theorem tfull_none (A C : Option Addr) (c e n o : Nat) (x : Int) (w : World) (hn : n ≤ 100) (ho : o ≤ 100) (x1 : ¬ x < -1099511627776) (x2 : ¬ 1099511627776 < x) (l1 k1 : List Int) (a1 b1 : Nat)
    (C1 : Hid (∀ W, Kp w W → Calls Try.prog 11 #[.slice A n c, .int .i64 x] W (RetU l1 k1 a1 b1 20 W)))
    (HC : Hid (∀ W, Kp w W → Calls Try.prog 25 #[.slice A n c] W fun e w' => e = .returned (.bool false) ∧ W = w')) :
    Calls Try.prog 6 #[.slice A n c, .slice C o e, .int .i64 x] w fun e w' => e = .returned (.bool true) ∧ Kp w w' := by
  go_enter Try.func6, Try.ntmps6
  go_wp2_with fail
  refine (tnawake_any _).mono ?_; rintro e0 w0 ⟨rfl, k0⟩
  have K := Lib.hid k0
  clear k0
  go_wp2_with fail
  refine (C1.out _ K.out).mono ?_; rintro e0 w1 ⟨A1, c1, B1, d1, rfl, r1, k1⟩
  have K := Lib.hid (K.out.tr k1)
  clear k1 r1
  go_wp2_with fail
  refine (HC.out _ (K.out.al _)).mono ?_; rintro e0 w2 ⟨rfl, rfl⟩
  go_wp2
  go_ret
  exact ⟨rfl, K.out.al _⟩

theorem mul_in {x : Int} {b : Nat} (hb : b ≤ 64) (h1 : ¬ x < -1099511627776) (h2 : ¬ 1099511627776 < x) : IntKind.i64.wrap (x * (b : Int)) = x * b := by
  have g1 := Int.mul_le_mul_of_nonneg_right (show -1099511627776 ≤ x by omega) (show (0 : Int) ≤ b by omega)
  have g2 := Int.mul_le_mul_of_nonneg_right (show x ≤ 1099511627776 by omega) (show (0 : Int) ≤ b by omega)
  exact IntWalk.i64_in _ (by omega)

set_option maxHeartbeats 8000000 in
set_option maxRecDepth 100000 in
theorem tfull_with (A C : Option Addr) (c e n o : Nat) (x : Int) (w : World) (hn : n ≤ 100) (ho : o ≤ 100) (x1 : ¬ x < -1099511627776) (x2 : ¬ 1099511627776 < x)
    (s k1 l2 k2 l3 k3 l4 k4 : List Int) (b1 a2 b2 a3 b3 a4 b4 : Nat) (e2 e3 e4 : Int) (f1 f2 : Bool) (hb1 : b1 ≤ 64) (hb4 : b4 ≤ 64)
    (L1 : Hid (k1.length = b1)) (L3 : Hid (l3.length = a3 ∧ k3.length = b3)) (L4 : Hid (k4.length = b4)) (HR : Hid (∀ (i : Nat) (y : Int), k1[i]? = some y → y = x))
    (HE : Hid ((e2 = 0 ∧ f1 = true ∧ e3 = 0 ∧ l2 = l3 ∧ k2 = k3 ∧ a2 = a3 ∧ b2 = b3) ∨ (e2 = 20 ∧ f1 = false)))
    (HF : Hid ((e4 = 0 ∧ f2 = true ∧ ∀ (i : Nat) (y : Int), k4[i]? = some y → y * (b4 : Int) = x * (b1 : Int)) ∨ (e4 = 20 ∧ f2 = false ∧ b4 = 0)))
    (C1 : Hid (∀ W, Kp w W → Calls Try.prog 11 #[.slice A n c, .int .i64 x] W (RetU s k1 n b1 0 W)))
    (C2 : Hid (∀ W A0 B0 c0 d0, Kp w W → TR W A0 s B0 k1 → Calls Try.prog 16 #[.agg #[.slice A0 n c0, .slice B0 b1 d0], .slice C o e] W (RetU l2 k2 a2 b2 e2 W)))
    (C3 : Hid (∀ W, Kp w W → Calls Try.prog 11 #[.slice C o e, .int .i64 x] W (RetU l3 k3 a3 b3 e3 W)))
    (C4 : Hid (∀ W A0 B0 c0 d0, Kp w W → TR W A0 s B0 k1 → Calls Try.prog 18 #[.agg #[.slice A0 n c0, .slice B0 b1 d0], .slice C o e] W (RetU l4 k4 a4 b4 e4 W)))
    (C5 : Hid (∀ W A0 B0 c0 d0, TR W A0 s B0 k1 → Calls Try.prog 22 #[.agg #[.slice A0 n c0, .slice B0 b1 d0]] W fun e w' => e = .returned (.bool true) ∧ Kp W w'))
    (C6 : Hid (∀ W, Kp w W → Calls Try.prog 26 #[.slice A n c, .slice C o e] W fun e w' => e = .returned (.bool f1) ∧ Kp W w'))
    (C7 : Hid (∀ W, Kp w W → Calls Try.prog 26 #[.slice C o e, .slice A n c] W fun e w' => e = .returned (.bool f2) ∧ Kp W w')) :
    Calls Try.prog 6 #[.slice A n c, .slice C o e, .int .i64 x] w fun e w' => e = .returned (.bool true) ∧ Kp w w' := by
  obtain ⟨z, hz⟩ : ∃ z, z = x * (b1 : Int) := ⟨_, rfl⟩
  have z1 : IntKind.i64.wrap (x * (b1 : Int)) = z := by rw [hz]; exact mul_in hb1 x1 x2
  have HZ := Lib.hid z1
  clear z1 hz
  go_enter Try.func6, Try.ntmps6
  go_wp2_with fail
  refine (tnawake_any _).mono ?_; rintro e0 w0 ⟨rfl, k0⟩
  have K := Lib.hid k0
  clear k0
  go_wp2_with fail
  refine (C1.out _ K.out).mono ?_; rintro e0 w1 ⟨A1, c1, B1, d1, rfl, r1, k1⟩
  have K := Lib.hid (K.out.tr k1)
  have TT := Lib.hid r1
  clear k1 r1
  go_wp2_with fail
  refine (C2.out _ _ _ _ _ (K.out.al _) (TT.out.alloc_ _)).mono ?_; rintro e0 w2 ⟨A2, c2, B2, d2, rfl, r2, k2⟩
  have K := Lib.hid ((K.out.al _).tr k2)
  have TT := Lib.hid ((TT.out.alloc_ _).kp k2)
  have TB : Hid (Bk w2 w1.heap.size A1 n c1 B1 b1 d1) := (Bk.new rfl).kp k2
  have SR := Lib.hid r2
  clear k2 r2
  have tb0 := TB.out.c0
  have tb1 := TB.out.c1
  have tb2 := TB.out.lt
  go_wp2_with fail
  refine (C3.out _ (K.out.al _)).mono ?_; rintro e0 w3 ⟨A3, c3, B3, d3, rfl, r3, k3⟩
  have K := Lib.hid ((K.out.al _).tr k3)
  have TB := Lib.hid ((TB.out.alloc_ _).kp k3)
  have TT := Lib.hid ((TT.out.alloc_ _).kp k3)
  have SR := Lib.hid ((SR.out.alloc_ _).kp k3)
  have SB : Hid (Bk w3 w2.heap.size A2 a2 c2 B2 b2 d2) := (Bk.new rfl).kp k3
  have FR := Lib.hid r3
  clear k3 r3 tb0 tb1 tb2
  have tb0 := TB.out.c0
  have tb1 := TB.out.c1
  have tb2 := TB.out.lt
  have sb0 := SB.out.c0
  have sb1 := SB.out.c1
  have sb2 := SB.out.lt
  go_wp2_with fail
  refine (C4.out _ _ _ _ _ (K.out.al _) (TT.out.alloc_ _)).mono ?_; rintro e0 w4 ⟨A4, c4, B4, d4, rfl, r4, k4⟩
  have K := Lib.hid ((K.out.al _).tr k4)
  have TB := Lib.hid ((TB.out.alloc_ _).kp k4)
  have SB := Lib.hid ((SB.out.alloc_ _).kp k4)
  have TT := Lib.hid ((TT.out.alloc_ _).kp k4)
  have SR := Lib.hid ((SR.out.alloc_ _).kp k4)
  have FR := Lib.hid ((FR.out.alloc_ _).kp k4)
  have FB : Hid (Bk w4 w3.heap.size A3 a3 c3 B3 b3 d3) := (Bk.new rfl).kp k4
  have CT := Lib.hid r4
  clear k4 r4 tb0 tb1 tb2 sb0 sb1 sb2
  have tb0 := TB.out.c0
  have tb1 := TB.out.c1
  have tb2 := TB.out.lt
  have sb0 := SB.out.c0
  have sb1 := SB.out.c1
  have sb2 := SB.out.lt
  have fb0 := FB.out.c0
  have fb1 := FB.out.c1
  have fb2 := FB.out.lt
  obtain ⟨W5, hW⟩ : ∃ W, W = w4.alloc (.cells #[.slice A4 a4 c4, .slice B4 b4 d4] 24) := ⟨_, rfl⟩
  have k5 : Kp w4 W5 := by rw [hW]; exact Kp.alloc_ _ _
  have CB : Hid (Bk W5 w4.heap.size A4 a4 c4 B4 b4 d4) := by show Bk _ _ _ _ _ _ _ _; rw [hW]; exact Bk.new rfl
  have HW := Lib.hid hW
  clear hW
  go_wp2
  rw [← HW.out]
  have K := Lib.hid (K.out.tr k5)
  have TB := Lib.hid (TB.out.kp k5)
  have SB := Lib.hid (SB.out.kp k5)
  have FB := Lib.hid (FB.out.kp k5)
  have TT := Lib.hid (TT.out.kp k5)
  have SR := Lib.hid (SR.out.kp k5)
  have FR := Lib.hid (FR.out.kp k5)
  have CT := Lib.hid (CT.out.kp k5)
  clear k5 tb0 tb1 tb2 sb0 sb1 sb2 fb0 fb1 fb2
  have tb0 := TB.out.c0
  have tb1 := TB.out.c1
  have sb0 := SB.out.c0
  have sb1 := SB.out.c1
  have fb0 := FB.out.c0
  have fb1 := FB.out.c1
  have cb0 := CB.out.c0
  have cb1 := CB.out.c1
  go_loop [16] (fun i => ∃ k : Nat, i = .int .i64 k ∧ k ≤ b1) (fun i => b1 - (intOf i).toNat)
  case atStart => exact ⟨0, rfl, Nat.zero_le _⟩
  case round =>
    obtain ⟨k, rfl, hkm⟩ := hrel
    by_cases hk : k < b1
    · obtain ⟨ad, y, rfl, _, hx, hc⟩ := TT.out.d.at_ (k := k) (by have := L1.out; omega)
      obtain rfl : y = x := HR.out k y hx
      clear hx
      go_wp2
      go_round
      case rel => exact ⟨k + 1, by go_num, hk⟩
      case measure => simp [intOf]; omega
    · obtain rfl : k = b1 := by omega
      go_wp2
      go_loopw [17] (fun i wr => ∃ (k q : Nat), i = .int .i64 k ∧ k ≤ b4 ∧ wr = W5.drewN q) (fun i _ => b4 - (intOf i).toNat)
      case atStart => exact ⟨0, 0, rfl, Nat.zero_le _, rfl⟩
      case round =>
        obtain ⟨k, q, rfl, hkm, rfl⟩ := hrel
        by_cases hk : k < b4
        · rcases HF.out with ⟨q0, _, hy⟩ | ⟨_, _, q0⟩
          · obtain ⟨ad, y, rfl, _, hx, hc⟩ := CT.out.d.at_ (k := k) (by have := L4.out; omega)
            have e2 := HZ.out
            have e1 : IntKind.i64.wrap (y * (b4 : Int)) = z := by rw [hy k y hx]; exact e2
            subst q0
            clear hx hy
            go_wp2
            go_quiet (fail)
            go_wp2
            go_roundw
            case rel => exact ⟨k + 1, _, by go_num, hk, by first | rfl | exact World.drewN_drewN _ _ _⟩
            case measure => simp [intOf]; omega
          · omega
        · obtain rfl : k = b4 := by omega
          have HQ : Hid (Kp w (W5.drewN q)) := K.out.tr (Kp.drewN_ _ _)
          rcases HE.out with ⟨q0, q1, q2, q3, q4, q5, q6⟩ | ⟨q0, q1⟩
          · subst q0 q1 q2 q3 q4 q5 q6
            rcases HF.out with ⟨q0, q1, _⟩ | ⟨q0, q1, _⟩
            · subst q0 q1
              have K := HQ
              have TB := Lib.hid (TB.out.kp (Kp.drewN_ _ q))
              have SB := Lib.hid (SB.out.kp (Kp.drewN_ _ q))
              have FB := Lib.hid (FB.out.kp (Kp.drewN_ _ q))
              have CB := Lib.hid (CB.out.kp (Kp.drewN_ _ q))
              have TT := Lib.hid (TT.out.kp (Kp.drewN_ _ q))
              have SR := Lib.hid (SR.out.kp (Kp.drewN_ _ q))
              have FR := Lib.hid (FR.out.kp (Kp.drewN_ _ q))
              have CT := Lib.hid (CT.out.kp (Kp.drewN_ _ q))
              go_wp2_with fail
              refine (C5.out _ _ _ _ _ TT.out).mono ?_; rintro e0 w5 ⟨rfl, k5⟩
              have K := Lib.hid (K.out.tr k5)
              have TB := Lib.hid (TB.out.kp k5)
              have SB := Lib.hid (SB.out.kp k5)
              have FB := Lib.hid (FB.out.kp k5)
              have CB := Lib.hid (CB.out.kp k5)
              have TT := Lib.hid (TT.out.kp k5)
              have SR := Lib.hid (SR.out.kp k5)
              have FR := Lib.hid (FR.out.kp k5)
              have CT := Lib.hid (CT.out.kp k5)
              clear k5 tb0 tb1 sb0 sb1 fb0 fb1 cb0 cb1
              have tb0 := TB.out.c0
              have tb1 := TB.out.c1
              have tb2 := TB.out.lt
              have sb0 := SB.out.c0
              have sb1 := SB.out.c1
              have sb2 := SB.out.lt
              have fb0 := FB.out.c0
              have fb1 := FB.out.c1
              have fb2 := FB.out.lt
              have cb0 := CB.out.c0
              have cb1 := CB.out.c1
              have cb2 := CB.out.lt
              go_wp2_with fail
              refine (C6.out _ K.out).mono ?_; rintro e0 w6 ⟨rfl, k6⟩
              have K := Lib.hid (K.out.tr k6)
              have TB := Lib.hid (TB.out.kp k6)
              have SB := Lib.hid (SB.out.kp k6)
              have FB := Lib.hid (FB.out.kp k6)
              have CB := Lib.hid (CB.out.kp k6)
              have TT := Lib.hid (TT.out.kp k6)
              have SR := Lib.hid (SR.out.kp k6)
              have FR := Lib.hid (FR.out.kp k6)
              have CT := Lib.hid (CT.out.kp k6)
              clear k6 tb0 tb1 tb2 sb0 sb1 sb2 fb0 fb1 fb2 cb0 cb1 cb2
              have tb0 := TB.out.c0
              have tb1 := TB.out.c1
              have tb2 := TB.out.lt
              have sb0 := SB.out.c0
              have sb1 := SB.out.c1
              have sb2 := SB.out.lt
              have fb0 := FB.out.c0
              have fb1 := FB.out.c1
              have fb2 := FB.out.lt
              have cb0 := CB.out.c0
              have cb1 := CB.out.c1
              have cb2 := CB.out.lt
              go_wp2_with fail
              refine (tsame_u SR.out FR.out L3.out.1 L3.out.2).mono ?_; rintro e0 w7 ⟨rfl, k7⟩
              have K := Lib.hid (K.out.tr k7)
              have TB := Lib.hid (TB.out.kp k7)
              have SB := Lib.hid (SB.out.kp k7)
              have FB := Lib.hid (FB.out.kp k7)
              have CB := Lib.hid (CB.out.kp k7)
              have TT := Lib.hid (TT.out.kp k7)
              have SR := Lib.hid (SR.out.kp k7)
              have FR := Lib.hid (FR.out.kp k7)
              have CT := Lib.hid (CT.out.kp k7)
              clear k7 tb0 tb1 tb2 sb0 sb1 sb2 fb0 fb1 fb2 cb0 cb1 cb2
              have tb0 := TB.out.c0
              have tb1 := TB.out.c1
              have tb2 := TB.out.lt
              have sb0 := SB.out.c0
              have sb1 := SB.out.c1
              have sb2 := SB.out.lt
              have fb0 := FB.out.c0
              have fb1 := FB.out.c1
              have fb2 := FB.out.lt
              have cb0 := CB.out.c0
              have cb1 := CB.out.c1
              have cb2 := CB.out.lt
              go_wp2_with fail
              refine (C7.out _ K.out).mono ?_; rintro e0 w8 ⟨rfl, k8⟩
              have K := Lib.hid (K.out.tr k8)
              have TB := Lib.hid (TB.out.kp k8)
              have SB := Lib.hid (SB.out.kp k8)
              have FB := Lib.hid (FB.out.kp k8)
              have CB := Lib.hid (CB.out.kp k8)
              have TT := Lib.hid (TT.out.kp k8)
              have SR := Lib.hid (SR.out.kp k8)
              have FR := Lib.hid (FR.out.kp k8)
              have CT := Lib.hid (CT.out.kp k8)
              clear k8 tb0 tb1 tb2 sb0 sb1 sb2 fb0 fb1 fb2 cb0 cb1 cb2
              have tb0 := TB.out.c0
              have tb1 := TB.out.c1
              have tb2 := TB.out.lt
              have sb0 := SB.out.c0
              have sb1 := SB.out.c1
              have sb2 := SB.out.lt
              have fb0 := FB.out.c0
              have fb1 := FB.out.c1
              have fb2 := FB.out.lt
              have cb0 := CB.out.c0
              have cb1 := CB.out.c1
              have cb2 := CB.out.lt
              go_wp2
              go_ret
              exact ⟨rfl, K.out⟩
            · subst q0 q1
              have K := HQ
              have TB := Lib.hid (TB.out.kp (Kp.drewN_ _ q))
              have SB := Lib.hid (SB.out.kp (Kp.drewN_ _ q))
              have FB := Lib.hid (FB.out.kp (Kp.drewN_ _ q))
              have CB := Lib.hid (CB.out.kp (Kp.drewN_ _ q))
              have TT := Lib.hid (TT.out.kp (Kp.drewN_ _ q))
              have SR := Lib.hid (SR.out.kp (Kp.drewN_ _ q))
              have FR := Lib.hid (FR.out.kp (Kp.drewN_ _ q))
              have CT := Lib.hid (CT.out.kp (Kp.drewN_ _ q))
              go_wp2_with fail
              refine (C5.out _ _ _ _ _ TT.out).mono ?_; rintro e0 w5 ⟨rfl, k5⟩
              have K := Lib.hid (K.out.tr k5)
              have TB := Lib.hid (TB.out.kp k5)
              have SB := Lib.hid (SB.out.kp k5)
              have FB := Lib.hid (FB.out.kp k5)
              have CB := Lib.hid (CB.out.kp k5)
              have TT := Lib.hid (TT.out.kp k5)
              have SR := Lib.hid (SR.out.kp k5)
              have FR := Lib.hid (FR.out.kp k5)
              have CT := Lib.hid (CT.out.kp k5)
              clear k5 tb0 tb1 sb0 sb1 fb0 fb1 cb0 cb1
              have tb0 := TB.out.c0
              have tb1 := TB.out.c1
              have tb2 := TB.out.lt
              have sb0 := SB.out.c0
              have sb1 := SB.out.c1
              have sb2 := SB.out.lt
              have fb0 := FB.out.c0
              have fb1 := FB.out.c1
              have fb2 := FB.out.lt
              have cb0 := CB.out.c0
              have cb1 := CB.out.c1
              have cb2 := CB.out.lt
              go_wp2_with fail
              refine (C6.out _ K.out).mono ?_; rintro e0 w6 ⟨rfl, k6⟩
              have K := Lib.hid (K.out.tr k6)
              have TB := Lib.hid (TB.out.kp k6)
              have SB := Lib.hid (SB.out.kp k6)
              have FB := Lib.hid (FB.out.kp k6)
              have CB := Lib.hid (CB.out.kp k6)
              have TT := Lib.hid (TT.out.kp k6)
              have SR := Lib.hid (SR.out.kp k6)
              have FR := Lib.hid (FR.out.kp k6)
              have CT := Lib.hid (CT.out.kp k6)
              clear k6 tb0 tb1 tb2 sb0 sb1 sb2 fb0 fb1 fb2 cb0 cb1 cb2
              have tb0 := TB.out.c0
              have tb1 := TB.out.c1
              have tb2 := TB.out.lt
              have sb0 := SB.out.c0
              have sb1 := SB.out.c1
              have sb2 := SB.out.lt
              have fb0 := FB.out.c0
              have fb1 := FB.out.c1
              have fb2 := FB.out.lt
              have cb0 := CB.out.c0
              have cb1 := CB.out.c1
              have cb2 := CB.out.lt
              go_wp2_with fail
              refine (tsame_u SR.out FR.out L3.out.1 L3.out.2).mono ?_; rintro e0 w7 ⟨rfl, k7⟩
              have K := Lib.hid (K.out.tr k7)
              have TB := Lib.hid (TB.out.kp k7)
              have SB := Lib.hid (SB.out.kp k7)
              have FB := Lib.hid (FB.out.kp k7)
              have CB := Lib.hid (CB.out.kp k7)
              have TT := Lib.hid (TT.out.kp k7)
              have SR := Lib.hid (SR.out.kp k7)
              have FR := Lib.hid (FR.out.kp k7)
              have CT := Lib.hid (CT.out.kp k7)
              clear k7 tb0 tb1 tb2 sb0 sb1 sb2 fb0 fb1 fb2 cb0 cb1 cb2
              have tb0 := TB.out.c0
              have tb1 := TB.out.c1
              have tb2 := TB.out.lt
              have sb0 := SB.out.c0
              have sb1 := SB.out.c1
              have sb2 := SB.out.lt
              have fb0 := FB.out.c0
              have fb1 := FB.out.c1
              have fb2 := FB.out.lt
              have cb0 := CB.out.c0
              have cb1 := CB.out.c1
              have cb2 := CB.out.lt
              go_wp2_with fail
              refine (C7.out _ K.out).mono ?_; rintro e0 w8 ⟨rfl, k8⟩
              have K := Lib.hid (K.out.tr k8)
              have TB := Lib.hid (TB.out.kp k8)
              have SB := Lib.hid (SB.out.kp k8)
              have FB := Lib.hid (FB.out.kp k8)
              have CB := Lib.hid (CB.out.kp k8)
              have TT := Lib.hid (TT.out.kp k8)
              have SR := Lib.hid (SR.out.kp k8)
              have FR := Lib.hid (FR.out.kp k8)
              have CT := Lib.hid (CT.out.kp k8)
              clear k8 tb0 tb1 tb2 sb0 sb1 sb2 fb0 fb1 fb2 cb0 cb1 cb2
              have tb0 := TB.out.c0
              have tb1 := TB.out.c1
              have tb2 := TB.out.lt
              have sb0 := SB.out.c0
              have sb1 := SB.out.c1
              have sb2 := SB.out.lt
              have fb0 := FB.out.c0
              have fb1 := FB.out.c1
              have fb2 := FB.out.lt
              have cb0 := CB.out.c0
              have cb1 := CB.out.c1
              have cb2 := CB.out.lt
              go_wp2
              go_ret
              exact ⟨rfl, K.out⟩
          · subst q0 q1
            rcases HF.out with ⟨q0, q1, _⟩ | ⟨q0, q1, _⟩
            · subst q0 q1
              have K := HQ
              have TB := Lib.hid (TB.out.kp (Kp.drewN_ _ q))
              have SB := Lib.hid (SB.out.kp (Kp.drewN_ _ q))
              have FB := Lib.hid (FB.out.kp (Kp.drewN_ _ q))
              have CB := Lib.hid (CB.out.kp (Kp.drewN_ _ q))
              have TT := Lib.hid (TT.out.kp (Kp.drewN_ _ q))
              have SR := Lib.hid (SR.out.kp (Kp.drewN_ _ q))
              have FR := Lib.hid (FR.out.kp (Kp.drewN_ _ q))
              have CT := Lib.hid (CT.out.kp (Kp.drewN_ _ q))
              go_wp2_with fail
              refine (C5.out _ _ _ _ _ TT.out).mono ?_; rintro e0 w5 ⟨rfl, k5⟩
              have K := Lib.hid (K.out.tr k5)
              have TB := Lib.hid (TB.out.kp k5)
              have SB := Lib.hid (SB.out.kp k5)
              have FB := Lib.hid (FB.out.kp k5)
              have CB := Lib.hid (CB.out.kp k5)
              have TT := Lib.hid (TT.out.kp k5)
              have SR := Lib.hid (SR.out.kp k5)
              have FR := Lib.hid (FR.out.kp k5)
              have CT := Lib.hid (CT.out.kp k5)
              clear k5 tb0 tb1 sb0 sb1 fb0 fb1 cb0 cb1
              have tb0 := TB.out.c0
              have tb1 := TB.out.c1
              have tb2 := TB.out.lt
              have sb0 := SB.out.c0
              have sb1 := SB.out.c1
              have sb2 := SB.out.lt
              have fb0 := FB.out.c0
              have fb1 := FB.out.c1
              have fb2 := FB.out.lt
              have cb0 := CB.out.c0
              have cb1 := CB.out.c1
              have cb2 := CB.out.lt
              go_wp2_with fail
              refine (C6.out _ K.out).mono ?_; rintro e0 w6 ⟨rfl, k6⟩
              have K := Lib.hid (K.out.tr k6)
              have TB := Lib.hid (TB.out.kp k6)
              have SB := Lib.hid (SB.out.kp k6)
              have FB := Lib.hid (FB.out.kp k6)
              have CB := Lib.hid (CB.out.kp k6)
              have TT := Lib.hid (TT.out.kp k6)
              have SR := Lib.hid (SR.out.kp k6)
              have FR := Lib.hid (FR.out.kp k6)
              have CT := Lib.hid (CT.out.kp k6)
              clear k6 tb0 tb1 tb2 sb0 sb1 sb2 fb0 fb1 fb2 cb0 cb1 cb2
              have tb0 := TB.out.c0
              have tb1 := TB.out.c1
              have tb2 := TB.out.lt
              have sb0 := SB.out.c0
              have sb1 := SB.out.c1
              have sb2 := SB.out.lt
              have fb0 := FB.out.c0
              have fb1 := FB.out.c1
              have fb2 := FB.out.lt
              have cb0 := CB.out.c0
              have cb1 := CB.out.c1
              have cb2 := CB.out.lt
              go_wp2_with fail
              refine (C7.out _ K.out).mono ?_; rintro e0 w7 ⟨rfl, k7⟩
              have K := Lib.hid (K.out.tr k7)
              have TB := Lib.hid (TB.out.kp k7)
              have SB := Lib.hid (SB.out.kp k7)
              have FB := Lib.hid (FB.out.kp k7)
              have CB := Lib.hid (CB.out.kp k7)
              have TT := Lib.hid (TT.out.kp k7)
              have SR := Lib.hid (SR.out.kp k7)
              have FR := Lib.hid (FR.out.kp k7)
              have CT := Lib.hid (CT.out.kp k7)
              clear k7 tb0 tb1 tb2 sb0 sb1 sb2 fb0 fb1 fb2 cb0 cb1 cb2
              have tb0 := TB.out.c0
              have tb1 := TB.out.c1
              have tb2 := TB.out.lt
              have sb0 := SB.out.c0
              have sb1 := SB.out.c1
              have sb2 := SB.out.lt
              have fb0 := FB.out.c0
              have fb1 := FB.out.c1
              have fb2 := FB.out.lt
              have cb0 := CB.out.c0
              have cb1 := CB.out.c1
              have cb2 := CB.out.lt
              go_wp2
              go_ret
              exact ⟨rfl, K.out⟩
            · subst q0 q1
              have K := HQ
              have TB := Lib.hid (TB.out.kp (Kp.drewN_ _ q))
              have SB := Lib.hid (SB.out.kp (Kp.drewN_ _ q))
              have FB := Lib.hid (FB.out.kp (Kp.drewN_ _ q))
              have CB := Lib.hid (CB.out.kp (Kp.drewN_ _ q))
              have TT := Lib.hid (TT.out.kp (Kp.drewN_ _ q))
              have SR := Lib.hid (SR.out.kp (Kp.drewN_ _ q))
              have FR := Lib.hid (FR.out.kp (Kp.drewN_ _ q))
              have CT := Lib.hid (CT.out.kp (Kp.drewN_ _ q))
              go_wp2_with fail
              refine (C5.out _ _ _ _ _ TT.out).mono ?_; rintro e0 w5 ⟨rfl, k5⟩
              have K := Lib.hid (K.out.tr k5)
              have TB := Lib.hid (TB.out.kp k5)
              have SB := Lib.hid (SB.out.kp k5)
              have FB := Lib.hid (FB.out.kp k5)
              have CB := Lib.hid (CB.out.kp k5)
              have TT := Lib.hid (TT.out.kp k5)
              have SR := Lib.hid (SR.out.kp k5)
              have FR := Lib.hid (FR.out.kp k5)
              have CT := Lib.hid (CT.out.kp k5)
              clear k5 tb0 tb1 sb0 sb1 fb0 fb1 cb0 cb1
              have tb0 := TB.out.c0
              have tb1 := TB.out.c1
              have tb2 := TB.out.lt
              have sb0 := SB.out.c0
              have sb1 := SB.out.c1
              have sb2 := SB.out.lt
              have fb0 := FB.out.c0
              have fb1 := FB.out.c1
              have fb2 := FB.out.lt
              have cb0 := CB.out.c0
              have cb1 := CB.out.c1
              have cb2 := CB.out.lt
              go_wp2_with fail
              refine (C6.out _ K.out).mono ?_; rintro e0 w6 ⟨rfl, k6⟩
              have K := Lib.hid (K.out.tr k6)
              have TB := Lib.hid (TB.out.kp k6)
              have SB := Lib.hid (SB.out.kp k6)
              have FB := Lib.hid (FB.out.kp k6)
              have CB := Lib.hid (CB.out.kp k6)
              have TT := Lib.hid (TT.out.kp k6)
              have SR := Lib.hid (SR.out.kp k6)
              have FR := Lib.hid (FR.out.kp k6)
              have CT := Lib.hid (CT.out.kp k6)
              clear k6 tb0 tb1 tb2 sb0 sb1 sb2 fb0 fb1 fb2 cb0 cb1 cb2
              have tb0 := TB.out.c0
              have tb1 := TB.out.c1
              have tb2 := TB.out.lt
              have sb0 := SB.out.c0
              have sb1 := SB.out.c1
              have sb2 := SB.out.lt
              have fb0 := FB.out.c0
              have fb1 := FB.out.c1
              have fb2 := FB.out.lt
              have cb0 := CB.out.c0
              have cb1 := CB.out.c1
              have cb2 := CB.out.lt
              go_wp2_with fail
              refine (C7.out _ K.out).mono ?_; rintro e0 w7 ⟨rfl, k7⟩
              have K := Lib.hid (K.out.tr k7)
              have TB := Lib.hid (TB.out.kp k7)
              have SB := Lib.hid (SB.out.kp k7)
              have FB := Lib.hid (FB.out.kp k7)
              have CB := Lib.hid (CB.out.kp k7)
              have TT := Lib.hid (TT.out.kp k7)
              have SR := Lib.hid (SR.out.kp k7)
              have FR := Lib.hid (FR.out.kp k7)
              have CT := Lib.hid (CT.out.kp k7)
              clear k7 tb0 tb1 tb2 sb0 sb1 sb2 fb0 fb1 fb2 cb0 cb1 cb2
              have tb0 := TB.out.c0
              have tb1 := TB.out.c1
              have tb2 := TB.out.lt
              have sb0 := SB.out.c0
              have sb1 := SB.out.c1
              have sb2 := SB.out.lt
              have fb0 := FB.out.c0
              have fb1 := FB.out.c1
              have fb2 := FB.out.lt
              have cb0 := CB.out.c0
              have cb1 := CB.out.c1
              have cb2 := CB.out.lt
              go_wp2
              go_ret
              exact ⟨rfl, K.out⟩

theorem tfull_walk (A C : Option Addr) (c e : Nat) (s u : List Int) (x : Int) (w : World) (hA : Rd w A s) (hC : Rd w C u) :
    Calls Try.prog 6 #[.slice A s.length c, .slice C u.length e, .int .i64 x] w fun e w' => e = .returned (.bool true) ∧ Kp w w' := by
  by_cases hf : 100 < s.length ∨ 100 < u.length ∨ x < -1099511627776 ∨ 1099511627776 < x
  · exact tfull_far A C c e _ _ x w hA.len hC.len hf
  · have hn : s.length ≤ 100 := by omega
    have ho : u.length ≤ 100 := by omega
    have x1 : ¬ x < -1099511627776 := by omega
    have x2 : ¬ 1099511627776 < x := by omega
    have hx : -1099511627776 ≤ x ∧ x ≤ 1099511627776 := by omega
    cases hs : okS s with
    | false => exact tfull_none A C c e _ _ x w hn ho x1 x2 _ _ _ _ (Lib.hid fun W k => full_u s x (hA.kp k) rfl (TnE.full_no x hs) rfl rfl) (Lib.hid fun W k => check_n s (hA.kp k) rfl hs)
    | true =>
      have hN := size_nat hs
      have hp := ok_prod hs
      obtain ⟨k1, hk1⟩ : ∃ k, k = List.replicate (sizeV s).toNat x := ⟨_, rfl⟩
      have hl1 : k1.length = (sizeV s).toNat := by rw [hk1, List.length_replicate]
      have htok := full_tok x hs
      have hi : I64s k1 := by rw [hk1]; exact I64s.rep (by omega)
      have r1 := TnE.full_yes x hs
      have hR : ∀ (i : Nat) (y : Int), k1[i]? = some y → y = x := fun i y h => by rw [hk1] at h; exact (List.mem_replicate.1 (List.mem_of_getElem? h)).2
      obtain ⟨l2, k2, e2, r2⟩ : ∃ l k e, spreadV s k1 u = (l, k, e) := ⟨_, _, _, rfl⟩
      obtain ⟨l3, k3, e3, r3⟩ : ∃ l k e, fullV u x = (l, k, e) := ⟨_, _, _, rfl⟩
      obtain ⟨l4, k4, e4, r4⟩ : ∃ l k e, foldV s k1 u = (l, k, e) := ⟨_, _, _, rfl⟩
      rw [← hk1] at r1 htok
      have HE : Hid ((e2 = 0 ∧ fitsV s u = true ∧ e3 = 0 ∧ l2 = l3 ∧ k2 = k3 ∧ l2.length = l3.length ∧ k2.length = k3.length) ∨ (e2 = 20 ∧ fitsV s u = false)) := by
        cases hfit : fitsV s u with
        | true =>
          have q := full_spread x hfit
          rw [← hk1, r2, r3] at q
          have q' := TnE.full_yes x (fits_al hfit).2.1
          rw [r3] at q'
          simp only [Prod.mk.injEq] at q q'
          obtain ⟨q1, q2, q3⟩ := q
          exact .inl ⟨by rw [q3]; exact q'.2.2, rfl, q'.2.2, q1, q2, by rw [q1], by rw [q2]⟩
        | false =>
          rcases spread_cases s k1 u with ⟨q, _⟩ | ⟨_, _, q⟩ | ⟨_, q, _⟩
          · rw [htok] at q; cases q
          · rw [r2] at q
            simp only [Prod.mk.injEq] at q
            exact .inr ⟨q.2.2, rfl⟩
          · rw [hfit] at q; cases q
      have HF : k4.length ≤ 64 ∧ Hid ((e4 = 0 ∧ fitsV u s = true ∧ ∀ (i : Nat) (y : Int), k4[i]? = some y → y * (k4.length : Int) = x * (k1.length : Int)) ∨ (e4 = 20 ∧ fitsV u s = false ∧ k4.length = 0)) := by
        cases hfit : fitsV u s with
        | true =>
          obtain ⟨cc, q, ql, qq⟩ := full_fold hfit hx
          rw [← hk1, r4] at q
          simp only [Prod.mk.injEq] at q
          obtain ⟨_, q2, q3⟩ := q
          subst q2
          have hu := (fits_al hfit).1
          have := size_nat hu
          have := ok_prod hu
          exact ⟨by omega, .inl ⟨q3, rfl, fun i y h => by rw [hl1]; exact (qq i y h).1⟩⟩
        | false =>
          rcases fold_cases s k1 u with ⟨q, _⟩ | ⟨_, _, q⟩ | ⟨_, q, _, _⟩ | ⟨_, q, _, _⟩
          · rw [htok] at q; cases q
          · rw [r4] at q
            simp only [Prod.mk.injEq] at q
            rw [q.2.1]
            exact ⟨by simp, .inr ⟨q.2.2, rfl, rfl⟩⟩
          · rw [hfit] at q; cases q
          · rw [hfit] at q; cases q
      exact tfull_with A C c e _ _ x w hn ho x1 x2 s k1 l2 k2 l3 k3 l4 k4 _ _ _ _ _ _ _ e2 e3 e4 _ _ (by omega) HF.1 (Lib.hid rfl) (Lib.hid ⟨rfl, rfl⟩) (Lib.hid rfl) (Lib.hid hR) HE HF.2
        (Lib.hid fun W k => full_u s x (hA.kp k) rfl r1 rfl rfl)
        (Lib.hid fun W A0 B0 c0 d0 k r => spread_u s k1 u r (hC.kp k) rfl rfl rfl r2 rfl rfl)
        (Lib.hid fun W k => full_u u x (hC.kp k) rfl r3 rfl rfl)
        (Lib.hid fun W A0 B0 c0 d0 k r => fold_u s k1 u r (hC.kp k) hi rfl rfl rfl r4 rfl rfl)
        (Lib.hid fun W A0 B0 c0 d0 r => tcheck_u s k1 r rfl rfl htok)
        (Lib.hid fun W k => fits_n s u (hA.kp k) (hC.kp k) rfl rfl rfl)
        (Lib.hid fun W k => fits_n u s (hC.kp k) (hA.kp k) rfl rfl rfl)
end Go.Proofs.Ytdekchfapblgeaa
