/- A greater number has no lesser sum, product by what is not below 0, quotient by what is above 0, and no lesser power: the law's call returns true. -/
import Derived.Test.YtlnbphmeinjefaaFixW
import Derived.Test.YtlnbphmeinjefaaFixOrderM
import Derived.Deep.DeepCutAuto
namespace Go.Proofs.Ytlnbphmeinjefaa
open Go.RowKit Go.Proofs.FixM

set_option maxHeartbeats 4000000 in
set_option maxRecDepth 100000 in
theorem order_with (a b c lo hi : Int) (w : World) (X Y P Q D K M N : Int × Int)
    (hlo : Hid ((b < a ∧ lo = b) ∨ (¬ b < a ∧ lo = a))) (hhi : Hid ((a < b ∧ hi = b) ∨ (¬ a < b ∧ hi = a)))
    (A1 : Hid (∀ w', Calls Try.prog 11 #[.int .i64 lo, .int .i64 c] w' (Two X w')))
    (B1 : Hid (∀ w', Calls Try.prog 11 #[.int .i64 hi, .int .i64 c] w' (Two Y w')))
    (A2 : Hid (∀ w', Calls Try.prog 15 #[.int .i64 lo, .int .i64 c] w' (Two P w')))
    (B2 : Hid (∀ w', Calls Try.prog 15 #[.int .i64 hi, .int .i64 c] w' (Two Q w')))
    (A3 : Hid (∀ w', Calls Try.prog 17 #[.int .i64 lo, .int .i64 c] w' (Two D w')))
    (B3 : Hid (∀ w', Calls Try.prog 17 #[.int .i64 hi, .int .i64 c] w' (Two K w')))
    (A4 : Hid (∀ w', Calls Try.prog 23 #[.int .i64 lo] w' (Two M w')))
    (B4 : Hid (∀ w', Calls Try.prog 23 #[.int .i64 hi] w' (Two N w')))
    (k1 : Hid (((X.2 != 0) || (Y.2 != 0) || decide (X.1 ≤ Y.1)) = true))
    (k2 : Hid (((P.2 != 0) || (Q.2 != 0) || decide (c < 0) || decide (P.1 ≤ Q.1)) = true))
    (k3 : Hid (((D.2 != 0) || (K.2 != 0) || decide (c ≤ 0) || decide (D.1 ≤ K.1)) = true))
    (k4 : Hid (((N.2 != 0) || ((M.2 == 0) && decide (M.1 ≤ N.1) && decide (0 ≤ M.1))) = true)) :
    Calls Try.prog 8 #[.int .i64 a, .int .i64 b, .int .i64 c] w fun e w' => e = .returned (.bool true) ∧ Gr w w' := by
  go_enter Try.func8, Try.ntmps8
  go_wp2_with fail
  refine (awake_any _).mono ?_; rintro e w0 ⟨rfl, h0⟩
  go_upto_region 2 with fail
  go_cut [8] (fun s wx => s = .int .i64 lo ∧ Gr w wx)
  case first =>
    rcases hlo.out with ⟨c1, c2⟩ | ⟨c1, c2⟩
    all_goals
      subst c2
      go_wp2_with fail
      all_goals go_meet
      all_goals exact ⟨rfl, h0⟩
  case rest =>
    obtain ⟨rfl, g0⟩ := hcut
    go_upto_region 3 with fail
    go_cut [9] (fun s wx => s = .int .i64 hi ∧ Gr w wx)
    case first =>
      rcases hhi.out with ⟨c1, c2⟩ | ⟨c1, c2⟩
      all_goals
        subst c2
        go_wp2_with fail
        all_goals go_meet
        all_goals exact ⟨rfl, g0⟩
    case rest =>
      obtain ⟨rfl, g0'⟩ := hcut
      clear g0 h0
      go_wp2_with fail
      refine (A1.out _).mono ?_; rintro e u1 ⟨rfl, g1⟩
      go_wp2_with fail
      refine (B1.out _).mono ?_; rintro e v1 ⟨rfl, j1⟩
      go_wp2_with fail
      refine (A2.out _).mono ?_; rintro e u2 ⟨rfl, g2⟩
      go_wp2_with fail
      refine (B2.out _).mono ?_; rintro e v2 ⟨rfl, j2⟩
      go_wp2_with fail
      refine (A3.out _).mono ?_; rintro e u3 ⟨rfl, g3⟩
      go_wp2_with fail
      refine (B3.out _).mono ?_; rintro e v3 ⟨rfl, j3⟩
      go_wp2_with fail
      refine (A4.out _).mono ?_; rintro e u4 ⟨rfl, g4⟩
      go_wp2_with fail
      refine (B4.out _).mono ?_; rintro e v4 ⟨rfl, j4⟩
      have G := g0'.trans (g1.trans (j1.trans (g2.trans (j2.trans (g3.trans (j3.trans (g4.trans j4)))))))
      clear g0' g1 j1 g2 j2 g3 j3 g4 j4
      go_upto_region 12 with fail
      go_cut [26] (fun s wx => s = .bool true ∧ Gr w wx)
      case first =>
        have k := k1.out
        obtain ⟨b1, e1⟩ : ∃ b1, (X.2 != 0) = b1 := ⟨_, rfl⟩
        obtain ⟨b2, e2⟩ : ∃ b2, (Y.2 != 0) = b2 := ⟨_, rfl⟩
        obtain ⟨b3, e3⟩ : ∃ b3, decide (X.1 ≤ Y.1) = b3 := ⟨_, rfl⟩
        rw [e1, e2, e3] at k
        have kh := Lib.hid k; clear k
        cases b1 <;> cases b2 <;> cases b3
        all_goals first
          | exact absurd kh.out (by decide)
          | (go_wp2_with fail
             all_goals go_meet
             all_goals exact ⟨rfl, G⟩)
      case rest =>
        obtain ⟨rfl, G1⟩ := hcut
        go_upto_region 13 with fail
        go_cut [27] (fun s wx => s = .bool true ∧ Gr w wx)
        case first =>
          have k := k2.out
          obtain ⟨b1, e1⟩ : ∃ b1, (P.2 != 0) = b1 := ⟨_, rfl⟩
          obtain ⟨b2, e2⟩ : ∃ b2, (Q.2 != 0) = b2 := ⟨_, rfl⟩
          obtain ⟨b3, e3⟩ : ∃ b3, decide (c < 0) = b3 := ⟨_, rfl⟩
          obtain ⟨b4, e4⟩ : ∃ b4, decide (P.1 ≤ Q.1) = b4 := ⟨_, rfl⟩
          rw [e1, e2, e3, e4] at k
          have kh := Lib.hid k; clear k
          cases b1 <;> cases b2 <;> cases b3 <;> cases b4
          all_goals first
            | exact absurd kh.out (by decide)
            | (go_wp2_with fail
               all_goals go_meet
               all_goals exact ⟨rfl, G1⟩)
        case rest =>
          obtain ⟨rfl, G2⟩ := hcut
          go_upto_region 14 with fail
          go_cut [28] (fun s wx => s = .bool true ∧ Gr w wx)
          case first =>
            have k := k3.out
            obtain ⟨b1, e1⟩ : ∃ b1, (D.2 != 0) = b1 := ⟨_, rfl⟩
            obtain ⟨b2, e2⟩ : ∃ b2, (K.2 != 0) = b2 := ⟨_, rfl⟩
            obtain ⟨b3, e3⟩ : ∃ b3, decide (c ≤ 0) = b3 := ⟨_, rfl⟩
            obtain ⟨b4, e4⟩ : ∃ b4, decide (D.1 ≤ K.1) = b4 := ⟨_, rfl⟩
            rw [e1, e2, e3, e4] at k
            have kh := Lib.hid k; clear k
            cases b1 <;> cases b2 <;> cases b3 <;> cases b4
            all_goals first
              | exact absurd kh.out (by decide)
              | (go_wp2_with fail
                 all_goals go_meet
                 all_goals exact ⟨rfl, G2⟩)
          case rest =>
            obtain ⟨rfl, G3⟩ := hcut
            have k := k4.out
            obtain ⟨b1, e1⟩ : ∃ b1, (N.2 != 0) = b1 := ⟨_, rfl⟩
            obtain ⟨b2, e2⟩ : ∃ b2, (M.2 == 0) = b2 := ⟨_, rfl⟩
            obtain ⟨b3, e3⟩ : ∃ b3, decide (M.1 ≤ N.1) = b3 := ⟨_, rfl⟩
            obtain ⟨b4, e4⟩ : ∃ b4, decide (0 ≤ M.1) = b4 := ⟨_, rfl⟩
            rw [e1, e2, e3, e4] at k
            have kh := Lib.hid k; clear k
            cases b1 <;> cases b2 <;> cases b3 <;> cases b4
            all_goals first
              | exact absurd kh.out (by decide)
              | (go_wp2
                 all_goals go_ret
                 all_goals first
                   | exact ⟨rfl, G3⟩
                   | (exfalso; rename_i u v; clear v; simp at u; done))

theorem same_two {f : FuncId} {args : Array Value} {p : Int × Int} {w : World} (h : Calls Try.prog f args w fun e w' => e = .returned (.tuple #[.int .i64 p.1, .int .i64 p.2]) ∧ w = w') : Calls Try.prog f args w (Two p w) :=
  h.mono fun _ _ ⟨h, k⟩ => ⟨h, k ▸ Gr.refl _⟩

theorem order_walk (a b c : Int) (ha : I64 a) (hb : I64 b) (hc : I64 c) (w : World) :
    Calls Try.prog 8 #[.int .i64 a, .int .i64 b, .int .i64 c] w fun e w' => e = .returned (.bool true) ∧ Gr w w' := by
  have key : ∀ lo hi : Int, I64 lo → I64 hi → lo ≤ hi → ((b < a ∧ lo = b) ∨ (¬ b < a ∧ lo = a)) → ((a < b ∧ hi = b) ∨ (¬ a < b ∧ hi = a)) →
      Calls Try.prog 8 #[.int .i64 a, .int .i64 b, .int .i64 c] w fun e w' => e = .returned (.bool true) ∧ Gr w w' := fun lo hi hl hh hle hlo hhi =>
    order_with a b c lo hi w (addV lo c) (addV hi c) (mulV lo c) (mulV hi c) (divV lo c) (divV hi c) (powV lo) (powV hi) hlo hhi
      (fun w' => same_two (add_any lo c hl hc w')) (fun w' => same_two (add_any hi c hh hc w'))
      (fun w' => mul_any lo c hl hc w') (fun w' => mul_any hi c hh hc w')
      (fun w' => div_any lo c hl hc w') (fun w' => div_any hi c hh hc w')
      (fun w' => pow_any lo hl w') (fun w' => pow_any hi hh w')
      (order_add hle) (order_mul hle) (order_div hle) (order_pow hle)
  by_cases c1 : b < a
  · exact key b a hb ha (by omega) (.inl ⟨c1, rfl⟩) (.inr ⟨by omega, rfl⟩)
  · by_cases c2 : a < b
    · exact key a b ha hb (by omega) (.inr ⟨c1, rfl⟩) (.inl ⟨c2, rfl⟩)
    · exact key a a ha ha (by omega) (.inr ⟨c1, rfl⟩) (.inr ⟨c2, rfl⟩)
end Go.Proofs.Ytlnbphmeinjefaa
