/- A number in fewer bytes is what it is in eight, without noughts ahead: the law's call returns true. -/
import Derived.Test.YtngdblojglcfpaaPkBack
import Derived.Deep.QuietTactic
import Derived.BigQuiet
import Derived.Deep.Cut
import Derived.Deep.CutBlock
import Derived.Deep.CutRange
import Derived.Deep.DeepCutAuto
namespace Go.Proofs.Ytngdblojglcfpaa
open Go.RowKit Go.Proofs.ShM Go.Proofs.PkM
set_option linter.unusedVariables false

set_option maxHeartbeats 8000000 in
set_option maxRecDepth 100000 in
theorem pwide_with (n : Int) (r1 r2 r8 : List Int) (e1 e2 : Int) (k1 k2 : Nat) (w : World)
    (H1 : Hid ((e1 = 40 ∧ n < 0) ∨ (e1 = 40 ∧ ¬ n < 0 ∧ 255 < n) ∨ (e1 = 0 ∧ r8 = List.replicate 7 0 ++ r1))) (H2 : Hid ((e2 = 40 ∧ n < 0) ∨ (e2 = 40 ∧ ¬ n < 0 ∧ 65535 < n) ∨ (e2 = 0 ∧ r8 = List.replicate 6 0 ++ r2)))
    (LL : Hid (r1.length = k1 ∧ r2.length = k2 ∧ r8.length = 8))
    (HAW : Hid (∀ w : World, Calls Try.prog 8 #[] w fun e w' => e = .returned (.bool true) ∧ Kp w w'))
    (C1 : Hid (∀ W, Kp w W → Calls Try.prog 9 #[.slice none 0 0, .int .i64 n, .int .i64 1] W (RetB r1 e1 k1 W)))
    (C2 : Hid (∀ W, Kp w W → Calls Try.prog 9 #[.slice none 0 0, .int .i64 n, .int .i64 2] W (RetB r2 e2 k2 W)))
    (C8 : Hid (∀ W, Kp w W → Calls Try.prog 9 #[.slice none 0 0, .int .i64 n, .int .i64 8] W (RetB r8 0 8 W))) :
    Calls Try.prog 7 #[.int .i64 n] w fun e w' => e = .returned (.bool true) ∧ Kp w w' := by
  go_enter Try.func7, Try.ntmps7
  go_wp2_with fail
  refine (HAW.out _).mono ?_; rintro e0 w1 ⟨rfl, k1_⟩
  have K := Lib.hid k1_
  clear k1_
  go_wp2_with fail
  refine (C1.out _ K.out).mono ?_; rintro e0 w2 ⟨A1, c1, rfl, ra, la, k2_⟩
  have K := Lib.hid (K.out.tr k2_)
  clear k2_
  go_wp2_with fail
  refine (C2.out _ K.out).mono ?_; rintro e0 w3 ⟨A2, c2, rfl, rb, lb, k3⟩
  have ra := Lib.hid (ra.out.kp k3)
  have K := Lib.hid (K.out.tr k3)
  clear k3
  go_wp2_with fail
  refine (C8.out _ K.out).mono ?_; rintro e0 w4 ⟨A8, c8, rfl, r, lr, k4⟩
  have ra := Lib.hid (ra.out.kp k4)
  have rb := Lib.hid (rb.out.kp k4)
  have K := Lib.hid (K.out.tr k4)
  clear k4
  go_upto_region 7 with fail
  go_cut [10] (fun v wx => v = .bool true ∧ Hid (Kp w4 wx))
  case first =>
    rcases H1.out with ⟨h0, h1⟩ | ⟨h0, h1, h2⟩ | ⟨h0, h1⟩
    · subst h0
      have d1 : decide (n < 0) = true := by simpa using h1
      go_quiet (fail)
      go_wp2
      go_meet
      exact ⟨rfl, Kp.drewN_ _ _⟩
    · subst h0
      have d1 : decide (n < 0) = false := by simpa using h1
      go_quiet (fail)
      go_wp2
      go_meet
      exact ⟨rfl, Kp.drewN_ _ _⟩
    · subst h0
      have g2 := Lib.hid h1
      clear h1 H1 H2 C1 C2 C8
      obtain ⟨cs, hmk, hown⟩ := B8.mk_ 7 (by omega)
      have hmk : ∀ W : World, (Instr.makeSlice 23 (.int .i64 7) (.int .i64 7)).run Try.prog W = .ok (.slice (some ⟨W.heap.size, 0, none⟩) 7 7) (W.alloc (.cells cs 5)) := hmk
      have kd : Kp w4 w4.drew := ⟨rfl, rfl, rfl, Nat.le_refl _, fun _ _ => rfl⟩
      have kk : Kp w4 (w4.alloc (.cells cs 5)).drew := (Kp.alloc_ _ _).tr ⟨rfl, rfl, rfl, Nat.le_refl _, fun _ _ => rfl⟩
      obtain ⟨rd7, _, _⟩ := B8.own_rd (hown w4 0 (Nat.zero_le _))
      obtain ⟨z, hz⟩ : ∃ z : List Int, z = List.replicate 7 0 := ⟨_, rfl⟩
      rw [← hz] at rd7
      have hzl : 7 = z.length := by rw [hz, List.length_replicate]
      have p8 := run_str c8 (r.out.kp kd) LL.out.2.2.symm
      have p1 := run_str c1 (ra.out.kp kd) LL.out.1.symm
      have q8 := run_str c8 (r.out.kp kk) LL.out.2.2.symm
      have q1 := run_str c1 (ra.out.kp kk) LL.out.1.symm
      have q7 := run_str 7 (rd7.kp (show Kp _ (w4.alloc (.cells cs 5)).drew from ⟨rfl, rfl, rfl, Nat.le_refl _, fun _ _ => rfl⟩)) hzl
      have q6 : strOfNums z ++ strOfNums r1 = strOfNums r8 := by rw [g2.out, hz]; exact str_add _ _
      have q5 := str_self r8
      have q9 : ¬ 9223372036854775807 < (strOfNums z).size + (strOfNums r1).size := by
        have h1 : (strOfNums z).size = z.length := strOfNums_size z
        have h3 : (strOfNums r1).size = r1.length := strOfNums_size r1
        have h4 : r8.length = 7 + r1.length := by rw [g2.out, List.length_append, List.length_replicate]
        have h5 := LL.out.2.2
        omega
      have HK := Lib.hid kk
      clear hz hzl hown rd7 kd kk
      go_region
      go_wp2
      go_meet
      exact ⟨rfl, HK.out⟩
  case rest =>
    obtain ⟨rfl, k5⟩ := hcut
    have r := Lib.hid (r.out.kp k5.out)
    have rb := Lib.hid (rb.out.kp k5.out)
    have K := Lib.hid (K.out.tr k5.out)
    clear k5 ra
    go_upto_region 8 with fail
    go_cut [11] (fun v wx => v = .bool true ∧ Hid (Kp wc wx))
    case first =>
      rcases H2.out with ⟨h0, h1⟩ | ⟨h0, h1, h2⟩ | ⟨h0, h1⟩
      · subst h0
        have d1 : decide (n < 0) = true := by simpa using h1
        go_quiet (fail)
        go_wp2
        go_meet
        exact ⟨rfl, Kp.drewN_ _ _⟩
      · subst h0
        have d1 : decide (n < 0) = false := by simpa using h1
        go_quiet (fail)
        go_wp2
        go_meet
        exact ⟨rfl, Kp.drewN_ _ _⟩
      · subst h0
        have g2 := Lib.hid h1
        clear h1 H1 H2 C1 C2 C8
        obtain ⟨cs, hmk, hown⟩ := B8.mk_ 6 (by omega)
        have hmk : ∀ W : World, (Instr.makeSlice 23 (.int .i64 6) (.int .i64 6)).run Try.prog W = .ok (.slice (some ⟨W.heap.size, 0, none⟩) 6 6) (W.alloc (.cells cs 5)) := hmk
        have kd : Kp wc wc.drew := ⟨rfl, rfl, rfl, Nat.le_refl _, fun _ _ => rfl⟩
        have kk : Kp wc (wc.alloc (.cells cs 5)).drew := (Kp.alloc_ _ _).tr ⟨rfl, rfl, rfl, Nat.le_refl _, fun _ _ => rfl⟩
        obtain ⟨rd7, _, _⟩ := B8.own_rd (hown wc 0 (Nat.zero_le _))
        obtain ⟨z, hz⟩ : ∃ z : List Int, z = List.replicate 6 0 := ⟨_, rfl⟩
        rw [← hz] at rd7
        have hzl : 6 = z.length := by rw [hz, List.length_replicate]
        have p8 := run_str c8 (r.out.kp kd) LL.out.2.2.symm
        have p1 := run_str c2 (rb.out.kp kd) LL.out.2.1.symm
        have q8 := run_str c8 (r.out.kp kk) LL.out.2.2.symm
        have q1 := run_str c2 (rb.out.kp kk) LL.out.2.1.symm
        have q7 := run_str 6 (rd7.kp (show Kp _ (wc.alloc (.cells cs 5)).drew from ⟨rfl, rfl, rfl, Nat.le_refl _, fun _ _ => rfl⟩)) hzl
        have q6 : strOfNums z ++ strOfNums r2 = strOfNums r8 := by rw [g2.out, hz]; exact str_add _ _
        have q5 := str_self r8
        have q9 : ¬ 9223372036854775807 < (strOfNums z).size + (strOfNums r2).size := by
          have h1 : (strOfNums z).size = z.length := strOfNums_size z
          have h3 : (strOfNums r2).size = r2.length := strOfNums_size r2
          have h4 : r8.length = 6 + r2.length := by rw [g2.out, List.length_append, List.length_replicate]
          have h5 := LL.out.2.2
          omega
        have HK := Lib.hid kk
        clear hz hzl hown rd7 kd kk
        go_region
        go_wp2
        go_meet
        exact ⟨rfl, HK.out⟩
    case rest =>
      obtain ⟨rfl, k6⟩ := hcut
      go_wp2
      go_ret
      exact ⟨rfl, K.out.tr k6.out⟩

set_option maxHeartbeats 4000000 in
theorem pwide_walk (C : PkC) (n : Int) (w : World) (hn : I64 n) :
    Calls Try.prog 7 #[.int .i64 n] w fun e w' => e = .returned (.bool true) ∧ Kp w w' := by
  have nob : Bytes [] := fun _ h => by cases h
  have CP : ∀ (k : Int) (r : List Int) (e : Int) (m : Nat), I64 k → putV [] n k = (r, e) → r.length = m → Hid (∀ W, Kp w W → Calls Try.prog 9 #[.slice none 0 0, .int .i64 n, .int .i64 k] W (RetB r e m W)) := fun k r e m hk h hm W _ =>
    C.put none 0 0 [] n k r e m W (B8.Rd.nil _ _) (by simp) (by simp) (by simp) nob hn hk rfl h hm
  obtain ⟨r1, e1, h1⟩ : ∃ r1 e1, putV [] n 1 = (r1, e1) := ⟨_, _, rfl⟩
  obtain ⟨r2, e2, h2⟩ : ∃ r2 e2, putV [] n 2 = (r2, e2) := ⟨_, _, rfl⟩
  have h8 : putV [] n 8 = (byteL n 8, 0) := by
    unfold putV
    rw [if_pos (by unfold mayB; simp)]
    rfl
  have P1 : (e1 = 40 ∧ n < 0) ∨ (e1 = 40 ∧ ¬ n < 0 ∧ 255 < n) ∨ (e1 = 0 ∧ byteL n 8 = List.replicate 7 0 ++ r1) := by
    unfold putV at h1
    split at h1
    · rename_i g
      injection h1 with h1 h3
      subst h1 h3
      refine Or.inr (Or.inr ⟨rfl, wide_one ?_⟩)
      unfold mayB at g
      simpa using g
    · rename_i g
      injection h1 with h1 h3
      subst h1 h3
      unfold mayB at g
      simp at g
      omega
  have P2 : (e2 = 40 ∧ n < 0) ∨ (e2 = 40 ∧ ¬ n < 0 ∧ 65535 < n) ∨ (e2 = 0 ∧ byteL n 8 = List.replicate 6 0 ++ r2) := by
    unfold putV at h2
    split at h2
    · rename_i g
      injection h2 with h2 h3
      subst h2 h3
      refine Or.inr (Or.inr ⟨rfl, wide_two ?_⟩)
      unfold mayB at g
      simpa using g
    · rename_i g
      injection h2 with h2 h3
      subst h2 h3
      unfold mayB at g
      simp at g
      omega
  have i : ∀ x : Int, 0 ≤ x → x ≤ 1000 → I64 x := fun x h1 h2 => by unfold I64; omega
  exact pwide_with n r1 r2 (byteL n 8) e1 e2 r1.length r2.length w P1 P2 ⟨rfl, rfl, byte_len 8 n⟩ (pkawake_any C) (CP 1 r1 e1 _ (i _ (by omega) (by omega)) h1 rfl) (CP 2 r2 e2 _ (i _ (by omega) (by omega)) h2 rfl) (CP 8 _ 0 8 (i _ (by omega) (by omega)) h8 (byte_len 8 n))
end Go.Proofs.Ytngdblojglcfpaa
