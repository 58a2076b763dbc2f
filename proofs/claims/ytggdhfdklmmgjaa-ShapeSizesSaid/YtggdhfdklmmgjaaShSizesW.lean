/- A shape with a side more has as many numbers times as many: the law's call returns true. -/
import Derived.Test.YtggdhfdklmmgjaaShFitsW
namespace Go.Proofs.Ytggdhfdklmmgjaa
open Go.RowKit Go.Proofs.ShM

set_option maxHeartbeats 2000000 in
/-- It may not be. -/
theorem sizes_bad (A : Option Addr) (c : Nat) (s : List Int) (n : Int) (w : World) (h : Rd w A s) (h1 : s.length ≤ 100) (ho : okS s = false) :
    Calls Try.prog 7 #[.slice A s.length c, .int .i64 n] w fun e w' => e = .returned (.bool true) ∧ Kp w w' := by
  have C1 := check_k (c := c) h ho
  have C2 := size_k (c := c) h (size_no ho)
  have HO := Lib.hid (ok_long_no (n := n) ho)
  have H := Lib.hid h
  clear ho h
  go_enter Try.func7, Try.ntmps7
  go_wp2_with fail
  refine (shawake_any _).mono ?_; rintro e0 w0 ⟨rfl, k0⟩
  have K0 := Lib.hid k0; clear k0
  go_wp2_with (first | (at_builtin; refine wpList_app rfl (.tmp 15) (.tmp 16) rfl _ [1] rfl (Own.one w0 1 (Nat.le_refl _)) A c s _ rfl rfl ((H.out.kp K0.out).alloc_ _) (by simp; omega) (by simp) ?_; intro z1 A1 c1 w1 HZ1 o1 b1; have K01 := Lib.hid (((Below.refl _ _).alloc (Nat.le_refl _) _).trans b1); have K1 := Lib.hid (K0.out.tr K01.out); have R1 := Lib.hid o1.sl.rd; clear o1 b1 K0) | (at_builtin; refine wpList_app rfl (.tmp 18) (.tmp 19) rfl _ [] rfl (Own.zero w1 (Nat.le_refl _)) A c s _ rfl rfl ((H.out.kp K1.out).alloc_ _) (by simp; omega) (by simp) ?_; intro z2 A2 c2 w2 HZ2 o2 b2; have K12 := Lib.hid (((Below.refl _ _).alloc (Nat.le_refl _) _).trans b2); have O2 := Lib.hid o2; have hz2 : z2.length = s.length := congrArg List.length HZ2.out; have HZL := Lib.hid hz2; have HB2 := Lib.hid (K12.out.size); clear o2 b2 hz2) | (at_builtin; refine wpList_app rfl (.tmp 20) (.tmp 22) rfl _ z2 rfl (O2.out.kp (Kp.alloc_ _ _)) _ _ [n] _ rfl rfl (Rd.one w2 n _) (by have := HZL.out; simp; omega) (by have := HB2.out; simp; omega) ?_; intro z3 A3 c3 w3 HZ3 o3 b3; have K13 := Lib.hid ((K12.out.alloc HB2.out _).trans b3); have R3 := Lib.hid o3.sl.rd; have K3 := Lib.hid (K1.out.tr K13.out); clear o3 b3))
  have HE := Lib.hid (show z3 = s ++ [n] from HZ3.out.trans (by rw [HZ2.out, List.nil_append]))
  have HE1 := Lib.hid (show z1 = 1 :: s from HZ1.out)
  clear K12 O2 HZL HB2 R1 HZ1 HZ2 HZ3
  go_wp2_with fail
  refine (C1.out _ K3.out).mono ?_; rintro e1 w4 ⟨rfl, k4⟩
  have K4 := Lib.hid (K3.out.tr k4); have R4 := Lib.hid (R3.out.kp k4); clear k4 K3 R3
  go_wp2_with fail
  refine (C2.out _ K4.out).mono ?_; rintro e1 w5 ⟨rfl, rfl⟩
  go_wp2_with fail
  refine (check_n z3 R4.out rfl (r := false) (by rw [HE.out]; exact HO.out)).mono ?_; rintro e1 w5 ⟨rfl, rfl⟩
  go_wp2
  go_ret
  exact ⟨rfl, K4.out⟩

theorem sizes_fit {s : List Int} {n : Int} (h : okS s = true) (k : Int) (hk : sizeV s = k) :
    (3 ≤ s.length ∧ okS (s ++ [n]) = false) ∨ (s.length < 3 ∧ n < 1 ∧ okS (s ++ [n]) = false) ∨ (s.length < 3 ∧ 16 < n ∧ okS (s ++ [n]) = false) ∨
    (s.length < 3 ∧ 1 ≤ n ∧ n ≤ 16 ∧ 64 < k * n ∧ k * n ≤ 1024 ∧ okS (s ++ [n]) = false) ∨ (s.length < 3 ∧ 1 ≤ n ∧ n ≤ 16 ∧ 0 ≤ k * n ∧ k * n ≤ 64 ∧ okS (s ++ [n]) = true ∧ sizeV (s ++ [n]) = k * n) := by
  subst hk
  have hs := ok_prod h
  have e := ok_snoc (n := n) h
  have no : ¬ (s.length < 3 ∧ 1 ≤ n ∧ n ≤ 16 ∧ sizeV s * n ≤ 64) → okS (s ++ [n]) = false := fun hn => by
    cases c : okS (s ++ [n]) with
    | false => rfl
    | true => exact absurd (e.1 c) hn
  by_cases h3 : s.length < 3
  · by_cases a : n < 1
    · exact .inr (.inl ⟨h3, a, no (by omega)⟩)
    · by_cases b : 16 < n
      · exact .inr (.inr (.inl ⟨h3, b, no (by omega)⟩))
      · have hb : sizeV s * n ≤ 64 * 16 := Int.mul_le_mul (by rw [size_ok h]; omega) (by omega) (by omega) (by omega)
        have hb0 : 0 ≤ sizeV s * n := Int.mul_nonneg (by rw [size_ok h]; omega) (by omega)
        by_cases d : sizeV s * n ≤ 64
        · have f := e.2 ⟨h3, by omega, by omega, d⟩
          exact .inr (.inr (.inr (.inr ⟨h3, by omega, by omega, hb0, d, f, size_snoc h f⟩)))
        · exact .inr (.inr (.inr (.inl ⟨h3, by omega, by omega, by omega, by omega, no (by omega)⟩)))
  · exact .inl ⟨by omega, no (by omega)⟩

set_option maxHeartbeats 4000000 in
/-- It may be. -/
theorem sizes_good (A : Option Addr) (c : Nat) (s : List Int) (n : Int) (w : World) (h : Rd w A s) (h1 : s.length ≤ 3) (ho : okS s = true) (kn : Int) (hkn : sizeV s = kn) (k1 : 1 ≤ kn) (k2 : kn ≤ 64) (f t : Bool)
    (hf : okS (s ++ [n]) = f)
    (hw : (3 ≤ s.length ∧ f = false) ∨ (s.length < 3 ∧ n < 1 ∧ f = false) ∨ (s.length < 3 ∧ 16 < n ∧ f = false) ∨
    (s.length < 3 ∧ 1 ≤ n ∧ n ≤ 16 ∧ 64 < kn * n ∧ kn * n ≤ 1024 ∧ f = false) ∨ (s.length < 3 ∧ 1 ≤ n ∧ n ≤ 16 ∧ 0 ≤ kn * n ∧ kn * n ≤ 64 ∧ f = true ∧ sizeV (s ++ [n]) = kn * n))
    (ht : okS (1 :: s) = t) (ht' : t = decide (s.length < 3)) :
    Calls Try.prog 7 #[.slice A s.length c, .int .i64 n] w fun e w' => e = .returned (.bool true) ∧ Kp w w' := by
  have C1 := check_k (c := c) h ho
  have C2 := size_k (c := c) h hkn
  have HF := Lib.hid hf
  have HT := Lib.hid ht
  have HO := Lib.hid ho
  have HK := Lib.hid hkn
  have H := Lib.hid h
  clear hf ht ho hkn h
  rcases hw with ⟨g3, rfl⟩ | ⟨g3, g1, rfl⟩ | ⟨g3, g1, rfl⟩ | ⟨g3, g1, g2, g4, g5, rfl⟩ | ⟨g3, g1, g2, g4, g5, rfl, hsz⟩
  · obtain rfl : t = false := by rw [ht']; simpa using g3
    have hl3 : s.length = 3 := by omega
    have b3 : ((s.length : Int) == 3) = true := by rw [hl3]; rfl
    clear ht' hl3
    go_enter Try.func7, Try.ntmps7
    go_wp2_with fail
    refine (shawake_any _).mono ?_; rintro e0 w0 ⟨rfl, k0⟩
    have K0 := Lib.hid k0; clear k0
    go_wp2_with (first | (at_builtin; refine wpList_app rfl (.tmp 15) (.tmp 16) rfl _ [1] rfl (Own.one w0 1 (Nat.le_refl _)) A c s _ rfl rfl ((H.out.kp K0.out).alloc_ _) (by simp; omega) (by simp) ?_; intro z1 A1 c1 w1 HZ1 o1 b1; have K01 := Lib.hid (((Below.refl _ _).alloc (Nat.le_refl _) _).trans b1); have K1 := Lib.hid (K0.out.tr K01.out); have R1 := Lib.hid o1.sl.rd; clear o1 b1 K0) | (at_builtin; refine wpList_app rfl (.tmp 18) (.tmp 19) rfl _ [] rfl (Own.zero w1 (Nat.le_refl _)) A c s _ rfl rfl ((H.out.kp K1.out).alloc_ _) (by simp; omega) (by simp) ?_; intro z2 A2 c2 w2 HZ2 o2 b2; have K12 := Lib.hid (((Below.refl _ _).alloc (Nat.le_refl _) _).trans b2); have O2 := Lib.hid o2; have hz2 : z2.length = s.length := congrArg List.length HZ2.out; have HZL := Lib.hid hz2; have HB2 := Lib.hid (K12.out.size); clear o2 b2 hz2) | (at_builtin; refine wpList_app rfl (.tmp 20) (.tmp 22) rfl _ z2 rfl (O2.out.kp (Kp.alloc_ _ _)) _ _ [n] _ rfl rfl (Rd.one w2 n _) (by have := HZL.out; simp; omega) (by have := HB2.out; simp; omega) ?_; intro z3 A3 c3 w3 HZ3 o3 b3; have K13 := Lib.hid ((K12.out.alloc HB2.out _).trans b3); have R3 := Lib.hid o3.sl.rd; have K3 := Lib.hid (K1.out.tr K13.out); clear o3 b3))
    have HE := Lib.hid (show z3 = s ++ [n] from HZ3.out.trans (by rw [HZ2.out, List.nil_append]))
    have HE1 := Lib.hid (show z1 = 1 :: s from HZ1.out)
    clear K12 O2 HZL HB2 HZ1 HZ2 HZ3
    have RR := Lib.hid (And.intro (R1.out.kp K13.out) R3.out); clear R1 R3 K13
    go_wp2_with fail
    refine (C1.out _ K3.out).mono ?_; rintro e1 w4 ⟨rfl, k4⟩
    have K4 := Lib.hid (K3.out.tr k4); have R4 := Lib.hid (And.intro (RR.out.1.kp k4) (RR.out.2.kp k4)); clear k4 K3 RR
    go_wp2_with fail
    refine (C2.out _ K4.out).mono ?_; rintro e1 w5 ⟨rfl, rfl⟩
    go_wp2_with fail
    refine (check_n z1 R4.out.1 rfl (r := false) (by rw [HE1.out]; exact HT.out)).mono ?_; rintro e1 w5 ⟨rfl, rfl⟩
    go_wp2_with fail
    refine (check_n z3 R4.out.2 rfl (r := false) (by rw [HE.out]; exact HF.out)).mono ?_; rintro e1 w5 ⟨rfl, rfl⟩
    go_wp2
    go_ret
    exact ⟨ret_bool (by simp; omega), K4.out⟩
  · obtain rfl : t = true := by rw [ht']; simpa using g3
    have b3 : ((s.length : Int) == 3) = false := by rw [beq_eq_false_iff_ne]; omega
    clear ht'
    go_enter Try.func7, Try.ntmps7
    go_wp2_with fail
    refine (shawake_any _).mono ?_; rintro e0 w0 ⟨rfl, k0⟩
    have K0 := Lib.hid k0; clear k0
    go_wp2_with (first | (at_builtin; refine wpList_app rfl (.tmp 15) (.tmp 16) rfl _ [1] rfl (Own.one w0 1 (Nat.le_refl _)) A c s _ rfl rfl ((H.out.kp K0.out).alloc_ _) (by simp; omega) (by simp) ?_; intro z1 A1 c1 w1 HZ1 o1 b1; have K01 := Lib.hid (((Below.refl _ _).alloc (Nat.le_refl _) _).trans b1); have K1 := Lib.hid (K0.out.tr K01.out); have R1 := Lib.hid o1.sl.rd; clear o1 b1 K0) | (at_builtin; refine wpList_app rfl (.tmp 18) (.tmp 19) rfl _ [] rfl (Own.zero w1 (Nat.le_refl _)) A c s _ rfl rfl ((H.out.kp K1.out).alloc_ _) (by simp; omega) (by simp) ?_; intro z2 A2 c2 w2 HZ2 o2 b2; have K12 := Lib.hid (((Below.refl _ _).alloc (Nat.le_refl _) _).trans b2); have O2 := Lib.hid o2; have hz2 : z2.length = s.length := congrArg List.length HZ2.out; have HZL := Lib.hid hz2; have HB2 := Lib.hid (K12.out.size); clear o2 b2 hz2) | (at_builtin; refine wpList_app rfl (.tmp 20) (.tmp 22) rfl _ z2 rfl (O2.out.kp (Kp.alloc_ _ _)) _ _ [n] _ rfl rfl (Rd.one w2 n _) (by have := HZL.out; simp; omega) (by have := HB2.out; simp; omega) ?_; intro z3 A3 c3 w3 HZ3 o3 b3; have K13 := Lib.hid ((K12.out.alloc HB2.out _).trans b3); have R3 := Lib.hid o3.sl.rd; have K3 := Lib.hid (K1.out.tr K13.out); clear o3 b3))
    have HE := Lib.hid (show z3 = s ++ [n] from HZ3.out.trans (by rw [HZ2.out, List.nil_append]))
    have HE1 := Lib.hid (show z1 = 1 :: s from HZ1.out)
    clear K12 O2 HZL HB2 HZ1 HZ2 HZ3
    have RR := Lib.hid (And.intro (R1.out.kp K13.out) R3.out); clear R1 R3 K13
    go_wp2_with fail
    refine (C1.out _ K3.out).mono ?_; rintro e1 w4 ⟨rfl, k4⟩
    have K4 := Lib.hid (K3.out.tr k4); have R4 := Lib.hid (And.intro (RR.out.1.kp k4) (RR.out.2.kp k4)); clear k4 K3 RR
    go_wp2_with fail
    refine (C2.out _ K4.out).mono ?_; rintro e1 w5 ⟨rfl, rfl⟩
    go_wp2_with fail
    refine (check_n z1 R4.out.1 rfl (r := true) (by rw [HE1.out]; exact HT.out)).mono ?_; rintro e1 w5 ⟨rfl, rfl⟩
    go_wp2_with fail
    refine (size_n z1 R4.out.1 rfl (r := kn) (by rw [HE1.out, size_more HO.out (by omega)]; exact HK.out)).mono ?_; rintro e1 w5 ⟨rfl, rfl⟩
    go_wp2_with fail
    refine (check_n z3 R4.out.2 rfl (r := false) (by rw [HE.out]; exact HF.out)).mono ?_; rintro e1 w5 ⟨rfl, rfl⟩
    go_wp2
    go_ret
    exact ⟨rfl, K4.out⟩
  · obtain rfl : t = true := by rw [ht']; simpa using g3
    have b3 : ((s.length : Int) == 3) = false := by rw [beq_eq_false_iff_ne]; omega
    clear ht'
    go_enter Try.func7, Try.ntmps7
    go_wp2_with fail
    refine (shawake_any _).mono ?_; rintro e0 w0 ⟨rfl, k0⟩
    have K0 := Lib.hid k0; clear k0
    go_wp2_with (first | (at_builtin; refine wpList_app rfl (.tmp 15) (.tmp 16) rfl _ [1] rfl (Own.one w0 1 (Nat.le_refl _)) A c s _ rfl rfl ((H.out.kp K0.out).alloc_ _) (by simp; omega) (by simp) ?_; intro z1 A1 c1 w1 HZ1 o1 b1; have K01 := Lib.hid (((Below.refl _ _).alloc (Nat.le_refl _) _).trans b1); have K1 := Lib.hid (K0.out.tr K01.out); have R1 := Lib.hid o1.sl.rd; clear o1 b1 K0) | (at_builtin; refine wpList_app rfl (.tmp 18) (.tmp 19) rfl _ [] rfl (Own.zero w1 (Nat.le_refl _)) A c s _ rfl rfl ((H.out.kp K1.out).alloc_ _) (by simp; omega) (by simp) ?_; intro z2 A2 c2 w2 HZ2 o2 b2; have K12 := Lib.hid (((Below.refl _ _).alloc (Nat.le_refl _) _).trans b2); have O2 := Lib.hid o2; have hz2 : z2.length = s.length := congrArg List.length HZ2.out; have HZL := Lib.hid hz2; have HB2 := Lib.hid (K12.out.size); clear o2 b2 hz2) | (at_builtin; refine wpList_app rfl (.tmp 20) (.tmp 22) rfl _ z2 rfl (O2.out.kp (Kp.alloc_ _ _)) _ _ [n] _ rfl rfl (Rd.one w2 n _) (by have := HZL.out; simp; omega) (by have := HB2.out; simp; omega) ?_; intro z3 A3 c3 w3 HZ3 o3 b3; have K13 := Lib.hid ((K12.out.alloc HB2.out _).trans b3); have R3 := Lib.hid o3.sl.rd; have K3 := Lib.hid (K1.out.tr K13.out); clear o3 b3))
    have HE := Lib.hid (show z3 = s ++ [n] from HZ3.out.trans (by rw [HZ2.out, List.nil_append]))
    have HE1 := Lib.hid (show z1 = 1 :: s from HZ1.out)
    clear K12 O2 HZL HB2 HZ1 HZ2 HZ3
    have RR := Lib.hid (And.intro (R1.out.kp K13.out) R3.out); clear R1 R3 K13
    go_wp2_with fail
    refine (C1.out _ K3.out).mono ?_; rintro e1 w4 ⟨rfl, k4⟩
    have K4 := Lib.hid (K3.out.tr k4); have R4 := Lib.hid (And.intro (RR.out.1.kp k4) (RR.out.2.kp k4)); clear k4 K3 RR
    go_wp2_with fail
    refine (C2.out _ K4.out).mono ?_; rintro e1 w5 ⟨rfl, rfl⟩
    go_wp2_with fail
    refine (check_n z1 R4.out.1 rfl (r := true) (by rw [HE1.out]; exact HT.out)).mono ?_; rintro e1 w5 ⟨rfl, rfl⟩
    go_wp2_with fail
    refine (size_n z1 R4.out.1 rfl (r := kn) (by rw [HE1.out, size_more HO.out (by omega)]; exact HK.out)).mono ?_; rintro e1 w5 ⟨rfl, rfl⟩
    go_wp2_with fail
    refine (check_n z3 R4.out.2 rfl (r := false) (by rw [HE.out]; exact HF.out)).mono ?_; rintro e1 w5 ⟨rfl, rfl⟩
    go_wp2
    go_ret
    exact ⟨rfl, K4.out⟩
  · obtain rfl : t = true := by rw [ht']; simpa using g3
    have b3 : ((s.length : Int) == 3) = false := by rw [beq_eq_false_iff_ne]; omega
    clear ht'
    go_enter Try.func7, Try.ntmps7
    go_wp2_with fail
    refine (shawake_any _).mono ?_; rintro e0 w0 ⟨rfl, k0⟩
    have K0 := Lib.hid k0; clear k0
    go_wp2_with (first | (at_builtin; refine wpList_app rfl (.tmp 15) (.tmp 16) rfl _ [1] rfl (Own.one w0 1 (Nat.le_refl _)) A c s _ rfl rfl ((H.out.kp K0.out).alloc_ _) (by simp; omega) (by simp) ?_; intro z1 A1 c1 w1 HZ1 o1 b1; have K01 := Lib.hid (((Below.refl _ _).alloc (Nat.le_refl _) _).trans b1); have K1 := Lib.hid (K0.out.tr K01.out); have R1 := Lib.hid o1.sl.rd; clear o1 b1 K0) | (at_builtin; refine wpList_app rfl (.tmp 18) (.tmp 19) rfl _ [] rfl (Own.zero w1 (Nat.le_refl _)) A c s _ rfl rfl ((H.out.kp K1.out).alloc_ _) (by simp; omega) (by simp) ?_; intro z2 A2 c2 w2 HZ2 o2 b2; have K12 := Lib.hid (((Below.refl _ _).alloc (Nat.le_refl _) _).trans b2); have O2 := Lib.hid o2; have hz2 : z2.length = s.length := congrArg List.length HZ2.out; have HZL := Lib.hid hz2; have HB2 := Lib.hid (K12.out.size); clear o2 b2 hz2) | (at_builtin; refine wpList_app rfl (.tmp 20) (.tmp 22) rfl _ z2 rfl (O2.out.kp (Kp.alloc_ _ _)) _ _ [n] _ rfl rfl (Rd.one w2 n _) (by have := HZL.out; simp; omega) (by have := HB2.out; simp; omega) ?_; intro z3 A3 c3 w3 HZ3 o3 b3; have K13 := Lib.hid ((K12.out.alloc HB2.out _).trans b3); have R3 := Lib.hid o3.sl.rd; have K3 := Lib.hid (K1.out.tr K13.out); clear o3 b3))
    have HE := Lib.hid (show z3 = s ++ [n] from HZ3.out.trans (by rw [HZ2.out, List.nil_append]))
    have HE1 := Lib.hid (show z1 = 1 :: s from HZ1.out)
    clear K12 O2 HZL HB2 HZ1 HZ2 HZ3
    have RR := Lib.hid (And.intro (R1.out.kp K13.out) R3.out); clear R1 R3 K13
    go_wp2_with fail
    refine (C1.out _ K3.out).mono ?_; rintro e1 w4 ⟨rfl, k4⟩
    have K4 := Lib.hid (K3.out.tr k4); have R4 := Lib.hid (And.intro (RR.out.1.kp k4) (RR.out.2.kp k4)); clear k4 K3 RR
    go_wp2_with fail
    refine (C2.out _ K4.out).mono ?_; rintro e1 w5 ⟨rfl, rfl⟩
    go_wp2_with fail
    refine (check_n z1 R4.out.1 rfl (r := true) (by rw [HE1.out]; exact HT.out)).mono ?_; rintro e1 w5 ⟨rfl, rfl⟩
    go_wp2_with fail
    refine (size_n z1 R4.out.1 rfl (r := kn) (by rw [HE1.out, size_more HO.out (by omega)]; exact HK.out)).mono ?_; rintro e1 w5 ⟨rfl, rfl⟩
    go_wp2_with fail
    refine (check_n z3 R4.out.2 rfl (r := false) (by rw [HE.out]; exact HF.out)).mono ?_; rintro e1 w5 ⟨rfl, rfl⟩
    go_wp2
    go_ret
    exact ⟨rfl, K4.out⟩
  · obtain rfl : t = true := by rw [ht']; simpa using g3
    have b3 : ((s.length : Int) == 3) = false := by rw [beq_eq_false_iff_ne]; omega
    have HSZ := Lib.hid hsz
    clear ht' hsz
    go_enter Try.func7, Try.ntmps7
    go_wp2_with fail
    refine (shawake_any _).mono ?_; rintro e0 w0 ⟨rfl, k0⟩
    have K0 := Lib.hid k0; clear k0
    go_wp2_with (first | (at_builtin; refine wpList_app rfl (.tmp 15) (.tmp 16) rfl _ [1] rfl (Own.one w0 1 (Nat.le_refl _)) A c s _ rfl rfl ((H.out.kp K0.out).alloc_ _) (by simp; omega) (by simp) ?_; intro z1 A1 c1 w1 HZ1 o1 b1; have K01 := Lib.hid (((Below.refl _ _).alloc (Nat.le_refl _) _).trans b1); have K1 := Lib.hid (K0.out.tr K01.out); have R1 := Lib.hid o1.sl.rd; clear o1 b1 K0) | (at_builtin; refine wpList_app rfl (.tmp 18) (.tmp 19) rfl _ [] rfl (Own.zero w1 (Nat.le_refl _)) A c s _ rfl rfl ((H.out.kp K1.out).alloc_ _) (by simp; omega) (by simp) ?_; intro z2 A2 c2 w2 HZ2 o2 b2; have K12 := Lib.hid (((Below.refl _ _).alloc (Nat.le_refl _) _).trans b2); have O2 := Lib.hid o2; have hz2 : z2.length = s.length := congrArg List.length HZ2.out; have HZL := Lib.hid hz2; have HB2 := Lib.hid (K12.out.size); clear o2 b2 hz2) | (at_builtin; refine wpList_app rfl (.tmp 20) (.tmp 22) rfl _ z2 rfl (O2.out.kp (Kp.alloc_ _ _)) _ _ [n] _ rfl rfl (Rd.one w2 n _) (by have := HZL.out; simp; omega) (by have := HB2.out; simp; omega) ?_; intro z3 A3 c3 w3 HZ3 o3 b3; have K13 := Lib.hid ((K12.out.alloc HB2.out _).trans b3); have R3 := Lib.hid o3.sl.rd; have K3 := Lib.hid (K1.out.tr K13.out); clear o3 b3))
    have HE := Lib.hid (show z3 = s ++ [n] from HZ3.out.trans (by rw [HZ2.out, List.nil_append]))
    have HE1 := Lib.hid (show z1 = 1 :: s from HZ1.out)
    clear K12 O2 HZL HB2 HZ1 HZ2 HZ3
    have RR := Lib.hid (And.intro (R1.out.kp K13.out) R3.out); clear R1 R3 K13
    go_wp2_with fail
    refine (C1.out _ K3.out).mono ?_; rintro e1 w4 ⟨rfl, k4⟩
    have K4 := Lib.hid (K3.out.tr k4); have R4 := Lib.hid (And.intro (RR.out.1.kp k4) (RR.out.2.kp k4)); clear k4 K3 RR
    go_wp2_with fail
    refine (C2.out _ K4.out).mono ?_; rintro e1 w5 ⟨rfl, rfl⟩
    go_wp2_with fail
    refine (check_n z1 R4.out.1 rfl (r := true) (by rw [HE1.out]; exact HT.out)).mono ?_; rintro e1 w5 ⟨rfl, rfl⟩
    go_wp2_with fail
    refine (size_n z1 R4.out.1 rfl (r := kn) (by rw [HE1.out, size_more HO.out (by omega)]; exact HK.out)).mono ?_; rintro e1 w5 ⟨rfl, rfl⟩
    go_wp2_with fail
    refine (check_n z3 R4.out.2 rfl (r := true) (by rw [HE.out]; exact HF.out)).mono ?_; rintro e1 w5 ⟨rfl, rfl⟩
    go_wp2_with fail
    refine (size_n z3 R4.out.2 rfl (r := kn * n) (by rw [HE.out]; exact HSZ.out)).mono ?_; rintro e1 w5 ⟨rfl, rfl⟩
    go_wp2
    go_ret
    exact ⟨rfl, K4.out⟩

theorem shsizes_far (A : Option Addr) (c n : Nat) (x : Int) (w : World) (h0 : n ≤ 9223372036854775807) (h : 100 < n) :
    Calls Try.prog 7 #[.slice A n c, .int .i64 x] w fun e w' => e = .returned (.bool true) ∧ Kp w w' := by
  go_enter Try.func7, Try.ntmps7
  go_wp2_with (go_at_call 10; refine (shawake_any _).mono ?_; rintro e0 w0 ⟨rfl, k0⟩)
  go_ret
  exact ⟨rfl, k0⟩

theorem shsizes_walk (A : Option Addr) (c : Nat) (s : List Int) (n : Int) (w : World) (h : Rd w A s) :
    Calls Try.prog 7 #[.slice A s.length c, .int .i64 n] w fun e w' => e = .returned (.bool true) ∧ Kp w w' := by
  by_cases hf : 100 < s.length
  · exact shsizes_far A c _ n w h.len hf
  · cases ho : okS s with
    | false => exact sizes_bad A c s n w h (by omega) ho
    | true =>
      have hp := ok_prod ho
      exact sizes_good A c s n w h (ok_iff.1 ho).1 ho _ rfl (by rw [size_ok ho]; omega) (by rw [size_ok ho]; omega) _ _ rfl (sizes_fit ho _ rfl) rfl (ok_more ho)
end Go.Proofs.Ytggdhfdklmmgjaa
