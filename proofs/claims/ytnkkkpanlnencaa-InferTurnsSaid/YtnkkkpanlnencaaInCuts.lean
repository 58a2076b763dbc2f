/- InferCuts, over the contracts of the calls. -/
import Derived.Test.YtnkkkpanlnencaaInTurns
import Derived.BigQuiet
namespace Go.Proofs.Ytnkkkpanlnencaa
open Go.RowKit Go.Proofs.ShM Go.Proofs.GrM Go.Proofs.InM
set_option linter.unusedVariables false
set_option maxHeartbeats 8000000

theorem cut_at11 {a : Int} {n : Nat} (h0 : 0 ≤ a) (h1 : a ≤ 255) (hn : 1 ≤ n) (hn2 : n ≤ 30) : ∃ k : Nat, 1 + a % (n : Int) = (k : Int) ∧ 1 ≤ k ∧ k ≤ n := by
  have h2 := Int.emod_nonneg a (show (n : Int) ≠ 0 by omega)
  have h3 := Int.emod_lt_of_pos a (show (0 : Int) < (n : Int) by omega)
  exact ⟨(1 + a % (n : Int)).toNat, by omega, by omega, by omega⟩
theorem quiet_check11 {A : Option Addr} {a : List Int} {c n : Nat} {w : World} (h : Rd w A a) (ho : okS a = true) :
    Calls Try.prog 18 #[.slice A a.length c] (w.drewN n) fun e w'' => e = .returned (.bool true) ∧ ∃ m, w'' = w.drewN m :=
  (check_n a (h.drewN n) rfl ho).mono fun _ _ ⟨h1, h2⟩ => ⟨h1, n, h2.symm⟩
set_option maxRecDepth 100000 in
theorem icuts_all (C : InC) (A : Option Addr) (c : Nat) (l : List Nd) (a : Int) (W : World) (R : RdG W A l) (L : l.length ≤ c) (M : c ≤ 9223372036854775807) (hS : SmallG l) (hf : fewN l = true) (hc : checkB l = true) (g0 : 0 ≤ a) (g1 : a ≤ 255) (ts : List (List Int)) (hv : shapesV l = (ts, -1, 0)) (hts : ts.length = l.length) (hok : ts.all okS = true) :
    Calls Try.prog 4 #[.slice A l.length c, .int .u8 a] W fun e w' => e = .returned (.bool true) ∧ Below W.heap.size W w' := by
  have HAW : Hid (∀ V, Calls Try.prog 8 #[] V fun e w' => e = .returned (.bool true) ∧ Kp V w') := fun V => inawake_any C V
  have HF : Hid (∀ V, Kp W V → Calls Try.prog 9 #[.slice A l.length c] V fun e w' => e = .returned (.bool true) ∧ w' = V) := fun V k => by
    have := rfew10_any A c l V (R.kp k)
    rw [hf] at this; exact this
  have HCK : Hid (∀ V, Kp W V → Calls Try.prog 17 #[.slice A l.length c] V fun e w' => e = .returned (.bool true) ∧ Kp V w') := fun V k => C.check A c l.length l true V (R.kp k) L M hS rfl hc
  have hl1 := (check_iff.1 hc).1
  have hl24 := (check_iff.1 hc).2.1
  obtain ⟨k, hk, hk1, hk2⟩ := cut_at11 g0 g1 hl1 (by omega)
  obtain ⟨tk, htk⟩ : ∃ tk, tk = ts.take k := ⟨_, rfl⟩
  have hlkl : (l.take k).length = k := by rw [List.length_take]; omega
  have htkl : tk.length = k := by rw [htk, List.length_take]; omega
  have H1 : Hid (∀ V, Kp W V → Calls Try.prog 13 #[.slice A l.length c] V (RetE3 (ts, -1, 0) l.length V)) := fun V kk => C.shapes A c l.length l.length l (ts, -1, 0) V (R.kp kk) L M hS rfl hv hts
  have H2 : Hid (∀ V, Kp W V → Calls Try.prog 13 #[.slice A k c] V (RetE3 (tk, -1, 0) k V)) := fun V kk => C.shapes A c k k (l.take k) (tk, -1, 0) V ((R.kp kk).take_ k) (by omega) M (small_take hS k) hlkl.symm (by rw [htk]; exact shapes_take hc hv hk1 hk2) htkl
  have HTK : Hid (tk.length = k ∧ ts.length = l.length ∧ ∀ (j : Nat) (s : List Int), tk[j]? = some s → ts[j]? = some s ∧ okS s = true) := ⟨htkl, hts, fun j s hs => by
    rw [htk, List.getElem?_take] at hs
    split at hs
    · exact ⟨hs, List.all_eq_true.1 hok s (List.mem_of_getElem? hs)⟩
    · cases hs⟩
  have hkw : wrap64 (1 + a % (l.length : Int)) = (k : Int) := by rw [hk]; unfold wrap64; omega
  have hkc : k ≤ c := by omega
  have e1 : ¬ (l.length : Int) < 0 := by omega
  have e3 : ((l.length : Int) == 0) = false := by rw [beq_eq_false_iff_ne]; omega
  have e4 : ((l.length : Int) != (l.length : Int)) = false := by simp
  have e5 : ((k : Int) != (k : Int)) = false := by simp
  clear C R hS hf hc htk hlkl htkl hv hts hok hk
  go_enter Try.func4, Try.ntmps4
  go_wp2_with fail
  refine (HAW.out _).mono ?_; rintro e w1 ⟨rfl, k1⟩
  have K := Lib.hid k1
  clear k1
  go_wp2_with fail
  refine (HF.out _ K.out).mono ?_; rintro e w2 ⟨rfl, hw2⟩
  obtain rfl : w2 = w1 := hw2
  go_wp2_with fail
  refine (HCK.out _ K.out).mono ?_; rintro e w3 ⟨rfl, k3⟩
  have K3 := Lib.hid (K.out.tr k3)
  clear k3
  go_wp2_with fail
  refine (H1.out _ K3.out).mono ?_; rintro e w4 ⟨A4, c4, rfl, r4, _, k4⟩
  have K4 := Lib.hid (K3.out.tr k4)
  clear k4
  go_wp2_with fail
  refine (H2.out _ K4.out).mono ?_; rintro e w5 ⟨A5, c5, rfl, r5, _, k5⟩
  have K5 := Lib.hid (K4.out.tr k5)
  have r4 := Lib.hid (r4.out.kp k5)
  clear k5 HAW HF HCK H1 H2
  go_wp2
  go_loopw [14] (fun i wx => ∃ j : Nat, i = .int .i64 (j : Int) ∧ Hid (j ≤ k) ∧ Hid (Kp w5 wx)) (fun i _ => k - (intOf i).toNat)
  case atStart => exact ⟨0, rfl, Nat.zero_le _, Kp.refl _⟩
  case round =>
    obtain ⟨j, rfl, hj, hK⟩ := hrel
    by_cases hjk : j < k
    · have hj1 : (j : Int) < (k : Int) := by omega
      have hj2 : (j : Int) < (l.length : Int) := by omega
      obtain ⟨ad, s, P, e, rfl, hlt, hs, hcs, rs, _, _, _⟩ := (r5.out.kp hK.out).at_ (k := j) (by rw [HTK.out.1]; exact hjk)
      obtain ⟨bd, s', Q, f, rfl, hlu, hs', hds, rs', _, _, _⟩ := (r4.out.kp hK.out).at_ (k := j) (by rw [HTK.out.2.1]; omega)
      obtain ⟨h1, ho⟩ := HTK.out.2.2 j s hs
      rw [h1] at hs'
      injection hs' with hs'
      subst hs'
      have HQC : Hid (∀ n, Calls Try.prog 18 #[.slice P s.length e] (wr.drewN n) fun e w'' => e = .returned (.bool true) ∧ ∃ m, w'' = wr.drewN m) := fun n => quiet_check11 rs ho
      have HQS : Hid (∀ n, Calls Try.prog 15 #[.slice P s.length e, .slice Q s.length f] (wr.drewN n) fun e w'' => e = .returned (.bool true) ∧ ∃ m, w'' = wr.drewN m) := fun n => quiet_same11 rs rs' (by simp)
      have hsl := rs.len
      have HC2 : ∀ n, (wr.drewN n).cell? (ad.add j) = some (.slice P s.length e) := fun n => hcs
      have HD2 : ∀ n, (wr.drewN n).cell? (bd.add j) = some (.slice Q s.length f) := fun n => hds
      clear hs h1 ho rs rs'
      go_wp2_with fail
      go_quiet ((first | (go_at_call 18; exact HQC.out _) | (go_at_call 15; exact HQS.out _)))
      go_wp2
      go_roundw
      case rel => exact ⟨j + 1, by go_num, (by show j + 1 ≤ k; omega), hK.out.tr (Kp.drewN_ _ _)⟩
      case measure => simp [intOf]; omega
    · have hj1 : ¬ (j : Int) < (k : Int) := by omega
      go_wp2
      go_ret
      exact ⟨rfl, K5.out.tr hK.out⟩
set_option maxRecDepth 100000 in
theorem icuts_none (C : InC) (A : Option Addr) (c : Nat) (l : List Nd) (a : Int) (W : World) (R : RdG W A l) (L : l.length ≤ c) (M : c ≤ 9223372036854775807) (hS : SmallG l) (hf : fewN l = true) (hc : checkB l = true) (g0 : 0 ≤ a) (g1 : a ≤ 255) (hv : shapesV l = ([], 0, 20)) :
    Calls Try.prog 4 #[.slice A l.length c, .int .u8 a] W fun e w' => e = .returned (.bool true) ∧ Below W.heap.size W w' := by
  have HAW : Hid (∀ V, Calls Try.prog 8 #[] V fun e w' => e = .returned (.bool true) ∧ Kp V w') := fun V => inawake_any C V
  have HF : Hid (∀ V, Kp W V → Calls Try.prog 9 #[.slice A l.length c] V fun e w' => e = .returned (.bool true) ∧ w' = V) := fun V k => by
    have := rfew10_any A c l V (R.kp k)
    rw [hf] at this; exact this
  have HCK : Hid (∀ V, Kp W V → Calls Try.prog 17 #[.slice A l.length c] V fun e w' => e = .returned (.bool true) ∧ Kp V w') := fun V k => C.check A c l.length l true V (R.kp k) L M hS rfl hc
  have hl1 := (check_iff.1 hc).1
  have hl24 := (check_iff.1 hc).2.1
  have H1 : Hid (∀ V, Kp W V → Calls Try.prog 13 #[.slice A l.length c] V (RetE3 ([], 0, 20) 0 V)) := fun V kk => C.shapes A c l.length 0 l ([], 0, 20) V (R.kp kk) L M hS rfl hv rfl
  have e1 : ¬ (l.length : Int) < 0 := by omega
  clear C R hS hf hc hv
  go_enter Try.func4, Try.ntmps4
  go_wp2_with fail
  refine (HAW.out _).mono ?_; rintro e w1 ⟨rfl, k1⟩
  have K := Lib.hid k1
  clear k1
  go_wp2_with fail
  refine (HF.out _ K.out).mono ?_; rintro e w2 ⟨rfl, hw2⟩
  obtain rfl : w2 = w1 := hw2
  go_wp2_with fail
  refine (HCK.out _ K.out).mono ?_; rintro e w3 ⟨rfl, k3⟩
  have K3 := Lib.hid (K.out.tr k3)
  clear k3
  go_wp2_with fail
  refine (H1.out _ K3.out).mono ?_; rintro e w4 ⟨A4, c4, rfl, r4, _, k4⟩
  have K4 := Lib.hid (K3.out.tr k4)
  clear k4
  go_wp2
  go_ret
  exact ⟨by first | rfl | simp, K4.out⟩
set_option maxRecDepth 100000 in
theorem icuts_some (C : InC) (A : Option Addr) (c : Nat) (l : List Nd) (a : Int) (W : World) (R : RdG W A l) (L : l.length ≤ c) (M : c ≤ 9223372036854775807) (hS : SmallG l) (hf : fewN l = true) (hc : checkB l = true) (g0 : 0 ≤ a) (g1 : a ≤ 255) (i : Nat) (hv : shapesV l = ([], (i : Int), 20)) (hi0 : 1 ≤ i) (hil : i < l.length) :
    Calls Try.prog 4 #[.slice A l.length c, .int .u8 a] W fun e w' => e = .returned (.bool true) ∧ Below W.heap.size W w' := by
  have HAW : Hid (∀ V, Calls Try.prog 8 #[] V fun e w' => e = .returned (.bool true) ∧ Kp V w') := fun V => inawake_any C V
  have HF : Hid (∀ V, Kp W V → Calls Try.prog 9 #[.slice A l.length c] V fun e w' => e = .returned (.bool true) ∧ w' = V) := fun V k => by
    have := rfew10_any A c l V (R.kp k)
    rw [hf] at this; exact this
  have HCK : Hid (∀ V, Kp W V → Calls Try.prog 17 #[.slice A l.length c] V fun e w' => e = .returned (.bool true) ∧ Kp V w') := fun V k => C.check A c l.length l true V (R.kp k) L M hS rfl hc
  have hl1 := (check_iff.1 hc).1
  have hl24 := (check_iff.1 hc).2.1
  obtain ⟨k, hk, hk1, hk2⟩ := cut_at11 g0 g1 hi0 (by omega)
  obtain ⟨tk, hvk, htkl, hok⟩ := shapes_ahead hc hv hk1 hk2 hil
  have hlkl : (l.take k).length = k := by rw [List.length_take]; omega
  have H1 : Hid (∀ V, Kp W V → Calls Try.prog 13 #[.slice A l.length c] V (RetE3 ([], (i : Int), 20) 0 V)) := fun V kk => C.shapes A c l.length 0 l ([], (i : Int), 20) V (R.kp kk) L M hS rfl hv rfl
  have H2 : Hid (∀ V, Kp W V → Calls Try.prog 13 #[.slice A k c] V (RetE3 (tk, -1, 0) k V)) := fun V kk => C.shapes A c k k (l.take k) (tk, -1, 0) V ((R.kp kk).take_ k) (by omega) M (small_take hS k) hlkl.symm hvk htkl
  have HTK : Hid (tk.length = k ∧ ∀ (j : Nat) (s : List Int), tk[j]? = some s → okS s = true) := ⟨htkl, fun j s hs => List.all_eq_true.1 hok s (List.mem_of_getElem? hs)⟩
  have hkw : wrap64 (1 + a % (i : Int)) = (k : Int) := by rw [hk]; unfold wrap64; omega
  have hkc : k ≤ c := by omega
  have e1 : ¬ (i : Int) < 0 := by omega
  have e2 : ¬ (l.length : Int) < (i : Int) := by omega
  have e3 : ((i : Int) == 0) = false := by simp; omega
  have e5 : ((k : Int) != (k : Int)) = false := by simp
  have e6 : (i : Int) ≠ 0 := by omega
  clear C R hS hf hc hlkl htkl hv hok hk hvk
  go_enter Try.func4, Try.ntmps4
  go_wp2_with fail
  refine (HAW.out _).mono ?_; rintro e w1 ⟨rfl, k1⟩
  have K := Lib.hid k1
  clear k1
  go_wp2_with fail
  refine (HF.out _ K.out).mono ?_; rintro e w2 ⟨rfl, hw2⟩
  obtain rfl : w2 = w1 := hw2
  go_wp2_with fail
  refine (HCK.out _ K.out).mono ?_; rintro e w3 ⟨rfl, k3⟩
  have K3 := Lib.hid (K.out.tr k3)
  clear k3
  go_wp2_with fail
  refine (H1.out _ K3.out).mono ?_; rintro e w4 ⟨A4, c4, rfl, r4, _, k4⟩
  have K4 := Lib.hid (K3.out.tr k4)
  clear k4
  go_wp2_with fail
  refine (H2.out _ K4.out).mono ?_; rintro e w5 ⟨A5, c5, rfl, r5, _, k5⟩
  have K5 := Lib.hid (K4.out.tr k5)
  clear k5 HAW HF HCK H1 H2
  go_wp2
  go_loopw [14] (fun v wx => ∃ j : Nat, v = .int .i64 (j : Int) ∧ Hid (j ≤ k) ∧ Hid (Kp w5 wx)) (fun v _ => k - (intOf v).toNat)
  case atStart => exact ⟨0, rfl, Nat.zero_le _, Kp.refl _⟩
  case round =>
    obtain ⟨j, rfl, hj, hK⟩ := hrel
    by_cases hjk : j < k
    · have hj1 : (j : Int) < (k : Int) := by omega
      obtain ⟨ad, s, P, e, rfl, hlt, hs, hcs, rs, _, _, _⟩ := (r5.out.kp hK.out).at_ (k := j) (by rw [HTK.out.1]; exact hjk)
      have ho := HTK.out.2 j s hs
      have HQC : Hid (∀ n, Calls Try.prog 18 #[.slice P s.length e] (wr.drewN n) fun e w'' => e = .returned (.bool true) ∧ ∃ m, w'' = wr.drewN m) := fun n => quiet_check11 rs ho
      have hsl := rs.len
      have HC2 : ∀ n, (wr.drewN n).cell? (ad.add j) = some (.slice P s.length e) := fun n => hcs
      clear hs ho rs
      go_wp2_with fail
      go_quiet ((go_at_call 18; exact HQC.out _))
      go_wp2
      go_roundw
      case rel => exact ⟨j + 1, by go_num, (by show j + 1 ≤ k; omega), hK.out.tr (Kp.drewN_ _ _)⟩
      case measure => simp [intOf]; omega
    · have hj1 : ¬ (j : Int) < (k : Int) := by omega
      go_wp2
      go_ret
      exact ⟨rfl, K5.out.tr hK.out⟩
set_option maxRecDepth 100000 in
theorem icuts_walk (C : InC) (A : Option Addr) (c : Nat) (l : List Nd) (a : Int) (W : World) (R : RdG W A l) (N : ∀ t ∈ l, Nd64 t) (L : l.length ≤ c) (M : c ≤ 9223372036854775807) (g0 : 0 ≤ a) (g1 : a ≤ 255) :
    Calls Try.prog 4 #[.slice A l.length c, .int .u8 a] W fun e w' => e = .returned (.bool true) ∧ Below W.heap.size W w' := by
  have HAW : Hid (∀ V, Calls Try.prog 8 #[] V fun e w' => e = .returned (.bool true) ∧ Kp V w') := fun V => inawake_any C V
  have HF : Hid (∀ V, Kp W V → Calls Try.prog 9 #[.slice A l.length c] V fun e w' => e = .returned (.bool (fewN l)) ∧ w' = V) := fun V k => rfew10_any A c l V (R.kp k)
  cases hf : fewN l with
  | false =>
    rw [hf] at HF
    clear hf C R N
    go_enter Try.func4, Try.ntmps4
    go_wp2_with fail
    refine (HAW.out _).mono ?_; rintro e w1 ⟨rfl, k1⟩
    have K := Lib.hid k1
    clear k1
    go_wp2_with fail
    refine (HF.out _ K.out).mono ?_; rintro e w2 ⟨rfl, hw2⟩
    obtain rfl : w2 = w1 := hw2
    go_wp2
    go_ret
    exact ⟨rfl, K.out⟩
  | true =>
    rw [hf] at HF
    have HCK : Hid (∀ V, Kp W V → Calls Try.prog 17 #[.slice A l.length c] V fun e w' => e = .returned (.bool (checkB l)) ∧ Kp V w') := fun V k => C.check A c l.length l (checkB l) V (R.kp k) L M (small_few hf N) rfl rfl
    cases hc : checkB l with
    | false =>
      rw [hc] at HCK
      clear hf hc C R N
      go_enter Try.func4, Try.ntmps4
      go_wp2_with fail
      refine (HAW.out _).mono ?_; rintro e w1 ⟨rfl, k1⟩
      have K := Lib.hid k1
      clear k1
      go_wp2_with fail
      refine (HF.out _ K.out).mono ?_; rintro e w2 ⟨rfl, hw2⟩
      obtain rfl : w2 = w1 := hw2
      go_wp2_with fail
      refine (HCK.out _ K.out).mono ?_; rintro e w3 ⟨rfl, k3⟩
      have K := Lib.hid (K.out.tr k3)
      clear k3
      go_wp2
      go_ret
      exact ⟨rfl, K.out⟩
    | true =>
      rcases shapes_cases hc with ⟨ts, h1, h2, h3⟩ | ⟨i, h1, h2⟩
      · exact icuts_all C A c l a W R L M (small_few hf N) hf hc g0 g1 ts h1 h2 h3
      · cases i with
        | zero => exact icuts_none C A c l a W R L M (small_few hf N) hf hc g0 g1 h1
        | succ i => exact icuts_some C A c l a W R L M (small_few hf N) hf hc g0 g1 (i + 1) h1 (by omega) h2
end Go.Proofs.Ytnkkkpanlnencaa
