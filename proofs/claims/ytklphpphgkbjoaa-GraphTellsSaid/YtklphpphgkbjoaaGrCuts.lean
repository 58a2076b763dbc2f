/- GraphCuts, over the contracts of the calls. -/
import Derived.Test.YtklphpphgkbjoaaGrMore
namespace Go.Proofs.Ytklphpphgkbjoaa
open Go.RowKit Go.Proofs.ShM Go.Proofs.GrM
set_option linter.unusedVariables false
set_option maxHeartbeats 8000000

/-- One node, of one number, in a row behind rows of the call's own. -/
theorem node_row2 {B : Nat} {w : World} {v : Value} {ts : List Nd} {op z : Int} (o : OwnN B w v ts) :
    RdN ((w.alloc (.cells #[.int .i64 z] 3)).alloc (.cells #[.int .i64 op, .slice none 0 0, .slice (some ⟨w.heap.size, 0, none⟩) 1 1] 35)) (fun k => v.ownBlock ≠ some k) (some ⟨w.heap.size + 1, 0, none⟩) [(op, ([] : List Int), [z])] := by
  have hx : v.ownBlock ≠ some w.heap.size := fun e => by have := o.row_lt e; omega
  have h := RdN.one (X := fun k => v.ownBlock ≠ some k) (t := (op, ([] : List Int), [z])) (P := none) (Q := some ⟨w.heap.size, 0, none⟩) (c := 0) (d := 1) ⟨Rd.nil _ _, Rd.one w z 3, fun ad e _ => (by cases e), fun ad e _ => by injection e with e; rw [← e]; exact hx⟩ ⟨by show 0 ≤ 0; omega, by omega⟩ ⟨by show 1 ≤ 1; omega, by omega⟩ 35
  rw [World.size_alloc] at h
  exact h
theorem guard_none (C : GrC) (A : Option Addr) (c : Nat) (l : List Nd) (W : World) (R : RdG W A l) (L : l.length ≤ c) (M : c ≤ 9223372036854775807) (hS : SmallG l) : Hid (∀ V, Kp W V → Calls Try.prog 13 #[.slice A l.length c] V fun e w' => e = .returned (.bool (checkB l)) ∧ Kp V w') := fun V k => C.check A c l.length l (checkB l) V (R.kp k) L M hS rfl rfl
theorem cut_at {a : Int} {n : Nat} (h0 : 0 ≤ a) (h1 : a ≤ 255) (hn : 1 ≤ n) (hn2 : n ≤ 30) : ∃ k : Nat, 1 + a % (n : Int) = (k : Int) ∧ 1 ≤ k ∧ k ≤ n := by
  have h2 := Int.emod_nonneg a (show (n : Int) ≠ 0 by omega)
  have h3 := Int.emod_lt_of_pos a (show (0 : Int) < (n : Int) by omega)
  exact ⟨(1 + a % (n : Int)).toNat, by omega, by omega, by omega⟩

set_option maxRecDepth 100000 in
theorem gcuts_main (C : GrC) (A : Option Addr) (c : Nat) (l : List Nd) (a node : Int) (W : World) (R : RdG W A l) (L : l.length ≤ c) (M : c ≤ 9223372036854775807) (hS : SmallG l) (hf : fewN l = true) (hc : checkB l = true) (g0 : 0 ≤ a) (g1 : a ≤ 255) (hi : I64 node) :
    Calls Try.prog 4 #[.slice A l.length c, .int .u8 a, .int .i64 node] W fun e w' => e = .returned (.bool true) ∧ Below W.heap.size W w' := by
  have HC := Lib.hid C
  have HRD := Lib.hid R
  have HAW : Hid (Calls Try.prog 9 #[] W fun e w' => e = .returned (.bool true) ∧ Kp W w') := grawake_any C W
  have HF : Hid (∀ V, Kp W V → Calls Try.prog 10 #[.slice A l.length c] V fun e w' => e = .returned (.bool true) ∧ w' = V) := fun V k => by
    have := rfew10_any A c l V (R.kp k)
    rw [hf] at this; exact this
  have HCK := guard_none C A c l W R L M hS
  rw [hc] at HCK
  have hl1 := (check_iff.1 hc).1
  have hl24 := (check_iff.1 hc).2.1
  obtain ⟨k, hk, hk1, hk2⟩ := cut_at g0 g1 hl1 (by omega)
  obtain ⟨lk, hlk⟩ : ∃ lk, lk = l.take k := ⟨_, rfl⟩
  have hlkl : lk.length = k := by rw [hlk, List.length_take]; omega
  have RK : RdG W A lk := by rw [hlk]; exact R.take_ k
  have hSK : SmallG lk := by rw [hlk]; exact small_take hS k
  have hvk : checkB lk = true := by rw [hlk]; exact check_take hc hk1 hk2
  obtain ⟨ps, hps⟩ : ∃ ps, paramsV lk = ps := ⟨_, rfl⟩
  obtain ⟨pa, hpa⟩ : ∃ pa, paramsV l = pa := ⟨_, rfl⟩
  obtain ⟨ul, hul⟩ : ∃ ul, usesV l node = ul := ⟨_, rfl⟩
  obtain ⟨uk, huk⟩ : ∃ uk, usesV lk node = uk := ⟨_, rfl⟩
  have hsub : ∀ x ∈ ps, pa.contains x = true := fun x hx => by
    have := params_take hc hk1 hk2 x (by rw [← hlk, hps]; exact hx)
    rw [hpa] at this; simpa using this
  have hule : uk.length ≤ ul.length := by
    rw [← huk, ← hul]
    unfold usesV
    rw [if_pos hvk, if_pos hc, hlk]
    exact uses_take _
  have H1 : Hid (∀ V, Kp W V → Calls Try.prog 18 #[.slice A k c] V (RetG ps ps.length V)) := fun V kk => C.params A c k ps.length lk ps V (RK.kp kk) (by omega) M hSK hlkl.symm hps rfl
  have H2 : Hid (∀ V, Kp W V → Calls Try.prog 18 #[.slice A l.length c] V (RetG pa pa.length V)) := fun V kk => C.params A c l.length pa.length l pa V (R.kp kk) L M hS rfl hpa rfl
  have H3 : Hid (∀ V, Kp W V → Calls Try.prog 13 #[.slice A k c] V fun e w' => e = .returned (.bool true) ∧ Kp V w') := fun V kk => C.check A c k lk true V (RK.kp kk) (by omega) M hSK hlkl.symm hvk
  have H4 : Hid (∀ V, Kp W V → Calls Try.prog 20 #[.slice A k c, .int .i64 node] V (RetG uk uk.length V)) := fun V kk => C.uses A c k uk.length lk node uk V (RK.kp kk) (by omega) M hSK hi hlkl.symm huk rfl
  have H5 : Hid (∀ V, Kp W V → Calls Try.prog 20 #[.slice A l.length c, .int .i64 node] V (RetG ul ul.length V)) := fun V kk => C.uses A c l.length ul.length l node ul V (R.kp kk) L M hS hi rfl hul rfl
  have HSU := Lib.hid hsub
  have HPL : Hid (ps.length ≤ 8 ∧ pa.length ≤ 8) := ⟨by rw [← hps]; exact params_few _, by rw [← hpa]; exact params_few _⟩
  obtain ⟨lm, hlm⟩ : ∃ lm, lm = l ++ [((3 : Int), ([] : List Int), [a])] := ⟨_, rfl⟩
  have hml : lm.length = l.length + 1 := by rw [hlm, List.length_append]; rfl
  have hSM : SmallG lm := by
    rw [hlm]
    exact small_snoc hS (by omega) (by show 0 ≤ 100; omega) (by show 1 ≤ 100; omega) ⟨w64_one (x := 3) (by omega), w64_nil, w64_one (by omega)⟩
  have hmv : checkB lm = decide (l.length < 24) := by rw [hlm]; exact check_const a hc
  have hmw : l.length < 24 → paramsV lm = pa ∧ usesV lm node = ul ∧ (liveV lm).length = 1 := fun h => by
    rw [hlm]
    exact ⟨(params_const a hc h).trans hpa, (uses_const a node hc h).trans hul, live_const a hc h⟩
  have HM := Lib.hid (And.intro hml (And.intro hSM (And.intro hmv (And.intro hmw hlm))))
  have HI := Lib.hid hi
  have hkw : wrap64 (1 + a % (l.length : Int)) = (k : Int) := by rw [hk]; unfold wrap64; omega
  have hkc : k ≤ c := by omega
  have hu2 : (uk.length : Int) ≤ (ul.length : Int) := by omega
  clear C R RK hS hSK hf hc hvk hps hpa hul huk hlk hlkl hsub hi hlm hml hSM hmv hmw hk
  go_enter Try.func4, Try.ntmps4
  go_wp2_with fail
  refine (Hid.out HAW).mono ?_; rintro e w1 ⟨rfl, k1⟩
  have K := Lib.hid k1
  clear k1
  go_wp2_with fail
  refine (HF.out _ K.out).mono ?_; rintro e w2 ⟨rfl, rfl⟩
  go_wp2_with fail
  refine (HCK.out _ K.out).mono ?_; rintro e w3 ⟨rfl, k3⟩
  have K3 := Lib.hid (K.out.tr k3)
  clear k3
  go_wp2_with fail
  refine (H1.out _ K3.out).mono ?_; rintro e w4 ⟨A4, c4, rfl, r4, _, k4⟩
  have K4 := Lib.hid (K3.out.tr k4)
  clear k4
  go_wp2_with fail
  refine (H2.out _ K4.out).mono ?_; rintro e w5 ⟨A5, c5, rfl, r5, _, k5⟩
  have K5 := Lib.hid (K4.out.tr k5)
  have r4 := Lib.hid (r4.out.kp k5)
  clear k5
  have hpl := HPL.out.1
  have hpl2 := HPL.out.2
  go_wp2
  go_loopw [11] (fun i wx => ∃ j : Nat, i = .int .i64 (j : Int) ∧ Hid (j ≤ ps.length) ∧ wx = w5) (fun i _ => ps.length - (intOf i).toNat)
  case atStart => exact ⟨0, rfl, Nat.zero_le _, rfl⟩
  case round =>
    obtain ⟨j, rfl, hj, hwr⟩ := hrel
    have hwr2 := hwr.symm
    subst hwr2
    by_cases hjl : j < ps.length
    · have hj' : (j : Int) < (ps.length : Int) := by omega
      obtain ⟨ad, x, rfl, hlt, hx, hcl⟩ := r4.out.at_ hjl
      have HIN : Hid (Calls Try.prog 24 #[.slice A5 pa.length c5, .int .i64 x] w5 fun e w' => e = .returned (.bool true) ∧ w' = w5) := by
        have := rin_any10 A5 c5 pa x w5 r5.out
        rw [HSU.out x (List.mem_of_getElem? hx)] at this; exact this
      clear hx
      go_wp2_with fail
      refine (Hid.out HIN).mono ?_; rintro e w6 ⟨rfl, rfl⟩
      go_wp2
      go_roundw
      case rel => exact ⟨j + 1, by go_num, (by show j + 1 ≤ ps.length; omega), by first | rfl | trivial⟩
      case measure => simp [intOf]; omega
    · have hj' : ¬ (j : Int) < (ps.length : Int) := by omega
      have hO0 := Lib.hid (OwnN.zero w5 (Nat.le_refl _))
      have hR0 : Hid (RdN (w5.alloc (.cells #[] 35)) (fun k => (Value.slice (some ⟨w5.heap.size, 0, none⟩) 0 0).ownBlock ≠ some k) A l) := (HRD.out.kp K5.out).old.mono (Kp.alloc_ _ _) (fun k hk _ e => not_new hk e)
      have hs0 : Hid (w5.heap.size ≤ (w5.alloc (.cells #[] 35)).heap.size) := by show _ ≤ _; simp
      clear HCK HF HAW r4 H1
      go_wp2_with (at_builtin; (first
        | (refine wpList_appN (B := w5.heap.size) rfl (.tmp 50) (.tmp 51) rfl _ [] rfl hO0.out A c l _ rfl rfl hR0.out (by simp; omega) hs0.out ?_; intro z1 A1 c1 w6 HZ o6 b6 _; have O6 := Lib.hid o6; have K6 : Hid (Kp w5 w6) := (Kp.alloc_ _ _).trans b6
           have O7 : Hid (OwnN w5.heap.size ((w6.alloc (.cells #[.int .i64 a] 3)).alloc (.cells #[.int .i64 3, .slice none 0 0, .slice (some ⟨w6.heap.size, 0, none⟩) 1 1] 35)) (.slice A1 z1.length c1) z1) := (O6.out.kp (Kp.alloc_ _ _)).kp (Kp.alloc_ _ _)
           have R7 : Hid (RdN ((w6.alloc (.cells #[.int .i64 a] 3)).alloc (.cells #[.int .i64 3, .slice none 0 0, .slice (some ⟨w6.heap.size, 0, none⟩) 1 1] 35)) (fun k => (Value.slice A1 z1.length c1).ownBlock ≠ some k) (some ⟨w6.heap.size + 1, 0, none⟩) [((3 : Int), ([] : List Int), [a])]) := node_row2 O6.out
           have s7 : Hid (w5.heap.size ≤ ((w6.alloc (.cells #[.int .i64 a] 3)).alloc (.cells #[.int .i64 3, .slice none 0 0, .slice (some ⟨w6.heap.size, 0, none⟩) 1 1] 35)).heap.size) := (gal (gal K6.out _) _).size
           clear o6 b6)
        | (refine wpList_appN (B := w5.heap.size) rfl (.tmp 52) (.tmp 57) rfl _ z1 rfl O7.out _ 1 [((3 : Int), ([] : List Int), [a])] 1 rfl rfl R7.out (by rw [HZ.out]; simp; omega) s7.out ?_; intro z2 A2 c2 w8 HZ2 o8 b8 _; have O8 := Lib.hid o8; have K8 : Hid (Kp w5 w8) := (gal (gal K6.out _) _).trans b8; clear o8 b8)))
      have hz2 : lm = z2 := by rw [HZ2.out, HZ.out, HM.out.2.2.2.2]; rfl
      subst hz2
      have K8W := Lib.hid (K5.out.tr K8.out)
      have r8 := Lib.hid (r5.out.kp K8.out)
      have M8 := Lib.hid (n_of_own O8.out)
      have hmv := HM.out.2.2.1
      clear HZ HZ2 O7 R7 s7 O6 K6 hO0 hR0 hs0 K8 O8
      by_cases h24 : l.length < 24
      · have e1 : (l.length : Int) < 24 := by omega
        have e2 : ((l.length : Int) == 24) = false := by simp; omega
        obtain ⟨m1, m2, m3⟩ := HM.out.2.2.2.1 h24
        have hmt : checkB lm = true := by rw [hmv]; simpa using h24
        have HMM := Lib.hid (And.intro m1 (And.intro m2 (And.intro m3 hmt)))
        clear hmv m1 m2 m3 hmt
        refine (HC.out.check A2 c2 lm.length lm true _ M8.out.1 M8.out.2.1 M8.out.2.2 HM.out.2.1 rfl HMM.out.2.2.2).mono ?_; rintro e w9 ⟨rfl, k9⟩
        have K9 := Lib.hid (K8W.out.tr k9)
        have r9 := Lib.hid (r8.out.kp k9)
        have M9 := Lib.hid (M8.out.1.kp k9)
        clear k9
        go_wp2_with fail
        refine (HC.out.params A2 c2 lm.length pa.length lm pa _ M9.out M8.out.2.1 M8.out.2.2 HM.out.2.1 rfl HMM.out.1 rfl).mono ?_; rintro e w10 ⟨A10, c10, rfl, r10, _, k10⟩
        have K10 := Lib.hid (K9.out.tr k10)
        have r9 := Lib.hid (r9.out.kp k10)
        have M10 := Lib.hid (M9.out.kp k10)
        clear k10
        go_wp2_with fail
        refine (same_g pa pa r10.out r9.out rfl rfl (r := true) (by simp)).mono ?_; rintro e w11 ⟨rfl, k11⟩
        have K11 := Lib.hid (K10.out.tr k11)
        have M11 := Lib.hid (M10.out.kp k11)
        clear k11 r10 r9
        go_wp2_with fail
        refine (HC.out.uses A2 c2 lm.length ul.length lm node ul _ M11.out M8.out.2.1 M8.out.2.2 HM.out.2.1 HI.out rfl HMM.out.2.1 rfl).mono ?_; rintro e w12 ⟨A12, c12, rfl, r12, _, k12⟩
        have K12 := Lib.hid (K11.out.tr k12)
        have M12 := Lib.hid (M11.out.kp k12)
        clear k12
        go_wp2_with fail
        refine (H5.out _ K12.out).mono ?_; rintro e w13 ⟨A13, c13, rfl, r13, _, k13⟩
        have K13 := Lib.hid (K12.out.tr k13)
        have M13 := Lib.hid (M12.out.kp k13)
        have r12 := Lib.hid (r12.out.kp k13)
        clear k13
        go_wp2_with fail
        refine (same_g ul ul r12.out r13.out rfl rfl (r := true) (by simp)).mono ?_; rintro e w14 ⟨rfl, k14⟩
        have K14 := Lib.hid (K13.out.tr k14)
        have M14 := Lib.hid (M13.out.kp k14)
        clear k14 r12 r13
        go_wp2_with fail
        refine (HC.out.live A2 c2 lm.length 1 lm _ _ M14.out M8.out.2.1 M8.out.2.2 HM.out.2.1 rfl rfl HMM.out.2.2.1).mono ?_; rintro e w15 ⟨A15, c15, rfl, _, _, k15⟩
        have K15 := Lib.hid (K14.out.tr k15)
        clear k15
        go_wp2_with fail
        refine (H3.out _ K15.out).mono ?_; rintro e w20 ⟨rfl, k20⟩
        have K20 := Lib.hid (K15.out.tr k20)
        clear k20
        go_wp2_with fail
        refine (H4.out _ K20.out).mono ?_; rintro e w21 ⟨A21, c21, rfl, _, _, k21⟩
        have K21 := Lib.hid (K20.out.tr k21)
        clear k21
        go_wp2_with fail
        refine (H5.out _ K21.out).mono ?_; rintro e w22 ⟨A22, c22, rfl, _, _, k22⟩
        have K22 := Lib.hid (K21.out.tr k22)
        clear k22
        go_wp2
        go_ret
        exact ⟨rfl, K22.out⟩
      · have e1 : ¬ (l.length : Int) < 24 := by omega
        have e2 : ((l.length : Int) == 24) = true := by simp; omega
        have hmt : checkB lm = false := by rw [hmv]; simpa using h24
        have HMT := Lib.hid hmt
        clear hmv hmt
        refine (HC.out.check A2 c2 lm.length lm false _ M8.out.1 M8.out.2.1 M8.out.2.2 HM.out.2.1 rfl HMT.out).mono ?_; rintro e w9 ⟨rfl, k9⟩
        have K9 := Lib.hid (K8W.out.tr k9)
        clear k9
        go_wp2_with fail
        refine (H3.out _ K9.out).mono ?_; rintro e w20 ⟨rfl, k20⟩
        have K20 := Lib.hid (K9.out.tr k20)
        clear k20
        go_wp2_with fail
        refine (H4.out _ K20.out).mono ?_; rintro e w21 ⟨A21, c21, rfl, _, _, k21⟩
        have K21 := Lib.hid (K20.out.tr k21)
        clear k21
        go_wp2_with fail
        refine (H5.out _ K21.out).mono ?_; rintro e w22 ⟨A22, c22, rfl, _, _, k22⟩
        have K22 := Lib.hid (K21.out.tr k22)
        clear k22
        go_wp2
        go_ret
        exact ⟨by simp [e1], K22.out⟩
set_option maxRecDepth 100000 in
theorem gcuts_walk (C : GrC) (A : Option Addr) (c : Nat) (l : List Nd) (a node : Int) (W : World) (R : RdG W A l) (N : ∀ t ∈ l, Nd64 t) (L : l.length ≤ c) (M : c ≤ 9223372036854775807) (g0 : 0 ≤ a) (g1 : a ≤ 255) (hi : I64 node) :
    Calls Try.prog 4 #[.slice A l.length c, .int .u8 a, .int .i64 node] W fun e w' => e = .returned (.bool true) ∧ Below W.heap.size W w' := by
  have HAW : Hid (Calls Try.prog 9 #[] W fun e w' => e = .returned (.bool true) ∧ Kp W w') := grawake_any C W
  have HF : Hid (∀ V, Kp W V → Calls Try.prog 10 #[.slice A l.length c] V fun e w' => e = .returned (.bool (fewN l)) ∧ w' = V) := fun V k => rfew10_any A c l V (R.kp k)
  cases hf : fewN l with
  | false =>
    rw [hf] at HF
    clear hf C R N hi
    go_enter Try.func4, Try.ntmps4
    go_wp2_with fail
    refine (Hid.out HAW).mono ?_; rintro e w1 ⟨rfl, k1⟩
    have K := Lib.hid k1
    clear k1
    go_wp2_with fail
    refine (HF.out _ K.out).mono ?_; rintro e w2 ⟨rfl, rfl⟩
    go_wp2
    go_ret
    exact ⟨rfl, K.out⟩
  | true =>
    rw [hf] at HF
    have HCK := guard_none C A c l W R L M (small_few hf N)
    cases hc : checkB l with
    | false =>
      rw [hc] at HCK
      clear hf hc C R N hi
      go_enter Try.func4, Try.ntmps4
      go_wp2_with fail
      refine (Hid.out HAW).mono ?_; rintro e w1 ⟨rfl, k1⟩
      have K := Lib.hid k1
      clear k1
      go_wp2_with fail
      refine (HF.out _ K.out).mono ?_; rintro e w2 ⟨rfl, rfl⟩
      go_wp2_with fail
      refine (HCK.out _ K.out).mono ?_; rintro e w3 ⟨rfl, k3⟩
      have K := Lib.hid (K.out.tr k3)
      clear k3
      go_wp2
      go_ret
      exact ⟨rfl, K.out⟩
    | true => exact gcuts_main C A c l a node W R L M (small_few hf N) hf hc g0 g1 hi
end Go.Proofs.Ytklphpphgkbjoaa
