/- ChainTrims: the law's walk, over what the calls answer. -/
import Derived.Test.YtdcpekkkenckeaaChTells
namespace Go.Proofs.Ytdcpekkkenckeaa
open Go.RowKit Go.Proofs.ShM Go.Proofs.GrM Go.Proofs.ImM Go.Proofs.ChM
set_option linter.unusedVariables false
set_option maxRecDepth 100000
set_option maxHeartbeats 8000000

theorem ctrims_far (C : ChC) (A : Option Addr) (n c : Nat) (l : List Nd) (s z : Int) (w : World) (h : RdG w A l) (hn : n = l.length) (hc : l.length ≤ c ∧ c ≤ 9223372036854775807) (u x : Bool) (hu : fewC l = u) (hx : u = true → SmV l ∧ chkV l = x) (hf : (u && x) = false) :
    Calls Try.prog 5 #[.slice A n c, .int .i64 s, .int .i64 z] w fun e w' => e = .returned (.bool true) ∧ Kp w w' := by
  have K0 : Hid (Kp w w) := Kp.refl w
  have HA : Hid (∀ W, Calls Try.prog 8 #[] W fun e w' => e = .returned (.bool true) ∧ Kp W w') := fun W => chawake_any C W
  have HF : Hid (∀ W, Kp w W → Calls Try.prog 9 #[.slice A n c] W fun e w' => e = .returned (.bool u) ∧ Kp W w') := fun W kW => rfew17_any A n c l W (h.kp kW) hn hu
  have HC : Hid (u = true → ∀ W, Kp w W → Calls Try.prog 17 #[.slice A n c] W fun e w' => e = .returned (.bool x) ∧ Kp W w') := fun g W kW => C.check A c n l x W (h.kp kW) hc (hx g).1 hn (hx g).2
  clear hu hx h hn hc C
  cases u with
  | false =>
    clear hf
    go_enter Try.func5, Try.ntmps5
    go_wp2_with fail
    refine (HA.out _).mono ?_; rintro e w1 ⟨rfl, k1⟩
    have K1 := Lib.hid (K0.out.tr k1)
    clear k1
    go_wp2_with fail
    refine (HF.out _ K1.out).mono ?_; rintro e w2 ⟨rfl, k2⟩
    have K2 := Lib.hid (K1.out.tr k2)
    clear k2
    go_wp2
    go_ret
    exact ⟨rfl, K2.out⟩
  | true =>
    obtain rfl : x = false := by simpa using hf
    clear hf
    go_enter Try.func5, Try.ntmps5
    go_wp2_with fail
    refine (HA.out _).mono ?_; rintro e w1 ⟨rfl, k1⟩
    have K1 := Lib.hid (K0.out.tr k1)
    clear k1
    go_wp2_with fail
    refine (HF.out _ K1.out).mono ?_; rintro e w2 ⟨rfl, k2⟩
    have K2 := Lib.hid (K1.out.tr k2)
    clear k2
    go_wp2_with fail
    refine (HC.out (by trivial) _ K2.out).mono ?_; rintro e w3 ⟨rfl, k3⟩
    have K3 := Lib.hid (K2.out.tr k3)
    clear k3
    go_wp2
    go_ret
    exact ⟨rfl, K3.out⟩
theorem ctrims_main (C : ChC) (A : Option Addr) (n c : Nat) (l : List Nd) (s z : Int) (w : World) (h : RdG w A l) (hn : n = l.length) (hc : l.length ≤ c ∧ c ≤ 9223372036854775807) (zm : Int) (hzm : (z < s ∧ zm = s) ∨ (s ≤ z ∧ zm = z)) (hs : In64 s) (hz : In64 z) (sm : SmV l) (hl30 : l.length ≤ 30) (hf : fewC l = true) (hk : chkV l = true) :
    Calls Try.prog 5 #[.slice A n c, .int .i64 s, .int .i64 z] w fun e w' => e = .returned (.bool true) ∧ Kp w w' := by
  have K0 : Hid (Kp w w) := Kp.refl w
  have HA : Hid (∀ W, Calls Try.prog 8 #[] W fun e w' => e = .returned (.bool true) ∧ Kp W w') := fun W => chawake_any C W
  have HF : Hid (∀ W, Kp w W → Calls Try.prog 9 #[.slice A n c] W fun e w' => e = .returned (.bool true) ∧ Kp W w') := fun W kW => rfew17_any A n c l W (h.kp kW) hn hf
  have HC : Hid (∀ W, Kp w W → Calls Try.prog 17 #[.slice A n c] W fun e w' => e = .returned (.bool true) ∧ Kp W w') := fun W kW => C.check A c n l true W (h.kp kW) hc sm hn hk
  obtain ⟨m, hm⟩ : ∃ m, trimC l s = m := ⟨_, rfl⟩
  obtain ⟨j, hj⟩ : ∃ j, m.length = j := ⟨_, rfl⟩
  have hszm : s ≤ zm ∧ In64 zm := by
    rcases hzm with ⟨g, rfl⟩ | ⟨g, rfl⟩
    · exact ⟨Int.le_refl _, hs⟩
    · exact ⟨g, hz⟩
  obtain ⟨rt, rb, hr⟩ : ∃ rt rb, readC l zm = (rt, rb) := ⟨_, _, rfl⟩
  have hr2 : readC m zm = (rt, rb) := by rw [← hm, trim_read hk hszm.1, hr]
  have smm : SmV m := by rw [← hm]; exact sm_trim sm s
  have hckm : chkV m = true := by rw [← hm]; exact (trim_chk hk s).1
  have hlen : j ≤ n := by rw [← hj, ← hm, hn]; exact (trim_chk hk s).2
  have hag : trimC m s = m := by rw [← hm]; exact trim_again hk s
  have hol : ∀ i, 0 < i → i < m.length → s < (m.getD i nd0).1 := by rw [← hm]; exact trim_old hk s
  obtain ⟨nb, hnb⟩ : ∃ nb, newerC l z = nb := ⟨_, rfl⟩
  have hnb2 : newerC m z = nb := by rw [← hm, trim_newer hk, hnb]
  obtain ⟨x, hx⟩ : ∃ x, rt.1.length = x := ⟨_, rfl⟩
  obtain ⟨y, hy⟩ : ∃ y, rt.2.length = y := ⟨_, rfl⟩
  have c1 : Hid (∀ W, Kp w W → Calls Try.prog 21 #[.slice A n c, .int .i64 s] W (RetV m j W)) := fun W kW => C.trim A c n j l m s W (h.kp kW) hc sm hn hs hm hj
  have c2 : Hid (∀ W, Kp w W → Calls Try.prog 11 #[.slice A n c, .int .i64 zm] W (RetTB rt rb x y W)) := fun W kW => C.read A c n l zm rt rb x y W (h.kp kW) hc sm hn hszm.2 hr hx hy
  have c3 : Hid (∀ A' c' W, RdG W A' m → m.length ≤ c' ∧ c' ≤ 9223372036854775807 → Calls Try.prog 11 #[.slice A' j c', .int .i64 zm] W (RetTB rt rb x y W)) := fun A' c' W h1 h2 => C.read A' c' j m zm rt rb x y W h1 h2 smm hj.symm hszm.2 hr2 hx hy
  have c4 : Hid (∀ A' c' W, RdG W A' m → m.length ≤ c' ∧ c' ≤ 9223372036854775807 → Calls Try.prog 21 #[.slice A' j c', .int .i64 s] W (RetV m j W)) := fun A' c' W h1 h2 => C.trim A' c' j j m m s W h1 h2 smm hj.symm hs hag hj
  have c5 : Hid (∀ A' c' W, RdG W A' m → m.length ≤ c' ∧ c' ≤ 9223372036854775807 → Calls Try.prog 17 #[.slice A' j c'] W fun e W' => e = .returned (.bool true) ∧ Kp W W') := fun A' c' W h1 h2 => C.check A' c' j m true W h1 h2 smm hj.symm hckm
  have c6 : Hid (∀ A' c' W, RdG W A' m → m.length ≤ c' ∧ c' ≤ 9223372036854775807 → Calls Try.prog 19 #[.slice A' j c', .int .i64 z] W fun e W' => e = .returned (.bool nb) ∧ Kp W W') := fun A' c' W h1 h2 => C.newer A' c' j m z nb W h1 h2 smm hj.symm hz hnb2
  have c7 : Hid (∀ W, Kp w W → Calls Try.prog 19 #[.slice A n c, .int .i64 z] W fun e W' => e = .returned (.bool nb) ∧ Kp W W') := fun W kW => C.newer A c n l z nb W (h.kp kW) hc sm hn hz hnb
  have eb : (rb == rb) = true := by simp
  have en : (nb == nb) = true := by simp
  have HJ := Lib.hid (And.intro hx (And.intro hy hj))
  have HO := Lib.hid hol
  have hn' : n ≤ 9223372036854775807 := by omega
  have hj' : j ≤ 9223372036854775807 := by omega
  have hjn : (j : Int) ≤ (n : Int) := by omega
  have smm30 : Hid (m.length ≤ 100) := smm.1
  clear C h hn hc hs hz sm hl30 hf hk hm hr hr2 smm hckm hlen hag hol hnb hnb2 hx hy hj hszm
  rcases hzm with ⟨hzs, hze⟩ | ⟨hzs, hze⟩
  · obtain rfl : s = zm := hze.symm
    go_enter Try.func5, Try.ntmps5
    go_wp2_with fail
    refine (HA.out _).mono ?_; rintro e w1 ⟨rfl, k1⟩
    have K1 := Lib.hid (K0.out.tr k1)
    clear k1
    go_wp2_with fail
    refine (HF.out _ K1.out).mono ?_; rintro e w2 ⟨rfl, k2⟩
    have K2 := Lib.hid (K1.out.tr k2)
    clear k2
    go_wp2_with fail
    refine (HC.out _ K2.out).mono ?_; rintro e w3 ⟨rfl, k3⟩
    have K3 := Lib.hid (K2.out.tr k3)
    clear k3
    go_wp2_with fail
    refine (c1.out _ K3.out).mono ?_; rintro e w4 ⟨A4, d4, rfl, r4, l4, k4⟩
    have K4 := Lib.hid (K3.out.tr k4)
    clear k4
    go_wp2_with fail
    refine (c2.out _ K4.out).mono ?_; rintro e w5 ⟨P5, x5, Q5, y5, rfl, T5, k5⟩
    have K5 := Lib.hid (K4.out.tr k5)
    have RM_5 := Lib.hid (r4.out.kp k5)
    clear k5
    obtain ⟨w6, hw6⟩ : ∃ V, V = w5.alloc (.cells #[.slice P5 x x5, .slice Q5 y y5] 25) := ⟨_, rfl⟩
    have HX6 := Lib.hid hw6
    have k6 : Kp w5 w6 := by rw [hw6]; exact Kp.alloc_ _ _
    have RM_6 := Lib.hid (RM_5.out.kp k6)
    have TA_6 := Lib.hid (T5.out.kp k6)
    have BA_6 : Hid (Bk w6 w5.heap.size P5 x x5 Q5 y y5) := by show Bk _ _ _ _ _ _ _ _; rw [hw6]; exact Bk.new rfl
    have K6 := Lib.hid (K5.out.tr k6)
    clear k6 hw6
    go_wp2_with fail
    rw [← HX6.out]
    refine (c3.out A4 d4 _ RM_6.out l4.out).mono ?_; rintro e w7 ⟨P7, x7, Q7, y7, rfl, T7, k7⟩
    have K7 := Lib.hid (K6.out.tr k7)
    have RM_7 := Lib.hid (RM_6.out.kp k7)
    have TA_7 := Lib.hid (TA_6.out.kp k7)
    have BA_7 := Lib.hid (BA_6.out.kp k7)
    clear k7
    obtain ⟨w8, hw8⟩ : ∃ V, V = w7.alloc (.cells #[.slice P7 x x7, .slice Q7 y y7] 25) := ⟨_, rfl⟩
    have HX8 := Lib.hid hw8
    have k8 : Kp w7 w8 := by rw [hw8]; exact Kp.alloc_ _ _
    have RM_8 := Lib.hid (RM_7.out.kp k8)
    have TA_8 := Lib.hid (TA_7.out.kp k8)
    have BA_8 := Lib.hid (BA_7.out.kp k8)
    have TB_8 := Lib.hid (T7.out.kp k8)
    have BB_8 : Hid (Bk w8 w7.heap.size P7 x x7 Q7 y y7) := by show Bk _ _ _ _ _ _ _ _; rw [hw8]; exact Bk.new rfl
    have K8 := Lib.hid (K7.out.tr k8)
    clear k8 hw8
    go_wp2_with fail
    rw [← HX8.out]
    go_loopw [13, 14] (fun o i wx => ∃ (k : Nat) (q : Int), o = .int .i64 q ∧ i = .int .i64 (k : Int) ∧ Hid (k ≤ j) ∧ Hid (0 ≤ q ∧ q ≤ 1 ∧ (k = 0 → q = 0)) ∧ Hid (wx = w8)) (fun _ i _ => j - (intOf i).toNat)
    case atStart => exact ⟨0, 0, rfl, rfl, Nat.zero_le _, ⟨by decide, by decide, fun _ => rfl⟩, rfl⟩
    case round =>
      obtain ⟨k, q, rfl, rfl, hk, hq, hw⟩ := hrel
      obtain ⟨wz, hwz⟩ : ∃ wz, wz = wr := ⟨_, rfl⟩
      have hwr : w8 = wz := by rw [hwz]; exact hw.out.symm
      clear hw
      subst hwz
      subst hwr
      by_cases hkj : k < j
      · have hkj' : (k : Int) < (j : Int) := by omega
        obtain ⟨ad, P', e', Q', f', rfl, hlt, hc0, _, _, _⟩ := RM_8.out.atv (show k < m.length by rw [HJ.out.2.2]; exact hkj)
        obtain ⟨v, hv⟩ : ∃ v, v = (m.getD k nd0).1 := ⟨_, rfl⟩
        rw [← hv] at hc0
        have HV : Hid (0 < k → s < v) := fun h0 => by rw [hv]; exact HO.out k h0 (by rw [HJ.out.2.2]; exact hkj)
        clear hv
        by_cases hvs : v ≤ s
        · have hk0 : k = 0 := by
            rcases Nat.eq_zero_or_pos k with h0 | h0
            · exact h0
            · have := HV.out h0; omega
          obtain rfl : q = 0 := hq.out.2.2 hk0
          clear hk0
          go_wp2
          go_roundw
          case rel => exact ⟨k + 1, 1, by go_num, by go_num, (by show k + 1 ≤ j; omega), ⟨by decide, by decide, fun h => by cases h⟩, trivial⟩
          case measure => simp [intOf]; omega
        · go_wp2
          go_roundw
          case rel => exact ⟨k + 1, q, rfl, by go_num, (by show k + 1 ≤ j; omega), ⟨hq.out.1, hq.out.2.1, fun h => by cases h⟩, trivial⟩
          case measure => simp [intOf]; omega
      · have hkj' : ¬ (k : Int) < (j : Int) := by omega
        have hq1 : q ≤ 1 := hq.out.2.1
        have zBA0 := BA_8.out.c0
        have zBA1 := BA_8.out.c1
        have zBB0 := BB_8.out.c0
        have zBB1 := BB_8.out.c1
        go_wp2_with fail
        refine (tsame_u TA_8.out.r TB_8.out.r HJ.out.1 HJ.out.2.1).mono ?_; rintro e w9 ⟨rfl, k9⟩
        have K9 := Lib.hid (K8.out.tr k9)
        have RM_9 := Lib.hid (RM_8.out.kp k9)
        have TA_9 := Lib.hid (TA_8.out.kp k9)
        have BA_9 := Lib.hid (BA_8.out.kp k9)
        have TB_9 := Lib.hid (TB_8.out.kp k9)
        have BB_9 := Lib.hid (BB_8.out.kp k9)
        clear k9 zBA0 zBA1 zBB0 zBB1
        go_wp2_with fail
        refine (c4.out A4 d4 _ RM_9.out l4.out).mono ?_; rintro e w10 ⟨A10, d10, rfl, r10, l10, k10⟩
        have K10 := Lib.hid (K9.out.tr k10)
        have RM_10 := Lib.hid (RM_9.out.kp k10)
        have TA_10 := Lib.hid (TA_9.out.kp k10)
        have BA_10 := Lib.hid (BA_9.out.kp k10)
        have TB_10 := Lib.hid (TB_9.out.kp k10)
        have BB_10 := Lib.hid (BB_9.out.kp k10)
        clear k10
        go_wp2_with fail
        refine (rsame17_any A10 A4 j j d10 d4 m m _ r10.out RM_10.out HJ.out.2.2.symm HJ.out.2.2.symm (q := true) (by simp)).mono ?_; rintro e w11 ⟨rfl, k11⟩
        have K11 := Lib.hid (K10.out.tr k11)
        have RM_11 := Lib.hid (RM_10.out.kp k11)
        have TA_11 := Lib.hid (TA_10.out.kp k11)
        have BA_11 := Lib.hid (BA_10.out.kp k11)
        have TB_11 := Lib.hid (TB_10.out.kp k11)
        have BB_11 := Lib.hid (BB_10.out.kp k11)
        have RN_11 := Lib.hid (r10.out.kp k11)
        clear k11
        go_wp2_with fail
        refine (c5.out A4 d4 _ RM_11.out l4.out).mono ?_; rintro e w12 ⟨rfl, k12⟩
        have K12 := Lib.hid (K11.out.tr k12)
        have RM_12 := Lib.hid (RM_11.out.kp k12)
        have TA_12 := Lib.hid (TA_11.out.kp k12)
        have BA_12 := Lib.hid (BA_11.out.kp k12)
        have TB_12 := Lib.hid (TB_11.out.kp k12)
        have BB_12 := Lib.hid (BB_11.out.kp k12)
        have RN_12 := Lib.hid (RN_11.out.kp k12)
        clear k12
        go_wp2_with fail
        refine (c6.out A4 d4 _ RM_12.out l4.out).mono ?_; rintro e w13 ⟨rfl, k13⟩
        have K13 := Lib.hid (K12.out.tr k13)
        have RM_13 := Lib.hid (RM_12.out.kp k13)
        have TA_13 := Lib.hid (TA_12.out.kp k13)
        have BA_13 := Lib.hid (BA_12.out.kp k13)
        have TB_13 := Lib.hid (TB_12.out.kp k13)
        have BB_13 := Lib.hid (BB_12.out.kp k13)
        have RN_13 := Lib.hid (RN_12.out.kp k13)
        clear k13
        go_wp2_with fail
        refine (c7.out _ K13.out).mono ?_; rintro e w14 ⟨rfl, k14⟩
        have K14 := Lib.hid (K13.out.tr k14)
        have RM_14 := Lib.hid (RM_13.out.kp k14)
        have TA_14 := Lib.hid (TA_13.out.kp k14)
        have BA_14 := Lib.hid (BA_13.out.kp k14)
        have TB_14 := Lib.hid (TB_13.out.kp k14)
        have BB_14 := Lib.hid (BB_13.out.kp k14)
        have RN_14 := Lib.hid (RN_13.out.kp k14)
        clear k14
        go_wp2
        go_ret
        exact ⟨rfl, K14.out⟩
  · obtain rfl : z = zm := hze.symm
    go_enter Try.func5, Try.ntmps5
    go_wp2_with fail
    refine (HA.out _).mono ?_; rintro e w1 ⟨rfl, k1⟩
    have K1 := Lib.hid (K0.out.tr k1)
    clear k1
    go_wp2_with fail
    refine (HF.out _ K1.out).mono ?_; rintro e w2 ⟨rfl, k2⟩
    have K2 := Lib.hid (K1.out.tr k2)
    clear k2
    go_wp2_with fail
    refine (HC.out _ K2.out).mono ?_; rintro e w3 ⟨rfl, k3⟩
    have K3 := Lib.hid (K2.out.tr k3)
    clear k3
    go_wp2_with fail
    refine (c1.out _ K3.out).mono ?_; rintro e w4 ⟨A4, d4, rfl, r4, l4, k4⟩
    have K4 := Lib.hid (K3.out.tr k4)
    clear k4
    go_wp2_with fail
    refine (c2.out _ K4.out).mono ?_; rintro e w5 ⟨P5, x5, Q5, y5, rfl, T5, k5⟩
    have K5 := Lib.hid (K4.out.tr k5)
    have RM_5 := Lib.hid (r4.out.kp k5)
    clear k5
    obtain ⟨w6, hw6⟩ : ∃ V, V = w5.alloc (.cells #[.slice P5 x x5, .slice Q5 y y5] 25) := ⟨_, rfl⟩
    have HX6 := Lib.hid hw6
    have k6 : Kp w5 w6 := by rw [hw6]; exact Kp.alloc_ _ _
    have RM_6 := Lib.hid (RM_5.out.kp k6)
    have TA_6 := Lib.hid (T5.out.kp k6)
    have BA_6 : Hid (Bk w6 w5.heap.size P5 x x5 Q5 y y5) := by show Bk _ _ _ _ _ _ _ _; rw [hw6]; exact Bk.new rfl
    have K6 := Lib.hid (K5.out.tr k6)
    clear k6 hw6
    go_wp2_with fail
    rw [← HX6.out]
    refine (c3.out A4 d4 _ RM_6.out l4.out).mono ?_; rintro e w7 ⟨P7, x7, Q7, y7, rfl, T7, k7⟩
    have K7 := Lib.hid (K6.out.tr k7)
    have RM_7 := Lib.hid (RM_6.out.kp k7)
    have TA_7 := Lib.hid (TA_6.out.kp k7)
    have BA_7 := Lib.hid (BA_6.out.kp k7)
    clear k7
    obtain ⟨w8, hw8⟩ : ∃ V, V = w7.alloc (.cells #[.slice P7 x x7, .slice Q7 y y7] 25) := ⟨_, rfl⟩
    have HX8 := Lib.hid hw8
    have k8 : Kp w7 w8 := by rw [hw8]; exact Kp.alloc_ _ _
    have RM_8 := Lib.hid (RM_7.out.kp k8)
    have TA_8 := Lib.hid (TA_7.out.kp k8)
    have BA_8 := Lib.hid (BA_7.out.kp k8)
    have TB_8 := Lib.hid (T7.out.kp k8)
    have BB_8 : Hid (Bk w8 w7.heap.size P7 x x7 Q7 y y7) := by show Bk _ _ _ _ _ _ _ _; rw [hw8]; exact Bk.new rfl
    have K8 := Lib.hid (K7.out.tr k8)
    clear k8 hw8
    go_wp2_with fail
    rw [← HX8.out]
    go_loopw [13, 14] (fun o i wx => ∃ (k : Nat) (q : Int), o = .int .i64 q ∧ i = .int .i64 (k : Int) ∧ Hid (k ≤ j) ∧ Hid (0 ≤ q ∧ q ≤ 1 ∧ (k = 0 → q = 0)) ∧ Hid (wx = w8)) (fun _ i _ => j - (intOf i).toNat)
    case atStart => exact ⟨0, 0, rfl, rfl, Nat.zero_le _, ⟨by decide, by decide, fun _ => rfl⟩, rfl⟩
    case round =>
      obtain ⟨k, q, rfl, rfl, hk, hq, hw⟩ := hrel
      obtain ⟨wz, hwz⟩ : ∃ wz, wz = wr := ⟨_, rfl⟩
      have hwr : w8 = wz := by rw [hwz]; exact hw.out.symm
      clear hw
      subst hwz
      subst hwr
      by_cases hkj : k < j
      · have hkj' : (k : Int) < (j : Int) := by omega
        obtain ⟨ad, P', e', Q', f', rfl, hlt, hc0, _, _, _⟩ := RM_8.out.atv (show k < m.length by rw [HJ.out.2.2]; exact hkj)
        obtain ⟨v, hv⟩ : ∃ v, v = (m.getD k nd0).1 := ⟨_, rfl⟩
        rw [← hv] at hc0
        have HV : Hid (0 < k → s < v) := fun h0 => by rw [hv]; exact HO.out k h0 (by rw [HJ.out.2.2]; exact hkj)
        clear hv
        by_cases hvs : v ≤ s
        · have hk0 : k = 0 := by
            rcases Nat.eq_zero_or_pos k with h0 | h0
            · exact h0
            · have := HV.out h0; omega
          obtain rfl : q = 0 := hq.out.2.2 hk0
          clear hk0
          go_wp2
          go_roundw
          case rel => exact ⟨k + 1, 1, by go_num, by go_num, (by show k + 1 ≤ j; omega), ⟨by decide, by decide, fun h => by cases h⟩, trivial⟩
          case measure => simp [intOf]; omega
        · go_wp2
          go_roundw
          case rel => exact ⟨k + 1, q, rfl, by go_num, (by show k + 1 ≤ j; omega), ⟨hq.out.1, hq.out.2.1, fun h => by cases h⟩, trivial⟩
          case measure => simp [intOf]; omega
      · have hkj' : ¬ (k : Int) < (j : Int) := by omega
        have hq1 : q ≤ 1 := hq.out.2.1
        have zBA0 := BA_8.out.c0
        have zBA1 := BA_8.out.c1
        have zBB0 := BB_8.out.c0
        have zBB1 := BB_8.out.c1
        go_wp2_with fail
        refine (tsame_u TA_8.out.r TB_8.out.r HJ.out.1 HJ.out.2.1).mono ?_; rintro e w9 ⟨rfl, k9⟩
        have K9 := Lib.hid (K8.out.tr k9)
        have RM_9 := Lib.hid (RM_8.out.kp k9)
        have TA_9 := Lib.hid (TA_8.out.kp k9)
        have BA_9 := Lib.hid (BA_8.out.kp k9)
        have TB_9 := Lib.hid (TB_8.out.kp k9)
        have BB_9 := Lib.hid (BB_8.out.kp k9)
        clear k9 zBA0 zBA1 zBB0 zBB1
        go_wp2_with fail
        refine (c4.out A4 d4 _ RM_9.out l4.out).mono ?_; rintro e w10 ⟨A10, d10, rfl, r10, l10, k10⟩
        have K10 := Lib.hid (K9.out.tr k10)
        have RM_10 := Lib.hid (RM_9.out.kp k10)
        have TA_10 := Lib.hid (TA_9.out.kp k10)
        have BA_10 := Lib.hid (BA_9.out.kp k10)
        have TB_10 := Lib.hid (TB_9.out.kp k10)
        have BB_10 := Lib.hid (BB_9.out.kp k10)
        clear k10
        go_wp2_with fail
        refine (rsame17_any A10 A4 j j d10 d4 m m _ r10.out RM_10.out HJ.out.2.2.symm HJ.out.2.2.symm (q := true) (by simp)).mono ?_; rintro e w11 ⟨rfl, k11⟩
        have K11 := Lib.hid (K10.out.tr k11)
        have RM_11 := Lib.hid (RM_10.out.kp k11)
        have TA_11 := Lib.hid (TA_10.out.kp k11)
        have BA_11 := Lib.hid (BA_10.out.kp k11)
        have TB_11 := Lib.hid (TB_10.out.kp k11)
        have BB_11 := Lib.hid (BB_10.out.kp k11)
        have RN_11 := Lib.hid (r10.out.kp k11)
        clear k11
        go_wp2_with fail
        refine (c5.out A4 d4 _ RM_11.out l4.out).mono ?_; rintro e w12 ⟨rfl, k12⟩
        have K12 := Lib.hid (K11.out.tr k12)
        have RM_12 := Lib.hid (RM_11.out.kp k12)
        have TA_12 := Lib.hid (TA_11.out.kp k12)
        have BA_12 := Lib.hid (BA_11.out.kp k12)
        have TB_12 := Lib.hid (TB_11.out.kp k12)
        have BB_12 := Lib.hid (BB_11.out.kp k12)
        have RN_12 := Lib.hid (RN_11.out.kp k12)
        clear k12
        go_wp2_with fail
        refine (c6.out A4 d4 _ RM_12.out l4.out).mono ?_; rintro e w13 ⟨rfl, k13⟩
        have K13 := Lib.hid (K12.out.tr k13)
        have RM_13 := Lib.hid (RM_12.out.kp k13)
        have TA_13 := Lib.hid (TA_12.out.kp k13)
        have BA_13 := Lib.hid (BA_12.out.kp k13)
        have TB_13 := Lib.hid (TB_12.out.kp k13)
        have BB_13 := Lib.hid (BB_12.out.kp k13)
        have RN_13 := Lib.hid (RN_12.out.kp k13)
        clear k13
        go_wp2_with fail
        refine (c7.out _ K13.out).mono ?_; rintro e w14 ⟨rfl, k14⟩
        have K14 := Lib.hid (K13.out.tr k14)
        have RM_14 := Lib.hid (RM_13.out.kp k14)
        have TA_14 := Lib.hid (TA_13.out.kp k14)
        have BA_14 := Lib.hid (BA_13.out.kp k14)
        have TB_14 := Lib.hid (TB_13.out.kp k14)
        have BB_14 := Lib.hid (BB_13.out.kp k14)
        have RN_14 := Lib.hid (RN_13.out.kp k14)
        clear k14
        go_wp2
        go_ret
        exact ⟨rfl, K14.out⟩
theorem ctrims_walk (C : ChC) (A : Option Addr) (c : Nat) (l : List Nd) (s z : Int) (w : World) (h : RdG w A l) (N : ∀ v ∈ l, In64 v.1 ∧ N64 v.2.1 ∧ N64 v.2.2) (hc : l.length ≤ c ∧ c ≤ 9223372036854775807) (hs : In64 s) (hz : In64 z) :
    Calls Try.prog 5 #[.slice A l.length c, .int .i64 s, .int .i64 z] w fun e w' => e = .returned (.bool true) ∧ Kp w w' := by
  cases hf : (fewC l && chkV l) with
  | false => exact ctrims_far C A _ c l s z w h rfl hc _ _ rfl (fun g => ⟨(sm_few g N).1, rfl⟩) hf
  | true =>
    rw [Bool.and_eq_true] at hf
    obtain ⟨s1, s2⟩ := sm_few hf.1 N
    exact ctrims_main C A _ c l s z w h rfl hc (if z < s then s else z) (by by_cases g : z < s; exact .inl ⟨g, if_pos g⟩; exact .inr ⟨by omega, if_neg g⟩) hs hz s1 s2 hf.1 hf.2
end Go.Proofs.Ytdcpekkkenckeaa
