/- ChainCuts: the law's walk, over what the calls answer. -/
import Derived.Test.YtdcpekkkenckeaaChTells
import Derived.Test.YtdcpekkkenckeaaR17B
import Derived.Deep.RegionHeld3
namespace Go.Proofs.Ytdcpekkkenckeaa
open Go.RowKit Go.Proofs.ShM Go.Proofs.GrM Go.Proofs.ImM Go.Proofs.ChM
set_option linter.unusedVariables false
set_option linter.unusedSimpArgs false
set_option maxRecDepth 100000
set_option maxHeartbeats 8000000

theorem ccuts_far (C : ChC) (A : Option Addr) (n c : Nat) (l : List Nd) (u8 s : Int) (w : World) (h : RdG w A l) (hn : n = l.length) (hc : l.length ≤ c ∧ c ≤ 9223372036854775807) (u x : Bool) (hu : fewC l = u) (hx : u = true → SmV l ∧ chkV l = x) (hf : (u && x) = false) :
    Calls Try.prog 6 #[.slice A n c, .int .u8 u8, .int .i64 s] w fun e w' => e = .returned (.bool true) ∧ Kp w w' := by
  have K0 : Hid (Kp w w) := Kp.refl w
  have HA : Hid (∀ W, Calls Try.prog 8 #[] W fun e w' => e = .returned (.bool true) ∧ Kp W w') := fun W => chawake_any C W
  have HF : Hid (∀ W, Kp w W → Calls Try.prog 9 #[.slice A n c] W fun e w' => e = .returned (.bool u) ∧ Kp W w') := fun W kW => rfew17_any A n c l W (h.kp kW) hn hu
  have HC : Hid (u = true → ∀ W, Kp w W → Calls Try.prog 17 #[.slice A n c] W fun e w' => e = .returned (.bool x) ∧ Kp W w') := fun g W kW => C.check A c n l x W (h.kp kW) hc (hx g).1 hn (hx g).2
  clear hu hx h hn hc C
  cases u with
  | false =>
    clear hf
    go_enter Try.func6, Try.ntmps6
    go_wp2_with fail
    refine (HA.out _).mono ?_; rintro e w1 ⟨rfl, k1⟩
    have K1 := Lib.hid (K0.out.tr k1)
    clear k1
    go_wp2_with fail
    refine (HF.out _ K1.out).mono ?_; rintro e w2 ⟨rfl, k2⟩
    have K2 := Lib.hid (K1.out.tr k2)
    clear k2
    go_wp2
    go_ret
    exact ⟨rfl, K2.out⟩
  | true =>
    obtain rfl : x = false := by simpa using hf
    clear hf
    go_enter Try.func6, Try.ntmps6
    go_wp2_with fail
    refine (HA.out _).mono ?_; rintro e w1 ⟨rfl, k1⟩
    have K1 := Lib.hid (K0.out.tr k1)
    clear k1
    go_wp2_with fail
    refine (HF.out _ K1.out).mono ?_; rintro e w2 ⟨rfl, k2⟩
    have K2 := Lib.hid (K1.out.tr k2)
    clear k2
    go_wp2_with fail
    refine (HC.out (by trivial) _ K2.out).mono ?_; rintro e w3 ⟨rfl, k3⟩
    have K3 := Lib.hid (K2.out.tr k3)
    clear k3
    go_wp2
    go_ret
    exact ⟨rfl, K3.out⟩
theorem ccuts_all_none (C : ChC) (A : Option Addr) (n c : Nat) (l : List Nd) (u8 s : Int) (w : World) (h : RdG w A l) (hn : n = l.length) (hc : l.length ≤ c ∧ c ≤ 9223372036854775807) (g0 : 0 ≤ u8) (g1 : u8 ≤ 255) (k : Nat) (hk : u8 % ((n : Int) + 1) = (k : Int)) (hkn : k ≤ n) (hs : In64 s) (sm : SmV l) (hl30 : l.length ≤ 30) (hf : fewC l = true) (hck : chkV l = true) (ck : k = n) (ca : atC l s = -1) :
    Calls Try.prog 6 #[.slice A n c, .int .u8 u8, .int .i64 s] w fun e w' => e = .returned (.bool true) ∧ Kp w w' := by
  have hkn1 : ((k : Int) == (n : Int)) = true := by rw [beq_iff_eq]; omega
  have K0 : Hid (Kp w w) := Kp.refl w
  have HA : Hid (∀ W, Calls Try.prog 8 #[] W fun e w' => e = .returned (.bool true) ∧ Kp W w') := fun W => chawake_any C W
  have HF : Hid (∀ W, Kp w W → Calls Try.prog 9 #[.slice A n c] W fun e w' => e = .returned (.bool true) ∧ Kp W w') := fun W kW => rfew17_any A n c l W (h.kp kW) hn hf
  have HC : Hid (∀ W, Kp w W → Calls Try.prog 17 #[.slice A n c] W fun e w' => e = .returned (.bool true) ∧ Kp W w') := fun W kW => C.check A c n l true W (h.kp kW) hc sm hn hck
  obtain ⟨m, hm⟩ : ∃ m, l.take k = m := ⟨_, rfl⟩
  have hmk : m.length = k := by rw [← hm, List.length_take]; omega
  have hmc : m.length ≤ c ∧ c ≤ 9223372036854775807 := by omega
  have RM : RdG w A m := by rw [← hm]; exact h.take_ k
  have smm : SmV m := by rw [← hm]; exact sm_take sm k
  have hckm : chkV m = true := by rw [← hm]; exact chk_take' hck k
  obtain ⟨rt, rb, hr⟩ : ∃ rt rb, readC l s = (rt, rb) := ⟨_, _, rfl⟩
  obtain ⟨qt, qb, hq_⟩ : ∃ qt qb, readC m s = (qt, qb) := ⟨_, _, rfl⟩
  obtain ⟨x, hx⟩ : ∃ x, rt.1.length = x := ⟨_, rfl⟩
  obtain ⟨y, hy⟩ : ∃ y, rt.2.length = y := ⟨_, rfl⟩
  obtain ⟨x2, hx2⟩ : ∃ x, qt.1.length = x := ⟨_, rfl⟩
  obtain ⟨y2, hy2⟩ : ∃ y, qt.2.length = y := ⟨_, rfl⟩
  have c1 : Hid (∀ W, Kp w W → Calls Try.prog 11 #[.slice A n c, .int .i64 s] W (RetTB rt rb x y W)) := fun W kW => C.read A c n l s rt rb x y W (h.kp kW) hc sm hn hs hr hx hy
  have c2 : Hid (∀ W, Kp w W → Calls Try.prog 11 #[.slice A k c, .int .i64 s] W (RetTB qt qb x2 y2 W)) := fun W kW => C.read A c k m s qt qb x2 y2 W (RM.kp kW) hmc smm hmk.symm hs hq_ hx2 hy2
  have c3 : Hid (∀ W, Kp w W → Calls Try.prog 17 #[.slice A k c] W fun e w' => e = .returned (.bool true) ∧ Kp W w') := fun W kW => C.check A c k m true W (RM.kp kW) hmc smm hmk.symm hckm
  have HR : Hid (∀ W, Kp w W → RdG W A l) := fun W kW => h.kp kW
  have hn' : n ≤ 9223372036854775807 := by omega
  have hkc : k ≤ c := by omega
  have hkc2 : (k : Int) ≤ (c : Int) := by omega
  have hc' : c ≤ 9223372036854775807 := hc.2
  have hn30 : n ≤ 30 := by omega
  have hn1 : ((n : Int) + 1 == 0) = false := by simp; omega
  have hcr : readC m s = readC l s := by rw [← hm]; exact cut_read hck (by omega) (.inl (by omega))
  rw [hr, hq_] at hcr
  injection hcr with er1 er2
  subst er1 er2
  obtain rfl : x = x2 := hx.symm.trans hx2
  obtain rfl : y = y2 := hy.symm.trans hy2
  have hrb : readC l s = (cT, false) := by unfold readC; rw [ca, if_neg (fun h => by have := h.2; omega)]
  rw [hr] at hrb
  injection hrb with _ hrb
  subst hrb
  have HAM : Hid (atC l s = -1) := ca
  have HJ := Lib.hid (And.intro hx hy)
  obtain ⟨at_, hat⟩ : ∃ a, a = atC l s := ⟨_, rfl⟩
  have HAT : Hid (at_ = atF s (l.drop 0) 0 (-1)) := hat
  rw [← hat] at HAM
  have HN := Lib.hid hn
  clear C h hn hc hs sm hl30 hf hck hm hmk hmc RM smm hckm hr hq_ hx hy hat ca hx2 hy2 ck
  go_enter Try.func6, Try.ntmps6
  go_wp2_with fail
  refine (HA.out _).mono ?_; rintro e w1 ⟨rfl, k1⟩
  have K1 := Lib.hid (K0.out.tr k1)
  clear k1
  go_wp2_with fail
  refine (HF.out _ K1.out).mono ?_; rintro e w2 ⟨rfl, k2⟩
  have K2 := Lib.hid (K1.out.tr k2)
  clear k2
  go_wp2_with fail
  refine (HC.out _ K2.out).mono ?_; rintro e w3 ⟨rfl, k3⟩
  have K3 := Lib.hid (K2.out.tr k3)
  clear k3
  go_wp2_with fail
  refine (c1.out _ K3.out).mono ?_; rintro e w4 ⟨P4, x4, Q4, y4, rfl, T4, k4⟩
  have K4 := Lib.hid (K3.out.tr k4)
  clear k4
  obtain ⟨w5, hw5⟩ : ∃ V, V = w4.alloc (.cells #[.slice P4 x x4, .slice Q4 y y4] 25) := ⟨_, rfl⟩
  have HX5 := Lib.hid hw5
  have k5 : Kp w4 w5 := by rw [hw5]; exact Kp.alloc_ _ _
  have TA_5 := Lib.hid (T4.out.kp k5)
  have BA_5 : Hid (Bk w5 w4.heap.size P4 x x4 Q4 y y4) := by show Bk _ _ _ _ _ _ _ _; rw [hw5]; exact Bk.new rfl
  have K5 := Lib.hid (K4.out.tr k5)
  clear k5 hw5
  go_wp2_with fail
  rw [← HX5.out]
  refine (c2.out _ K5.out).mono ?_; rintro e w6 ⟨P6, x6, Q6, y6, rfl, T6, k6⟩
  have K6 := Lib.hid (K5.out.tr k6)
  have TA_6 := Lib.hid (TA_5.out.kp k6)
  have BA_6 := Lib.hid (BA_5.out.kp k6)
  clear k6
  obtain ⟨w7, hw7⟩ : ∃ V, V = w6.alloc (.cells #[.slice P6 x x6, .slice Q6 y y6] 25) := ⟨_, rfl⟩
  have HX7 := Lib.hid hw7
  have k7 : Kp w6 w7 := by rw [hw7]; exact Kp.alloc_ _ _
  have TA_7 := Lib.hid (TA_6.out.kp k7)
  have BA_7 := Lib.hid (BA_6.out.kp k7)
  have TB_7 := Lib.hid (T6.out.kp k7)
  have BB_7 : Hid (Bk w7 w6.heap.size P6 x x6 Q6 y y6) := by show Bk _ _ _ _ _ _ _ _; rw [hw7]; exact Bk.new rfl
  have K7 := Lib.hid (K6.out.tr k7)
  clear k7 hw7
  go_wp2_with fail
  rw [← HX7.out]
  go_loopw [14, 15] (fun o i wx => ∃ (k' : Nat) (out : Int), o = .int .i64 out ∧ i = .int .i64 (k' : Int) ∧ Hid (k' ≤ n) ∧ Hid (at_ = atF s (l.drop k') k' out) ∧ Hid (wx = w7)) (fun _ i _ => n - (intOf i).toNat)
  case atStart => exact ⟨0, -1, rfl, rfl, Nat.zero_le _, HAT.out, rfl⟩
  case round =>
    obtain ⟨k', out, rfl, rfl, hk', hT, hw⟩ := hrel
    obtain ⟨wz, hwz⟩ : ∃ wz, wz = wr := ⟨_, rfl⟩
    have hwr : w7 = wz := by rw [hwz]; exact hw.out.symm
    clear hw
    subst hwz
    subst hwr
    by_cases hj : k' < n
    · have hj' : (k' : Int) < (n : Int) := by omega
      obtain ⟨ad', P', e', Q', f', ea, hlt', hc0', _, _, _⟩ := (HR.out _ K7.out).atv (show k' < l.length by rw [← HN.out]; exact hj)
      subst ea
      have hd := atF_drop (s := s) (out := out) (show k' < l.length by rw [← HN.out]; exact hj)
      obtain ⟨x', hx'⟩ : ∃ x, x = (l.getD k' nd0).1 := ⟨_, rfl⟩
      rw [← hx'] at hc0' hd
      by_cases hs' : x' ≤ s
      · have HT2 : Hid (at_ = atF s (l.drop (k' + 1)) (k' + 1) (k' : Int)) := by show at_ = _; rw [hT.out, hd, if_pos hs']
        clear hd hx'
        go_wp2
        go_roundw
        case rel => exact ⟨k' + 1, _, rfl, by go_num, (by show k' + 1 ≤ n; omega), HT2.out, trivial⟩
        case measure => simp [intOf]; omega
      · have HT2 : Hid (at_ = atF s (l.drop (k' + 1)) (k' + 1) out) := by show at_ = _; rw [hT.out, hd, if_neg hs']
        clear hd hx'
        go_wp2
        go_roundw
        case rel => exact ⟨k' + 1, _, rfl, by go_num, (by show k' + 1 ≤ n; omega), HT2.out, trivial⟩
        case measure => simp [intOf]; omega
    · have hj' : ¬ (k' : Int) < (n : Int) := by omega
      have HT2 : Hid (out = at_) := by show out = at_; rw [hT.out, List.drop_eq_nil_of_le (by rw [← HN.out]; omega)]; rfl
      obtain ⟨o2, ho2⟩ : ∃ o2, o2 = out := ⟨_, rfl⟩
      have HE : Hid (o2 = at_) := by show o2 = _; rw [ho2]; exact HT2.out
      subst ho2
      obtain rfl := HE.out
      obtain rfl := HAM.out
      clear hT HT2 HE HAT
      go_wp2_with fail
      go_quiet (fail)
      generalize hwq : (w7.drewN _) = wq
      have kq : Kp w7 wq := by rw [← hwq]; exact Kp.drewN_ _ _
      clear hwq
      have KQ := Lib.hid (K7.out.tr kq)
      have TAQ := Lib.hid (TA_7.out.kp kq)
      have TBQ := Lib.hid (TB_7.out.kp kq)
      have BAQ := Lib.hid (BA_7.out.kp kq)
      have BBQ := Lib.hid (BB_7.out.kp kq)
      clear kq
      go_wp2_with fail
      refine (c3.out _ KQ.out).mono ?_; rintro e w28 ⟨rfl, k28⟩
      have K28 := Lib.hid (KQ.out.tr k28)
      have TA_28 := Lib.hid (TAQ.out.kp k28)
      have TB_28 := Lib.hid (TBQ.out.kp k28)
      have BA_28 := Lib.hid (BAQ.out.kp k28)
      have BB_28 := Lib.hid (BBQ.out.kp k28)
      clear k28
      have zBA0 := BA_28.out.c0
      have zBA1 := BA_28.out.c1
      have zBB0 := BB_28.out.c0
      have zBB1 := BB_28.out.c1
      go_wp2_with fail
      refine (tsame_u TA_28.out.r TB_28.out.r HJ.out.1 HJ.out.2).mono ?_; rintro e w29 ⟨rfl, k29⟩
      have K29 := Lib.hid (K28.out.tr k29)
      have TA_29 := Lib.hid (TA_28.out.kp k29)
      have TB_29 := Lib.hid (TB_28.out.kp k29)
      have BA_29 := Lib.hid (BA_28.out.kp k29)
      have BB_29 := Lib.hid (BB_28.out.kp k29)
      clear k29 zBA0 zBA1 zBB0 zBB1
      go_wp2
      go_ret
      exact ⟨rfl, K29.out⟩
theorem ccuts_all_zero (C : ChC) (A : Option Addr) (n c : Nat) (l : List Nd) (u8 s : Int) (w : World) (h : RdG w A l) (hn : n = l.length) (hc : l.length ≤ c ∧ c ≤ 9223372036854775807) (g0 : 0 ≤ u8) (g1 : u8 ≤ 255) (k : Nat) (hk : u8 % ((n : Int) + 1) = (k : Int)) (hkn : k ≤ n) (hs : In64 s) (sm : SmV l) (hl30 : l.length ≤ 30) (hf : fewC l = true) (hck : chkV l = true) (ck : k = n) (hq : 0 < l.length) (ca : atC l s = ((0 : Nat) : Int)) :
    Calls Try.prog 6 #[.slice A n c, .int .u8 u8, .int .i64 s] w fun e w' => e = .returned (.bool true) ∧ Kp w w' := by
  have hkn1 : ((k : Int) == (n : Int)) = true := by rw [beq_iff_eq]; omega
  have K0 : Hid (Kp w w) := Kp.refl w
  have HA : Hid (∀ W, Calls Try.prog 8 #[] W fun e w' => e = .returned (.bool true) ∧ Kp W w') := fun W => chawake_any C W
  have HF : Hid (∀ W, Kp w W → Calls Try.prog 9 #[.slice A n c] W fun e w' => e = .returned (.bool true) ∧ Kp W w') := fun W kW => rfew17_any A n c l W (h.kp kW) hn hf
  have HC : Hid (∀ W, Kp w W → Calls Try.prog 17 #[.slice A n c] W fun e w' => e = .returned (.bool true) ∧ Kp W w') := fun W kW => C.check A c n l true W (h.kp kW) hc sm hn hck
  obtain ⟨m, hm⟩ : ∃ m, l.take k = m := ⟨_, rfl⟩
  have hmk : m.length = k := by rw [← hm, List.length_take]; omega
  have hmc : m.length ≤ c ∧ c ≤ 9223372036854775807 := by omega
  have RM : RdG w A m := by rw [← hm]; exact h.take_ k
  have smm : SmV m := by rw [← hm]; exact sm_take sm k
  have hckm : chkV m = true := by rw [← hm]; exact chk_take' hck k
  obtain ⟨rt, rb, hr⟩ : ∃ rt rb, readC l s = (rt, rb) := ⟨_, _, rfl⟩
  obtain ⟨qt, qb, hq_⟩ : ∃ qt qb, readC m s = (qt, qb) := ⟨_, _, rfl⟩
  obtain ⟨x, hx⟩ : ∃ x, rt.1.length = x := ⟨_, rfl⟩
  obtain ⟨y, hy⟩ : ∃ y, rt.2.length = y := ⟨_, rfl⟩
  obtain ⟨x2, hx2⟩ : ∃ x, qt.1.length = x := ⟨_, rfl⟩
  obtain ⟨y2, hy2⟩ : ∃ y, qt.2.length = y := ⟨_, rfl⟩
  have c1 : Hid (∀ W, Kp w W → Calls Try.prog 11 #[.slice A n c, .int .i64 s] W (RetTB rt rb x y W)) := fun W kW => C.read A c n l s rt rb x y W (h.kp kW) hc sm hn hs hr hx hy
  have c2 : Hid (∀ W, Kp w W → Calls Try.prog 11 #[.slice A k c, .int .i64 s] W (RetTB qt qb x2 y2 W)) := fun W kW => C.read A c k m s qt qb x2 y2 W (RM.kp kW) hmc smm hmk.symm hs hq_ hx2 hy2
  have c3 : Hid (∀ W, Kp w W → Calls Try.prog 17 #[.slice A k c] W fun e w' => e = .returned (.bool true) ∧ Kp W w') := fun W kW => C.check A c k m true W (RM.kp kW) hmc smm hmk.symm hckm
  have HR : Hid (∀ W, Kp w W → RdG W A l) := fun W kW => h.kp kW
  have hn' : n ≤ 9223372036854775807 := by omega
  have hkc : k ≤ c := by omega
  have hkc2 : (k : Int) ≤ (c : Int) := by omega
  have hc' : c ≤ 9223372036854775807 := hc.2
  have hn30 : n ≤ 30 := by omega
  have hn1 : ((n : Int) + 1 == 0) = false := by simp; omega
  have hcr : readC m s = readC l s := by rw [← hm]; exact cut_read hck (by omega) (.inl (by omega))
  rw [hr, hq_] at hcr
  injection hcr with er1 er2
  subst er1 er2
  obtain rfl : x = x2 := hx.symm.trans hx2
  obtain rfl : y = y2 := hy.symm.trans hy2
  have hrb : readC l s = ((l.getD 0 nd0).2, true) := by unfold readC; rw [ca, if_pos ⟨hck, by omega⟩, show (((0 : Nat) : Int)).toNat = 0 from rfl]
  rw [hr] at hrb
  injection hrb with hrt hrb
  subst hrb
  obtain ⟨ad, P5, e5, Q5, f5, hA9, hlt5, _, z1, z2, TZ⟩ := h.atv hq
  have e0 : ad.add (0 * 3) = ad := by unfold Addr.add; simp
  rw [e0] at z1 z2
  rw [← hrt] at z1 z2 TZ
  rw [hx] at z1
  rw [hy] at z2
  have HZ : Hid (∀ V, Kp w V → V.cell? ⟨ad.block, ad.off + 1, none⟩ = some (.slice P5 x e5) ∧ V.cell? ⟨ad.block, ad.off + 1 + 1, none⟩ = some (.slice Q5 y f5)) := fun V kV => ⟨(kV.cell (show (⟨ad.block, ad.off + 1, none⟩ : Addr).block < _ from hlt5)).trans z1, (kV.cell (show (⟨ad.block, ad.off + 1 + 1, none⟩ : Addr).block < _ from hlt5)).trans z2⟩
  have HTZ : Hid (∀ V, Kp w V → TR V P5 qt.1 Q5 qt.2) := fun V kV => TZ.r.kp kV
  have HAM : Hid (atC l s = 0) := ca
  have q2 : (0 : Int) < (n : Int) := by omega
  have q5 : ¬ n = 0 := by omega
  have HJ := Lib.hid (And.intro hx hy)
  obtain ⟨at_, hat⟩ : ∃ a, a = atC l s := ⟨_, rfl⟩
  have HAT : Hid (at_ = atF s (l.drop 0) 0 (-1)) := hat
  rw [← hat] at HAM
  have HN := Lib.hid hn
  clear C h hn hc hs sm hl30 hf hck hm hmk hmc RM smm hckm hr hq_ hx hy hat ca hx2 hy2 ck hrt z1 z2 TZ hlt5 hq e0
  subst hA9
  go_enter Try.func6, Try.ntmps6
  go_wp2_with fail
  refine (HA.out _).mono ?_; rintro e w1 ⟨rfl, k1⟩
  have K1 := Lib.hid (K0.out.tr k1)
  clear k1
  go_wp2_with fail
  refine (HF.out _ K1.out).mono ?_; rintro e w2 ⟨rfl, k2⟩
  have K2 := Lib.hid (K1.out.tr k2)
  clear k2
  go_wp2_with fail
  refine (HC.out _ K2.out).mono ?_; rintro e w3 ⟨rfl, k3⟩
  have K3 := Lib.hid (K2.out.tr k3)
  clear k3
  go_wp2_with fail
  refine (c1.out _ K3.out).mono ?_; rintro e w4 ⟨P4, x4, Q4, y4, rfl, T4, k4⟩
  have K4 := Lib.hid (K3.out.tr k4)
  clear k4
  obtain ⟨w5, hw5⟩ : ∃ V, V = w4.alloc (.cells #[.slice P4 x x4, .slice Q4 y y4] 25) := ⟨_, rfl⟩
  have HX5 := Lib.hid hw5
  have k5 : Kp w4 w5 := by rw [hw5]; exact Kp.alloc_ _ _
  have TA_5 := Lib.hid (T4.out.kp k5)
  have BA_5 : Hid (Bk w5 w4.heap.size P4 x x4 Q4 y y4) := by show Bk _ _ _ _ _ _ _ _; rw [hw5]; exact Bk.new rfl
  have K5 := Lib.hid (K4.out.tr k5)
  clear k5 hw5
  go_wp2_with fail
  rw [← HX5.out]
  refine (c2.out _ K5.out).mono ?_; rintro e w6 ⟨P6, x6, Q6, y6, rfl, T6, k6⟩
  have K6 := Lib.hid (K5.out.tr k6)
  have TA_6 := Lib.hid (TA_5.out.kp k6)
  have BA_6 := Lib.hid (BA_5.out.kp k6)
  clear k6
  obtain ⟨w7, hw7⟩ : ∃ V, V = w6.alloc (.cells #[.slice P6 x x6, .slice Q6 y y6] 25) := ⟨_, rfl⟩
  have HX7 := Lib.hid hw7
  have k7 : Kp w6 w7 := by rw [hw7]; exact Kp.alloc_ _ _
  have TA_7 := Lib.hid (TA_6.out.kp k7)
  have BA_7 := Lib.hid (BA_6.out.kp k7)
  have TB_7 := Lib.hid (T6.out.kp k7)
  have BB_7 : Hid (Bk w7 w6.heap.size P6 x x6 Q6 y y6) := by show Bk _ _ _ _ _ _ _ _; rw [hw7]; exact Bk.new rfl
  have K7 := Lib.hid (K6.out.tr k7)
  clear k7 hw7
  go_wp2_with fail
  rw [← HX7.out]
  go_loopw [14, 15] (fun o i wx => ∃ (k' : Nat) (out : Int), o = .int .i64 out ∧ i = .int .i64 (k' : Int) ∧ Hid (k' ≤ n) ∧ Hid (at_ = atF s (l.drop k') k' out) ∧ Hid (wx = w7)) (fun _ i _ => n - (intOf i).toNat)
  case atStart => exact ⟨0, -1, rfl, rfl, Nat.zero_le _, HAT.out, rfl⟩
  case round =>
    obtain ⟨k', out, rfl, rfl, hk', hT, hw⟩ := hrel
    obtain ⟨wz, hwz⟩ : ∃ wz, wz = wr := ⟨_, rfl⟩
    have hwr : w7 = wz := by rw [hwz]; exact hw.out.symm
    clear hw
    subst hwz
    subst hwr
    by_cases hj : k' < n
    · have hj' : (k' : Int) < (n : Int) := by omega
      obtain ⟨ad', P', e', Q', f', ea, hlt', hc0', _, _, _⟩ := (HR.out _ K7.out).atv (show k' < l.length by rw [← HN.out]; exact hj)
      injection ea with ea
      subst ea
      have hd := atF_drop (s := s) (out := out) (show k' < l.length by rw [← HN.out]; exact hj)
      obtain ⟨x', hx'⟩ : ∃ x, x = (l.getD k' nd0).1 := ⟨_, rfl⟩
      rw [← hx'] at hc0' hd
      by_cases hs' : x' ≤ s
      · have HT2 : Hid (at_ = atF s (l.drop (k' + 1)) (k' + 1) (k' : Int)) := by show at_ = _; rw [hT.out, hd, if_pos hs']
        clear hd hx'
        go_wp2
        go_roundw
        case rel => exact ⟨k' + 1, _, rfl, by go_num, (by show k' + 1 ≤ n; omega), HT2.out, trivial⟩
        case measure => simp [intOf]; omega
      · have HT2 : Hid (at_ = atF s (l.drop (k' + 1)) (k' + 1) out) := by show at_ = _; rw [hT.out, hd, if_neg hs']
        clear hd hx'
        go_wp2
        go_roundw
        case rel => exact ⟨k' + 1, _, rfl, by go_num, (by show k' + 1 ≤ n; omega), HT2.out, trivial⟩
        case measure => simp [intOf]; omega
    · have hj' : ¬ (k' : Int) < (n : Int) := by omega
      have HT2 : Hid (out = at_) := by show out = at_; rw [hT.out, List.drop_eq_nil_of_le (by rw [← HN.out]; omega)]; rfl
      obtain ⟨o2, ho2⟩ : ∃ o2, o2 = out := ⟨_, rfl⟩
      have HE : Hid (o2 = at_) := by show o2 = _; rw [ho2]; exact HT2.out
      subst ho2
      obtain rfl := HE.out
      obtain rfl := HAM.out
      clear hT HT2 HE HAT
      have HSS : Hid (∀ V, Kp w7 V → V.cell? ⟨w4.heap.size, 0, none⟩ = some (.slice P4 x x4) ∧ V.cell? ⟨w4.heap.size, 1, none⟩ = some (.slice Q4 y y4) ∧ V.cell? ⟨ad.block, ad.off + 1, none⟩ = some (.slice P5 x e5) ∧ V.cell? ⟨ad.block, ad.off + 1 + 1, none⟩ = some (.slice Q5 y f5)) := fun V kV => ⟨(BA_7.out.kp kV).c0, (BA_7.out.kp kV).c1, (HZ.out _ (K7.out.tr kV)).1, (HZ.out _ (K7.out.tr kV)).2⟩
      have q9 := HSS.out _ (Kp.drewN_ w7 1)
      have HS9 : Hid (Calls Try.prog 15 #[.agg #[.slice P4 x x4, .slice Q4 y y4], .agg #[.slice P5 x e5, .slice Q5 y f5]] w7.drew fun e w' => e = .returned (.bool true) ∧ Kp w7.drew w') := tsame_u (TA_7.out.r.kp (Kp.drewN_ w7 1)) (HTZ.out _ (K7.out.tr (Kp.drewN_ w7 1))) HJ.out.1 HJ.out.2
      go_wp2_with fail
      go_cut [16] (fun v16 wx => v16 = .bool true ∧ Hid (Kp w7 wx))
      case first =>
        refine wp_region_held_drew (S := fun V => V.cell? ⟨w4.heap.size, 0, none⟩ = some (.slice P4 x x4) ∧ V.cell? ⟨w4.heap.size, 1, none⟩ = some (.slice Q4 y y4) ∧ V.cell? ⟨ad.block, ad.off + 1, none⟩ = some (.slice P5 x e5) ∧ V.cell? ⟨ad.block, ad.off + 1 + 1, none⟩ = some (.slice Q5 y f5)) (by kernel_rfl) q9 (fun hHeld => ?_)
        try simp only [Act.put, List.setIfInBounds_toArray, List.set_cons_zero, List.set_cons_succ]
        refine wpAnyH_take (i := 0) (v := .int .i64 0) rfl (by kernel_rfl) (by kernel_rfl) (by kernel_rfl) (fun _ _ _ h => h) (Or.inl ⟨by kernel_rfl, fun V hSV => ?_⟩) hHeld ?_
        · (try dsimp only at hSV); go_simp
        try simp only [Act.put, List.setIfInBounds_toArray, List.set_cons_zero, List.set_cons_succ]
        refine wpAnyH_take (i := 1) (v := .bool false) rfl (by kernel_rfl) (by kernel_rfl) (by kernel_rfl) (fun _ _ _ h => h) (Or.inl ⟨by kernel_rfl, fun V hSV => ?_⟩) hHeld ?_
        · (try dsimp only at hSV); go_simp
        try simp only [Act.put, List.setIfInBounds_toArray, List.set_cons_zero, List.set_cons_succ]
        refine wpAnyH_take (i := 2) (v := .bool false) rfl (by kernel_rfl) (by kernel_rfl) (by kernel_rfl) (fun _ _ _ h => h) (Or.inl ⟨by kernel_rfl, fun V hSV => ?_⟩) hHeld ?_
        · (try dsimp only at hSV); go_simp
        try simp only [Act.put, List.setIfInBounds_toArray, List.set_cons_zero, List.set_cons_succ]
        refine wpAnyH_take (i := 3) (v := undef) rfl (by kernel_rfl) (by kernel_rfl) (by kernel_rfl) (fun _ _ _ h => h) (Or.inr ⟨by kernel_rfl, rfl⟩) hHeld ?_
        try simp only [Act.put, List.setIfInBounds_toArray, List.set_cons_zero, List.set_cons_succ]
        refine wpAnyH_take (i := 4) (v := undef) rfl (by kernel_rfl) (by kernel_rfl) (by kernel_rfl) (fun _ _ _ h => h) (Or.inr ⟨by kernel_rfl, rfl⟩) hHeld ?_
        try simp only [Act.put, List.setIfInBounds_toArray, List.set_cons_zero, List.set_cons_succ]
        refine wpAnyH_take (i := 5) (v := .bool false) rfl (by kernel_rfl) (by kernel_rfl) (by kernel_rfl) (fun _ _ _ h => h) (Or.inl ⟨by kernel_rfl, fun V hSV => ?_⟩) hHeld ?_
        · (try dsimp only at hSV); go_simp
        try simp only [Act.put, List.setIfInBounds_toArray, List.set_cons_zero, List.set_cons_succ]
        refine wpAnyH_take (i := 6) (v := .bool false) rfl (by kernel_rfl) (by kernel_rfl) (by kernel_rfl) (fun _ _ _ h => h) (Or.inl ⟨by kernel_rfl, fun V hSV => ?_⟩) hHeld ?_
        · (try dsimp only at hSV); go_simp
        try simp only [Act.put, List.setIfInBounds_toArray, List.set_cons_zero, List.set_cons_succ]
        refine wpAnyH_take (i := 7) (v := .int .i64 0) rfl (by kernel_rfl) (by kernel_rfl) (by kernel_rfl) (fun _ _ _ h => h) (Or.inl ⟨by kernel_rfl, fun V hSV => ?_⟩) hHeld ?_
        · (try dsimp only at hSV); go_simp
        try simp only [Act.put, List.setIfInBounds_toArray, List.set_cons_zero, List.set_cons_succ]
        refine wpAnyH_take (i := 8) (v := .bool true) rfl (by kernel_rfl) (by kernel_rfl) (by kernel_rfl) (fun _ _ _ h => h) (Or.inl ⟨by kernel_rfl, fun V hSV => ?_⟩) hHeld ?_
        · (try dsimp only at hSV); go_simp
        try simp only [Act.put, List.setIfInBounds_toArray, List.set_cons_zero, List.set_cons_succ]
        refine wpAnyH_take (i := 9) (v := .bool true) rfl (by kernel_rfl) (by kernel_rfl) (by kernel_rfl) (fun _ _ _ h => h) (Or.inl ⟨by kernel_rfl, fun V hSV => ?_⟩) hHeld ?_
        · (try dsimp only at hSV); go_simp
        try simp only [Act.put, List.setIfInBounds_toArray, List.set_cons_zero, List.set_cons_succ]
        refine wpAnyH_take (i := 10) (v := .bool true) rfl (by kernel_rfl) (by kernel_rfl) (by kernel_rfl) (fun _ _ _ h => h) (Or.inl ⟨by kernel_rfl, fun V hSV => ?_⟩) hHeld ?_
        · (try dsimp only at hSV); go_simp
        try simp only [Act.put, List.setIfInBounds_toArray, List.set_cons_zero, List.set_cons_succ]
        refine wpAnyH_take (i := 11) (v := .bool true) rfl (by kernel_rfl) (by kernel_rfl) (by kernel_rfl) (fun _ _ _ h => h) (Or.inl ⟨by kernel_rfl, fun V hSV => ?_⟩) hHeld ?_
        · (try dsimp only at hSV); go_simp
        try simp only [Act.put, List.setIfInBounds_toArray, List.set_cons_zero, List.set_cons_succ]
        refine wpAnyH_take (i := 12) (v := .bool true) rfl (by kernel_rfl) (by kernel_rfl) (by kernel_rfl) (fun _ _ _ h => h) (Or.inl ⟨by kernel_rfl, fun V hSV => ?_⟩) hHeld ?_
        · (try dsimp only at hSV); go_simp
        try simp only [Act.put, List.setIfInBounds_toArray, List.set_cons_zero, List.set_cons_succ]
        refine wpAnyH_take (i := 13) (v := .agg #[.slice P4 x x4, .slice Q4 y y4]) rfl (by kernel_rfl) (by kernel_rfl) (by kernel_rfl) (fun _ _ _ h => h) (Or.inl ⟨by kernel_rfl, fun V hSV => ?_⟩) hHeld ?_
        · (try dsimp only at hSV); go_simp
        try simp only [Act.put, List.setIfInBounds_toArray, List.set_cons_zero, List.set_cons_succ]
        refine wpAnyH_take (i := 14) (v := .slice (some ad) n c) rfl (by kernel_rfl) (by kernel_rfl) (by kernel_rfl) (fun _ _ _ h => h) (Or.inl ⟨by kernel_rfl, fun V hSV => ?_⟩) hHeld ?_
        · (try dsimp only at hSV); go_simp
        try simp only [Act.put, List.setIfInBounds_toArray, List.set_cons_zero, List.set_cons_succ]
        refine wpAnyH_take (i := 15) (v := .int .i64 0) rfl (by kernel_rfl) (by kernel_rfl) (by kernel_rfl) (fun _ _ _ h => h) (Or.inl ⟨by kernel_rfl, fun V hSV => ?_⟩) hHeld ?_
        · (try dsimp only at hSV); go_simp
        try simp only [Act.put, List.setIfInBounds_toArray, List.set_cons_zero, List.set_cons_succ]
        refine wpAnyH_take (i := 16) (v := .int .i64 0) rfl (by kernel_rfl) (by kernel_rfl) (by kernel_rfl) (fun _ _ _ h => h) (Or.inl ⟨by kernel_rfl, fun V hSV => ?_⟩) hHeld ?_
        · (try dsimp only at hSV); go_simp
        try simp only [Act.put, List.setIfInBounds_toArray, List.set_cons_zero, List.set_cons_succ]
        refine wpAnyH_take (i := 17) (v := .pointer (some ad)) rfl (by kernel_rfl) (by kernel_rfl) (by kernel_rfl) (fun _ _ _ h => h) (Or.inl ⟨by kernel_rfl, fun V hSV => ?_⟩) hHeld ?_
        · (try dsimp only at hSV); go_simp
        try simp only [Act.put, List.setIfInBounds_toArray, List.set_cons_zero, List.set_cons_succ]
        refine wpAnyH_take (i := 18) (v := .pointer (some ⟨ad.block, ad.off + 1, none⟩)) rfl (by kernel_rfl) (by kernel_rfl) (by kernel_rfl) (fun _ _ _ h => h) (Or.inl ⟨by kernel_rfl, fun V hSV => ?_⟩) hHeld ?_
        · (try dsimp only at hSV); go_simp
        try simp only [Act.put, List.setIfInBounds_toArray, List.set_cons_zero, List.set_cons_succ]
        refine wpAnyH_take (i := 19) (v := .agg #[.slice P5 x e5, .slice Q5 y f5]) rfl (by kernel_rfl) (by kernel_rfl) (by kernel_rfl) (fun _ _ _ h => h) (Or.inl ⟨by kernel_rfl, fun V hSV => ?_⟩) hHeld ?_
        · (try dsimp only at hSV); go_simp
        try simp only [Act.put, List.setIfInBounds_toArray, List.set_cons_zero, List.set_cons_succ]
        refine wpAnyH_ready (rs := [20]) (by kernel_rfl) (by simp) ?_
        refine AllReadyH.cons rfl (fun K9_ hK => ?_) AllReadyH.nil
        go_simp
        refine (Hid.out HS9).mono ?_; rintro e w5_ ⟨rfl, k5_⟩
        dsimp only
        have K5_ : Hid (Kp w7 w5_) := undrew17 k5_
        clear k5_
        refine hK.out _ _ ?_ (fun hHeld => ?_)
        · exact HSS.out _ K5_.out
        clear hK
        try simp only [Act.put, List.setIfInBounds_toArray, List.set_cons_zero, List.set_cons_succ]
        refine wpAnyH_take (i := 21) (v := .bool true) rfl (by kernel_rfl) (by kernel_rfl) (by kernel_rfl) (fun _ _ _ h => h) (Or.inl ⟨by kernel_rfl, fun V hSV => ?_⟩) hHeld ?_
        · (try dsimp only at hSV); go_simp
        try simp only [Act.put, List.setIfInBounds_toArray, List.set_cons_zero, List.set_cons_succ]
        refine wpAnyH_take (i := 22) (v := .bool true) rfl (by kernel_rfl) (by kernel_rfl) (by kernel_rfl) (fun _ _ _ h => h) (Or.inl ⟨by kernel_rfl, fun V hSV => ?_⟩) hHeld ?_
        · (try dsimp only at hSV); go_simp
        try simp only [Act.put, List.setIfInBounds_toArray, List.set_cons_zero, List.set_cons_succ]
        refine wpAnyH_ready (rs := [23]) (by kernel_rfl) (by simp) ?_
        refine AllReadyH.cons rfl (fun K9_ hK => ?_) AllReadyH.nil
        go_simp
        refine hK.out _ _ ?_ (fun hHeld => ?_)
        · exact HSS.out _ K5_.out
        clear hK
        try simp only [Act.put, List.setIfInBounds_toArray, List.set_cons_zero, List.set_cons_succ]
        refine wpAnyH_done (by kernel_rfl) ?_ _
        clear hHeld
        go_wp2
        go_meet
        exact ⟨rfl, K5_.out⟩
      case rest =>
        obtain ⟨rfl, hKc⟩ := hcut
        clear q9 HSS HS9
        have KQ := Lib.hid (K7.out.tr hKc.out)
        have TAQ := Lib.hid (TA_7.out.kp hKc.out)
        have TBQ := Lib.hid (TB_7.out.kp hKc.out)
        have BAQ := Lib.hid (BA_7.out.kp hKc.out)
        have BBQ := Lib.hid (BB_7.out.kp hKc.out)
        clear hKc
        go_wp2_with fail
        refine (c3.out _ KQ.out).mono ?_; rintro e w28 ⟨rfl, k28⟩
        have K28 := Lib.hid (KQ.out.tr k28)
        have TA_28 := Lib.hid (TAQ.out.kp k28)
        have TB_28 := Lib.hid (TBQ.out.kp k28)
        have BA_28 := Lib.hid (BAQ.out.kp k28)
        have BB_28 := Lib.hid (BBQ.out.kp k28)
        clear k28
        have zBA0 := BA_28.out.c0
        have zBA1 := BA_28.out.c1
        have zBB0 := BB_28.out.c0
        have zBB1 := BB_28.out.c1
        go_wp2_with fail
        refine (tsame_u TA_28.out.r TB_28.out.r HJ.out.1 HJ.out.2).mono ?_; rintro e w29 ⟨rfl, k29⟩
        have K29 := Lib.hid (K28.out.tr k29)
        have TA_29 := Lib.hid (TA_28.out.kp k29)
        have TB_29 := Lib.hid (TB_28.out.kp k29)
        have BA_29 := Lib.hid (BA_28.out.kp k29)
        have BB_29 := Lib.hid (BB_28.out.kp k29)
        clear k29 zBA0 zBA1 zBB0 zBB1
        go_wp2
        go_ret
        exact ⟨rfl, K29.out⟩
theorem ccuts_all_some (C : ChC) (A : Option Addr) (n c : Nat) (l : List Nd) (u8 s : Int) (w : World) (h : RdG w A l) (hn : n = l.length) (hc : l.length ≤ c ∧ c ≤ 9223372036854775807) (g0 : 0 ≤ u8) (g1 : u8 ≤ 255) (k : Nat) (hk : u8 % ((n : Int) + 1) = (k : Int)) (hkn : k ≤ n) (hs : In64 s) (sm : SmV l) (hl30 : l.length ≤ 30) (hf : fewC l = true) (hck : chkV l = true) (ck : k = n) (q : Nat) (hq : q < l.length) (hq0 : 0 < q) (ca : atC l s = (q : Int)) :
    Calls Try.prog 6 #[.slice A n c, .int .u8 u8, .int .i64 s] w fun e w' => e = .returned (.bool true) ∧ Kp w w' := by
  have hkn1 : ((k : Int) == (n : Int)) = true := by rw [beq_iff_eq]; omega
  have K0 : Hid (Kp w w) := Kp.refl w
  have HA : Hid (∀ W, Calls Try.prog 8 #[] W fun e w' => e = .returned (.bool true) ∧ Kp W w') := fun W => chawake_any C W
  have HF : Hid (∀ W, Kp w W → Calls Try.prog 9 #[.slice A n c] W fun e w' => e = .returned (.bool true) ∧ Kp W w') := fun W kW => rfew17_any A n c l W (h.kp kW) hn hf
  have HC : Hid (∀ W, Kp w W → Calls Try.prog 17 #[.slice A n c] W fun e w' => e = .returned (.bool true) ∧ Kp W w') := fun W kW => C.check A c n l true W (h.kp kW) hc sm hn hck
  obtain ⟨m, hm⟩ : ∃ m, l.take k = m := ⟨_, rfl⟩
  have hmk : m.length = k := by rw [← hm, List.length_take]; omega
  have hmc : m.length ≤ c ∧ c ≤ 9223372036854775807 := by omega
  have RM : RdG w A m := by rw [← hm]; exact h.take_ k
  have smm : SmV m := by rw [← hm]; exact sm_take sm k
  have hckm : chkV m = true := by rw [← hm]; exact chk_take' hck k
  obtain ⟨rt, rb, hr⟩ : ∃ rt rb, readC l s = (rt, rb) := ⟨_, _, rfl⟩
  obtain ⟨qt, qb, hq_⟩ : ∃ qt qb, readC m s = (qt, qb) := ⟨_, _, rfl⟩
  obtain ⟨x, hx⟩ : ∃ x, rt.1.length = x := ⟨_, rfl⟩
  obtain ⟨y, hy⟩ : ∃ y, rt.2.length = y := ⟨_, rfl⟩
  obtain ⟨x2, hx2⟩ : ∃ x, qt.1.length = x := ⟨_, rfl⟩
  obtain ⟨y2, hy2⟩ : ∃ y, qt.2.length = y := ⟨_, rfl⟩
  have c1 : Hid (∀ W, Kp w W → Calls Try.prog 11 #[.slice A n c, .int .i64 s] W (RetTB rt rb x y W)) := fun W kW => C.read A c n l s rt rb x y W (h.kp kW) hc sm hn hs hr hx hy
  have c2 : Hid (∀ W, Kp w W → Calls Try.prog 11 #[.slice A k c, .int .i64 s] W (RetTB qt qb x2 y2 W)) := fun W kW => C.read A c k m s qt qb x2 y2 W (RM.kp kW) hmc smm hmk.symm hs hq_ hx2 hy2
  have c3 : Hid (∀ W, Kp w W → Calls Try.prog 17 #[.slice A k c] W fun e w' => e = .returned (.bool true) ∧ Kp W w') := fun W kW => C.check A c k m true W (RM.kp kW) hmc smm hmk.symm hckm
  have HR : Hid (∀ W, Kp w W → RdG W A l) := fun W kW => h.kp kW
  have hn' : n ≤ 9223372036854775807 := by omega
  have hkc : k ≤ c := by omega
  have hkc2 : (k : Int) ≤ (c : Int) := by omega
  have hc' : c ≤ 9223372036854775807 := hc.2
  have hn30 : n ≤ 30 := by omega
  have hn1 : ((n : Int) + 1 == 0) = false := by simp; omega
  have hcr : readC m s = readC l s := by rw [← hm]; exact cut_read hck (by omega) (.inl (by omega))
  rw [hr, hq_] at hcr
  injection hcr with er1 er2
  subst er1 er2
  obtain rfl : x = x2 := hx.symm.trans hx2
  obtain rfl : y = y2 := hy.symm.trans hy2
  have hrb : readC l s = ((l.getD q nd0).2, true) := by unfold readC; rw [ca, if_pos ⟨hck, by omega⟩, Int.toNat_natCast]
  rw [hr] at hrb
  injection hrb with hrt hrb
  subst hrb
  obtain ⟨ad, P5, e5, Q5, f5, hA9, hlt5, _, z1, z2, TZ⟩ := h.atv hq
  rw [← hrt] at z1 z2 TZ
  rw [hx] at z1
  rw [hy] at z2
  have HZ : Hid (∀ V, Kp w V → V.cell? ⟨(ad.add (q * 3)).block, (ad.add (q * 3)).off + 1, none⟩ = some (.slice P5 x e5) ∧ V.cell? ⟨(ad.add (q * 3)).block, (ad.add (q * 3)).off + 1 + 1, none⟩ = some (.slice Q5 y f5)) := fun V kV => ⟨(kV.cell (by rw [block_of_add]; exact hlt5)).trans z1, (kV.cell (by rw [block_of_add]; exact hlt5)).trans z2⟩
  have HTZ : Hid (∀ V, Kp w V → TR V P5 qt.1 Q5 qt.2) := fun V kV => TZ.r.kp kV
  have HAM : Hid (atC l s = (q : Int)) := ca
  have q0 : decide ((q : Int) < 0) = false := decide_eq_false (by omega)
  have q1 : (0 : Int) ≤ (q : Int) := by omega
  have q2 : (q : Int) < (n : Int) := by omega
  have q3 : ¬ (q : Int) ≤ 0 := by omega
  have q4 : (0 : Int) < (q : Int) := by omega
  have HJ := Lib.hid (And.intro hx hy)
  obtain ⟨at_, hat⟩ : ∃ a, a = atC l s := ⟨_, rfl⟩
  have HAT : Hid (at_ = atF s (l.drop 0) 0 (-1)) := hat
  rw [← hat] at HAM
  have HN := Lib.hid hn
  clear C h hn hc hs sm hl30 hf hck hm hmk hmc RM smm hckm hr hq_ hx hy hat ca hx2 hy2 ck hrt z1 z2 TZ hlt5 hq
  subst hA9
  go_enter Try.func6, Try.ntmps6
  go_wp2_with fail
  refine (HA.out _).mono ?_; rintro e w1 ⟨rfl, k1⟩
  have K1 := Lib.hid (K0.out.tr k1)
  clear k1
  go_wp2_with fail
  refine (HF.out _ K1.out).mono ?_; rintro e w2 ⟨rfl, k2⟩
  have K2 := Lib.hid (K1.out.tr k2)
  clear k2
  go_wp2_with fail
  refine (HC.out _ K2.out).mono ?_; rintro e w3 ⟨rfl, k3⟩
  have K3 := Lib.hid (K2.out.tr k3)
  clear k3
  go_wp2_with fail
  refine (c1.out _ K3.out).mono ?_; rintro e w4 ⟨P4, x4, Q4, y4, rfl, T4, k4⟩
  have K4 := Lib.hid (K3.out.tr k4)
  clear k4
  obtain ⟨w5, hw5⟩ : ∃ V, V = w4.alloc (.cells #[.slice P4 x x4, .slice Q4 y y4] 25) := ⟨_, rfl⟩
  have HX5 := Lib.hid hw5
  have k5 : Kp w4 w5 := by rw [hw5]; exact Kp.alloc_ _ _
  have TA_5 := Lib.hid (T4.out.kp k5)
  have BA_5 : Hid (Bk w5 w4.heap.size P4 x x4 Q4 y y4) := by show Bk _ _ _ _ _ _ _ _; rw [hw5]; exact Bk.new rfl
  have K5 := Lib.hid (K4.out.tr k5)
  clear k5 hw5
  go_wp2_with fail
  rw [← HX5.out]
  refine (c2.out _ K5.out).mono ?_; rintro e w6 ⟨P6, x6, Q6, y6, rfl, T6, k6⟩
  have K6 := Lib.hid (K5.out.tr k6)
  have TA_6 := Lib.hid (TA_5.out.kp k6)
  have BA_6 := Lib.hid (BA_5.out.kp k6)
  clear k6
  obtain ⟨w7, hw7⟩ : ∃ V, V = w6.alloc (.cells #[.slice P6 x x6, .slice Q6 y y6] 25) := ⟨_, rfl⟩
  have HX7 := Lib.hid hw7
  have k7 : Kp w6 w7 := by rw [hw7]; exact Kp.alloc_ _ _
  have TA_7 := Lib.hid (TA_6.out.kp k7)
  have BA_7 := Lib.hid (BA_6.out.kp k7)
  have TB_7 := Lib.hid (T6.out.kp k7)
  have BB_7 : Hid (Bk w7 w6.heap.size P6 x x6 Q6 y y6) := by show Bk _ _ _ _ _ _ _ _; rw [hw7]; exact Bk.new rfl
  have K7 := Lib.hid (K6.out.tr k7)
  clear k7 hw7
  go_wp2_with fail
  rw [← HX7.out]
  go_loopw [14, 15] (fun o i wx => ∃ (k' : Nat) (out : Int), o = .int .i64 out ∧ i = .int .i64 (k' : Int) ∧ Hid (k' ≤ n) ∧ Hid (at_ = atF s (l.drop k') k' out) ∧ Hid (wx = w7)) (fun _ i _ => n - (intOf i).toNat)
  case atStart => exact ⟨0, -1, rfl, rfl, Nat.zero_le _, HAT.out, rfl⟩
  case round =>
    obtain ⟨k', out, rfl, rfl, hk', hT, hw⟩ := hrel
    obtain ⟨wz, hwz⟩ : ∃ wz, wz = wr := ⟨_, rfl⟩
    have hwr : w7 = wz := by rw [hwz]; exact hw.out.symm
    clear hw
    subst hwz
    subst hwr
    by_cases hj : k' < n
    · have hj' : (k' : Int) < (n : Int) := by omega
      obtain ⟨ad', P', e', Q', f', ea, hlt', hc0', _, _, _⟩ := (HR.out _ K7.out).atv (show k' < l.length by rw [← HN.out]; exact hj)
      injection ea with ea
      subst ea
      have hd := atF_drop (s := s) (out := out) (show k' < l.length by rw [← HN.out]; exact hj)
      obtain ⟨x', hx'⟩ : ∃ x, x = (l.getD k' nd0).1 := ⟨_, rfl⟩
      rw [← hx'] at hc0' hd
      by_cases hs' : x' ≤ s
      · have HT2 : Hid (at_ = atF s (l.drop (k' + 1)) (k' + 1) (k' : Int)) := by show at_ = _; rw [hT.out, hd, if_pos hs']
        clear hd hx'
        go_wp2
        go_roundw
        case rel => exact ⟨k' + 1, _, rfl, by go_num, (by show k' + 1 ≤ n; omega), HT2.out, trivial⟩
        case measure => simp [intOf]; omega
      · have HT2 : Hid (at_ = atF s (l.drop (k' + 1)) (k' + 1) out) := by show at_ = _; rw [hT.out, hd, if_neg hs']
        clear hd hx'
        go_wp2
        go_roundw
        case rel => exact ⟨k' + 1, _, rfl, by go_num, (by show k' + 1 ≤ n; omega), HT2.out, trivial⟩
        case measure => simp [intOf]; omega
    · have hj' : ¬ (k' : Int) < (n : Int) := by omega
      have HT2 : Hid (out = at_) := by show out = at_; rw [hT.out, List.drop_eq_nil_of_le (by rw [← HN.out]; omega)]; rfl
      obtain ⟨o2, ho2⟩ : ∃ o2, o2 = out := ⟨_, rfl⟩
      have HE : Hid (o2 = at_) := by show o2 = _; rw [ho2]; exact HT2.out
      subst ho2
      obtain rfl := HE.out
      obtain rfl := HAM.out
      clear hT HT2 HE HAT
      have HSS : Hid (∀ V, Kp w7 V → V.cell? ⟨w4.heap.size, 0, none⟩ = some (.slice P4 x x4) ∧ V.cell? ⟨w4.heap.size, 1, none⟩ = some (.slice Q4 y y4) ∧ V.cell? ⟨(ad.add (q * 3)).block, (ad.add (q * 3)).off + 1, none⟩ = some (.slice P5 x e5) ∧ V.cell? ⟨(ad.add (q * 3)).block, (ad.add (q * 3)).off + 1 + 1, none⟩ = some (.slice Q5 y f5)) := fun V kV => ⟨(BA_7.out.kp kV).c0, (BA_7.out.kp kV).c1, (HZ.out _ (K7.out.tr kV)).1, (HZ.out _ (K7.out.tr kV)).2⟩
      have q9 := HSS.out _ (Kp.drewN_ w7 1)
      have HS9 : Hid (Calls Try.prog 15 #[.agg #[.slice P4 x x4, .slice Q4 y y4], .agg #[.slice P5 x e5, .slice Q5 y f5]] w7.drew fun e w' => e = .returned (.bool true) ∧ Kp w7.drew w') := tsame_u (TA_7.out.r.kp (Kp.drewN_ w7 1)) (HTZ.out _ (K7.out.tr (Kp.drewN_ w7 1))) HJ.out.1 HJ.out.2
      go_wp2_with fail
      go_cut [16] (fun v16 wx => v16 = .bool true ∧ Hid (Kp w7 wx))
      case first =>
        refine wp_region_held_drew (S := fun V => V.cell? ⟨w4.heap.size, 0, none⟩ = some (.slice P4 x x4) ∧ V.cell? ⟨w4.heap.size, 1, none⟩ = some (.slice Q4 y y4) ∧ V.cell? ⟨(ad.add (q * 3)).block, (ad.add (q * 3)).off + 1, none⟩ = some (.slice P5 x e5) ∧ V.cell? ⟨(ad.add (q * 3)).block, (ad.add (q * 3)).off + 1 + 1, none⟩ = some (.slice Q5 y f5)) (by kernel_rfl) q9 (fun hHeld => ?_)
        try simp only [Act.put, List.setIfInBounds_toArray, List.set_cons_zero, List.set_cons_succ]
        refine wpAnyH_take (i := 0) (v := .int .i64 (q : Int)) rfl (by kernel_rfl) (by kernel_rfl) (by kernel_rfl) (fun _ _ _ h => h) (Or.inl ⟨by kernel_rfl, fun V hSV => ?_⟩) hHeld ?_
        · (try dsimp only at hSV); go_simp
        try simp only [Act.put, List.setIfInBounds_toArray, List.set_cons_zero, List.set_cons_succ]
        refine wpAnyH_take (i := 1) (v := .bool false) rfl (by kernel_rfl) (by kernel_rfl) (by kernel_rfl) (fun _ _ _ h => h) (Or.inl ⟨by kernel_rfl, fun V hSV => ?_⟩) hHeld ?_
        · (try dsimp only at hSV); go_simp
        try simp only [Act.put, List.setIfInBounds_toArray, List.set_cons_zero, List.set_cons_succ]
        refine wpAnyH_take (i := 2) (v := .bool false) rfl (by kernel_rfl) (by kernel_rfl) (by kernel_rfl) (fun _ _ _ h => h) (Or.inl ⟨by kernel_rfl, fun V hSV => ?_⟩) hHeld ?_
        · (try dsimp only at hSV); go_simp
        try simp only [Act.put, List.setIfInBounds_toArray, List.set_cons_zero, List.set_cons_succ]
        refine wpAnyH_take (i := 3) (v := undef) rfl (by kernel_rfl) (by kernel_rfl) (by kernel_rfl) (fun _ _ _ h => h) (Or.inr ⟨by kernel_rfl, rfl⟩) hHeld ?_
        try simp only [Act.put, List.setIfInBounds_toArray, List.set_cons_zero, List.set_cons_succ]
        refine wpAnyH_take (i := 4) (v := undef) rfl (by kernel_rfl) (by kernel_rfl) (by kernel_rfl) (fun _ _ _ h => h) (Or.inr ⟨by kernel_rfl, rfl⟩) hHeld ?_
        try simp only [Act.put, List.setIfInBounds_toArray, List.set_cons_zero, List.set_cons_succ]
        refine wpAnyH_take (i := 5) (v := .bool false) rfl (by kernel_rfl) (by kernel_rfl) (by kernel_rfl) (fun _ _ _ h => h) (Or.inl ⟨by kernel_rfl, fun V hSV => ?_⟩) hHeld ?_
        · (try dsimp only at hSV); go_simp
        try simp only [Act.put, List.setIfInBounds_toArray, List.set_cons_zero, List.set_cons_succ]
        refine wpAnyH_take (i := 6) (v := .bool false) rfl (by kernel_rfl) (by kernel_rfl) (by kernel_rfl) (fun _ _ _ h => h) (Or.inl ⟨by kernel_rfl, fun V hSV => ?_⟩) hHeld ?_
        · (try dsimp only at hSV); go_simp
        try simp only [Act.put, List.setIfInBounds_toArray, List.set_cons_zero, List.set_cons_succ]
        refine wpAnyH_take (i := 7) (v := .int .i64 (q : Int)) rfl (by kernel_rfl) (by kernel_rfl) (by kernel_rfl) (fun _ _ _ h => h) (Or.inl ⟨by kernel_rfl, fun V hSV => ?_⟩) hHeld ?_
        · (try dsimp only at hSV); go_simp
        try simp only [Act.put, List.setIfInBounds_toArray, List.set_cons_zero, List.set_cons_succ]
        refine wpAnyH_take (i := 8) (v := .bool true) rfl (by kernel_rfl) (by kernel_rfl) (by kernel_rfl) (fun _ _ _ h => h) (Or.inl ⟨by kernel_rfl, fun V hSV => ?_⟩) hHeld ?_
        · (try dsimp only at hSV); go_simp
        try simp only [Act.put, List.setIfInBounds_toArray, List.set_cons_zero, List.set_cons_succ]
        refine wpAnyH_take (i := 9) (v := .bool true) rfl (by kernel_rfl) (by kernel_rfl) (by kernel_rfl) (fun _ _ _ h => h) (Or.inl ⟨by kernel_rfl, fun V hSV => ?_⟩) hHeld ?_
        · (try dsimp only at hSV); go_simp
        try simp only [Act.put, List.setIfInBounds_toArray, List.set_cons_zero, List.set_cons_succ]
        refine wpAnyH_take (i := 10) (v := .bool true) rfl (by kernel_rfl) (by kernel_rfl) (by kernel_rfl) (fun _ _ _ h => h) (Or.inl ⟨by kernel_rfl, fun V hSV => ?_⟩) hHeld ?_
        · (try dsimp only at hSV); go_simp
        try simp only [Act.put, List.setIfInBounds_toArray, List.set_cons_zero, List.set_cons_succ]
        refine wpAnyH_take (i := 11) (v := .bool true) rfl (by kernel_rfl) (by kernel_rfl) (by kernel_rfl) (fun _ _ _ h => h) (Or.inl ⟨by kernel_rfl, fun V hSV => ?_⟩) hHeld ?_
        · (try dsimp only at hSV); go_simp
        try simp only [Act.put, List.setIfInBounds_toArray, List.set_cons_zero, List.set_cons_succ]
        refine wpAnyH_take (i := 12) (v := .bool true) rfl (by kernel_rfl) (by kernel_rfl) (by kernel_rfl) (fun _ _ _ h => h) (Or.inl ⟨by kernel_rfl, fun V hSV => ?_⟩) hHeld ?_
        · (try dsimp only at hSV); go_simp
        try simp only [Act.put, List.setIfInBounds_toArray, List.set_cons_zero, List.set_cons_succ]
        refine wpAnyH_take (i := 13) (v := .agg #[.slice P4 x x4, .slice Q4 y y4]) rfl (by kernel_rfl) (by kernel_rfl) (by kernel_rfl) (fun _ _ _ h => h) (Or.inl ⟨by kernel_rfl, fun V hSV => ?_⟩) hHeld ?_
        · (try dsimp only at hSV); go_simp
        try simp only [Act.put, List.setIfInBounds_toArray, List.set_cons_zero, List.set_cons_succ]
        refine wpAnyH_take (i := 14) (v := .slice (some ad) n c) rfl (by kernel_rfl) (by kernel_rfl) (by kernel_rfl) (fun _ _ _ h => h) (Or.inl ⟨by kernel_rfl, fun V hSV => ?_⟩) hHeld ?_
        · (try dsimp only at hSV); go_simp
        try simp only [Act.put, List.setIfInBounds_toArray, List.set_cons_zero, List.set_cons_succ]
        refine wpAnyH_take (i := 15) (v := .int .i64 (q : Int)) rfl (by kernel_rfl) (by kernel_rfl) (by kernel_rfl) (fun _ _ _ h => h) (Or.inl ⟨by kernel_rfl, fun V hSV => ?_⟩) hHeld ?_
        · (try dsimp only at hSV); go_simp
        try simp only [Act.put, List.setIfInBounds_toArray, List.set_cons_zero, List.set_cons_succ]
        refine wpAnyH_take (i := 16) (v := .int .i64 (q : Int)) rfl (by kernel_rfl) (by kernel_rfl) (by kernel_rfl) (fun _ _ _ h => h) (Or.inl ⟨by kernel_rfl, fun V hSV => ?_⟩) hHeld ?_
        · (try dsimp only at hSV); go_simp
        try simp only [Act.put, List.setIfInBounds_toArray, List.set_cons_zero, List.set_cons_succ]
        refine wpAnyH_take (i := 17) (v := .pointer (some (ad.add (q * 3)))) rfl (by kernel_rfl) (by kernel_rfl) (by kernel_rfl) (fun _ _ _ h => h) (Or.inl ⟨by kernel_rfl, fun V hSV => ?_⟩) hHeld ?_
        · (try dsimp only at hSV); go_simp
        try simp only [Act.put, List.setIfInBounds_toArray, List.set_cons_zero, List.set_cons_succ]
        refine wpAnyH_take (i := 18) (v := .pointer (some ⟨(ad.add (q * 3)).block, (ad.add (q * 3)).off + 1, none⟩)) rfl (by kernel_rfl) (by kernel_rfl) (by kernel_rfl) (fun _ _ _ h => h) (Or.inl ⟨by kernel_rfl, fun V hSV => ?_⟩) hHeld ?_
        · (try dsimp only at hSV); go_simp
        try simp only [Act.put, List.setIfInBounds_toArray, List.set_cons_zero, List.set_cons_succ]
        refine wpAnyH_take (i := 19) (v := .agg #[.slice P5 x e5, .slice Q5 y f5]) rfl (by kernel_rfl) (by kernel_rfl) (by kernel_rfl) (fun _ _ _ h => h) (Or.inl ⟨by kernel_rfl, fun V hSV => ?_⟩) hHeld ?_
        · (try dsimp only at hSV); go_simp
        try simp only [Act.put, List.setIfInBounds_toArray, List.set_cons_zero, List.set_cons_succ]
        refine wpAnyH_ready (rs := [20]) (by kernel_rfl) (by simp) ?_
        refine AllReadyH.cons rfl (fun K9_ hK => ?_) AllReadyH.nil
        go_simp
        refine (Hid.out HS9).mono ?_; rintro e w5_ ⟨rfl, k5_⟩
        dsimp only
        have K5_ : Hid (Kp w7 w5_) := undrew17 k5_
        clear k5_
        refine hK.out _ _ ?_ (fun hHeld => ?_)
        · exact HSS.out _ K5_.out
        clear hK
        try simp only [Act.put, List.setIfInBounds_toArray, List.set_cons_zero, List.set_cons_succ]
        refine wpAnyH_take (i := 21) (v := .bool true) rfl (by kernel_rfl) (by kernel_rfl) (by kernel_rfl) (fun _ _ _ h => h) (Or.inl ⟨by kernel_rfl, fun V hSV => ?_⟩) hHeld ?_
        · (try dsimp only at hSV); go_simp
        try simp only [Act.put, List.setIfInBounds_toArray, List.set_cons_zero, List.set_cons_succ]
        refine wpAnyH_take (i := 22) (v := .bool true) rfl (by kernel_rfl) (by kernel_rfl) (by kernel_rfl) (fun _ _ _ h => h) (Or.inl ⟨by kernel_rfl, fun V hSV => ?_⟩) hHeld ?_
        · (try dsimp only at hSV); go_simp
        try simp only [Act.put, List.setIfInBounds_toArray, List.set_cons_zero, List.set_cons_succ]
        refine wpAnyH_ready (rs := [23]) (by kernel_rfl) (by simp) ?_
        refine AllReadyH.cons rfl (fun K9_ hK => ?_) AllReadyH.nil
        go_simp
        refine hK.out _ _ ?_ (fun hHeld => ?_)
        · exact HSS.out _ K5_.out
        clear hK
        try simp only [Act.put, List.setIfInBounds_toArray, List.set_cons_zero, List.set_cons_succ]
        refine wpAnyH_done (by kernel_rfl) ?_ _
        clear hHeld
        go_wp2
        go_meet
        exact ⟨rfl, K5_.out⟩
      case rest =>
        obtain ⟨rfl, hKc⟩ := hcut
        clear q9 HSS HS9
        have KQ := Lib.hid (K7.out.tr hKc.out)
        have TAQ := Lib.hid (TA_7.out.kp hKc.out)
        have TBQ := Lib.hid (TB_7.out.kp hKc.out)
        have BAQ := Lib.hid (BA_7.out.kp hKc.out)
        have BBQ := Lib.hid (BB_7.out.kp hKc.out)
        clear hKc
        go_wp2_with fail
        refine (c3.out _ KQ.out).mono ?_; rintro e w28 ⟨rfl, k28⟩
        have K28 := Lib.hid (KQ.out.tr k28)
        have TA_28 := Lib.hid (TAQ.out.kp k28)
        have TB_28 := Lib.hid (TBQ.out.kp k28)
        have BA_28 := Lib.hid (BAQ.out.kp k28)
        have BB_28 := Lib.hid (BBQ.out.kp k28)
        clear k28
        have zBA0 := BA_28.out.c0
        have zBA1 := BA_28.out.c1
        have zBB0 := BB_28.out.c0
        have zBB1 := BB_28.out.c1
        go_wp2_with fail
        refine (tsame_u TA_28.out.r TB_28.out.r HJ.out.1 HJ.out.2).mono ?_; rintro e w29 ⟨rfl, k29⟩
        have K29 := Lib.hid (K28.out.tr k29)
        have TA_29 := Lib.hid (TA_28.out.kp k29)
        have TB_29 := Lib.hid (TB_28.out.kp k29)
        have BA_29 := Lib.hid (BA_28.out.kp k29)
        have BB_29 := Lib.hid (BB_28.out.kp k29)
        clear k29 zBA0 zBA1 zBB0 zBB1
        go_wp2
        go_ret
        exact ⟨rfl, K29.out⟩
theorem ccuts_in_none (C : ChC) (A : Option Addr) (n c : Nat) (l : List Nd) (u8 s : Int) (w : World) (h : RdG w A l) (hn : n = l.length) (hc : l.length ≤ c ∧ c ≤ 9223372036854775807) (g0 : 0 ≤ u8) (g1 : u8 ≤ 255) (k : Nat) (hk : u8 % ((n : Int) + 1) = (k : Int)) (hkn : k ≤ n) (hs : In64 s) (sm : SmV l) (hl30 : l.length ≤ 30) (hf : fewC l = true) (hck : chkV l = true) (ck : k < n) (cs : s < (l.getD k nd0).1) (ca : atC l s = -1) :
    Calls Try.prog 6 #[.slice A n c, .int .u8 u8, .int .i64 s] w fun e w' => e = .returned (.bool true) ∧ Kp w w' := by
  obtain ⟨ad, P9, e9, Q9, f9, hA9, hlt9, y0, _, _, _⟩ := h.atv (show k < l.length by omega)
  obtain ⟨v, hv⟩ : ∃ v, v = (l.getD k nd0).1 := ⟨_, rfl⟩
  rw [← hv] at y0 cs
  have HV : Hid (∀ V, Kp w V → V.cell? (ad.add (k * 3)) = some (.int .i64 v)) := fun V kV => (kV.cell (by rw [block_of_add]; exact hlt9)).trans y0
  have hkn1 : ((k : Int) == (n : Int)) = false := by rw [beq_eq_false_iff_ne]; omega
  have hmx : (0 : Int) ≤ (n : Int) - 1 := by omega
  have hmi : (k : Int) ≤ (n : Int) - 1 := by omega
  have hki : (k : Int) < (n : Int) := by omega
  have hsv : decide (s < v) = true := decide_eq_true cs
  have K0 : Hid (Kp w w) := Kp.refl w
  have HA : Hid (∀ W, Calls Try.prog 8 #[] W fun e w' => e = .returned (.bool true) ∧ Kp W w') := fun W => chawake_any C W
  have HF : Hid (∀ W, Kp w W → Calls Try.prog 9 #[.slice A n c] W fun e w' => e = .returned (.bool true) ∧ Kp W w') := fun W kW => rfew17_any A n c l W (h.kp kW) hn hf
  have HC : Hid (∀ W, Kp w W → Calls Try.prog 17 #[.slice A n c] W fun e w' => e = .returned (.bool true) ∧ Kp W w') := fun W kW => C.check A c n l true W (h.kp kW) hc sm hn hck
  obtain ⟨m, hm⟩ : ∃ m, l.take k = m := ⟨_, rfl⟩
  have hmk : m.length = k := by rw [← hm, List.length_take]; omega
  have hmc : m.length ≤ c ∧ c ≤ 9223372036854775807 := by omega
  have RM : RdG w A m := by rw [← hm]; exact h.take_ k
  have smm : SmV m := by rw [← hm]; exact sm_take sm k
  have hckm : chkV m = true := by rw [← hm]; exact chk_take' hck k
  obtain ⟨rt, rb, hr⟩ : ∃ rt rb, readC l s = (rt, rb) := ⟨_, _, rfl⟩
  obtain ⟨qt, qb, hq_⟩ : ∃ qt qb, readC m s = (qt, qb) := ⟨_, _, rfl⟩
  obtain ⟨x, hx⟩ : ∃ x, rt.1.length = x := ⟨_, rfl⟩
  obtain ⟨y, hy⟩ : ∃ y, rt.2.length = y := ⟨_, rfl⟩
  obtain ⟨x2, hx2⟩ : ∃ x, qt.1.length = x := ⟨_, rfl⟩
  obtain ⟨y2, hy2⟩ : ∃ y, qt.2.length = y := ⟨_, rfl⟩
  have c1 : Hid (∀ W, Kp w W → Calls Try.prog 11 #[.slice A n c, .int .i64 s] W (RetTB rt rb x y W)) := fun W kW => C.read A c n l s rt rb x y W (h.kp kW) hc sm hn hs hr hx hy
  have c2 : Hid (∀ W, Kp w W → Calls Try.prog 11 #[.slice A k c, .int .i64 s] W (RetTB qt qb x2 y2 W)) := fun W kW => C.read A c k m s qt qb x2 y2 W (RM.kp kW) hmc smm hmk.symm hs hq_ hx2 hy2
  have c3 : Hid (∀ W, Kp w W → Calls Try.prog 17 #[.slice A k c] W fun e w' => e = .returned (.bool true) ∧ Kp W w') := fun W kW => C.check A c k m true W (RM.kp kW) hmc smm hmk.symm hckm
  have HR : Hid (∀ W, Kp w W → RdG W A l) := fun W kW => h.kp kW
  have hn' : n ≤ 9223372036854775807 := by omega
  have hkc : k ≤ c := by omega
  have hkc2 : (k : Int) ≤ (c : Int) := by omega
  have hc' : c ≤ 9223372036854775807 := hc.2
  have hn30 : n ≤ 30 := by omega
  have hn1 : ((n : Int) + 1 == 0) = false := by simp; omega
  have hcr : readC m s = readC l s := by rw [← hm]; exact cut_read hck (by omega) (.inr (by rw [← hv]; exact cs))
  rw [hr, hq_] at hcr
  injection hcr with er1 er2
  subst er1 er2
  obtain rfl : x = x2 := hx.symm.trans hx2
  obtain rfl : y = y2 := hy.symm.trans hy2
  have hrb : readC l s = (cT, false) := by unfold readC; rw [ca, if_neg (fun h => by have := h.2; omega)]
  rw [hr] at hrb
  injection hrb with _ hrb
  subst hrb
  have HAM : Hid (atC l s = -1) := ca
  have HJ := Lib.hid (And.intro hx hy)
  obtain ⟨at_, hat⟩ : ∃ a, a = atC l s := ⟨_, rfl⟩
  have HAT : Hid (at_ = atF s (l.drop 0) 0 (-1)) := hat
  rw [← hat] at HAM
  have HN := Lib.hid hn
  clear C h hn hc hs sm hl30 hf hck hm hmk hmc RM smm hckm hr hq_ hx hy hat ca hx2 hy2 hv cs y0 hlt9
  subst hA9
  by_cases hn2 : (1 : Int) < (n : Int)
  · have hn3 : ¬ (n : Int) ≤ 1 := by omega
    go_enter Try.func6, Try.ntmps6
    go_wp2_with fail
    refine (HA.out _).mono ?_; rintro e w1 ⟨rfl, k1⟩
    have K1 := Lib.hid (K0.out.tr k1)
    clear k1
    go_wp2_with fail
    refine (HF.out _ K1.out).mono ?_; rintro e w2 ⟨rfl, k2⟩
    have K2 := Lib.hid (K1.out.tr k2)
    clear k2
    go_wp2_with fail
    refine (HC.out _ K2.out).mono ?_; rintro e w3 ⟨rfl, k3⟩
    have K3 := Lib.hid (K2.out.tr k3)
    clear k3
    go_wp2_with fail
    refine (c1.out _ K3.out).mono ?_; rintro e w4 ⟨P4, x4, Q4, y4, rfl, T4, k4⟩
    have K4 := Lib.hid (K3.out.tr k4)
    clear k4
    obtain ⟨w5, hw5⟩ : ∃ V, V = w4.alloc (.cells #[.slice P4 x x4, .slice Q4 y y4] 25) := ⟨_, rfl⟩
    have HX5 := Lib.hid hw5
    have k5 : Kp w4 w5 := by rw [hw5]; exact Kp.alloc_ _ _
    have TA_5 := Lib.hid (T4.out.kp k5)
    have BA_5 : Hid (Bk w5 w4.heap.size P4 x x4 Q4 y y4) := by show Bk _ _ _ _ _ _ _ _; rw [hw5]; exact Bk.new rfl
    have K5 := Lib.hid (K4.out.tr k5)
    clear k5 hw5
    go_wp2_with fail
    rw [← HX5.out]
    refine (c2.out _ K5.out).mono ?_; rintro e w6 ⟨P6, x6, Q6, y6, rfl, T6, k6⟩
    have K6 := Lib.hid (K5.out.tr k6)
    have TA_6 := Lib.hid (TA_5.out.kp k6)
    have BA_6 := Lib.hid (BA_5.out.kp k6)
    clear k6
    obtain ⟨w7, hw7⟩ : ∃ V, V = w6.alloc (.cells #[.slice P6 x x6, .slice Q6 y y6] 25) := ⟨_, rfl⟩
    have HX7 := Lib.hid hw7
    have k7 : Kp w6 w7 := by rw [hw7]; exact Kp.alloc_ _ _
    have TA_7 := Lib.hid (TA_6.out.kp k7)
    have BA_7 := Lib.hid (BA_6.out.kp k7)
    have TB_7 := Lib.hid (T6.out.kp k7)
    have BB_7 : Hid (Bk w7 w6.heap.size P6 x x6 Q6 y y6) := by show Bk _ _ _ _ _ _ _ _; rw [hw7]; exact Bk.new rfl
    have K7 := Lib.hid (K6.out.tr k7)
    clear k7 hw7
    have yv := HV.out _ K7.out
    rw [HX7.out] at yv
    go_wp2_with fail
    rw [← HX7.out]
    clear yv
    go_loopw [14, 15] (fun o i wx => ∃ (k' : Nat) (out : Int), o = .int .i64 out ∧ i = .int .i64 (k' : Int) ∧ Hid (k' ≤ n) ∧ Hid (at_ = atF s (l.drop k') k' out) ∧ Hid (wx = w7)) (fun _ i _ => n - (intOf i).toNat)
    case atStart => exact ⟨0, -1, rfl, rfl, Nat.zero_le _, HAT.out, rfl⟩
    case round =>
      obtain ⟨k', out, rfl, rfl, hk', hT, hw⟩ := hrel
      obtain ⟨wz, hwz⟩ : ∃ wz, wz = wr := ⟨_, rfl⟩
      have hwr : w7 = wz := by rw [hwz]; exact hw.out.symm
      clear hw
      subst hwz
      subst hwr
      by_cases hj : k' < n
      · have hj' : (k' : Int) < (n : Int) := by omega
        obtain ⟨ad', P', e', Q', f', ea, hlt', hc0', _, _, _⟩ := (HR.out _ K7.out).atv (show k' < l.length by rw [← HN.out]; exact hj)
        injection ea with ea
        subst ea
        have hd := atF_drop (s := s) (out := out) (show k' < l.length by rw [← HN.out]; exact hj)
        obtain ⟨x', hx'⟩ : ∃ x, x = (l.getD k' nd0).1 := ⟨_, rfl⟩
        rw [← hx'] at hc0' hd
        by_cases hs' : x' ≤ s
        · have HT2 : Hid (at_ = atF s (l.drop (k' + 1)) (k' + 1) (k' : Int)) := by show at_ = _; rw [hT.out, hd, if_pos hs']
          clear hd hx'
          go_wp2
          go_roundw
          case rel => exact ⟨k' + 1, _, rfl, by go_num, (by show k' + 1 ≤ n; omega), HT2.out, trivial⟩
          case measure => simp [intOf]; omega
        · have HT2 : Hid (at_ = atF s (l.drop (k' + 1)) (k' + 1) out) := by show at_ = _; rw [hT.out, hd, if_neg hs']
          clear hd hx'
          go_wp2
          go_roundw
          case rel => exact ⟨k' + 1, _, rfl, by go_num, (by show k' + 1 ≤ n; omega), HT2.out, trivial⟩
          case measure => simp [intOf]; omega
      · have hj' : ¬ (k' : Int) < (n : Int) := by omega
        have HT2 : Hid (out = at_) := by show out = at_; rw [hT.out, List.drop_eq_nil_of_le (by rw [← HN.out]; omega)]; rfl
        obtain ⟨o2, ho2⟩ : ∃ o2, o2 = out := ⟨_, rfl⟩
        have HE : Hid (o2 = at_) := by show o2 = _; rw [ho2]; exact HT2.out
        subst ho2
        obtain rfl := HE.out
        obtain rfl := HAM.out
        clear hT HT2 HE HAT
        go_wp2_with fail
        go_quiet (fail)
        generalize hwq : (w7.drewN _) = wq
        have kq : Kp w7 wq := by rw [← hwq]; exact Kp.drewN_ _ _
        clear hwq
        have KQ := Lib.hid (K7.out.tr kq)
        have TAQ := Lib.hid (TA_7.out.kp kq)
        have TBQ := Lib.hid (TB_7.out.kp kq)
        have BAQ := Lib.hid (BA_7.out.kp kq)
        have BBQ := Lib.hid (BB_7.out.kp kq)
        clear kq
        go_wp2_with fail
        refine (c3.out _ KQ.out).mono ?_; rintro e w28 ⟨rfl, k28⟩
        have K28 := Lib.hid (KQ.out.tr k28)
        have TA_28 := Lib.hid (TAQ.out.kp k28)
        have TB_28 := Lib.hid (TBQ.out.kp k28)
        have BA_28 := Lib.hid (BAQ.out.kp k28)
        have BB_28 := Lib.hid (BBQ.out.kp k28)
        clear k28
        have zBA0 := BA_28.out.c0
        have zBA1 := BA_28.out.c1
        have zBB0 := BB_28.out.c0
        have zBB1 := BB_28.out.c1
        go_wp2_with fail
        refine (tsame_u TA_28.out.r TB_28.out.r HJ.out.1 HJ.out.2).mono ?_; rintro e w29 ⟨rfl, k29⟩
        have K29 := Lib.hid (K28.out.tr k29)
        have TA_29 := Lib.hid (TA_28.out.kp k29)
        have TB_29 := Lib.hid (TB_28.out.kp k29)
        have BA_29 := Lib.hid (BA_28.out.kp k29)
        have BB_29 := Lib.hid (BB_28.out.kp k29)
        clear k29 zBA0 zBA1 zBB0 zBB1
        go_wp2
        go_ret
        exact ⟨rfl, K29.out⟩
  · have hn3 : (n : Int) ≤ 1 := by omega
    have hk0 : (k : Int) ≤ 0 := by omega
    go_enter Try.func6, Try.ntmps6
    go_wp2_with fail
    refine (HA.out _).mono ?_; rintro e w1 ⟨rfl, k1⟩
    have K1 := Lib.hid (K0.out.tr k1)
    clear k1
    go_wp2_with fail
    refine (HF.out _ K1.out).mono ?_; rintro e w2 ⟨rfl, k2⟩
    have K2 := Lib.hid (K1.out.tr k2)
    clear k2
    go_wp2_with fail
    refine (HC.out _ K2.out).mono ?_; rintro e w3 ⟨rfl, k3⟩
    have K3 := Lib.hid (K2.out.tr k3)
    clear k3
    go_wp2_with fail
    refine (c1.out _ K3.out).mono ?_; rintro e w4 ⟨P4, x4, Q4, y4, rfl, T4, k4⟩
    have K4 := Lib.hid (K3.out.tr k4)
    clear k4
    obtain ⟨w5, hw5⟩ : ∃ V, V = w4.alloc (.cells #[.slice P4 x x4, .slice Q4 y y4] 25) := ⟨_, rfl⟩
    have HX5 := Lib.hid hw5
    have k5 : Kp w4 w5 := by rw [hw5]; exact Kp.alloc_ _ _
    have TA_5 := Lib.hid (T4.out.kp k5)
    have BA_5 : Hid (Bk w5 w4.heap.size P4 x x4 Q4 y y4) := by show Bk _ _ _ _ _ _ _ _; rw [hw5]; exact Bk.new rfl
    have K5 := Lib.hid (K4.out.tr k5)
    clear k5 hw5
    go_wp2_with fail
    rw [← HX5.out]
    refine (c2.out _ K5.out).mono ?_; rintro e w6 ⟨P6, x6, Q6, y6, rfl, T6, k6⟩
    have K6 := Lib.hid (K5.out.tr k6)
    have TA_6 := Lib.hid (TA_5.out.kp k6)
    have BA_6 := Lib.hid (BA_5.out.kp k6)
    clear k6
    obtain ⟨w7, hw7⟩ : ∃ V, V = w6.alloc (.cells #[.slice P6 x x6, .slice Q6 y y6] 25) := ⟨_, rfl⟩
    have HX7 := Lib.hid hw7
    have k7 : Kp w6 w7 := by rw [hw7]; exact Kp.alloc_ _ _
    have TA_7 := Lib.hid (TA_6.out.kp k7)
    have BA_7 := Lib.hid (BA_6.out.kp k7)
    have TB_7 := Lib.hid (T6.out.kp k7)
    have BB_7 : Hid (Bk w7 w6.heap.size P6 x x6 Q6 y y6) := by show Bk _ _ _ _ _ _ _ _; rw [hw7]; exact Bk.new rfl
    have K7 := Lib.hid (K6.out.tr k7)
    clear k7 hw7
    have yv := HV.out _ K7.out
    rw [HX7.out] at yv
    go_wp2_with fail
    rw [← HX7.out]
    clear yv
    go_loopw [14, 15] (fun o i wx => ∃ (k' : Nat) (out : Int), o = .int .i64 out ∧ i = .int .i64 (k' : Int) ∧ Hid (k' ≤ n) ∧ Hid (at_ = atF s (l.drop k') k' out) ∧ Hid (wx = w7)) (fun _ i _ => n - (intOf i).toNat)
    case atStart => exact ⟨0, -1, rfl, rfl, Nat.zero_le _, HAT.out, rfl⟩
    case round =>
      obtain ⟨k', out, rfl, rfl, hk', hT, hw⟩ := hrel
      obtain ⟨wz, hwz⟩ : ∃ wz, wz = wr := ⟨_, rfl⟩
      have hwr : w7 = wz := by rw [hwz]; exact hw.out.symm
      clear hw
      subst hwz
      subst hwr
      by_cases hj : k' < n
      · have hj' : (k' : Int) < (n : Int) := by omega
        obtain ⟨ad', P', e', Q', f', ea, hlt', hc0', _, _, _⟩ := (HR.out _ K7.out).atv (show k' < l.length by rw [← HN.out]; exact hj)
        injection ea with ea
        subst ea
        have hd := atF_drop (s := s) (out := out) (show k' < l.length by rw [← HN.out]; exact hj)
        obtain ⟨x', hx'⟩ : ∃ x, x = (l.getD k' nd0).1 := ⟨_, rfl⟩
        rw [← hx'] at hc0' hd
        by_cases hs' : x' ≤ s
        · have HT2 : Hid (at_ = atF s (l.drop (k' + 1)) (k' + 1) (k' : Int)) := by show at_ = _; rw [hT.out, hd, if_pos hs']
          clear hd hx'
          go_wp2
          go_roundw
          case rel => exact ⟨k' + 1, _, rfl, by go_num, (by show k' + 1 ≤ n; omega), HT2.out, trivial⟩
          case measure => simp [intOf]; omega
        · have HT2 : Hid (at_ = atF s (l.drop (k' + 1)) (k' + 1) out) := by show at_ = _; rw [hT.out, hd, if_neg hs']
          clear hd hx'
          go_wp2
          go_roundw
          case rel => exact ⟨k' + 1, _, rfl, by go_num, (by show k' + 1 ≤ n; omega), HT2.out, trivial⟩
          case measure => simp [intOf]; omega
      · have hj' : ¬ (k' : Int) < (n : Int) := by omega
        have HT2 : Hid (out = at_) := by show out = at_; rw [hT.out, List.drop_eq_nil_of_le (by rw [← HN.out]; omega)]; rfl
        obtain ⟨o2, ho2⟩ : ∃ o2, o2 = out := ⟨_, rfl⟩
        have HE : Hid (o2 = at_) := by show o2 = _; rw [ho2]; exact HT2.out
        subst ho2
        obtain rfl := HE.out
        obtain rfl := HAM.out
        clear hT HT2 HE HAT
        go_wp2_with fail
        go_quiet (fail)
        generalize hwq : (w7.drewN _) = wq
        have kq : Kp w7 wq := by rw [← hwq]; exact Kp.drewN_ _ _
        clear hwq
        have KQ := Lib.hid (K7.out.tr kq)
        have TAQ := Lib.hid (TA_7.out.kp kq)
        have TBQ := Lib.hid (TB_7.out.kp kq)
        have BAQ := Lib.hid (BA_7.out.kp kq)
        have BBQ := Lib.hid (BB_7.out.kp kq)
        clear kq
        go_wp2_with fail
        refine (c3.out _ KQ.out).mono ?_; rintro e w28 ⟨rfl, k28⟩
        have K28 := Lib.hid (KQ.out.tr k28)
        have TA_28 := Lib.hid (TAQ.out.kp k28)
        have TB_28 := Lib.hid (TBQ.out.kp k28)
        have BA_28 := Lib.hid (BAQ.out.kp k28)
        have BB_28 := Lib.hid (BBQ.out.kp k28)
        clear k28
        have zBA0 := BA_28.out.c0
        have zBA1 := BA_28.out.c1
        have zBB0 := BB_28.out.c0
        have zBB1 := BB_28.out.c1
        go_wp2_with fail
        refine (tsame_u TA_28.out.r TB_28.out.r HJ.out.1 HJ.out.2).mono ?_; rintro e w29 ⟨rfl, k29⟩
        have K29 := Lib.hid (K28.out.tr k29)
        have TA_29 := Lib.hid (TA_28.out.kp k29)
        have TB_29 := Lib.hid (TB_28.out.kp k29)
        have BA_29 := Lib.hid (BA_28.out.kp k29)
        have BB_29 := Lib.hid (BB_28.out.kp k29)
        clear k29 zBA0 zBA1 zBB0 zBB1
        go_wp2
        go_ret
        exact ⟨rfl, K29.out⟩
theorem ccuts_in_zero (C : ChC) (A : Option Addr) (n c : Nat) (l : List Nd) (u8 s : Int) (w : World) (h : RdG w A l) (hn : n = l.length) (hc : l.length ≤ c ∧ c ≤ 9223372036854775807) (g0 : 0 ≤ u8) (g1 : u8 ≤ 255) (k : Nat) (hk : u8 % ((n : Int) + 1) = (k : Int)) (hkn : k ≤ n) (hs : In64 s) (sm : SmV l) (hl30 : l.length ≤ 30) (hf : fewC l = true) (hck : chkV l = true) (ck : k < n) (cs : s < (l.getD k nd0).1) (hq : 0 < l.length) (ca : atC l s = ((0 : Nat) : Int)) :
    Calls Try.prog 6 #[.slice A n c, .int .u8 u8, .int .i64 s] w fun e w' => e = .returned (.bool true) ∧ Kp w w' := by
  obtain ⟨ad, P9, e9, Q9, f9, hA9, hlt9, y0, _, _, _⟩ := h.atv (show k < l.length by omega)
  obtain ⟨v, hv⟩ : ∃ v, v = (l.getD k nd0).1 := ⟨_, rfl⟩
  rw [← hv] at y0 cs
  have HV : Hid (∀ V, Kp w V → V.cell? (ad.add (k * 3)) = some (.int .i64 v)) := fun V kV => (kV.cell (by rw [block_of_add]; exact hlt9)).trans y0
  have hkn1 : ((k : Int) == (n : Int)) = false := by rw [beq_eq_false_iff_ne]; omega
  have hmx : (0 : Int) ≤ (n : Int) - 1 := by omega
  have hmi : (k : Int) ≤ (n : Int) - 1 := by omega
  have hki : (k : Int) < (n : Int) := by omega
  have hsv : decide (s < v) = true := decide_eq_true cs
  have K0 : Hid (Kp w w) := Kp.refl w
  have HA : Hid (∀ W, Calls Try.prog 8 #[] W fun e w' => e = .returned (.bool true) ∧ Kp W w') := fun W => chawake_any C W
  have HF : Hid (∀ W, Kp w W → Calls Try.prog 9 #[.slice A n c] W fun e w' => e = .returned (.bool true) ∧ Kp W w') := fun W kW => rfew17_any A n c l W (h.kp kW) hn hf
  have HC : Hid (∀ W, Kp w W → Calls Try.prog 17 #[.slice A n c] W fun e w' => e = .returned (.bool true) ∧ Kp W w') := fun W kW => C.check A c n l true W (h.kp kW) hc sm hn hck
  obtain ⟨m, hm⟩ : ∃ m, l.take k = m := ⟨_, rfl⟩
  have hmk : m.length = k := by rw [← hm, List.length_take]; omega
  have hmc : m.length ≤ c ∧ c ≤ 9223372036854775807 := by omega
  have RM : RdG w A m := by rw [← hm]; exact h.take_ k
  have smm : SmV m := by rw [← hm]; exact sm_take sm k
  have hckm : chkV m = true := by rw [← hm]; exact chk_take' hck k
  obtain ⟨rt, rb, hr⟩ : ∃ rt rb, readC l s = (rt, rb) := ⟨_, _, rfl⟩
  obtain ⟨qt, qb, hq_⟩ : ∃ qt qb, readC m s = (qt, qb) := ⟨_, _, rfl⟩
  obtain ⟨x, hx⟩ : ∃ x, rt.1.length = x := ⟨_, rfl⟩
  obtain ⟨y, hy⟩ : ∃ y, rt.2.length = y := ⟨_, rfl⟩
  obtain ⟨x2, hx2⟩ : ∃ x, qt.1.length = x := ⟨_, rfl⟩
  obtain ⟨y2, hy2⟩ : ∃ y, qt.2.length = y := ⟨_, rfl⟩
  have c1 : Hid (∀ W, Kp w W → Calls Try.prog 11 #[.slice A n c, .int .i64 s] W (RetTB rt rb x y W)) := fun W kW => C.read A c n l s rt rb x y W (h.kp kW) hc sm hn hs hr hx hy
  have c2 : Hid (∀ W, Kp w W → Calls Try.prog 11 #[.slice A k c, .int .i64 s] W (RetTB qt qb x2 y2 W)) := fun W kW => C.read A c k m s qt qb x2 y2 W (RM.kp kW) hmc smm hmk.symm hs hq_ hx2 hy2
  have c3 : Hid (∀ W, Kp w W → Calls Try.prog 17 #[.slice A k c] W fun e w' => e = .returned (.bool true) ∧ Kp W w') := fun W kW => C.check A c k m true W (RM.kp kW) hmc smm hmk.symm hckm
  have HR : Hid (∀ W, Kp w W → RdG W A l) := fun W kW => h.kp kW
  have hn' : n ≤ 9223372036854775807 := by omega
  have hkc : k ≤ c := by omega
  have hkc2 : (k : Int) ≤ (c : Int) := by omega
  have hc' : c ≤ 9223372036854775807 := hc.2
  have hn30 : n ≤ 30 := by omega
  have hn1 : ((n : Int) + 1 == 0) = false := by simp; omega
  have hcr : readC m s = readC l s := by rw [← hm]; exact cut_read hck (by omega) (.inr (by rw [← hv]; exact cs))
  rw [hr, hq_] at hcr
  injection hcr with er1 er2
  subst er1 er2
  obtain rfl : x = x2 := hx.symm.trans hx2
  obtain rfl : y = y2 := hy.symm.trans hy2
  have hrb : readC l s = ((l.getD 0 nd0).2, true) := by unfold readC; rw [ca, if_pos ⟨hck, by omega⟩, show (((0 : Nat) : Int)).toNat = 0 from rfl]
  rw [hr] at hrb
  injection hrb with hrt hrb
  subst hrb
  obtain ⟨ad2, P5, e5, Q5, f5, ea2, hlt5, _, z1, z2, TZ⟩ := h.atv hq
  rw [hA9] at ea2
  injection ea2 with ea2
  subst ea2
  have e0 : ad.add (0 * 3) = ad := by unfold Addr.add; simp
  rw [e0] at z1 z2
  rw [← hrt] at z1 z2 TZ
  rw [hx] at z1
  rw [hy] at z2
  have HZ : Hid (∀ V, Kp w V → V.cell? ⟨ad.block, ad.off + 1, none⟩ = some (.slice P5 x e5) ∧ V.cell? ⟨ad.block, ad.off + 1 + 1, none⟩ = some (.slice Q5 y f5)) := fun V kV => ⟨(kV.cell (show (⟨ad.block, ad.off + 1, none⟩ : Addr).block < _ from hlt5)).trans z1, (kV.cell (show (⟨ad.block, ad.off + 1 + 1, none⟩ : Addr).block < _ from hlt5)).trans z2⟩
  have HTZ : Hid (∀ V, Kp w V → TR V P5 qt.1 Q5 qt.2) := fun V kV => TZ.r.kp kV
  have HAM : Hid (atC l s = 0) := ca
  have q2 : (0 : Int) < (n : Int) := by omega
  have q5 : ¬ n = 0 := by omega
  have HJ := Lib.hid (And.intro hx hy)
  obtain ⟨at_, hat⟩ : ∃ a, a = atC l s := ⟨_, rfl⟩
  have HAT : Hid (at_ = atF s (l.drop 0) 0 (-1)) := hat
  rw [← hat] at HAM
  have HN := Lib.hid hn
  clear C h hn hc hs sm hl30 hf hck hm hmk hmc RM smm hckm hr hq_ hx hy hat ca hx2 hy2 hv cs y0 hlt9 hrt z1 z2 TZ hlt5 hq e0
  subst hA9
  by_cases hn2 : (1 : Int) < (n : Int)
  · have hn3 : ¬ (n : Int) ≤ 1 := by omega
    go_enter Try.func6, Try.ntmps6
    go_wp2_with fail
    refine (HA.out _).mono ?_; rintro e w1 ⟨rfl, k1⟩
    have K1 := Lib.hid (K0.out.tr k1)
    clear k1
    go_wp2_with fail
    refine (HF.out _ K1.out).mono ?_; rintro e w2 ⟨rfl, k2⟩
    have K2 := Lib.hid (K1.out.tr k2)
    clear k2
    go_wp2_with fail
    refine (HC.out _ K2.out).mono ?_; rintro e w3 ⟨rfl, k3⟩
    have K3 := Lib.hid (K2.out.tr k3)
    clear k3
    go_wp2_with fail
    refine (c1.out _ K3.out).mono ?_; rintro e w4 ⟨P4, x4, Q4, y4, rfl, T4, k4⟩
    have K4 := Lib.hid (K3.out.tr k4)
    clear k4
    obtain ⟨w5, hw5⟩ : ∃ V, V = w4.alloc (.cells #[.slice P4 x x4, .slice Q4 y y4] 25) := ⟨_, rfl⟩
    have HX5 := Lib.hid hw5
    have k5 : Kp w4 w5 := by rw [hw5]; exact Kp.alloc_ _ _
    have TA_5 := Lib.hid (T4.out.kp k5)
    have BA_5 : Hid (Bk w5 w4.heap.size P4 x x4 Q4 y y4) := by show Bk _ _ _ _ _ _ _ _; rw [hw5]; exact Bk.new rfl
    have K5 := Lib.hid (K4.out.tr k5)
    clear k5 hw5
    go_wp2_with fail
    rw [← HX5.out]
    refine (c2.out _ K5.out).mono ?_; rintro e w6 ⟨P6, x6, Q6, y6, rfl, T6, k6⟩
    have K6 := Lib.hid (K5.out.tr k6)
    have TA_6 := Lib.hid (TA_5.out.kp k6)
    have BA_6 := Lib.hid (BA_5.out.kp k6)
    clear k6
    obtain ⟨w7, hw7⟩ : ∃ V, V = w6.alloc (.cells #[.slice P6 x x6, .slice Q6 y y6] 25) := ⟨_, rfl⟩
    have HX7 := Lib.hid hw7
    have k7 : Kp w6 w7 := by rw [hw7]; exact Kp.alloc_ _ _
    have TA_7 := Lib.hid (TA_6.out.kp k7)
    have BA_7 := Lib.hid (BA_6.out.kp k7)
    have TB_7 := Lib.hid (T6.out.kp k7)
    have BB_7 : Hid (Bk w7 w6.heap.size P6 x x6 Q6 y y6) := by show Bk _ _ _ _ _ _ _ _; rw [hw7]; exact Bk.new rfl
    have K7 := Lib.hid (K6.out.tr k7)
    clear k7 hw7
    have yv := HV.out _ K7.out
    rw [HX7.out] at yv
    go_wp2_with fail
    rw [← HX7.out]
    clear yv
    go_loopw [14, 15] (fun o i wx => ∃ (k' : Nat) (out : Int), o = .int .i64 out ∧ i = .int .i64 (k' : Int) ∧ Hid (k' ≤ n) ∧ Hid (at_ = atF s (l.drop k') k' out) ∧ Hid (wx = w7)) (fun _ i _ => n - (intOf i).toNat)
    case atStart => exact ⟨0, -1, rfl, rfl, Nat.zero_le _, HAT.out, rfl⟩
    case round =>
      obtain ⟨k', out, rfl, rfl, hk', hT, hw⟩ := hrel
      obtain ⟨wz, hwz⟩ : ∃ wz, wz = wr := ⟨_, rfl⟩
      have hwr : w7 = wz := by rw [hwz]; exact hw.out.symm
      clear hw
      subst hwz
      subst hwr
      by_cases hj : k' < n
      · have hj' : (k' : Int) < (n : Int) := by omega
        obtain ⟨ad', P', e', Q', f', ea, hlt', hc0', _, _, _⟩ := (HR.out _ K7.out).atv (show k' < l.length by rw [← HN.out]; exact hj)
        injection ea with ea
        subst ea
        have hd := atF_drop (s := s) (out := out) (show k' < l.length by rw [← HN.out]; exact hj)
        obtain ⟨x', hx'⟩ : ∃ x, x = (l.getD k' nd0).1 := ⟨_, rfl⟩
        rw [← hx'] at hc0' hd
        by_cases hs' : x' ≤ s
        · have HT2 : Hid (at_ = atF s (l.drop (k' + 1)) (k' + 1) (k' : Int)) := by show at_ = _; rw [hT.out, hd, if_pos hs']
          clear hd hx'
          go_wp2
          go_roundw
          case rel => exact ⟨k' + 1, _, rfl, by go_num, (by show k' + 1 ≤ n; omega), HT2.out, trivial⟩
          case measure => simp [intOf]; omega
        · have HT2 : Hid (at_ = atF s (l.drop (k' + 1)) (k' + 1) out) := by show at_ = _; rw [hT.out, hd, if_neg hs']
          clear hd hx'
          go_wp2
          go_roundw
          case rel => exact ⟨k' + 1, _, rfl, by go_num, (by show k' + 1 ≤ n; omega), HT2.out, trivial⟩
          case measure => simp [intOf]; omega
      · have hj' : ¬ (k' : Int) < (n : Int) := by omega
        have HT2 : Hid (out = at_) := by show out = at_; rw [hT.out, List.drop_eq_nil_of_le (by rw [← HN.out]; omega)]; rfl
        obtain ⟨o2, ho2⟩ : ∃ o2, o2 = out := ⟨_, rfl⟩
        have HE : Hid (o2 = at_) := by show o2 = _; rw [ho2]; exact HT2.out
        subst ho2
        obtain rfl := HE.out
        obtain rfl := HAM.out
        clear hT HT2 HE HAT
        have HSS : Hid (∀ V, Kp w7 V → V.cell? ⟨w4.heap.size, 0, none⟩ = some (.slice P4 x x4) ∧ V.cell? ⟨w4.heap.size, 1, none⟩ = some (.slice Q4 y y4) ∧ V.cell? ⟨ad.block, ad.off + 1, none⟩ = some (.slice P5 x e5) ∧ V.cell? ⟨ad.block, ad.off + 1 + 1, none⟩ = some (.slice Q5 y f5)) := fun V kV => ⟨(BA_7.out.kp kV).c0, (BA_7.out.kp kV).c1, (HZ.out _ (K7.out.tr kV)).1, (HZ.out _ (K7.out.tr kV)).2⟩
        have q9 := HSS.out _ (Kp.drewN_ w7 1)
        have HS9 : Hid (Calls Try.prog 15 #[.agg #[.slice P4 x x4, .slice Q4 y y4], .agg #[.slice P5 x e5, .slice Q5 y f5]] w7.drew fun e w' => e = .returned (.bool true) ∧ Kp w7.drew w') := tsame_u (TA_7.out.r.kp (Kp.drewN_ w7 1)) (HTZ.out _ (K7.out.tr (Kp.drewN_ w7 1))) HJ.out.1 HJ.out.2
        go_wp2_with fail
        go_cut [16] (fun v16 wx => v16 = .bool true ∧ Hid (Kp w7 wx))
        case first =>
          refine wp_region_held_drew (S := fun V => V.cell? ⟨w4.heap.size, 0, none⟩ = some (.slice P4 x x4) ∧ V.cell? ⟨w4.heap.size, 1, none⟩ = some (.slice Q4 y y4) ∧ V.cell? ⟨ad.block, ad.off + 1, none⟩ = some (.slice P5 x e5) ∧ V.cell? ⟨ad.block, ad.off + 1 + 1, none⟩ = some (.slice Q5 y f5)) (by kernel_rfl) q9 (fun hHeld => ?_)
          try simp only [Act.put, List.setIfInBounds_toArray, List.set_cons_zero, List.set_cons_succ]
          refine wpAnyH_take (i := 0) (v := .int .i64 0) rfl (by kernel_rfl) (by kernel_rfl) (by kernel_rfl) (fun _ _ _ h => h) (Or.inl ⟨by kernel_rfl, fun V hSV => ?_⟩) hHeld ?_
          · (try dsimp only at hSV); go_simp
          try simp only [Act.put, List.setIfInBounds_toArray, List.set_cons_zero, List.set_cons_succ]
          refine wpAnyH_take (i := 1) (v := .bool false) rfl (by kernel_rfl) (by kernel_rfl) (by kernel_rfl) (fun _ _ _ h => h) (Or.inl ⟨by kernel_rfl, fun V hSV => ?_⟩) hHeld ?_
          · (try dsimp only at hSV); go_simp
          try simp only [Act.put, List.setIfInBounds_toArray, List.set_cons_zero, List.set_cons_succ]
          refine wpAnyH_take (i := 2) (v := .bool false) rfl (by kernel_rfl) (by kernel_rfl) (by kernel_rfl) (fun _ _ _ h => h) (Or.inl ⟨by kernel_rfl, fun V hSV => ?_⟩) hHeld ?_
          · (try dsimp only at hSV); go_simp
          try simp only [Act.put, List.setIfInBounds_toArray, List.set_cons_zero, List.set_cons_succ]
          refine wpAnyH_take (i := 3) (v := undef) rfl (by kernel_rfl) (by kernel_rfl) (by kernel_rfl) (fun _ _ _ h => h) (Or.inr ⟨by kernel_rfl, rfl⟩) hHeld ?_
          try simp only [Act.put, List.setIfInBounds_toArray, List.set_cons_zero, List.set_cons_succ]
          refine wpAnyH_take (i := 4) (v := undef) rfl (by kernel_rfl) (by kernel_rfl) (by kernel_rfl) (fun _ _ _ h => h) (Or.inr ⟨by kernel_rfl, rfl⟩) hHeld ?_
          try simp only [Act.put, List.setIfInBounds_toArray, List.set_cons_zero, List.set_cons_succ]
          refine wpAnyH_take (i := 5) (v := .bool false) rfl (by kernel_rfl) (by kernel_rfl) (by kernel_rfl) (fun _ _ _ h => h) (Or.inl ⟨by kernel_rfl, fun V hSV => ?_⟩) hHeld ?_
          · (try dsimp only at hSV); go_simp
          try simp only [Act.put, List.setIfInBounds_toArray, List.set_cons_zero, List.set_cons_succ]
          refine wpAnyH_take (i := 6) (v := .bool false) rfl (by kernel_rfl) (by kernel_rfl) (by kernel_rfl) (fun _ _ _ h => h) (Or.inl ⟨by kernel_rfl, fun V hSV => ?_⟩) hHeld ?_
          · (try dsimp only at hSV); go_simp
          try simp only [Act.put, List.setIfInBounds_toArray, List.set_cons_zero, List.set_cons_succ]
          refine wpAnyH_take (i := 7) (v := .int .i64 0) rfl (by kernel_rfl) (by kernel_rfl) (by kernel_rfl) (fun _ _ _ h => h) (Or.inl ⟨by kernel_rfl, fun V hSV => ?_⟩) hHeld ?_
          · (try dsimp only at hSV); go_simp
          try simp only [Act.put, List.setIfInBounds_toArray, List.set_cons_zero, List.set_cons_succ]
          refine wpAnyH_take (i := 8) (v := .bool true) rfl (by kernel_rfl) (by kernel_rfl) (by kernel_rfl) (fun _ _ _ h => h) (Or.inl ⟨by kernel_rfl, fun V hSV => ?_⟩) hHeld ?_
          · (try dsimp only at hSV); go_simp
          try simp only [Act.put, List.setIfInBounds_toArray, List.set_cons_zero, List.set_cons_succ]
          refine wpAnyH_take (i := 9) (v := .bool true) rfl (by kernel_rfl) (by kernel_rfl) (by kernel_rfl) (fun _ _ _ h => h) (Or.inl ⟨by kernel_rfl, fun V hSV => ?_⟩) hHeld ?_
          · (try dsimp only at hSV); go_simp
          try simp only [Act.put, List.setIfInBounds_toArray, List.set_cons_zero, List.set_cons_succ]
          refine wpAnyH_take (i := 10) (v := .bool true) rfl (by kernel_rfl) (by kernel_rfl) (by kernel_rfl) (fun _ _ _ h => h) (Or.inl ⟨by kernel_rfl, fun V hSV => ?_⟩) hHeld ?_
          · (try dsimp only at hSV); go_simp
          try simp only [Act.put, List.setIfInBounds_toArray, List.set_cons_zero, List.set_cons_succ]
          refine wpAnyH_take (i := 11) (v := .bool true) rfl (by kernel_rfl) (by kernel_rfl) (by kernel_rfl) (fun _ _ _ h => h) (Or.inl ⟨by kernel_rfl, fun V hSV => ?_⟩) hHeld ?_
          · (try dsimp only at hSV); go_simp
          try simp only [Act.put, List.setIfInBounds_toArray, List.set_cons_zero, List.set_cons_succ]
          refine wpAnyH_take (i := 12) (v := .bool true) rfl (by kernel_rfl) (by kernel_rfl) (by kernel_rfl) (fun _ _ _ h => h) (Or.inl ⟨by kernel_rfl, fun V hSV => ?_⟩) hHeld ?_
          · (try dsimp only at hSV); go_simp
          try simp only [Act.put, List.setIfInBounds_toArray, List.set_cons_zero, List.set_cons_succ]
          refine wpAnyH_take (i := 13) (v := .agg #[.slice P4 x x4, .slice Q4 y y4]) rfl (by kernel_rfl) (by kernel_rfl) (by kernel_rfl) (fun _ _ _ h => h) (Or.inl ⟨by kernel_rfl, fun V hSV => ?_⟩) hHeld ?_
          · (try dsimp only at hSV); go_simp
          try simp only [Act.put, List.setIfInBounds_toArray, List.set_cons_zero, List.set_cons_succ]
          refine wpAnyH_take (i := 14) (v := .slice (some ad) n c) rfl (by kernel_rfl) (by kernel_rfl) (by kernel_rfl) (fun _ _ _ h => h) (Or.inl ⟨by kernel_rfl, fun V hSV => ?_⟩) hHeld ?_
          · (try dsimp only at hSV); go_simp
          try simp only [Act.put, List.setIfInBounds_toArray, List.set_cons_zero, List.set_cons_succ]
          refine wpAnyH_take (i := 15) (v := .int .i64 0) rfl (by kernel_rfl) (by kernel_rfl) (by kernel_rfl) (fun _ _ _ h => h) (Or.inl ⟨by kernel_rfl, fun V hSV => ?_⟩) hHeld ?_
          · (try dsimp only at hSV); go_simp
          try simp only [Act.put, List.setIfInBounds_toArray, List.set_cons_zero, List.set_cons_succ]
          refine wpAnyH_take (i := 16) (v := .int .i64 0) rfl (by kernel_rfl) (by kernel_rfl) (by kernel_rfl) (fun _ _ _ h => h) (Or.inl ⟨by kernel_rfl, fun V hSV => ?_⟩) hHeld ?_
          · (try dsimp only at hSV); go_simp
          try simp only [Act.put, List.setIfInBounds_toArray, List.set_cons_zero, List.set_cons_succ]
          refine wpAnyH_take (i := 17) (v := .pointer (some ad)) rfl (by kernel_rfl) (by kernel_rfl) (by kernel_rfl) (fun _ _ _ h => h) (Or.inl ⟨by kernel_rfl, fun V hSV => ?_⟩) hHeld ?_
          · (try dsimp only at hSV); go_simp
          try simp only [Act.put, List.setIfInBounds_toArray, List.set_cons_zero, List.set_cons_succ]
          refine wpAnyH_take (i := 18) (v := .pointer (some ⟨ad.block, ad.off + 1, none⟩)) rfl (by kernel_rfl) (by kernel_rfl) (by kernel_rfl) (fun _ _ _ h => h) (Or.inl ⟨by kernel_rfl, fun V hSV => ?_⟩) hHeld ?_
          · (try dsimp only at hSV); go_simp
          try simp only [Act.put, List.setIfInBounds_toArray, List.set_cons_zero, List.set_cons_succ]
          refine wpAnyH_take (i := 19) (v := .agg #[.slice P5 x e5, .slice Q5 y f5]) rfl (by kernel_rfl) (by kernel_rfl) (by kernel_rfl) (fun _ _ _ h => h) (Or.inl ⟨by kernel_rfl, fun V hSV => ?_⟩) hHeld ?_
          · (try dsimp only at hSV); go_simp
          try simp only [Act.put, List.setIfInBounds_toArray, List.set_cons_zero, List.set_cons_succ]
          refine wpAnyH_ready (rs := [20]) (by kernel_rfl) (by simp) ?_
          refine AllReadyH.cons rfl (fun K9_ hK => ?_) AllReadyH.nil
          go_simp
          refine (Hid.out HS9).mono ?_; rintro e w5_ ⟨rfl, k5_⟩
          dsimp only
          have K5_ : Hid (Kp w7 w5_) := undrew17 k5_
          clear k5_
          refine hK.out _ _ ?_ (fun hHeld => ?_)
          · exact HSS.out _ K5_.out
          clear hK
          try simp only [Act.put, List.setIfInBounds_toArray, List.set_cons_zero, List.set_cons_succ]
          refine wpAnyH_take (i := 21) (v := .bool true) rfl (by kernel_rfl) (by kernel_rfl) (by kernel_rfl) (fun _ _ _ h => h) (Or.inl ⟨by kernel_rfl, fun V hSV => ?_⟩) hHeld ?_
          · (try dsimp only at hSV); go_simp
          try simp only [Act.put, List.setIfInBounds_toArray, List.set_cons_zero, List.set_cons_succ]
          refine wpAnyH_take (i := 22) (v := .bool true) rfl (by kernel_rfl) (by kernel_rfl) (by kernel_rfl) (fun _ _ _ h => h) (Or.inl ⟨by kernel_rfl, fun V hSV => ?_⟩) hHeld ?_
          · (try dsimp only at hSV); go_simp
          try simp only [Act.put, List.setIfInBounds_toArray, List.set_cons_zero, List.set_cons_succ]
          refine wpAnyH_ready (rs := [23]) (by kernel_rfl) (by simp) ?_
          refine AllReadyH.cons rfl (fun K9_ hK => ?_) AllReadyH.nil
          go_simp
          refine hK.out _ _ ?_ (fun hHeld => ?_)
          · exact HSS.out _ K5_.out
          clear hK
          try simp only [Act.put, List.setIfInBounds_toArray, List.set_cons_zero, List.set_cons_succ]
          refine wpAnyH_done (by kernel_rfl) ?_ _
          clear hHeld
          go_wp2
          go_meet
          exact ⟨rfl, K5_.out⟩
        case rest =>
          obtain ⟨rfl, hKc⟩ := hcut
          clear q9 HSS HS9
          have KQ := Lib.hid (K7.out.tr hKc.out)
          have TAQ := Lib.hid (TA_7.out.kp hKc.out)
          have TBQ := Lib.hid (TB_7.out.kp hKc.out)
          have BAQ := Lib.hid (BA_7.out.kp hKc.out)
          have BBQ := Lib.hid (BB_7.out.kp hKc.out)
          clear hKc
          go_wp2_with fail
          refine (c3.out _ KQ.out).mono ?_; rintro e w28 ⟨rfl, k28⟩
          have K28 := Lib.hid (KQ.out.tr k28)
          have TA_28 := Lib.hid (TAQ.out.kp k28)
          have TB_28 := Lib.hid (TBQ.out.kp k28)
          have BA_28 := Lib.hid (BAQ.out.kp k28)
          have BB_28 := Lib.hid (BBQ.out.kp k28)
          clear k28
          have zBA0 := BA_28.out.c0
          have zBA1 := BA_28.out.c1
          have zBB0 := BB_28.out.c0
          have zBB1 := BB_28.out.c1
          go_wp2_with fail
          refine (tsame_u TA_28.out.r TB_28.out.r HJ.out.1 HJ.out.2).mono ?_; rintro e w29 ⟨rfl, k29⟩
          have K29 := Lib.hid (K28.out.tr k29)
          have TA_29 := Lib.hid (TA_28.out.kp k29)
          have TB_29 := Lib.hid (TB_28.out.kp k29)
          have BA_29 := Lib.hid (BA_28.out.kp k29)
          have BB_29 := Lib.hid (BB_28.out.kp k29)
          clear k29 zBA0 zBA1 zBB0 zBB1
          go_wp2
          go_ret
          exact ⟨rfl, K29.out⟩
  · have hn3 : (n : Int) ≤ 1 := by omega
    have hk0 : (k : Int) ≤ 0 := by omega
    go_enter Try.func6, Try.ntmps6
    go_wp2_with fail
    refine (HA.out _).mono ?_; rintro e w1 ⟨rfl, k1⟩
    have K1 := Lib.hid (K0.out.tr k1)
    clear k1
    go_wp2_with fail
    refine (HF.out _ K1.out).mono ?_; rintro e w2 ⟨rfl, k2⟩
    have K2 := Lib.hid (K1.out.tr k2)
    clear k2
    go_wp2_with fail
    refine (HC.out _ K2.out).mono ?_; rintro e w3 ⟨rfl, k3⟩
    have K3 := Lib.hid (K2.out.tr k3)
    clear k3
    go_wp2_with fail
    refine (c1.out _ K3.out).mono ?_; rintro e w4 ⟨P4, x4, Q4, y4, rfl, T4, k4⟩
    have K4 := Lib.hid (K3.out.tr k4)
    clear k4
    obtain ⟨w5, hw5⟩ : ∃ V, V = w4.alloc (.cells #[.slice P4 x x4, .slice Q4 y y4] 25) := ⟨_, rfl⟩
    have HX5 := Lib.hid hw5
    have k5 : Kp w4 w5 := by rw [hw5]; exact Kp.alloc_ _ _
    have TA_5 := Lib.hid (T4.out.kp k5)
    have BA_5 : Hid (Bk w5 w4.heap.size P4 x x4 Q4 y y4) := by show Bk _ _ _ _ _ _ _ _; rw [hw5]; exact Bk.new rfl
    have K5 := Lib.hid (K4.out.tr k5)
    clear k5 hw5
    go_wp2_with fail
    rw [← HX5.out]
    refine (c2.out _ K5.out).mono ?_; rintro e w6 ⟨P6, x6, Q6, y6, rfl, T6, k6⟩
    have K6 := Lib.hid (K5.out.tr k6)
    have TA_6 := Lib.hid (TA_5.out.kp k6)
    have BA_6 := Lib.hid (BA_5.out.kp k6)
    clear k6
    obtain ⟨w7, hw7⟩ : ∃ V, V = w6.alloc (.cells #[.slice P6 x x6, .slice Q6 y y6] 25) := ⟨_, rfl⟩
    have HX7 := Lib.hid hw7
    have k7 : Kp w6 w7 := by rw [hw7]; exact Kp.alloc_ _ _
    have TA_7 := Lib.hid (TA_6.out.kp k7)
    have BA_7 := Lib.hid (BA_6.out.kp k7)
    have TB_7 := Lib.hid (T6.out.kp k7)
    have BB_7 : Hid (Bk w7 w6.heap.size P6 x x6 Q6 y y6) := by show Bk _ _ _ _ _ _ _ _; rw [hw7]; exact Bk.new rfl
    have K7 := Lib.hid (K6.out.tr k7)
    clear k7 hw7
    have yv := HV.out _ K7.out
    rw [HX7.out] at yv
    go_wp2_with fail
    rw [← HX7.out]
    clear yv
    go_loopw [14, 15] (fun o i wx => ∃ (k' : Nat) (out : Int), o = .int .i64 out ∧ i = .int .i64 (k' : Int) ∧ Hid (k' ≤ n) ∧ Hid (at_ = atF s (l.drop k') k' out) ∧ Hid (wx = w7)) (fun _ i _ => n - (intOf i).toNat)
    case atStart => exact ⟨0, -1, rfl, rfl, Nat.zero_le _, HAT.out, rfl⟩
    case round =>
      obtain ⟨k', out, rfl, rfl, hk', hT, hw⟩ := hrel
      obtain ⟨wz, hwz⟩ : ∃ wz, wz = wr := ⟨_, rfl⟩
      have hwr : w7 = wz := by rw [hwz]; exact hw.out.symm
      clear hw
      subst hwz
      subst hwr
      by_cases hj : k' < n
      · have hj' : (k' : Int) < (n : Int) := by omega
        obtain ⟨ad', P', e', Q', f', ea, hlt', hc0', _, _, _⟩ := (HR.out _ K7.out).atv (show k' < l.length by rw [← HN.out]; exact hj)
        injection ea with ea
        subst ea
        have hd := atF_drop (s := s) (out := out) (show k' < l.length by rw [← HN.out]; exact hj)
        obtain ⟨x', hx'⟩ : ∃ x, x = (l.getD k' nd0).1 := ⟨_, rfl⟩
        rw [← hx'] at hc0' hd
        by_cases hs' : x' ≤ s
        · have HT2 : Hid (at_ = atF s (l.drop (k' + 1)) (k' + 1) (k' : Int)) := by show at_ = _; rw [hT.out, hd, if_pos hs']
          clear hd hx'
          go_wp2
          go_roundw
          case rel => exact ⟨k' + 1, _, rfl, by go_num, (by show k' + 1 ≤ n; omega), HT2.out, trivial⟩
          case measure => simp [intOf]; omega
        · have HT2 : Hid (at_ = atF s (l.drop (k' + 1)) (k' + 1) out) := by show at_ = _; rw [hT.out, hd, if_neg hs']
          clear hd hx'
          go_wp2
          go_roundw
          case rel => exact ⟨k' + 1, _, rfl, by go_num, (by show k' + 1 ≤ n; omega), HT2.out, trivial⟩
          case measure => simp [intOf]; omega
      · have hj' : ¬ (k' : Int) < (n : Int) := by omega
        have HT2 : Hid (out = at_) := by show out = at_; rw [hT.out, List.drop_eq_nil_of_le (by rw [← HN.out]; omega)]; rfl
        obtain ⟨o2, ho2⟩ : ∃ o2, o2 = out := ⟨_, rfl⟩
        have HE : Hid (o2 = at_) := by show o2 = _; rw [ho2]; exact HT2.out
        subst ho2
        obtain rfl := HE.out
        obtain rfl := HAM.out
        clear hT HT2 HE HAT
        have HSS : Hid (∀ V, Kp w7 V → V.cell? ⟨w4.heap.size, 0, none⟩ = some (.slice P4 x x4) ∧ V.cell? ⟨w4.heap.size, 1, none⟩ = some (.slice Q4 y y4) ∧ V.cell? ⟨ad.block, ad.off + 1, none⟩ = some (.slice P5 x e5) ∧ V.cell? ⟨ad.block, ad.off + 1 + 1, none⟩ = some (.slice Q5 y f5)) := fun V kV => ⟨(BA_7.out.kp kV).c0, (BA_7.out.kp kV).c1, (HZ.out _ (K7.out.tr kV)).1, (HZ.out _ (K7.out.tr kV)).2⟩
        have q9 := HSS.out _ (Kp.drewN_ w7 1)
        have HS9 : Hid (Calls Try.prog 15 #[.agg #[.slice P4 x x4, .slice Q4 y y4], .agg #[.slice P5 x e5, .slice Q5 y f5]] w7.drew fun e w' => e = .returned (.bool true) ∧ Kp w7.drew w') := tsame_u (TA_7.out.r.kp (Kp.drewN_ w7 1)) (HTZ.out _ (K7.out.tr (Kp.drewN_ w7 1))) HJ.out.1 HJ.out.2
        go_wp2_with fail
        go_cut [16] (fun v16 wx => v16 = .bool true ∧ Hid (Kp w7 wx))
        case first =>
          refine wp_region_held_drew (S := fun V => V.cell? ⟨w4.heap.size, 0, none⟩ = some (.slice P4 x x4) ∧ V.cell? ⟨w4.heap.size, 1, none⟩ = some (.slice Q4 y y4) ∧ V.cell? ⟨ad.block, ad.off + 1, none⟩ = some (.slice P5 x e5) ∧ V.cell? ⟨ad.block, ad.off + 1 + 1, none⟩ = some (.slice Q5 y f5)) (by kernel_rfl) q9 (fun hHeld => ?_)
          try simp only [Act.put, List.setIfInBounds_toArray, List.set_cons_zero, List.set_cons_succ]
          refine wpAnyH_take (i := 0) (v := .int .i64 0) rfl (by kernel_rfl) (by kernel_rfl) (by kernel_rfl) (fun _ _ _ h => h) (Or.inl ⟨by kernel_rfl, fun V hSV => ?_⟩) hHeld ?_
          · (try dsimp only at hSV); go_simp
          try simp only [Act.put, List.setIfInBounds_toArray, List.set_cons_zero, List.set_cons_succ]
          refine wpAnyH_take (i := 1) (v := .bool false) rfl (by kernel_rfl) (by kernel_rfl) (by kernel_rfl) (fun _ _ _ h => h) (Or.inl ⟨by kernel_rfl, fun V hSV => ?_⟩) hHeld ?_
          · (try dsimp only at hSV); go_simp
          try simp only [Act.put, List.setIfInBounds_toArray, List.set_cons_zero, List.set_cons_succ]
          refine wpAnyH_take (i := 2) (v := .bool false) rfl (by kernel_rfl) (by kernel_rfl) (by kernel_rfl) (fun _ _ _ h => h) (Or.inl ⟨by kernel_rfl, fun V hSV => ?_⟩) hHeld ?_
          · (try dsimp only at hSV); go_simp
          try simp only [Act.put, List.setIfInBounds_toArray, List.set_cons_zero, List.set_cons_succ]
          refine wpAnyH_take (i := 3) (v := undef) rfl (by kernel_rfl) (by kernel_rfl) (by kernel_rfl) (fun _ _ _ h => h) (Or.inr ⟨by kernel_rfl, rfl⟩) hHeld ?_
          try simp only [Act.put, List.setIfInBounds_toArray, List.set_cons_zero, List.set_cons_succ]
          refine wpAnyH_take (i := 4) (v := undef) rfl (by kernel_rfl) (by kernel_rfl) (by kernel_rfl) (fun _ _ _ h => h) (Or.inr ⟨by kernel_rfl, rfl⟩) hHeld ?_
          try simp only [Act.put, List.setIfInBounds_toArray, List.set_cons_zero, List.set_cons_succ]
          refine wpAnyH_take (i := 5) (v := .bool false) rfl (by kernel_rfl) (by kernel_rfl) (by kernel_rfl) (fun _ _ _ h => h) (Or.inl ⟨by kernel_rfl, fun V hSV => ?_⟩) hHeld ?_
          · (try dsimp only at hSV); go_simp
          try simp only [Act.put, List.setIfInBounds_toArray, List.set_cons_zero, List.set_cons_succ]
          refine wpAnyH_take (i := 6) (v := .bool false) rfl (by kernel_rfl) (by kernel_rfl) (by kernel_rfl) (fun _ _ _ h => h) (Or.inl ⟨by kernel_rfl, fun V hSV => ?_⟩) hHeld ?_
          · (try dsimp only at hSV); go_simp
          try simp only [Act.put, List.setIfInBounds_toArray, List.set_cons_zero, List.set_cons_succ]
          refine wpAnyH_take (i := 7) (v := .int .i64 0) rfl (by kernel_rfl) (by kernel_rfl) (by kernel_rfl) (fun _ _ _ h => h) (Or.inl ⟨by kernel_rfl, fun V hSV => ?_⟩) hHeld ?_
          · (try dsimp only at hSV); go_simp
          try simp only [Act.put, List.setIfInBounds_toArray, List.set_cons_zero, List.set_cons_succ]
          refine wpAnyH_take (i := 8) (v := .bool true) rfl (by kernel_rfl) (by kernel_rfl) (by kernel_rfl) (fun _ _ _ h => h) (Or.inl ⟨by kernel_rfl, fun V hSV => ?_⟩) hHeld ?_
          · (try dsimp only at hSV); go_simp
          try simp only [Act.put, List.setIfInBounds_toArray, List.set_cons_zero, List.set_cons_succ]
          refine wpAnyH_take (i := 9) (v := .bool true) rfl (by kernel_rfl) (by kernel_rfl) (by kernel_rfl) (fun _ _ _ h => h) (Or.inl ⟨by kernel_rfl, fun V hSV => ?_⟩) hHeld ?_
          · (try dsimp only at hSV); go_simp
          try simp only [Act.put, List.setIfInBounds_toArray, List.set_cons_zero, List.set_cons_succ]
          refine wpAnyH_take (i := 10) (v := .bool true) rfl (by kernel_rfl) (by kernel_rfl) (by kernel_rfl) (fun _ _ _ h => h) (Or.inl ⟨by kernel_rfl, fun V hSV => ?_⟩) hHeld ?_
          · (try dsimp only at hSV); go_simp
          try simp only [Act.put, List.setIfInBounds_toArray, List.set_cons_zero, List.set_cons_succ]
          refine wpAnyH_take (i := 11) (v := .bool true) rfl (by kernel_rfl) (by kernel_rfl) (by kernel_rfl) (fun _ _ _ h => h) (Or.inl ⟨by kernel_rfl, fun V hSV => ?_⟩) hHeld ?_
          · (try dsimp only at hSV); go_simp
          try simp only [Act.put, List.setIfInBounds_toArray, List.set_cons_zero, List.set_cons_succ]
          refine wpAnyH_take (i := 12) (v := .bool true) rfl (by kernel_rfl) (by kernel_rfl) (by kernel_rfl) (fun _ _ _ h => h) (Or.inl ⟨by kernel_rfl, fun V hSV => ?_⟩) hHeld ?_
          · (try dsimp only at hSV); go_simp
          try simp only [Act.put, List.setIfInBounds_toArray, List.set_cons_zero, List.set_cons_succ]
          refine wpAnyH_take (i := 13) (v := .agg #[.slice P4 x x4, .slice Q4 y y4]) rfl (by kernel_rfl) (by kernel_rfl) (by kernel_rfl) (fun _ _ _ h => h) (Or.inl ⟨by kernel_rfl, fun V hSV => ?_⟩) hHeld ?_
          · (try dsimp only at hSV); go_simp
          try simp only [Act.put, List.setIfInBounds_toArray, List.set_cons_zero, List.set_cons_succ]
          refine wpAnyH_take (i := 14) (v := .slice (some ad) n c) rfl (by kernel_rfl) (by kernel_rfl) (by kernel_rfl) (fun _ _ _ h => h) (Or.inl ⟨by kernel_rfl, fun V hSV => ?_⟩) hHeld ?_
          · (try dsimp only at hSV); go_simp
          try simp only [Act.put, List.setIfInBounds_toArray, List.set_cons_zero, List.set_cons_succ]
          refine wpAnyH_take (i := 15) (v := .int .i64 0) rfl (by kernel_rfl) (by kernel_rfl) (by kernel_rfl) (fun _ _ _ h => h) (Or.inl ⟨by kernel_rfl, fun V hSV => ?_⟩) hHeld ?_
          · (try dsimp only at hSV); go_simp
          try simp only [Act.put, List.setIfInBounds_toArray, List.set_cons_zero, List.set_cons_succ]
          refine wpAnyH_take (i := 16) (v := .int .i64 0) rfl (by kernel_rfl) (by kernel_rfl) (by kernel_rfl) (fun _ _ _ h => h) (Or.inl ⟨by kernel_rfl, fun V hSV => ?_⟩) hHeld ?_
          · (try dsimp only at hSV); go_simp
          try simp only [Act.put, List.setIfInBounds_toArray, List.set_cons_zero, List.set_cons_succ]
          refine wpAnyH_take (i := 17) (v := .pointer (some ad)) rfl (by kernel_rfl) (by kernel_rfl) (by kernel_rfl) (fun _ _ _ h => h) (Or.inl ⟨by kernel_rfl, fun V hSV => ?_⟩) hHeld ?_
          · (try dsimp only at hSV); go_simp
          try simp only [Act.put, List.setIfInBounds_toArray, List.set_cons_zero, List.set_cons_succ]
          refine wpAnyH_take (i := 18) (v := .pointer (some ⟨ad.block, ad.off + 1, none⟩)) rfl (by kernel_rfl) (by kernel_rfl) (by kernel_rfl) (fun _ _ _ h => h) (Or.inl ⟨by kernel_rfl, fun V hSV => ?_⟩) hHeld ?_
          · (try dsimp only at hSV); go_simp
          try simp only [Act.put, List.setIfInBounds_toArray, List.set_cons_zero, List.set_cons_succ]
          refine wpAnyH_take (i := 19) (v := .agg #[.slice P5 x e5, .slice Q5 y f5]) rfl (by kernel_rfl) (by kernel_rfl) (by kernel_rfl) (fun _ _ _ h => h) (Or.inl ⟨by kernel_rfl, fun V hSV => ?_⟩) hHeld ?_
          · (try dsimp only at hSV); go_simp
          try simp only [Act.put, List.setIfInBounds_toArray, List.set_cons_zero, List.set_cons_succ]
          refine wpAnyH_ready (rs := [20]) (by kernel_rfl) (by simp) ?_
          refine AllReadyH.cons rfl (fun K9_ hK => ?_) AllReadyH.nil
          go_simp
          refine (Hid.out HS9).mono ?_; rintro e w5_ ⟨rfl, k5_⟩
          dsimp only
          have K5_ : Hid (Kp w7 w5_) := undrew17 k5_
          clear k5_
          refine hK.out _ _ ?_ (fun hHeld => ?_)
          · exact HSS.out _ K5_.out
          clear hK
          try simp only [Act.put, List.setIfInBounds_toArray, List.set_cons_zero, List.set_cons_succ]
          refine wpAnyH_take (i := 21) (v := .bool true) rfl (by kernel_rfl) (by kernel_rfl) (by kernel_rfl) (fun _ _ _ h => h) (Or.inl ⟨by kernel_rfl, fun V hSV => ?_⟩) hHeld ?_
          · (try dsimp only at hSV); go_simp
          try simp only [Act.put, List.setIfInBounds_toArray, List.set_cons_zero, List.set_cons_succ]
          refine wpAnyH_take (i := 22) (v := .bool true) rfl (by kernel_rfl) (by kernel_rfl) (by kernel_rfl) (fun _ _ _ h => h) (Or.inl ⟨by kernel_rfl, fun V hSV => ?_⟩) hHeld ?_
          · (try dsimp only at hSV); go_simp
          try simp only [Act.put, List.setIfInBounds_toArray, List.set_cons_zero, List.set_cons_succ]
          refine wpAnyH_ready (rs := [23]) (by kernel_rfl) (by simp) ?_
          refine AllReadyH.cons rfl (fun K9_ hK => ?_) AllReadyH.nil
          go_simp
          refine hK.out _ _ ?_ (fun hHeld => ?_)
          · exact HSS.out _ K5_.out
          clear hK
          try simp only [Act.put, List.setIfInBounds_toArray, List.set_cons_zero, List.set_cons_succ]
          refine wpAnyH_done (by kernel_rfl) ?_ _
          clear hHeld
          go_wp2
          go_meet
          exact ⟨rfl, K5_.out⟩
        case rest =>
          obtain ⟨rfl, hKc⟩ := hcut
          clear q9 HSS HS9
          have KQ := Lib.hid (K7.out.tr hKc.out)
          have TAQ := Lib.hid (TA_7.out.kp hKc.out)
          have TBQ := Lib.hid (TB_7.out.kp hKc.out)
          have BAQ := Lib.hid (BA_7.out.kp hKc.out)
          have BBQ := Lib.hid (BB_7.out.kp hKc.out)
          clear hKc
          go_wp2_with fail
          refine (c3.out _ KQ.out).mono ?_; rintro e w28 ⟨rfl, k28⟩
          have K28 := Lib.hid (KQ.out.tr k28)
          have TA_28 := Lib.hid (TAQ.out.kp k28)
          have TB_28 := Lib.hid (TBQ.out.kp k28)
          have BA_28 := Lib.hid (BAQ.out.kp k28)
          have BB_28 := Lib.hid (BBQ.out.kp k28)
          clear k28
          have zBA0 := BA_28.out.c0
          have zBA1 := BA_28.out.c1
          have zBB0 := BB_28.out.c0
          have zBB1 := BB_28.out.c1
          go_wp2_with fail
          refine (tsame_u TA_28.out.r TB_28.out.r HJ.out.1 HJ.out.2).mono ?_; rintro e w29 ⟨rfl, k29⟩
          have K29 := Lib.hid (K28.out.tr k29)
          have TA_29 := Lib.hid (TA_28.out.kp k29)
          have TB_29 := Lib.hid (TB_28.out.kp k29)
          have BA_29 := Lib.hid (BA_28.out.kp k29)
          have BB_29 := Lib.hid (BB_28.out.kp k29)
          clear k29 zBA0 zBA1 zBB0 zBB1
          go_wp2
          go_ret
          exact ⟨rfl, K29.out⟩
theorem ccuts_in_some (C : ChC) (A : Option Addr) (n c : Nat) (l : List Nd) (u8 s : Int) (w : World) (h : RdG w A l) (hn : n = l.length) (hc : l.length ≤ c ∧ c ≤ 9223372036854775807) (g0 : 0 ≤ u8) (g1 : u8 ≤ 255) (k : Nat) (hk : u8 % ((n : Int) + 1) = (k : Int)) (hkn : k ≤ n) (hs : In64 s) (sm : SmV l) (hl30 : l.length ≤ 30) (hf : fewC l = true) (hck : chkV l = true) (ck : k < n) (cs : s < (l.getD k nd0).1) (q : Nat) (hq : q < l.length) (hq0 : 0 < q) (ca : atC l s = (q : Int)) :
    Calls Try.prog 6 #[.slice A n c, .int .u8 u8, .int .i64 s] w fun e w' => e = .returned (.bool true) ∧ Kp w w' := by
  obtain ⟨ad, P9, e9, Q9, f9, hA9, hlt9, y0, _, _, _⟩ := h.atv (show k < l.length by omega)
  obtain ⟨v, hv⟩ : ∃ v, v = (l.getD k nd0).1 := ⟨_, rfl⟩
  rw [← hv] at y0 cs
  have HV : Hid (∀ V, Kp w V → V.cell? (ad.add (k * 3)) = some (.int .i64 v)) := fun V kV => (kV.cell (by rw [block_of_add]; exact hlt9)).trans y0
  have hkn1 : ((k : Int) == (n : Int)) = false := by rw [beq_eq_false_iff_ne]; omega
  have hmx : (0 : Int) ≤ (n : Int) - 1 := by omega
  have hmi : (k : Int) ≤ (n : Int) - 1 := by omega
  have hki : (k : Int) < (n : Int) := by omega
  have hsv : decide (s < v) = true := decide_eq_true cs
  have K0 : Hid (Kp w w) := Kp.refl w
  have HA : Hid (∀ W, Calls Try.prog 8 #[] W fun e w' => e = .returned (.bool true) ∧ Kp W w') := fun W => chawake_any C W
  have HF : Hid (∀ W, Kp w W → Calls Try.prog 9 #[.slice A n c] W fun e w' => e = .returned (.bool true) ∧ Kp W w') := fun W kW => rfew17_any A n c l W (h.kp kW) hn hf
  have HC : Hid (∀ W, Kp w W → Calls Try.prog 17 #[.slice A n c] W fun e w' => e = .returned (.bool true) ∧ Kp W w') := fun W kW => C.check A c n l true W (h.kp kW) hc sm hn hck
  obtain ⟨m, hm⟩ : ∃ m, l.take k = m := ⟨_, rfl⟩
  have hmk : m.length = k := by rw [← hm, List.length_take]; omega
  have hmc : m.length ≤ c ∧ c ≤ 9223372036854775807 := by omega
  have RM : RdG w A m := by rw [← hm]; exact h.take_ k
  have smm : SmV m := by rw [← hm]; exact sm_take sm k
  have hckm : chkV m = true := by rw [← hm]; exact chk_take' hck k
  obtain ⟨rt, rb, hr⟩ : ∃ rt rb, readC l s = (rt, rb) := ⟨_, _, rfl⟩
  obtain ⟨qt, qb, hq_⟩ : ∃ qt qb, readC m s = (qt, qb) := ⟨_, _, rfl⟩
  obtain ⟨x, hx⟩ : ∃ x, rt.1.length = x := ⟨_, rfl⟩
  obtain ⟨y, hy⟩ : ∃ y, rt.2.length = y := ⟨_, rfl⟩
  obtain ⟨x2, hx2⟩ : ∃ x, qt.1.length = x := ⟨_, rfl⟩
  obtain ⟨y2, hy2⟩ : ∃ y, qt.2.length = y := ⟨_, rfl⟩
  have c1 : Hid (∀ W, Kp w W → Calls Try.prog 11 #[.slice A n c, .int .i64 s] W (RetTB rt rb x y W)) := fun W kW => C.read A c n l s rt rb x y W (h.kp kW) hc sm hn hs hr hx hy
  have c2 : Hid (∀ W, Kp w W → Calls Try.prog 11 #[.slice A k c, .int .i64 s] W (RetTB qt qb x2 y2 W)) := fun W kW => C.read A c k m s qt qb x2 y2 W (RM.kp kW) hmc smm hmk.symm hs hq_ hx2 hy2
  have c3 : Hid (∀ W, Kp w W → Calls Try.prog 17 #[.slice A k c] W fun e w' => e = .returned (.bool true) ∧ Kp W w') := fun W kW => C.check A c k m true W (RM.kp kW) hmc smm hmk.symm hckm
  have HR : Hid (∀ W, Kp w W → RdG W A l) := fun W kW => h.kp kW
  have hn' : n ≤ 9223372036854775807 := by omega
  have hkc : k ≤ c := by omega
  have hkc2 : (k : Int) ≤ (c : Int) := by omega
  have hc' : c ≤ 9223372036854775807 := hc.2
  have hn30 : n ≤ 30 := by omega
  have hn1 : ((n : Int) + 1 == 0) = false := by simp; omega
  have hcr : readC m s = readC l s := by rw [← hm]; exact cut_read hck (by omega) (.inr (by rw [← hv]; exact cs))
  rw [hr, hq_] at hcr
  injection hcr with er1 er2
  subst er1 er2
  obtain rfl : x = x2 := hx.symm.trans hx2
  obtain rfl : y = y2 := hy.symm.trans hy2
  have hrb : readC l s = ((l.getD q nd0).2, true) := by unfold readC; rw [ca, if_pos ⟨hck, by omega⟩, Int.toNat_natCast]
  rw [hr] at hrb
  injection hrb with hrt hrb
  subst hrb
  obtain ⟨ad2, P5, e5, Q5, f5, ea2, hlt5, _, z1, z2, TZ⟩ := h.atv hq
  rw [hA9] at ea2
  injection ea2 with ea2
  subst ea2
  rw [← hrt] at z1 z2 TZ
  rw [hx] at z1
  rw [hy] at z2
  have HZ : Hid (∀ V, Kp w V → V.cell? ⟨(ad.add (q * 3)).block, (ad.add (q * 3)).off + 1, none⟩ = some (.slice P5 x e5) ∧ V.cell? ⟨(ad.add (q * 3)).block, (ad.add (q * 3)).off + 1 + 1, none⟩ = some (.slice Q5 y f5)) := fun V kV => ⟨(kV.cell (by rw [block_of_add]; exact hlt5)).trans z1, (kV.cell (by rw [block_of_add]; exact hlt5)).trans z2⟩
  have HTZ : Hid (∀ V, Kp w V → TR V P5 qt.1 Q5 qt.2) := fun V kV => TZ.r.kp kV
  have HAM : Hid (atC l s = (q : Int)) := ca
  have q0 : decide ((q : Int) < 0) = false := decide_eq_false (by omega)
  have q1 : (0 : Int) ≤ (q : Int) := by omega
  have q2 : (q : Int) < (n : Int) := by omega
  have q3 : ¬ (q : Int) ≤ 0 := by omega
  have q4 : (0 : Int) < (q : Int) := by omega
  have HJ := Lib.hid (And.intro hx hy)
  obtain ⟨at_, hat⟩ : ∃ a, a = atC l s := ⟨_, rfl⟩
  have HAT : Hid (at_ = atF s (l.drop 0) 0 (-1)) := hat
  rw [← hat] at HAM
  have HN := Lib.hid hn
  clear C h hn hc hs sm hl30 hf hck hm hmk hmc RM smm hckm hr hq_ hx hy hat ca hx2 hy2 hv cs y0 hlt9 hrt z1 z2 TZ hlt5 hq
  subst hA9
  by_cases hn2 : (1 : Int) < (n : Int)
  · have hn3 : ¬ (n : Int) ≤ 1 := by omega
    go_enter Try.func6, Try.ntmps6
    go_wp2_with fail
    refine (HA.out _).mono ?_; rintro e w1 ⟨rfl, k1⟩
    have K1 := Lib.hid (K0.out.tr k1)
    clear k1
    go_wp2_with fail
    refine (HF.out _ K1.out).mono ?_; rintro e w2 ⟨rfl, k2⟩
    have K2 := Lib.hid (K1.out.tr k2)
    clear k2
    go_wp2_with fail
    refine (HC.out _ K2.out).mono ?_; rintro e w3 ⟨rfl, k3⟩
    have K3 := Lib.hid (K2.out.tr k3)
    clear k3
    go_wp2_with fail
    refine (c1.out _ K3.out).mono ?_; rintro e w4 ⟨P4, x4, Q4, y4, rfl, T4, k4⟩
    have K4 := Lib.hid (K3.out.tr k4)
    clear k4
    obtain ⟨w5, hw5⟩ : ∃ V, V = w4.alloc (.cells #[.slice P4 x x4, .slice Q4 y y4] 25) := ⟨_, rfl⟩
    have HX5 := Lib.hid hw5
    have k5 : Kp w4 w5 := by rw [hw5]; exact Kp.alloc_ _ _
    have TA_5 := Lib.hid (T4.out.kp k5)
    have BA_5 : Hid (Bk w5 w4.heap.size P4 x x4 Q4 y y4) := by show Bk _ _ _ _ _ _ _ _; rw [hw5]; exact Bk.new rfl
    have K5 := Lib.hid (K4.out.tr k5)
    clear k5 hw5
    go_wp2_with fail
    rw [← HX5.out]
    refine (c2.out _ K5.out).mono ?_; rintro e w6 ⟨P6, x6, Q6, y6, rfl, T6, k6⟩
    have K6 := Lib.hid (K5.out.tr k6)
    have TA_6 := Lib.hid (TA_5.out.kp k6)
    have BA_6 := Lib.hid (BA_5.out.kp k6)
    clear k6
    obtain ⟨w7, hw7⟩ : ∃ V, V = w6.alloc (.cells #[.slice P6 x x6, .slice Q6 y y6] 25) := ⟨_, rfl⟩
    have HX7 := Lib.hid hw7
    have k7 : Kp w6 w7 := by rw [hw7]; exact Kp.alloc_ _ _
    have TA_7 := Lib.hid (TA_6.out.kp k7)
    have BA_7 := Lib.hid (BA_6.out.kp k7)
    have TB_7 := Lib.hid (T6.out.kp k7)
    have BB_7 : Hid (Bk w7 w6.heap.size P6 x x6 Q6 y y6) := by show Bk _ _ _ _ _ _ _ _; rw [hw7]; exact Bk.new rfl
    have K7 := Lib.hid (K6.out.tr k7)
    clear k7 hw7
    have yv := HV.out _ K7.out
    rw [HX7.out] at yv
    go_wp2_with fail
    rw [← HX7.out]
    clear yv
    go_loopw [14, 15] (fun o i wx => ∃ (k' : Nat) (out : Int), o = .int .i64 out ∧ i = .int .i64 (k' : Int) ∧ Hid (k' ≤ n) ∧ Hid (at_ = atF s (l.drop k') k' out) ∧ Hid (wx = w7)) (fun _ i _ => n - (intOf i).toNat)
    case atStart => exact ⟨0, -1, rfl, rfl, Nat.zero_le _, HAT.out, rfl⟩
    case round =>
      obtain ⟨k', out, rfl, rfl, hk', hT, hw⟩ := hrel
      obtain ⟨wz, hwz⟩ : ∃ wz, wz = wr := ⟨_, rfl⟩
      have hwr : w7 = wz := by rw [hwz]; exact hw.out.symm
      clear hw
      subst hwz
      subst hwr
      by_cases hj : k' < n
      · have hj' : (k' : Int) < (n : Int) := by omega
        obtain ⟨ad', P', e', Q', f', ea, hlt', hc0', _, _, _⟩ := (HR.out _ K7.out).atv (show k' < l.length by rw [← HN.out]; exact hj)
        injection ea with ea
        subst ea
        have hd := atF_drop (s := s) (out := out) (show k' < l.length by rw [← HN.out]; exact hj)
        obtain ⟨x', hx'⟩ : ∃ x, x = (l.getD k' nd0).1 := ⟨_, rfl⟩
        rw [← hx'] at hc0' hd
        by_cases hs' : x' ≤ s
        · have HT2 : Hid (at_ = atF s (l.drop (k' + 1)) (k' + 1) (k' : Int)) := by show at_ = _; rw [hT.out, hd, if_pos hs']
          clear hd hx'
          go_wp2
          go_roundw
          case rel => exact ⟨k' + 1, _, rfl, by go_num, (by show k' + 1 ≤ n; omega), HT2.out, trivial⟩
          case measure => simp [intOf]; omega
        · have HT2 : Hid (at_ = atF s (l.drop (k' + 1)) (k' + 1) out) := by show at_ = _; rw [hT.out, hd, if_neg hs']
          clear hd hx'
          go_wp2
          go_roundw
          case rel => exact ⟨k' + 1, _, rfl, by go_num, (by show k' + 1 ≤ n; omega), HT2.out, trivial⟩
          case measure => simp [intOf]; omega
      · have hj' : ¬ (k' : Int) < (n : Int) := by omega
        have HT2 : Hid (out = at_) := by show out = at_; rw [hT.out, List.drop_eq_nil_of_le (by rw [← HN.out]; omega)]; rfl
        obtain ⟨o2, ho2⟩ : ∃ o2, o2 = out := ⟨_, rfl⟩
        have HE : Hid (o2 = at_) := by show o2 = _; rw [ho2]; exact HT2.out
        subst ho2
        obtain rfl := HE.out
        obtain rfl := HAM.out
        clear hT HT2 HE HAT
        have HSS : Hid (∀ V, Kp w7 V → V.cell? ⟨w4.heap.size, 0, none⟩ = some (.slice P4 x x4) ∧ V.cell? ⟨w4.heap.size, 1, none⟩ = some (.slice Q4 y y4) ∧ V.cell? ⟨(ad.add (q * 3)).block, (ad.add (q * 3)).off + 1, none⟩ = some (.slice P5 x e5) ∧ V.cell? ⟨(ad.add (q * 3)).block, (ad.add (q * 3)).off + 1 + 1, none⟩ = some (.slice Q5 y f5)) := fun V kV => ⟨(BA_7.out.kp kV).c0, (BA_7.out.kp kV).c1, (HZ.out _ (K7.out.tr kV)).1, (HZ.out _ (K7.out.tr kV)).2⟩
        have q9 := HSS.out _ (Kp.drewN_ w7 1)
        have HS9 : Hid (Calls Try.prog 15 #[.agg #[.slice P4 x x4, .slice Q4 y y4], .agg #[.slice P5 x e5, .slice Q5 y f5]] w7.drew fun e w' => e = .returned (.bool true) ∧ Kp w7.drew w') := tsame_u (TA_7.out.r.kp (Kp.drewN_ w7 1)) (HTZ.out _ (K7.out.tr (Kp.drewN_ w7 1))) HJ.out.1 HJ.out.2
        go_wp2_with fail
        go_cut [16] (fun v16 wx => v16 = .bool true ∧ Hid (Kp w7 wx))
        case first =>
          refine wp_region_held_drew (S := fun V => V.cell? ⟨w4.heap.size, 0, none⟩ = some (.slice P4 x x4) ∧ V.cell? ⟨w4.heap.size, 1, none⟩ = some (.slice Q4 y y4) ∧ V.cell? ⟨(ad.add (q * 3)).block, (ad.add (q * 3)).off + 1, none⟩ = some (.slice P5 x e5) ∧ V.cell? ⟨(ad.add (q * 3)).block, (ad.add (q * 3)).off + 1 + 1, none⟩ = some (.slice Q5 y f5)) (by kernel_rfl) q9 (fun hHeld => ?_)
          try simp only [Act.put, List.setIfInBounds_toArray, List.set_cons_zero, List.set_cons_succ]
          refine wpAnyH_take (i := 0) (v := .int .i64 (q : Int)) rfl (by kernel_rfl) (by kernel_rfl) (by kernel_rfl) (fun _ _ _ h => h) (Or.inl ⟨by kernel_rfl, fun V hSV => ?_⟩) hHeld ?_
          · (try dsimp only at hSV); go_simp
          try simp only [Act.put, List.setIfInBounds_toArray, List.set_cons_zero, List.set_cons_succ]
          refine wpAnyH_take (i := 1) (v := .bool false) rfl (by kernel_rfl) (by kernel_rfl) (by kernel_rfl) (fun _ _ _ h => h) (Or.inl ⟨by kernel_rfl, fun V hSV => ?_⟩) hHeld ?_
          · (try dsimp only at hSV); go_simp
          try simp only [Act.put, List.setIfInBounds_toArray, List.set_cons_zero, List.set_cons_succ]
          refine wpAnyH_take (i := 2) (v := .bool false) rfl (by kernel_rfl) (by kernel_rfl) (by kernel_rfl) (fun _ _ _ h => h) (Or.inl ⟨by kernel_rfl, fun V hSV => ?_⟩) hHeld ?_
          · (try dsimp only at hSV); go_simp
          try simp only [Act.put, List.setIfInBounds_toArray, List.set_cons_zero, List.set_cons_succ]
          refine wpAnyH_take (i := 3) (v := undef) rfl (by kernel_rfl) (by kernel_rfl) (by kernel_rfl) (fun _ _ _ h => h) (Or.inr ⟨by kernel_rfl, rfl⟩) hHeld ?_
          try simp only [Act.put, List.setIfInBounds_toArray, List.set_cons_zero, List.set_cons_succ]
          refine wpAnyH_take (i := 4) (v := undef) rfl (by kernel_rfl) (by kernel_rfl) (by kernel_rfl) (fun _ _ _ h => h) (Or.inr ⟨by kernel_rfl, rfl⟩) hHeld ?_
          try simp only [Act.put, List.setIfInBounds_toArray, List.set_cons_zero, List.set_cons_succ]
          refine wpAnyH_take (i := 5) (v := .bool false) rfl (by kernel_rfl) (by kernel_rfl) (by kernel_rfl) (fun _ _ _ h => h) (Or.inl ⟨by kernel_rfl, fun V hSV => ?_⟩) hHeld ?_
          · (try dsimp only at hSV); go_simp
          try simp only [Act.put, List.setIfInBounds_toArray, List.set_cons_zero, List.set_cons_succ]
          refine wpAnyH_take (i := 6) (v := .bool false) rfl (by kernel_rfl) (by kernel_rfl) (by kernel_rfl) (fun _ _ _ h => h) (Or.inl ⟨by kernel_rfl, fun V hSV => ?_⟩) hHeld ?_
          · (try dsimp only at hSV); go_simp
          try simp only [Act.put, List.setIfInBounds_toArray, List.set_cons_zero, List.set_cons_succ]
          refine wpAnyH_take (i := 7) (v := .int .i64 (q : Int)) rfl (by kernel_rfl) (by kernel_rfl) (by kernel_rfl) (fun _ _ _ h => h) (Or.inl ⟨by kernel_rfl, fun V hSV => ?_⟩) hHeld ?_
          · (try dsimp only at hSV); go_simp
          try simp only [Act.put, List.setIfInBounds_toArray, List.set_cons_zero, List.set_cons_succ]
          refine wpAnyH_take (i := 8) (v := .bool true) rfl (by kernel_rfl) (by kernel_rfl) (by kernel_rfl) (fun _ _ _ h => h) (Or.inl ⟨by kernel_rfl, fun V hSV => ?_⟩) hHeld ?_
          · (try dsimp only at hSV); go_simp
          try simp only [Act.put, List.setIfInBounds_toArray, List.set_cons_zero, List.set_cons_succ]
          refine wpAnyH_take (i := 9) (v := .bool true) rfl (by kernel_rfl) (by kernel_rfl) (by kernel_rfl) (fun _ _ _ h => h) (Or.inl ⟨by kernel_rfl, fun V hSV => ?_⟩) hHeld ?_
          · (try dsimp only at hSV); go_simp
          try simp only [Act.put, List.setIfInBounds_toArray, List.set_cons_zero, List.set_cons_succ]
          refine wpAnyH_take (i := 10) (v := .bool true) rfl (by kernel_rfl) (by kernel_rfl) (by kernel_rfl) (fun _ _ _ h => h) (Or.inl ⟨by kernel_rfl, fun V hSV => ?_⟩) hHeld ?_
          · (try dsimp only at hSV); go_simp
          try simp only [Act.put, List.setIfInBounds_toArray, List.set_cons_zero, List.set_cons_succ]
          refine wpAnyH_take (i := 11) (v := .bool true) rfl (by kernel_rfl) (by kernel_rfl) (by kernel_rfl) (fun _ _ _ h => h) (Or.inl ⟨by kernel_rfl, fun V hSV => ?_⟩) hHeld ?_
          · (try dsimp only at hSV); go_simp
          try simp only [Act.put, List.setIfInBounds_toArray, List.set_cons_zero, List.set_cons_succ]
          refine wpAnyH_take (i := 12) (v := .bool true) rfl (by kernel_rfl) (by kernel_rfl) (by kernel_rfl) (fun _ _ _ h => h) (Or.inl ⟨by kernel_rfl, fun V hSV => ?_⟩) hHeld ?_
          · (try dsimp only at hSV); go_simp
          try simp only [Act.put, List.setIfInBounds_toArray, List.set_cons_zero, List.set_cons_succ]
          refine wpAnyH_take (i := 13) (v := .agg #[.slice P4 x x4, .slice Q4 y y4]) rfl (by kernel_rfl) (by kernel_rfl) (by kernel_rfl) (fun _ _ _ h => h) (Or.inl ⟨by kernel_rfl, fun V hSV => ?_⟩) hHeld ?_
          · (try dsimp only at hSV); go_simp
          try simp only [Act.put, List.setIfInBounds_toArray, List.set_cons_zero, List.set_cons_succ]
          refine wpAnyH_take (i := 14) (v := .slice (some ad) n c) rfl (by kernel_rfl) (by kernel_rfl) (by kernel_rfl) (fun _ _ _ h => h) (Or.inl ⟨by kernel_rfl, fun V hSV => ?_⟩) hHeld ?_
          · (try dsimp only at hSV); go_simp
          try simp only [Act.put, List.setIfInBounds_toArray, List.set_cons_zero, List.set_cons_succ]
          refine wpAnyH_take (i := 15) (v := .int .i64 (q : Int)) rfl (by kernel_rfl) (by kernel_rfl) (by kernel_rfl) (fun _ _ _ h => h) (Or.inl ⟨by kernel_rfl, fun V hSV => ?_⟩) hHeld ?_
          · (try dsimp only at hSV); go_simp
          try simp only [Act.put, List.setIfInBounds_toArray, List.set_cons_zero, List.set_cons_succ]
          refine wpAnyH_take (i := 16) (v := .int .i64 (q : Int)) rfl (by kernel_rfl) (by kernel_rfl) (by kernel_rfl) (fun _ _ _ h => h) (Or.inl ⟨by kernel_rfl, fun V hSV => ?_⟩) hHeld ?_
          · (try dsimp only at hSV); go_simp
          try simp only [Act.put, List.setIfInBounds_toArray, List.set_cons_zero, List.set_cons_succ]
          refine wpAnyH_take (i := 17) (v := .pointer (some (ad.add (q * 3)))) rfl (by kernel_rfl) (by kernel_rfl) (by kernel_rfl) (fun _ _ _ h => h) (Or.inl ⟨by kernel_rfl, fun V hSV => ?_⟩) hHeld ?_
          · (try dsimp only at hSV); go_simp
          try simp only [Act.put, List.setIfInBounds_toArray, List.set_cons_zero, List.set_cons_succ]
          refine wpAnyH_take (i := 18) (v := .pointer (some ⟨(ad.add (q * 3)).block, (ad.add (q * 3)).off + 1, none⟩)) rfl (by kernel_rfl) (by kernel_rfl) (by kernel_rfl) (fun _ _ _ h => h) (Or.inl ⟨by kernel_rfl, fun V hSV => ?_⟩) hHeld ?_
          · (try dsimp only at hSV); go_simp
          try simp only [Act.put, List.setIfInBounds_toArray, List.set_cons_zero, List.set_cons_succ]
          refine wpAnyH_take (i := 19) (v := .agg #[.slice P5 x e5, .slice Q5 y f5]) rfl (by kernel_rfl) (by kernel_rfl) (by kernel_rfl) (fun _ _ _ h => h) (Or.inl ⟨by kernel_rfl, fun V hSV => ?_⟩) hHeld ?_
          · (try dsimp only at hSV); go_simp
          try simp only [Act.put, List.setIfInBounds_toArray, List.set_cons_zero, List.set_cons_succ]
          refine wpAnyH_ready (rs := [20]) (by kernel_rfl) (by simp) ?_
          refine AllReadyH.cons rfl (fun K9_ hK => ?_) AllReadyH.nil
          go_simp
          refine (Hid.out HS9).mono ?_; rintro e w5_ ⟨rfl, k5_⟩
          dsimp only
          have K5_ : Hid (Kp w7 w5_) := undrew17 k5_
          clear k5_
          refine hK.out _ _ ?_ (fun hHeld => ?_)
          · exact HSS.out _ K5_.out
          clear hK
          try simp only [Act.put, List.setIfInBounds_toArray, List.set_cons_zero, List.set_cons_succ]
          refine wpAnyH_take (i := 21) (v := .bool true) rfl (by kernel_rfl) (by kernel_rfl) (by kernel_rfl) (fun _ _ _ h => h) (Or.inl ⟨by kernel_rfl, fun V hSV => ?_⟩) hHeld ?_
          · (try dsimp only at hSV); go_simp
          try simp only [Act.put, List.setIfInBounds_toArray, List.set_cons_zero, List.set_cons_succ]
          refine wpAnyH_take (i := 22) (v := .bool true) rfl (by kernel_rfl) (by kernel_rfl) (by kernel_rfl) (fun _ _ _ h => h) (Or.inl ⟨by kernel_rfl, fun V hSV => ?_⟩) hHeld ?_
          · (try dsimp only at hSV); go_simp
          try simp only [Act.put, List.setIfInBounds_toArray, List.set_cons_zero, List.set_cons_succ]
          refine wpAnyH_ready (rs := [23]) (by kernel_rfl) (by simp) ?_
          refine AllReadyH.cons rfl (fun K9_ hK => ?_) AllReadyH.nil
          go_simp
          refine hK.out _ _ ?_ (fun hHeld => ?_)
          · exact HSS.out _ K5_.out
          clear hK
          try simp only [Act.put, List.setIfInBounds_toArray, List.set_cons_zero, List.set_cons_succ]
          refine wpAnyH_done (by kernel_rfl) ?_ _
          clear hHeld
          go_wp2
          go_meet
          exact ⟨rfl, K5_.out⟩
        case rest =>
          obtain ⟨rfl, hKc⟩ := hcut
          clear q9 HSS HS9
          have KQ := Lib.hid (K7.out.tr hKc.out)
          have TAQ := Lib.hid (TA_7.out.kp hKc.out)
          have TBQ := Lib.hid (TB_7.out.kp hKc.out)
          have BAQ := Lib.hid (BA_7.out.kp hKc.out)
          have BBQ := Lib.hid (BB_7.out.kp hKc.out)
          clear hKc
          go_wp2_with fail
          refine (c3.out _ KQ.out).mono ?_; rintro e w28 ⟨rfl, k28⟩
          have K28 := Lib.hid (KQ.out.tr k28)
          have TA_28 := Lib.hid (TAQ.out.kp k28)
          have TB_28 := Lib.hid (TBQ.out.kp k28)
          have BA_28 := Lib.hid (BAQ.out.kp k28)
          have BB_28 := Lib.hid (BBQ.out.kp k28)
          clear k28
          have zBA0 := BA_28.out.c0
          have zBA1 := BA_28.out.c1
          have zBB0 := BB_28.out.c0
          have zBB1 := BB_28.out.c1
          go_wp2_with fail
          refine (tsame_u TA_28.out.r TB_28.out.r HJ.out.1 HJ.out.2).mono ?_; rintro e w29 ⟨rfl, k29⟩
          have K29 := Lib.hid (K28.out.tr k29)
          have TA_29 := Lib.hid (TA_28.out.kp k29)
          have TB_29 := Lib.hid (TB_28.out.kp k29)
          have BA_29 := Lib.hid (BA_28.out.kp k29)
          have BB_29 := Lib.hid (BB_28.out.kp k29)
          clear k29 zBA0 zBA1 zBB0 zBB1
          go_wp2
          go_ret
          exact ⟨rfl, K29.out⟩
  · omega
theorem ccuts_out_none (C : ChC) (A : Option Addr) (n c : Nat) (l : List Nd) (u8 s : Int) (w : World) (h : RdG w A l) (hn : n = l.length) (hc : l.length ≤ c ∧ c ≤ 9223372036854775807) (g0 : 0 ≤ u8) (g1 : u8 ≤ 255) (k : Nat) (hk : u8 % ((n : Int) + 1) = (k : Int)) (hkn : k ≤ n) (hs : In64 s) (sm : SmV l) (hl30 : l.length ≤ 30) (hf : fewC l = true) (hck : chkV l = true) (ck : k < n) (cs : ¬ s < (l.getD k nd0).1) (ca : atC l s = -1) :
    Calls Try.prog 6 #[.slice A n c, .int .u8 u8, .int .i64 s] w fun e w' => e = .returned (.bool true) ∧ Kp w w' := by
  obtain ⟨ad, P9, e9, Q9, f9, hA9, hlt9, y0, _, _, _⟩ := h.atv (show k < l.length by omega)
  obtain ⟨v, hv⟩ : ∃ v, v = (l.getD k nd0).1 := ⟨_, rfl⟩
  rw [← hv] at y0 cs
  have HV : Hid (∀ V, Kp w V → V.cell? (ad.add (k * 3)) = some (.int .i64 v)) := fun V kV => (kV.cell (by rw [block_of_add]; exact hlt9)).trans y0
  have hkn1 : ((k : Int) == (n : Int)) = false := by rw [beq_eq_false_iff_ne]; omega
  have hmx : (0 : Int) ≤ (n : Int) - 1 := by omega
  have hmi : (k : Int) ≤ (n : Int) - 1 := by omega
  have hki : (k : Int) < (n : Int) := by omega
  have hsv : decide (s < v) = false := decide_eq_false cs
  have K0 : Hid (Kp w w) := Kp.refl w
  have HA : Hid (∀ W, Calls Try.prog 8 #[] W fun e w' => e = .returned (.bool true) ∧ Kp W w') := fun W => chawake_any C W
  have HF : Hid (∀ W, Kp w W → Calls Try.prog 9 #[.slice A n c] W fun e w' => e = .returned (.bool true) ∧ Kp W w') := fun W kW => rfew17_any A n c l W (h.kp kW) hn hf
  have HC : Hid (∀ W, Kp w W → Calls Try.prog 17 #[.slice A n c] W fun e w' => e = .returned (.bool true) ∧ Kp W w') := fun W kW => C.check A c n l true W (h.kp kW) hc sm hn hck
  obtain ⟨m, hm⟩ : ∃ m, l.take k = m := ⟨_, rfl⟩
  have hmk : m.length = k := by rw [← hm, List.length_take]; omega
  have hmc : m.length ≤ c ∧ c ≤ 9223372036854775807 := by omega
  have RM : RdG w A m := by rw [← hm]; exact h.take_ k
  have smm : SmV m := by rw [← hm]; exact sm_take sm k
  have hckm : chkV m = true := by rw [← hm]; exact chk_take' hck k
  obtain ⟨rt, rb, hr⟩ : ∃ rt rb, readC l s = (rt, rb) := ⟨_, _, rfl⟩
  obtain ⟨qt, qb, hq_⟩ : ∃ qt qb, readC m s = (qt, qb) := ⟨_, _, rfl⟩
  obtain ⟨x, hx⟩ : ∃ x, rt.1.length = x := ⟨_, rfl⟩
  obtain ⟨y, hy⟩ : ∃ y, rt.2.length = y := ⟨_, rfl⟩
  obtain ⟨x2, hx2⟩ : ∃ x, qt.1.length = x := ⟨_, rfl⟩
  obtain ⟨y2, hy2⟩ : ∃ y, qt.2.length = y := ⟨_, rfl⟩
  have c1 : Hid (∀ W, Kp w W → Calls Try.prog 11 #[.slice A n c, .int .i64 s] W (RetTB rt rb x y W)) := fun W kW => C.read A c n l s rt rb x y W (h.kp kW) hc sm hn hs hr hx hy
  have c2 : Hid (∀ W, Kp w W → Calls Try.prog 11 #[.slice A k c, .int .i64 s] W (RetTB qt qb x2 y2 W)) := fun W kW => C.read A c k m s qt qb x2 y2 W (RM.kp kW) hmc smm hmk.symm hs hq_ hx2 hy2
  have c3 : Hid (∀ W, Kp w W → Calls Try.prog 17 #[.slice A k c] W fun e w' => e = .returned (.bool true) ∧ Kp W w') := fun W kW => C.check A c k m true W (RM.kp kW) hmc smm hmk.symm hckm
  have HR : Hid (∀ W, Kp w W → RdG W A l) := fun W kW => h.kp kW
  have hn' : n ≤ 9223372036854775807 := by omega
  have hkc : k ≤ c := by omega
  have hkc2 : (k : Int) ≤ (c : Int) := by omega
  have hc' : c ≤ 9223372036854775807 := hc.2
  have hn30 : n ≤ 30 := by omega
  have hn1 : ((n : Int) + 1 == 0) = false := by simp; omega
  have hrb : readC l s = (cT, false) := by unfold readC; rw [ca, if_neg (fun h => by have := h.2; omega)]
  rw [hr] at hrb
  injection hrb with _ hrb
  subst hrb
  have HAM : Hid (atC l s = -1) := ca
  have HJ := Lib.hid (And.intro hx (And.intro hy (And.intro hx2 hy2)))
  obtain ⟨at_, hat⟩ : ∃ a, a = atC l s := ⟨_, rfl⟩
  have HAT : Hid (at_ = atF s (l.drop 0) 0 (-1)) := hat
  rw [← hat] at HAM
  have HN := Lib.hid hn
  clear C h hn hc hs sm hl30 hf hck hm hmk hmc RM smm hckm hr hq_ hx hy hat ca hx2 hy2 hv cs y0 hlt9
  subst hA9
  by_cases hn2 : (1 : Int) < (n : Int)
  · have hn3 : ¬ (n : Int) ≤ 1 := by omega
    go_enter Try.func6, Try.ntmps6
    go_wp2_with fail
    refine (HA.out _).mono ?_; rintro e w1 ⟨rfl, k1⟩
    have K1 := Lib.hid (K0.out.tr k1)
    clear k1
    go_wp2_with fail
    refine (HF.out _ K1.out).mono ?_; rintro e w2 ⟨rfl, k2⟩
    have K2 := Lib.hid (K1.out.tr k2)
    clear k2
    go_wp2_with fail
    refine (HC.out _ K2.out).mono ?_; rintro e w3 ⟨rfl, k3⟩
    have K3 := Lib.hid (K2.out.tr k3)
    clear k3
    go_wp2_with fail
    refine (c1.out _ K3.out).mono ?_; rintro e w4 ⟨P4, x4, Q4, y4, rfl, T4, k4⟩
    have K4 := Lib.hid (K3.out.tr k4)
    clear k4
    obtain ⟨w5, hw5⟩ : ∃ V, V = w4.alloc (.cells #[.slice P4 x x4, .slice Q4 y y4] 25) := ⟨_, rfl⟩
    have HX5 := Lib.hid hw5
    have k5 : Kp w4 w5 := by rw [hw5]; exact Kp.alloc_ _ _
    have TA_5 := Lib.hid (T4.out.kp k5)
    have BA_5 : Hid (Bk w5 w4.heap.size P4 x x4 Q4 y y4) := by show Bk _ _ _ _ _ _ _ _; rw [hw5]; exact Bk.new rfl
    have K5 := Lib.hid (K4.out.tr k5)
    clear k5 hw5
    go_wp2_with fail
    rw [← HX5.out]
    refine (c2.out _ K5.out).mono ?_; rintro e w6 ⟨P6, x6, Q6, y6, rfl, T6, k6⟩
    have K6 := Lib.hid (K5.out.tr k6)
    have TA_6 := Lib.hid (TA_5.out.kp k6)
    have BA_6 := Lib.hid (BA_5.out.kp k6)
    clear k6
    obtain ⟨w7, hw7⟩ : ∃ V, V = w6.alloc (.cells #[.slice P6 x2 x6, .slice Q6 y2 y6] 25) := ⟨_, rfl⟩
    have HX7 := Lib.hid hw7
    have k7 : Kp w6 w7 := by rw [hw7]; exact Kp.alloc_ _ _
    have TA_7 := Lib.hid (TA_6.out.kp k7)
    have BA_7 := Lib.hid (BA_6.out.kp k7)
    have TB_7 := Lib.hid (T6.out.kp k7)
    have BB_7 : Hid (Bk w7 w6.heap.size P6 x2 x6 Q6 y2 y6) := by show Bk _ _ _ _ _ _ _ _; rw [hw7]; exact Bk.new rfl
    have K7 := Lib.hid (K6.out.tr k7)
    clear k7 hw7
    have yv := HV.out _ K7.out
    rw [HX7.out] at yv
    go_wp2_with fail
    rw [← HX7.out]
    clear yv
    go_loopw [14, 15] (fun o i wx => ∃ (k' : Nat) (out : Int), o = .int .i64 out ∧ i = .int .i64 (k' : Int) ∧ Hid (k' ≤ n) ∧ Hid (at_ = atF s (l.drop k') k' out) ∧ Hid (wx = w7)) (fun _ i _ => n - (intOf i).toNat)
    case atStart => exact ⟨0, -1, rfl, rfl, Nat.zero_le _, HAT.out, rfl⟩
    case round =>
      obtain ⟨k', out, rfl, rfl, hk', hT, hw⟩ := hrel
      obtain ⟨wz, hwz⟩ : ∃ wz, wz = wr := ⟨_, rfl⟩
      have hwr : w7 = wz := by rw [hwz]; exact hw.out.symm
      clear hw
      subst hwz
      subst hwr
      by_cases hj : k' < n
      · have hj' : (k' : Int) < (n : Int) := by omega
        obtain ⟨ad', P', e', Q', f', ea, hlt', hc0', _, _, _⟩ := (HR.out _ K7.out).atv (show k' < l.length by rw [← HN.out]; exact hj)
        injection ea with ea
        subst ea
        have hd := atF_drop (s := s) (out := out) (show k' < l.length by rw [← HN.out]; exact hj)
        obtain ⟨x', hx'⟩ : ∃ x, x = (l.getD k' nd0).1 := ⟨_, rfl⟩
        rw [← hx'] at hc0' hd
        by_cases hs' : x' ≤ s
        · have HT2 : Hid (at_ = atF s (l.drop (k' + 1)) (k' + 1) (k' : Int)) := by show at_ = _; rw [hT.out, hd, if_pos hs']
          clear hd hx'
          go_wp2
          go_roundw
          case rel => exact ⟨k' + 1, _, rfl, by go_num, (by show k' + 1 ≤ n; omega), HT2.out, trivial⟩
          case measure => simp [intOf]; omega
        · have HT2 : Hid (at_ = atF s (l.drop (k' + 1)) (k' + 1) out) := by show at_ = _; rw [hT.out, hd, if_neg hs']
          clear hd hx'
          go_wp2
          go_roundw
          case rel => exact ⟨k' + 1, _, rfl, by go_num, (by show k' + 1 ≤ n; omega), HT2.out, trivial⟩
          case measure => simp [intOf]; omega
      · have hj' : ¬ (k' : Int) < (n : Int) := by omega
        have HT2 : Hid (out = at_) := by show out = at_; rw [hT.out, List.drop_eq_nil_of_le (by rw [← HN.out]; omega)]; rfl
        obtain ⟨o2, ho2⟩ : ∃ o2, o2 = out := ⟨_, rfl⟩
        have HE : Hid (o2 = at_) := by show o2 = _; rw [ho2]; exact HT2.out
        subst ho2
        obtain rfl := HE.out
        obtain rfl := HAM.out
        clear hT HT2 HE HAT
        go_wp2_with fail
        go_quiet (fail)
        generalize hwq : (w7.drewN _) = wq
        have kq : Kp w7 wq := by rw [← hwq]; exact Kp.drewN_ _ _
        clear hwq
        have KQ := Lib.hid (K7.out.tr kq)
        have TAQ := Lib.hid (TA_7.out.kp kq)
        have TBQ := Lib.hid (TB_7.out.kp kq)
        have BAQ := Lib.hid (BA_7.out.kp kq)
        have BBQ := Lib.hid (BB_7.out.kp kq)
        clear kq
        go_wp2_with fail
        refine (c3.out _ KQ.out).mono ?_; rintro e w28 ⟨rfl, k28⟩
        have K28 := Lib.hid (KQ.out.tr k28)
        have TA_28 := Lib.hid (TAQ.out.kp k28)
        have TB_28 := Lib.hid (TBQ.out.kp k28)
        have BA_28 := Lib.hid (BAQ.out.kp k28)
        have BB_28 := Lib.hid (BBQ.out.kp k28)
        clear k28
        go_wp2
        go_ret
        exact ⟨rfl, K28.out⟩
  · have hn3 : (n : Int) ≤ 1 := by omega
    have hk0 : (k : Int) ≤ 0 := by omega
    go_enter Try.func6, Try.ntmps6
    go_wp2_with fail
    refine (HA.out _).mono ?_; rintro e w1 ⟨rfl, k1⟩
    have K1 := Lib.hid (K0.out.tr k1)
    clear k1
    go_wp2_with fail
    refine (HF.out _ K1.out).mono ?_; rintro e w2 ⟨rfl, k2⟩
    have K2 := Lib.hid (K1.out.tr k2)
    clear k2
    go_wp2_with fail
    refine (HC.out _ K2.out).mono ?_; rintro e w3 ⟨rfl, k3⟩
    have K3 := Lib.hid (K2.out.tr k3)
    clear k3
    go_wp2_with fail
    refine (c1.out _ K3.out).mono ?_; rintro e w4 ⟨P4, x4, Q4, y4, rfl, T4, k4⟩
    have K4 := Lib.hid (K3.out.tr k4)
    clear k4
    obtain ⟨w5, hw5⟩ : ∃ V, V = w4.alloc (.cells #[.slice P4 x x4, .slice Q4 y y4] 25) := ⟨_, rfl⟩
    have HX5 := Lib.hid hw5
    have k5 : Kp w4 w5 := by rw [hw5]; exact Kp.alloc_ _ _
    have TA_5 := Lib.hid (T4.out.kp k5)
    have BA_5 : Hid (Bk w5 w4.heap.size P4 x x4 Q4 y y4) := by show Bk _ _ _ _ _ _ _ _; rw [hw5]; exact Bk.new rfl
    have K5 := Lib.hid (K4.out.tr k5)
    clear k5 hw5
    go_wp2_with fail
    rw [← HX5.out]
    refine (c2.out _ K5.out).mono ?_; rintro e w6 ⟨P6, x6, Q6, y6, rfl, T6, k6⟩
    have K6 := Lib.hid (K5.out.tr k6)
    have TA_6 := Lib.hid (TA_5.out.kp k6)
    have BA_6 := Lib.hid (BA_5.out.kp k6)
    clear k6
    obtain ⟨w7, hw7⟩ : ∃ V, V = w6.alloc (.cells #[.slice P6 x2 x6, .slice Q6 y2 y6] 25) := ⟨_, rfl⟩
    have HX7 := Lib.hid hw7
    have k7 : Kp w6 w7 := by rw [hw7]; exact Kp.alloc_ _ _
    have TA_7 := Lib.hid (TA_6.out.kp k7)
    have BA_7 := Lib.hid (BA_6.out.kp k7)
    have TB_7 := Lib.hid (T6.out.kp k7)
    have BB_7 : Hid (Bk w7 w6.heap.size P6 x2 x6 Q6 y2 y6) := by show Bk _ _ _ _ _ _ _ _; rw [hw7]; exact Bk.new rfl
    have K7 := Lib.hid (K6.out.tr k7)
    clear k7 hw7
    have yv := HV.out _ K7.out
    rw [HX7.out] at yv
    go_wp2_with fail
    rw [← HX7.out]
    clear yv
    go_loopw [14, 15] (fun o i wx => ∃ (k' : Nat) (out : Int), o = .int .i64 out ∧ i = .int .i64 (k' : Int) ∧ Hid (k' ≤ n) ∧ Hid (at_ = atF s (l.drop k') k' out) ∧ Hid (wx = w7)) (fun _ i _ => n - (intOf i).toNat)
    case atStart => exact ⟨0, -1, rfl, rfl, Nat.zero_le _, HAT.out, rfl⟩
    case round =>
      obtain ⟨k', out, rfl, rfl, hk', hT, hw⟩ := hrel
      obtain ⟨wz, hwz⟩ : ∃ wz, wz = wr := ⟨_, rfl⟩
      have hwr : w7 = wz := by rw [hwz]; exact hw.out.symm
      clear hw
      subst hwz
      subst hwr
      by_cases hj : k' < n
      · have hj' : (k' : Int) < (n : Int) := by omega
        obtain ⟨ad', P', e', Q', f', ea, hlt', hc0', _, _, _⟩ := (HR.out _ K7.out).atv (show k' < l.length by rw [← HN.out]; exact hj)
        injection ea with ea
        subst ea
        have hd := atF_drop (s := s) (out := out) (show k' < l.length by rw [← HN.out]; exact hj)
        obtain ⟨x', hx'⟩ : ∃ x, x = (l.getD k' nd0).1 := ⟨_, rfl⟩
        rw [← hx'] at hc0' hd
        by_cases hs' : x' ≤ s
        · have HT2 : Hid (at_ = atF s (l.drop (k' + 1)) (k' + 1) (k' : Int)) := by show at_ = _; rw [hT.out, hd, if_pos hs']
          clear hd hx'
          go_wp2
          go_roundw
          case rel => exact ⟨k' + 1, _, rfl, by go_num, (by show k' + 1 ≤ n; omega), HT2.out, trivial⟩
          case measure => simp [intOf]; omega
        · have HT2 : Hid (at_ = atF s (l.drop (k' + 1)) (k' + 1) out) := by show at_ = _; rw [hT.out, hd, if_neg hs']
          clear hd hx'
          go_wp2
          go_roundw
          case rel => exact ⟨k' + 1, _, rfl, by go_num, (by show k' + 1 ≤ n; omega), HT2.out, trivial⟩
          case measure => simp [intOf]; omega
      · have hj' : ¬ (k' : Int) < (n : Int) := by omega
        have HT2 : Hid (out = at_) := by show out = at_; rw [hT.out, List.drop_eq_nil_of_le (by rw [← HN.out]; omega)]; rfl
        obtain ⟨o2, ho2⟩ : ∃ o2, o2 = out := ⟨_, rfl⟩
        have HE : Hid (o2 = at_) := by show o2 = _; rw [ho2]; exact HT2.out
        subst ho2
        obtain rfl := HE.out
        obtain rfl := HAM.out
        clear hT HT2 HE HAT
        go_wp2_with fail
        go_quiet (fail)
        generalize hwq : (w7.drewN _) = wq
        have kq : Kp w7 wq := by rw [← hwq]; exact Kp.drewN_ _ _
        clear hwq
        have KQ := Lib.hid (K7.out.tr kq)
        have TAQ := Lib.hid (TA_7.out.kp kq)
        have TBQ := Lib.hid (TB_7.out.kp kq)
        have BAQ := Lib.hid (BA_7.out.kp kq)
        have BBQ := Lib.hid (BB_7.out.kp kq)
        clear kq
        go_wp2_with fail
        refine (c3.out _ KQ.out).mono ?_; rintro e w28 ⟨rfl, k28⟩
        have K28 := Lib.hid (KQ.out.tr k28)
        have TA_28 := Lib.hid (TAQ.out.kp k28)
        have TB_28 := Lib.hid (TBQ.out.kp k28)
        have BA_28 := Lib.hid (BAQ.out.kp k28)
        have BB_28 := Lib.hid (BBQ.out.kp k28)
        clear k28
        go_wp2
        go_ret
        exact ⟨rfl, K28.out⟩
theorem ccuts_out_zero (C : ChC) (A : Option Addr) (n c : Nat) (l : List Nd) (u8 s : Int) (w : World) (h : RdG w A l) (hn : n = l.length) (hc : l.length ≤ c ∧ c ≤ 9223372036854775807) (g0 : 0 ≤ u8) (g1 : u8 ≤ 255) (k : Nat) (hk : u8 % ((n : Int) + 1) = (k : Int)) (hkn : k ≤ n) (hs : In64 s) (sm : SmV l) (hl30 : l.length ≤ 30) (hf : fewC l = true) (hck : chkV l = true) (ck : k < n) (cs : ¬ s < (l.getD k nd0).1) (hq : 0 < l.length) (ca : atC l s = ((0 : Nat) : Int)) :
    Calls Try.prog 6 #[.slice A n c, .int .u8 u8, .int .i64 s] w fun e w' => e = .returned (.bool true) ∧ Kp w w' := by
  obtain ⟨ad, P9, e9, Q9, f9, hA9, hlt9, y0, _, _, _⟩ := h.atv (show k < l.length by omega)
  obtain ⟨v, hv⟩ : ∃ v, v = (l.getD k nd0).1 := ⟨_, rfl⟩
  rw [← hv] at y0 cs
  have HV : Hid (∀ V, Kp w V → V.cell? (ad.add (k * 3)) = some (.int .i64 v)) := fun V kV => (kV.cell (by rw [block_of_add]; exact hlt9)).trans y0
  have hkn1 : ((k : Int) == (n : Int)) = false := by rw [beq_eq_false_iff_ne]; omega
  have hmx : (0 : Int) ≤ (n : Int) - 1 := by omega
  have hmi : (k : Int) ≤ (n : Int) - 1 := by omega
  have hki : (k : Int) < (n : Int) := by omega
  have hsv : decide (s < v) = false := decide_eq_false cs
  have K0 : Hid (Kp w w) := Kp.refl w
  have HA : Hid (∀ W, Calls Try.prog 8 #[] W fun e w' => e = .returned (.bool true) ∧ Kp W w') := fun W => chawake_any C W
  have HF : Hid (∀ W, Kp w W → Calls Try.prog 9 #[.slice A n c] W fun e w' => e = .returned (.bool true) ∧ Kp W w') := fun W kW => rfew17_any A n c l W (h.kp kW) hn hf
  have HC : Hid (∀ W, Kp w W → Calls Try.prog 17 #[.slice A n c] W fun e w' => e = .returned (.bool true) ∧ Kp W w') := fun W kW => C.check A c n l true W (h.kp kW) hc sm hn hck
  obtain ⟨m, hm⟩ : ∃ m, l.take k = m := ⟨_, rfl⟩
  have hmk : m.length = k := by rw [← hm, List.length_take]; omega
  have hmc : m.length ≤ c ∧ c ≤ 9223372036854775807 := by omega
  have RM : RdG w A m := by rw [← hm]; exact h.take_ k
  have smm : SmV m := by rw [← hm]; exact sm_take sm k
  have hckm : chkV m = true := by rw [← hm]; exact chk_take' hck k
  obtain ⟨rt, rb, hr⟩ : ∃ rt rb, readC l s = (rt, rb) := ⟨_, _, rfl⟩
  obtain ⟨qt, qb, hq_⟩ : ∃ qt qb, readC m s = (qt, qb) := ⟨_, _, rfl⟩
  obtain ⟨x, hx⟩ : ∃ x, rt.1.length = x := ⟨_, rfl⟩
  obtain ⟨y, hy⟩ : ∃ y, rt.2.length = y := ⟨_, rfl⟩
  obtain ⟨x2, hx2⟩ : ∃ x, qt.1.length = x := ⟨_, rfl⟩
  obtain ⟨y2, hy2⟩ : ∃ y, qt.2.length = y := ⟨_, rfl⟩
  have c1 : Hid (∀ W, Kp w W → Calls Try.prog 11 #[.slice A n c, .int .i64 s] W (RetTB rt rb x y W)) := fun W kW => C.read A c n l s rt rb x y W (h.kp kW) hc sm hn hs hr hx hy
  have c2 : Hid (∀ W, Kp w W → Calls Try.prog 11 #[.slice A k c, .int .i64 s] W (RetTB qt qb x2 y2 W)) := fun W kW => C.read A c k m s qt qb x2 y2 W (RM.kp kW) hmc smm hmk.symm hs hq_ hx2 hy2
  have c3 : Hid (∀ W, Kp w W → Calls Try.prog 17 #[.slice A k c] W fun e w' => e = .returned (.bool true) ∧ Kp W w') := fun W kW => C.check A c k m true W (RM.kp kW) hmc smm hmk.symm hckm
  have HR : Hid (∀ W, Kp w W → RdG W A l) := fun W kW => h.kp kW
  have hn' : n ≤ 9223372036854775807 := by omega
  have hkc : k ≤ c := by omega
  have hkc2 : (k : Int) ≤ (c : Int) := by omega
  have hc' : c ≤ 9223372036854775807 := hc.2
  have hn30 : n ≤ 30 := by omega
  have hn1 : ((n : Int) + 1 == 0) = false := by simp; omega
  have hrb : readC l s = ((l.getD 0 nd0).2, true) := by unfold readC; rw [ca, if_pos ⟨hck, by omega⟩, show (((0 : Nat) : Int)).toNat = 0 from rfl]
  rw [hr] at hrb
  injection hrb with hrt hrb
  subst hrb
  obtain ⟨ad2, P5, e5, Q5, f5, ea2, hlt5, _, z1, z2, TZ⟩ := h.atv hq
  rw [hA9] at ea2
  injection ea2 with ea2
  subst ea2
  have e0 : ad.add (0 * 3) = ad := by unfold Addr.add; simp
  rw [e0] at z1 z2
  rw [← hrt] at z1 z2 TZ
  rw [hx] at z1
  rw [hy] at z2
  have HZ : Hid (∀ V, Kp w V → V.cell? ⟨ad.block, ad.off + 1, none⟩ = some (.slice P5 x e5) ∧ V.cell? ⟨ad.block, ad.off + 1 + 1, none⟩ = some (.slice Q5 y f5)) := fun V kV => ⟨(kV.cell (show (⟨ad.block, ad.off + 1, none⟩ : Addr).block < _ from hlt5)).trans z1, (kV.cell (show (⟨ad.block, ad.off + 1 + 1, none⟩ : Addr).block < _ from hlt5)).trans z2⟩
  have HTZ : Hid (∀ V, Kp w V → TR V P5 rt.1 Q5 rt.2) := fun V kV => TZ.r.kp kV
  have HAM : Hid (atC l s = 0) := ca
  have q2 : (0 : Int) < (n : Int) := by omega
  have q5 : ¬ n = 0 := by omega
  have HJ := Lib.hid (And.intro hx (And.intro hy (And.intro hx2 hy2)))
  obtain ⟨at_, hat⟩ : ∃ a, a = atC l s := ⟨_, rfl⟩
  have HAT : Hid (at_ = atF s (l.drop 0) 0 (-1)) := hat
  rw [← hat] at HAM
  have HN := Lib.hid hn
  clear C h hn hc hs sm hl30 hf hck hm hmk hmc RM smm hckm hr hq_ hx hy hat ca hx2 hy2 hv cs y0 hlt9 hrt z1 z2 TZ hlt5 hq e0
  subst hA9
  by_cases hn2 : (1 : Int) < (n : Int)
  · have hn3 : ¬ (n : Int) ≤ 1 := by omega
    go_enter Try.func6, Try.ntmps6
    go_wp2_with fail
    refine (HA.out _).mono ?_; rintro e w1 ⟨rfl, k1⟩
    have K1 := Lib.hid (K0.out.tr k1)
    clear k1
    go_wp2_with fail
    refine (HF.out _ K1.out).mono ?_; rintro e w2 ⟨rfl, k2⟩
    have K2 := Lib.hid (K1.out.tr k2)
    clear k2
    go_wp2_with fail
    refine (HC.out _ K2.out).mono ?_; rintro e w3 ⟨rfl, k3⟩
    have K3 := Lib.hid (K2.out.tr k3)
    clear k3
    go_wp2_with fail
    refine (c1.out _ K3.out).mono ?_; rintro e w4 ⟨P4, x4, Q4, y4, rfl, T4, k4⟩
    have K4 := Lib.hid (K3.out.tr k4)
    clear k4
    obtain ⟨w5, hw5⟩ : ∃ V, V = w4.alloc (.cells #[.slice P4 x x4, .slice Q4 y y4] 25) := ⟨_, rfl⟩
    have HX5 := Lib.hid hw5
    have k5 : Kp w4 w5 := by rw [hw5]; exact Kp.alloc_ _ _
    have TA_5 := Lib.hid (T4.out.kp k5)
    have BA_5 : Hid (Bk w5 w4.heap.size P4 x x4 Q4 y y4) := by show Bk _ _ _ _ _ _ _ _; rw [hw5]; exact Bk.new rfl
    have K5 := Lib.hid (K4.out.tr k5)
    clear k5 hw5
    go_wp2_with fail
    rw [← HX5.out]
    refine (c2.out _ K5.out).mono ?_; rintro e w6 ⟨P6, x6, Q6, y6, rfl, T6, k6⟩
    have K6 := Lib.hid (K5.out.tr k6)
    have TA_6 := Lib.hid (TA_5.out.kp k6)
    have BA_6 := Lib.hid (BA_5.out.kp k6)
    clear k6
    obtain ⟨w7, hw7⟩ : ∃ V, V = w6.alloc (.cells #[.slice P6 x2 x6, .slice Q6 y2 y6] 25) := ⟨_, rfl⟩
    have HX7 := Lib.hid hw7
    have k7 : Kp w6 w7 := by rw [hw7]; exact Kp.alloc_ _ _
    have TA_7 := Lib.hid (TA_6.out.kp k7)
    have BA_7 := Lib.hid (BA_6.out.kp k7)
    have TB_7 := Lib.hid (T6.out.kp k7)
    have BB_7 : Hid (Bk w7 w6.heap.size P6 x2 x6 Q6 y2 y6) := by show Bk _ _ _ _ _ _ _ _; rw [hw7]; exact Bk.new rfl
    have K7 := Lib.hid (K6.out.tr k7)
    clear k7 hw7
    have yv := HV.out _ K7.out
    rw [HX7.out] at yv
    go_wp2_with fail
    rw [← HX7.out]
    clear yv
    go_loopw [14, 15] (fun o i wx => ∃ (k' : Nat) (out : Int), o = .int .i64 out ∧ i = .int .i64 (k' : Int) ∧ Hid (k' ≤ n) ∧ Hid (at_ = atF s (l.drop k') k' out) ∧ Hid (wx = w7)) (fun _ i _ => n - (intOf i).toNat)
    case atStart => exact ⟨0, -1, rfl, rfl, Nat.zero_le _, HAT.out, rfl⟩
    case round =>
      obtain ⟨k', out, rfl, rfl, hk', hT, hw⟩ := hrel
      obtain ⟨wz, hwz⟩ : ∃ wz, wz = wr := ⟨_, rfl⟩
      have hwr : w7 = wz := by rw [hwz]; exact hw.out.symm
      clear hw
      subst hwz
      subst hwr
      by_cases hj : k' < n
      · have hj' : (k' : Int) < (n : Int) := by omega
        obtain ⟨ad', P', e', Q', f', ea, hlt', hc0', _, _, _⟩ := (HR.out _ K7.out).atv (show k' < l.length by rw [← HN.out]; exact hj)
        injection ea with ea
        subst ea
        have hd := atF_drop (s := s) (out := out) (show k' < l.length by rw [← HN.out]; exact hj)
        obtain ⟨x', hx'⟩ : ∃ x, x = (l.getD k' nd0).1 := ⟨_, rfl⟩
        rw [← hx'] at hc0' hd
        by_cases hs' : x' ≤ s
        · have HT2 : Hid (at_ = atF s (l.drop (k' + 1)) (k' + 1) (k' : Int)) := by show at_ = _; rw [hT.out, hd, if_pos hs']
          clear hd hx'
          go_wp2
          go_roundw
          case rel => exact ⟨k' + 1, _, rfl, by go_num, (by show k' + 1 ≤ n; omega), HT2.out, trivial⟩
          case measure => simp [intOf]; omega
        · have HT2 : Hid (at_ = atF s (l.drop (k' + 1)) (k' + 1) out) := by show at_ = _; rw [hT.out, hd, if_neg hs']
          clear hd hx'
          go_wp2
          go_roundw
          case rel => exact ⟨k' + 1, _, rfl, by go_num, (by show k' + 1 ≤ n; omega), HT2.out, trivial⟩
          case measure => simp [intOf]; omega
      · have hj' : ¬ (k' : Int) < (n : Int) := by omega
        have HT2 : Hid (out = at_) := by show out = at_; rw [hT.out, List.drop_eq_nil_of_le (by rw [← HN.out]; omega)]; rfl
        obtain ⟨o2, ho2⟩ : ∃ o2, o2 = out := ⟨_, rfl⟩
        have HE : Hid (o2 = at_) := by show o2 = _; rw [ho2]; exact HT2.out
        subst ho2
        obtain rfl := HE.out
        obtain rfl := HAM.out
        clear hT HT2 HE HAT
        have HSS : Hid (∀ V, Kp w7 V → V.cell? ⟨w4.heap.size, 0, none⟩ = some (.slice P4 x x4) ∧ V.cell? ⟨w4.heap.size, 1, none⟩ = some (.slice Q4 y y4) ∧ V.cell? ⟨ad.block, ad.off + 1, none⟩ = some (.slice P5 x e5) ∧ V.cell? ⟨ad.block, ad.off + 1 + 1, none⟩ = some (.slice Q5 y f5)) := fun V kV => ⟨(BA_7.out.kp kV).c0, (BA_7.out.kp kV).c1, (HZ.out _ (K7.out.tr kV)).1, (HZ.out _ (K7.out.tr kV)).2⟩
        have q9 := HSS.out _ (Kp.drewN_ w7 1)
        have HS9 : Hid (Calls Try.prog 15 #[.agg #[.slice P4 x x4, .slice Q4 y y4], .agg #[.slice P5 x e5, .slice Q5 y f5]] w7.drew fun e w' => e = .returned (.bool true) ∧ Kp w7.drew w') := tsame_u (TA_7.out.r.kp (Kp.drewN_ w7 1)) (HTZ.out _ (K7.out.tr (Kp.drewN_ w7 1))) HJ.out.1 HJ.out.2.1
        go_wp2_with fail
        go_cut [16] (fun v16 wx => v16 = .bool true ∧ Hid (Kp w7 wx))
        case first =>
          refine wp_region_held_drew (S := fun V => V.cell? ⟨w4.heap.size, 0, none⟩ = some (.slice P4 x x4) ∧ V.cell? ⟨w4.heap.size, 1, none⟩ = some (.slice Q4 y y4) ∧ V.cell? ⟨ad.block, ad.off + 1, none⟩ = some (.slice P5 x e5) ∧ V.cell? ⟨ad.block, ad.off + 1 + 1, none⟩ = some (.slice Q5 y f5)) (by kernel_rfl) q9 (fun hHeld => ?_)
          try simp only [Act.put, List.setIfInBounds_toArray, List.set_cons_zero, List.set_cons_succ]
          refine wpAnyH_take (i := 0) (v := .int .i64 0) rfl (by kernel_rfl) (by kernel_rfl) (by kernel_rfl) (fun _ _ _ h => h) (Or.inl ⟨by kernel_rfl, fun V hSV => ?_⟩) hHeld ?_
          · (try dsimp only at hSV); go_simp
          try simp only [Act.put, List.setIfInBounds_toArray, List.set_cons_zero, List.set_cons_succ]
          refine wpAnyH_take (i := 1) (v := .bool false) rfl (by kernel_rfl) (by kernel_rfl) (by kernel_rfl) (fun _ _ _ h => h) (Or.inl ⟨by kernel_rfl, fun V hSV => ?_⟩) hHeld ?_
          · (try dsimp only at hSV); go_simp
          try simp only [Act.put, List.setIfInBounds_toArray, List.set_cons_zero, List.set_cons_succ]
          refine wpAnyH_take (i := 2) (v := .bool false) rfl (by kernel_rfl) (by kernel_rfl) (by kernel_rfl) (fun _ _ _ h => h) (Or.inl ⟨by kernel_rfl, fun V hSV => ?_⟩) hHeld ?_
          · (try dsimp only at hSV); go_simp
          try simp only [Act.put, List.setIfInBounds_toArray, List.set_cons_zero, List.set_cons_succ]
          refine wpAnyH_take (i := 3) (v := undef) rfl (by kernel_rfl) (by kernel_rfl) (by kernel_rfl) (fun _ _ _ h => h) (Or.inr ⟨by kernel_rfl, rfl⟩) hHeld ?_
          try simp only [Act.put, List.setIfInBounds_toArray, List.set_cons_zero, List.set_cons_succ]
          refine wpAnyH_take (i := 4) (v := undef) rfl (by kernel_rfl) (by kernel_rfl) (by kernel_rfl) (fun _ _ _ h => h) (Or.inr ⟨by kernel_rfl, rfl⟩) hHeld ?_
          try simp only [Act.put, List.setIfInBounds_toArray, List.set_cons_zero, List.set_cons_succ]
          refine wpAnyH_take (i := 5) (v := .bool false) rfl (by kernel_rfl) (by kernel_rfl) (by kernel_rfl) (fun _ _ _ h => h) (Or.inl ⟨by kernel_rfl, fun V hSV => ?_⟩) hHeld ?_
          · (try dsimp only at hSV); go_simp
          try simp only [Act.put, List.setIfInBounds_toArray, List.set_cons_zero, List.set_cons_succ]
          refine wpAnyH_take (i := 6) (v := .bool false) rfl (by kernel_rfl) (by kernel_rfl) (by kernel_rfl) (fun _ _ _ h => h) (Or.inl ⟨by kernel_rfl, fun V hSV => ?_⟩) hHeld ?_
          · (try dsimp only at hSV); go_simp
          try simp only [Act.put, List.setIfInBounds_toArray, List.set_cons_zero, List.set_cons_succ]
          refine wpAnyH_take (i := 7) (v := .int .i64 0) rfl (by kernel_rfl) (by kernel_rfl) (by kernel_rfl) (fun _ _ _ h => h) (Or.inl ⟨by kernel_rfl, fun V hSV => ?_⟩) hHeld ?_
          · (try dsimp only at hSV); go_simp
          try simp only [Act.put, List.setIfInBounds_toArray, List.set_cons_zero, List.set_cons_succ]
          refine wpAnyH_take (i := 8) (v := .bool true) rfl (by kernel_rfl) (by kernel_rfl) (by kernel_rfl) (fun _ _ _ h => h) (Or.inl ⟨by kernel_rfl, fun V hSV => ?_⟩) hHeld ?_
          · (try dsimp only at hSV); go_simp
          try simp only [Act.put, List.setIfInBounds_toArray, List.set_cons_zero, List.set_cons_succ]
          refine wpAnyH_take (i := 9) (v := .bool true) rfl (by kernel_rfl) (by kernel_rfl) (by kernel_rfl) (fun _ _ _ h => h) (Or.inl ⟨by kernel_rfl, fun V hSV => ?_⟩) hHeld ?_
          · (try dsimp only at hSV); go_simp
          try simp only [Act.put, List.setIfInBounds_toArray, List.set_cons_zero, List.set_cons_succ]
          refine wpAnyH_take (i := 10) (v := .bool true) rfl (by kernel_rfl) (by kernel_rfl) (by kernel_rfl) (fun _ _ _ h => h) (Or.inl ⟨by kernel_rfl, fun V hSV => ?_⟩) hHeld ?_
          · (try dsimp only at hSV); go_simp
          try simp only [Act.put, List.setIfInBounds_toArray, List.set_cons_zero, List.set_cons_succ]
          refine wpAnyH_take (i := 11) (v := .bool true) rfl (by kernel_rfl) (by kernel_rfl) (by kernel_rfl) (fun _ _ _ h => h) (Or.inl ⟨by kernel_rfl, fun V hSV => ?_⟩) hHeld ?_
          · (try dsimp only at hSV); go_simp
          try simp only [Act.put, List.setIfInBounds_toArray, List.set_cons_zero, List.set_cons_succ]
          refine wpAnyH_take (i := 12) (v := .bool true) rfl (by kernel_rfl) (by kernel_rfl) (by kernel_rfl) (fun _ _ _ h => h) (Or.inl ⟨by kernel_rfl, fun V hSV => ?_⟩) hHeld ?_
          · (try dsimp only at hSV); go_simp
          try simp only [Act.put, List.setIfInBounds_toArray, List.set_cons_zero, List.set_cons_succ]
          refine wpAnyH_take (i := 13) (v := .agg #[.slice P4 x x4, .slice Q4 y y4]) rfl (by kernel_rfl) (by kernel_rfl) (by kernel_rfl) (fun _ _ _ h => h) (Or.inl ⟨by kernel_rfl, fun V hSV => ?_⟩) hHeld ?_
          · (try dsimp only at hSV); go_simp
          try simp only [Act.put, List.setIfInBounds_toArray, List.set_cons_zero, List.set_cons_succ]
          refine wpAnyH_take (i := 14) (v := .slice (some ad) n c) rfl (by kernel_rfl) (by kernel_rfl) (by kernel_rfl) (fun _ _ _ h => h) (Or.inl ⟨by kernel_rfl, fun V hSV => ?_⟩) hHeld ?_
          · (try dsimp only at hSV); go_simp
          try simp only [Act.put, List.setIfInBounds_toArray, List.set_cons_zero, List.set_cons_succ]
          refine wpAnyH_take (i := 15) (v := .int .i64 0) rfl (by kernel_rfl) (by kernel_rfl) (by kernel_rfl) (fun _ _ _ h => h) (Or.inl ⟨by kernel_rfl, fun V hSV => ?_⟩) hHeld ?_
          · (try dsimp only at hSV); go_simp
          try simp only [Act.put, List.setIfInBounds_toArray, List.set_cons_zero, List.set_cons_succ]
          refine wpAnyH_take (i := 16) (v := .int .i64 0) rfl (by kernel_rfl) (by kernel_rfl) (by kernel_rfl) (fun _ _ _ h => h) (Or.inl ⟨by kernel_rfl, fun V hSV => ?_⟩) hHeld ?_
          · (try dsimp only at hSV); go_simp
          try simp only [Act.put, List.setIfInBounds_toArray, List.set_cons_zero, List.set_cons_succ]
          refine wpAnyH_take (i := 17) (v := .pointer (some ad)) rfl (by kernel_rfl) (by kernel_rfl) (by kernel_rfl) (fun _ _ _ h => h) (Or.inl ⟨by kernel_rfl, fun V hSV => ?_⟩) hHeld ?_
          · (try dsimp only at hSV); go_simp
          try simp only [Act.put, List.setIfInBounds_toArray, List.set_cons_zero, List.set_cons_succ]
          refine wpAnyH_take (i := 18) (v := .pointer (some ⟨ad.block, ad.off + 1, none⟩)) rfl (by kernel_rfl) (by kernel_rfl) (by kernel_rfl) (fun _ _ _ h => h) (Or.inl ⟨by kernel_rfl, fun V hSV => ?_⟩) hHeld ?_
          · (try dsimp only at hSV); go_simp
          try simp only [Act.put, List.setIfInBounds_toArray, List.set_cons_zero, List.set_cons_succ]
          refine wpAnyH_take (i := 19) (v := .agg #[.slice P5 x e5, .slice Q5 y f5]) rfl (by kernel_rfl) (by kernel_rfl) (by kernel_rfl) (fun _ _ _ h => h) (Or.inl ⟨by kernel_rfl, fun V hSV => ?_⟩) hHeld ?_
          · (try dsimp only at hSV); go_simp
          try simp only [Act.put, List.setIfInBounds_toArray, List.set_cons_zero, List.set_cons_succ]
          refine wpAnyH_ready (rs := [20]) (by kernel_rfl) (by simp) ?_
          refine AllReadyH.cons rfl (fun K9_ hK => ?_) AllReadyH.nil
          go_simp
          refine (Hid.out HS9).mono ?_; rintro e w5_ ⟨rfl, k5_⟩
          dsimp only
          have K5_ : Hid (Kp w7 w5_) := undrew17 k5_
          clear k5_
          refine hK.out _ _ ?_ (fun hHeld => ?_)
          · exact HSS.out _ K5_.out
          clear hK
          try simp only [Act.put, List.setIfInBounds_toArray, List.set_cons_zero, List.set_cons_succ]
          refine wpAnyH_take (i := 21) (v := .bool true) rfl (by kernel_rfl) (by kernel_rfl) (by kernel_rfl) (fun _ _ _ h => h) (Or.inl ⟨by kernel_rfl, fun V hSV => ?_⟩) hHeld ?_
          · (try dsimp only at hSV); go_simp
          try simp only [Act.put, List.setIfInBounds_toArray, List.set_cons_zero, List.set_cons_succ]
          refine wpAnyH_take (i := 22) (v := .bool true) rfl (by kernel_rfl) (by kernel_rfl) (by kernel_rfl) (fun _ _ _ h => h) (Or.inl ⟨by kernel_rfl, fun V hSV => ?_⟩) hHeld ?_
          · (try dsimp only at hSV); go_simp
          try simp only [Act.put, List.setIfInBounds_toArray, List.set_cons_zero, List.set_cons_succ]
          refine wpAnyH_ready (rs := [23]) (by kernel_rfl) (by simp) ?_
          refine AllReadyH.cons rfl (fun K9_ hK => ?_) AllReadyH.nil
          go_simp
          refine hK.out _ _ ?_ (fun hHeld => ?_)
          · exact HSS.out _ K5_.out
          clear hK
          try simp only [Act.put, List.setIfInBounds_toArray, List.set_cons_zero, List.set_cons_succ]
          refine wpAnyH_done (by kernel_rfl) ?_ _
          clear hHeld
          go_wp2
          go_meet
          exact ⟨rfl, K5_.out⟩
        case rest =>
          obtain ⟨rfl, hKc⟩ := hcut
          clear q9 HSS HS9
          have KQ := Lib.hid (K7.out.tr hKc.out)
          have TAQ := Lib.hid (TA_7.out.kp hKc.out)
          have TBQ := Lib.hid (TB_7.out.kp hKc.out)
          have BAQ := Lib.hid (BA_7.out.kp hKc.out)
          have BBQ := Lib.hid (BB_7.out.kp hKc.out)
          clear hKc
          go_wp2_with fail
          refine (c3.out _ KQ.out).mono ?_; rintro e w28 ⟨rfl, k28⟩
          have K28 := Lib.hid (KQ.out.tr k28)
          have TA_28 := Lib.hid (TAQ.out.kp k28)
          have TB_28 := Lib.hid (TBQ.out.kp k28)
          have BA_28 := Lib.hid (BAQ.out.kp k28)
          have BB_28 := Lib.hid (BBQ.out.kp k28)
          clear k28
          go_wp2
          go_ret
          exact ⟨rfl, K28.out⟩
  · have hn3 : (n : Int) ≤ 1 := by omega
    have hk0 : (k : Int) ≤ 0 := by omega
    go_enter Try.func6, Try.ntmps6
    go_wp2_with fail
    refine (HA.out _).mono ?_; rintro e w1 ⟨rfl, k1⟩
    have K1 := Lib.hid (K0.out.tr k1)
    clear k1
    go_wp2_with fail
    refine (HF.out _ K1.out).mono ?_; rintro e w2 ⟨rfl, k2⟩
    have K2 := Lib.hid (K1.out.tr k2)
    clear k2
    go_wp2_with fail
    refine (HC.out _ K2.out).mono ?_; rintro e w3 ⟨rfl, k3⟩
    have K3 := Lib.hid (K2.out.tr k3)
    clear k3
    go_wp2_with fail
    refine (c1.out _ K3.out).mono ?_; rintro e w4 ⟨P4, x4, Q4, y4, rfl, T4, k4⟩
    have K4 := Lib.hid (K3.out.tr k4)
    clear k4
    obtain ⟨w5, hw5⟩ : ∃ V, V = w4.alloc (.cells #[.slice P4 x x4, .slice Q4 y y4] 25) := ⟨_, rfl⟩
    have HX5 := Lib.hid hw5
    have k5 : Kp w4 w5 := by rw [hw5]; exact Kp.alloc_ _ _
    have TA_5 := Lib.hid (T4.out.kp k5)
    have BA_5 : Hid (Bk w5 w4.heap.size P4 x x4 Q4 y y4) := by show Bk _ _ _ _ _ _ _ _; rw [hw5]; exact Bk.new rfl
    have K5 := Lib.hid (K4.out.tr k5)
    clear k5 hw5
    go_wp2_with fail
    rw [← HX5.out]
    refine (c2.out _ K5.out).mono ?_; rintro e w6 ⟨P6, x6, Q6, y6, rfl, T6, k6⟩
    have K6 := Lib.hid (K5.out.tr k6)
    have TA_6 := Lib.hid (TA_5.out.kp k6)
    have BA_6 := Lib.hid (BA_5.out.kp k6)
    clear k6
    obtain ⟨w7, hw7⟩ : ∃ V, V = w6.alloc (.cells #[.slice P6 x2 x6, .slice Q6 y2 y6] 25) := ⟨_, rfl⟩
    have HX7 := Lib.hid hw7
    have k7 : Kp w6 w7 := by rw [hw7]; exact Kp.alloc_ _ _
    have TA_7 := Lib.hid (TA_6.out.kp k7)
    have BA_7 := Lib.hid (BA_6.out.kp k7)
    have TB_7 := Lib.hid (T6.out.kp k7)
    have BB_7 : Hid (Bk w7 w6.heap.size P6 x2 x6 Q6 y2 y6) := by show Bk _ _ _ _ _ _ _ _; rw [hw7]; exact Bk.new rfl
    have K7 := Lib.hid (K6.out.tr k7)
    clear k7 hw7
    have yv := HV.out _ K7.out
    rw [HX7.out] at yv
    go_wp2_with fail
    rw [← HX7.out]
    clear yv
    go_loopw [14, 15] (fun o i wx => ∃ (k' : Nat) (out : Int), o = .int .i64 out ∧ i = .int .i64 (k' : Int) ∧ Hid (k' ≤ n) ∧ Hid (at_ = atF s (l.drop k') k' out) ∧ Hid (wx = w7)) (fun _ i _ => n - (intOf i).toNat)
    case atStart => exact ⟨0, -1, rfl, rfl, Nat.zero_le _, HAT.out, rfl⟩
    case round =>
      obtain ⟨k', out, rfl, rfl, hk', hT, hw⟩ := hrel
      obtain ⟨wz, hwz⟩ : ∃ wz, wz = wr := ⟨_, rfl⟩
      have hwr : w7 = wz := by rw [hwz]; exact hw.out.symm
      clear hw
      subst hwz
      subst hwr
      by_cases hj : k' < n
      · have hj' : (k' : Int) < (n : Int) := by omega
        obtain ⟨ad', P', e', Q', f', ea, hlt', hc0', _, _, _⟩ := (HR.out _ K7.out).atv (show k' < l.length by rw [← HN.out]; exact hj)
        injection ea with ea
        subst ea
        have hd := atF_drop (s := s) (out := out) (show k' < l.length by rw [← HN.out]; exact hj)
        obtain ⟨x', hx'⟩ : ∃ x, x = (l.getD k' nd0).1 := ⟨_, rfl⟩
        rw [← hx'] at hc0' hd
        by_cases hs' : x' ≤ s
        · have HT2 : Hid (at_ = atF s (l.drop (k' + 1)) (k' + 1) (k' : Int)) := by show at_ = _; rw [hT.out, hd, if_pos hs']
          clear hd hx'
          go_wp2
          go_roundw
          case rel => exact ⟨k' + 1, _, rfl, by go_num, (by show k' + 1 ≤ n; omega), HT2.out, trivial⟩
          case measure => simp [intOf]; omega
        · have HT2 : Hid (at_ = atF s (l.drop (k' + 1)) (k' + 1) out) := by show at_ = _; rw [hT.out, hd, if_neg hs']
          clear hd hx'
          go_wp2
          go_roundw
          case rel => exact ⟨k' + 1, _, rfl, by go_num, (by show k' + 1 ≤ n; omega), HT2.out, trivial⟩
          case measure => simp [intOf]; omega
      · have hj' : ¬ (k' : Int) < (n : Int) := by omega
        have HT2 : Hid (out = at_) := by show out = at_; rw [hT.out, List.drop_eq_nil_of_le (by rw [← HN.out]; omega)]; rfl
        obtain ⟨o2, ho2⟩ : ∃ o2, o2 = out := ⟨_, rfl⟩
        have HE : Hid (o2 = at_) := by show o2 = _; rw [ho2]; exact HT2.out
        subst ho2
        obtain rfl := HE.out
        obtain rfl := HAM.out
        clear hT HT2 HE HAT
        have HSS : Hid (∀ V, Kp w7 V → V.cell? ⟨w4.heap.size, 0, none⟩ = some (.slice P4 x x4) ∧ V.cell? ⟨w4.heap.size, 1, none⟩ = some (.slice Q4 y y4) ∧ V.cell? ⟨ad.block, ad.off + 1, none⟩ = some (.slice P5 x e5) ∧ V.cell? ⟨ad.block, ad.off + 1 + 1, none⟩ = some (.slice Q5 y f5)) := fun V kV => ⟨(BA_7.out.kp kV).c0, (BA_7.out.kp kV).c1, (HZ.out _ (K7.out.tr kV)).1, (HZ.out _ (K7.out.tr kV)).2⟩
        have q9 := HSS.out _ (Kp.drewN_ w7 1)
        have HS9 : Hid (Calls Try.prog 15 #[.agg #[.slice P4 x x4, .slice Q4 y y4], .agg #[.slice P5 x e5, .slice Q5 y f5]] w7.drew fun e w' => e = .returned (.bool true) ∧ Kp w7.drew w') := tsame_u (TA_7.out.r.kp (Kp.drewN_ w7 1)) (HTZ.out _ (K7.out.tr (Kp.drewN_ w7 1))) HJ.out.1 HJ.out.2.1
        go_wp2_with fail
        go_cut [16] (fun v16 wx => v16 = .bool true ∧ Hid (Kp w7 wx))
        case first =>
          refine wp_region_held_drew (S := fun V => V.cell? ⟨w4.heap.size, 0, none⟩ = some (.slice P4 x x4) ∧ V.cell? ⟨w4.heap.size, 1, none⟩ = some (.slice Q4 y y4) ∧ V.cell? ⟨ad.block, ad.off + 1, none⟩ = some (.slice P5 x e5) ∧ V.cell? ⟨ad.block, ad.off + 1 + 1, none⟩ = some (.slice Q5 y f5)) (by kernel_rfl) q9 (fun hHeld => ?_)
          try simp only [Act.put, List.setIfInBounds_toArray, List.set_cons_zero, List.set_cons_succ]
          refine wpAnyH_take (i := 0) (v := .int .i64 0) rfl (by kernel_rfl) (by kernel_rfl) (by kernel_rfl) (fun _ _ _ h => h) (Or.inl ⟨by kernel_rfl, fun V hSV => ?_⟩) hHeld ?_
          · (try dsimp only at hSV); go_simp
          try simp only [Act.put, List.setIfInBounds_toArray, List.set_cons_zero, List.set_cons_succ]
          refine wpAnyH_take (i := 1) (v := .bool false) rfl (by kernel_rfl) (by kernel_rfl) (by kernel_rfl) (fun _ _ _ h => h) (Or.inl ⟨by kernel_rfl, fun V hSV => ?_⟩) hHeld ?_
          · (try dsimp only at hSV); go_simp
          try simp only [Act.put, List.setIfInBounds_toArray, List.set_cons_zero, List.set_cons_succ]
          refine wpAnyH_take (i := 2) (v := .bool false) rfl (by kernel_rfl) (by kernel_rfl) (by kernel_rfl) (fun _ _ _ h => h) (Or.inl ⟨by kernel_rfl, fun V hSV => ?_⟩) hHeld ?_
          · (try dsimp only at hSV); go_simp
          try simp only [Act.put, List.setIfInBounds_toArray, List.set_cons_zero, List.set_cons_succ]
          refine wpAnyH_take (i := 3) (v := undef) rfl (by kernel_rfl) (by kernel_rfl) (by kernel_rfl) (fun _ _ _ h => h) (Or.inr ⟨by kernel_rfl, rfl⟩) hHeld ?_
          try simp only [Act.put, List.setIfInBounds_toArray, List.set_cons_zero, List.set_cons_succ]
          refine wpAnyH_take (i := 4) (v := undef) rfl (by kernel_rfl) (by kernel_rfl) (by kernel_rfl) (fun _ _ _ h => h) (Or.inr ⟨by kernel_rfl, rfl⟩) hHeld ?_
          try simp only [Act.put, List.setIfInBounds_toArray, List.set_cons_zero, List.set_cons_succ]
          refine wpAnyH_take (i := 5) (v := .bool false) rfl (by kernel_rfl) (by kernel_rfl) (by kernel_rfl) (fun _ _ _ h => h) (Or.inl ⟨by kernel_rfl, fun V hSV => ?_⟩) hHeld ?_
          · (try dsimp only at hSV); go_simp
          try simp only [Act.put, List.setIfInBounds_toArray, List.set_cons_zero, List.set_cons_succ]
          refine wpAnyH_take (i := 6) (v := .bool false) rfl (by kernel_rfl) (by kernel_rfl) (by kernel_rfl) (fun _ _ _ h => h) (Or.inl ⟨by kernel_rfl, fun V hSV => ?_⟩) hHeld ?_
          · (try dsimp only at hSV); go_simp
          try simp only [Act.put, List.setIfInBounds_toArray, List.set_cons_zero, List.set_cons_succ]
          refine wpAnyH_take (i := 7) (v := .int .i64 0) rfl (by kernel_rfl) (by kernel_rfl) (by kernel_rfl) (fun _ _ _ h => h) (Or.inl ⟨by kernel_rfl, fun V hSV => ?_⟩) hHeld ?_
          · (try dsimp only at hSV); go_simp
          try simp only [Act.put, List.setIfInBounds_toArray, List.set_cons_zero, List.set_cons_succ]
          refine wpAnyH_take (i := 8) (v := .bool true) rfl (by kernel_rfl) (by kernel_rfl) (by kernel_rfl) (fun _ _ _ h => h) (Or.inl ⟨by kernel_rfl, fun V hSV => ?_⟩) hHeld ?_
          · (try dsimp only at hSV); go_simp
          try simp only [Act.put, List.setIfInBounds_toArray, List.set_cons_zero, List.set_cons_succ]
          refine wpAnyH_take (i := 9) (v := .bool true) rfl (by kernel_rfl) (by kernel_rfl) (by kernel_rfl) (fun _ _ _ h => h) (Or.inl ⟨by kernel_rfl, fun V hSV => ?_⟩) hHeld ?_
          · (try dsimp only at hSV); go_simp
          try simp only [Act.put, List.setIfInBounds_toArray, List.set_cons_zero, List.set_cons_succ]
          refine wpAnyH_take (i := 10) (v := .bool true) rfl (by kernel_rfl) (by kernel_rfl) (by kernel_rfl) (fun _ _ _ h => h) (Or.inl ⟨by kernel_rfl, fun V hSV => ?_⟩) hHeld ?_
          · (try dsimp only at hSV); go_simp
          try simp only [Act.put, List.setIfInBounds_toArray, List.set_cons_zero, List.set_cons_succ]
          refine wpAnyH_take (i := 11) (v := .bool true) rfl (by kernel_rfl) (by kernel_rfl) (by kernel_rfl) (fun _ _ _ h => h) (Or.inl ⟨by kernel_rfl, fun V hSV => ?_⟩) hHeld ?_
          · (try dsimp only at hSV); go_simp
          try simp only [Act.put, List.setIfInBounds_toArray, List.set_cons_zero, List.set_cons_succ]
          refine wpAnyH_take (i := 12) (v := .bool true) rfl (by kernel_rfl) (by kernel_rfl) (by kernel_rfl) (fun _ _ _ h => h) (Or.inl ⟨by kernel_rfl, fun V hSV => ?_⟩) hHeld ?_
          · (try dsimp only at hSV); go_simp
          try simp only [Act.put, List.setIfInBounds_toArray, List.set_cons_zero, List.set_cons_succ]
          refine wpAnyH_take (i := 13) (v := .agg #[.slice P4 x x4, .slice Q4 y y4]) rfl (by kernel_rfl) (by kernel_rfl) (by kernel_rfl) (fun _ _ _ h => h) (Or.inl ⟨by kernel_rfl, fun V hSV => ?_⟩) hHeld ?_
          · (try dsimp only at hSV); go_simp
          try simp only [Act.put, List.setIfInBounds_toArray, List.set_cons_zero, List.set_cons_succ]
          refine wpAnyH_take (i := 14) (v := .slice (some ad) n c) rfl (by kernel_rfl) (by kernel_rfl) (by kernel_rfl) (fun _ _ _ h => h) (Or.inl ⟨by kernel_rfl, fun V hSV => ?_⟩) hHeld ?_
          · (try dsimp only at hSV); go_simp
          try simp only [Act.put, List.setIfInBounds_toArray, List.set_cons_zero, List.set_cons_succ]
          refine wpAnyH_take (i := 15) (v := .int .i64 0) rfl (by kernel_rfl) (by kernel_rfl) (by kernel_rfl) (fun _ _ _ h => h) (Or.inl ⟨by kernel_rfl, fun V hSV => ?_⟩) hHeld ?_
          · (try dsimp only at hSV); go_simp
          try simp only [Act.put, List.setIfInBounds_toArray, List.set_cons_zero, List.set_cons_succ]
          refine wpAnyH_take (i := 16) (v := .int .i64 0) rfl (by kernel_rfl) (by kernel_rfl) (by kernel_rfl) (fun _ _ _ h => h) (Or.inl ⟨by kernel_rfl, fun V hSV => ?_⟩) hHeld ?_
          · (try dsimp only at hSV); go_simp
          try simp only [Act.put, List.setIfInBounds_toArray, List.set_cons_zero, List.set_cons_succ]
          refine wpAnyH_take (i := 17) (v := .pointer (some ad)) rfl (by kernel_rfl) (by kernel_rfl) (by kernel_rfl) (fun _ _ _ h => h) (Or.inl ⟨by kernel_rfl, fun V hSV => ?_⟩) hHeld ?_
          · (try dsimp only at hSV); go_simp
          try simp only [Act.put, List.setIfInBounds_toArray, List.set_cons_zero, List.set_cons_succ]
          refine wpAnyH_take (i := 18) (v := .pointer (some ⟨ad.block, ad.off + 1, none⟩)) rfl (by kernel_rfl) (by kernel_rfl) (by kernel_rfl) (fun _ _ _ h => h) (Or.inl ⟨by kernel_rfl, fun V hSV => ?_⟩) hHeld ?_
          · (try dsimp only at hSV); go_simp
          try simp only [Act.put, List.setIfInBounds_toArray, List.set_cons_zero, List.set_cons_succ]
          refine wpAnyH_take (i := 19) (v := .agg #[.slice P5 x e5, .slice Q5 y f5]) rfl (by kernel_rfl) (by kernel_rfl) (by kernel_rfl) (fun _ _ _ h => h) (Or.inl ⟨by kernel_rfl, fun V hSV => ?_⟩) hHeld ?_
          · (try dsimp only at hSV); go_simp
          try simp only [Act.put, List.setIfInBounds_toArray, List.set_cons_zero, List.set_cons_succ]
          refine wpAnyH_ready (rs := [20]) (by kernel_rfl) (by simp) ?_
          refine AllReadyH.cons rfl (fun K9_ hK => ?_) AllReadyH.nil
          go_simp
          refine (Hid.out HS9).mono ?_; rintro e w5_ ⟨rfl, k5_⟩
          dsimp only
          have K5_ : Hid (Kp w7 w5_) := undrew17 k5_
          clear k5_
          refine hK.out _ _ ?_ (fun hHeld => ?_)
          · exact HSS.out _ K5_.out
          clear hK
          try simp only [Act.put, List.setIfInBounds_toArray, List.set_cons_zero, List.set_cons_succ]
          refine wpAnyH_take (i := 21) (v := .bool true) rfl (by kernel_rfl) (by kernel_rfl) (by kernel_rfl) (fun _ _ _ h => h) (Or.inl ⟨by kernel_rfl, fun V hSV => ?_⟩) hHeld ?_
          · (try dsimp only at hSV); go_simp
          try simp only [Act.put, List.setIfInBounds_toArray, List.set_cons_zero, List.set_cons_succ]
          refine wpAnyH_take (i := 22) (v := .bool true) rfl (by kernel_rfl) (by kernel_rfl) (by kernel_rfl) (fun _ _ _ h => h) (Or.inl ⟨by kernel_rfl, fun V hSV => ?_⟩) hHeld ?_
          · (try dsimp only at hSV); go_simp
          try simp only [Act.put, List.setIfInBounds_toArray, List.set_cons_zero, List.set_cons_succ]
          refine wpAnyH_ready (rs := [23]) (by kernel_rfl) (by simp) ?_
          refine AllReadyH.cons rfl (fun K9_ hK => ?_) AllReadyH.nil
          go_simp
          refine hK.out _ _ ?_ (fun hHeld => ?_)
          · exact HSS.out _ K5_.out
          clear hK
          try simp only [Act.put, List.setIfInBounds_toArray, List.set_cons_zero, List.set_cons_succ]
          refine wpAnyH_done (by kernel_rfl) ?_ _
          clear hHeld
          go_wp2
          go_meet
          exact ⟨rfl, K5_.out⟩
        case rest =>
          obtain ⟨rfl, hKc⟩ := hcut
          clear q9 HSS HS9
          have KQ := Lib.hid (K7.out.tr hKc.out)
          have TAQ := Lib.hid (TA_7.out.kp hKc.out)
          have TBQ := Lib.hid (TB_7.out.kp hKc.out)
          have BAQ := Lib.hid (BA_7.out.kp hKc.out)
          have BBQ := Lib.hid (BB_7.out.kp hKc.out)
          clear hKc
          go_wp2_with fail
          refine (c3.out _ KQ.out).mono ?_; rintro e w28 ⟨rfl, k28⟩
          have K28 := Lib.hid (KQ.out.tr k28)
          have TA_28 := Lib.hid (TAQ.out.kp k28)
          have TB_28 := Lib.hid (TBQ.out.kp k28)
          have BA_28 := Lib.hid (BAQ.out.kp k28)
          have BB_28 := Lib.hid (BBQ.out.kp k28)
          clear k28
          go_wp2
          go_ret
          exact ⟨rfl, K28.out⟩
theorem ccuts_out_some (C : ChC) (A : Option Addr) (n c : Nat) (l : List Nd) (u8 s : Int) (w : World) (h : RdG w A l) (hn : n = l.length) (hc : l.length ≤ c ∧ c ≤ 9223372036854775807) (g0 : 0 ≤ u8) (g1 : u8 ≤ 255) (k : Nat) (hk : u8 % ((n : Int) + 1) = (k : Int)) (hkn : k ≤ n) (hs : In64 s) (sm : SmV l) (hl30 : l.length ≤ 30) (hf : fewC l = true) (hck : chkV l = true) (ck : k < n) (cs : ¬ s < (l.getD k nd0).1) (q : Nat) (hq : q < l.length) (hq0 : 0 < q) (ca : atC l s = (q : Int)) :
    Calls Try.prog 6 #[.slice A n c, .int .u8 u8, .int .i64 s] w fun e w' => e = .returned (.bool true) ∧ Kp w w' := by
  obtain ⟨ad, P9, e9, Q9, f9, hA9, hlt9, y0, _, _, _⟩ := h.atv (show k < l.length by omega)
  obtain ⟨v, hv⟩ : ∃ v, v = (l.getD k nd0).1 := ⟨_, rfl⟩
  rw [← hv] at y0 cs
  have HV : Hid (∀ V, Kp w V → V.cell? (ad.add (k * 3)) = some (.int .i64 v)) := fun V kV => (kV.cell (by rw [block_of_add]; exact hlt9)).trans y0
  have hkn1 : ((k : Int) == (n : Int)) = false := by rw [beq_eq_false_iff_ne]; omega
  have hmx : (0 : Int) ≤ (n : Int) - 1 := by omega
  have hmi : (k : Int) ≤ (n : Int) - 1 := by omega
  have hki : (k : Int) < (n : Int) := by omega
  have hsv : decide (s < v) = false := decide_eq_false cs
  have K0 : Hid (Kp w w) := Kp.refl w
  have HA : Hid (∀ W, Calls Try.prog 8 #[] W fun e w' => e = .returned (.bool true) ∧ Kp W w') := fun W => chawake_any C W
  have HF : Hid (∀ W, Kp w W → Calls Try.prog 9 #[.slice A n c] W fun e w' => e = .returned (.bool true) ∧ Kp W w') := fun W kW => rfew17_any A n c l W (h.kp kW) hn hf
  have HC : Hid (∀ W, Kp w W → Calls Try.prog 17 #[.slice A n c] W fun e w' => e = .returned (.bool true) ∧ Kp W w') := fun W kW => C.check A c n l true W (h.kp kW) hc sm hn hck
  obtain ⟨m, hm⟩ : ∃ m, l.take k = m := ⟨_, rfl⟩
  have hmk : m.length = k := by rw [← hm, List.length_take]; omega
  have hmc : m.length ≤ c ∧ c ≤ 9223372036854775807 := by omega
  have RM : RdG w A m := by rw [← hm]; exact h.take_ k
  have smm : SmV m := by rw [← hm]; exact sm_take sm k
  have hckm : chkV m = true := by rw [← hm]; exact chk_take' hck k
  obtain ⟨rt, rb, hr⟩ : ∃ rt rb, readC l s = (rt, rb) := ⟨_, _, rfl⟩
  obtain ⟨qt, qb, hq_⟩ : ∃ qt qb, readC m s = (qt, qb) := ⟨_, _, rfl⟩
  obtain ⟨x, hx⟩ : ∃ x, rt.1.length = x := ⟨_, rfl⟩
  obtain ⟨y, hy⟩ : ∃ y, rt.2.length = y := ⟨_, rfl⟩
  obtain ⟨x2, hx2⟩ : ∃ x, qt.1.length = x := ⟨_, rfl⟩
  obtain ⟨y2, hy2⟩ : ∃ y, qt.2.length = y := ⟨_, rfl⟩
  have c1 : Hid (∀ W, Kp w W → Calls Try.prog 11 #[.slice A n c, .int .i64 s] W (RetTB rt rb x y W)) := fun W kW => C.read A c n l s rt rb x y W (h.kp kW) hc sm hn hs hr hx hy
  have c2 : Hid (∀ W, Kp w W → Calls Try.prog 11 #[.slice A k c, .int .i64 s] W (RetTB qt qb x2 y2 W)) := fun W kW => C.read A c k m s qt qb x2 y2 W (RM.kp kW) hmc smm hmk.symm hs hq_ hx2 hy2
  have c3 : Hid (∀ W, Kp w W → Calls Try.prog 17 #[.slice A k c] W fun e w' => e = .returned (.bool true) ∧ Kp W w') := fun W kW => C.check A c k m true W (RM.kp kW) hmc smm hmk.symm hckm
  have HR : Hid (∀ W, Kp w W → RdG W A l) := fun W kW => h.kp kW
  have hn' : n ≤ 9223372036854775807 := by omega
  have hkc : k ≤ c := by omega
  have hkc2 : (k : Int) ≤ (c : Int) := by omega
  have hc' : c ≤ 9223372036854775807 := hc.2
  have hn30 : n ≤ 30 := by omega
  have hn1 : ((n : Int) + 1 == 0) = false := by simp; omega
  have hrb : readC l s = ((l.getD q nd0).2, true) := by unfold readC; rw [ca, if_pos ⟨hck, by omega⟩, Int.toNat_natCast]
  rw [hr] at hrb
  injection hrb with hrt hrb
  subst hrb
  obtain ⟨ad2, P5, e5, Q5, f5, ea2, hlt5, _, z1, z2, TZ⟩ := h.atv hq
  rw [hA9] at ea2
  injection ea2 with ea2
  subst ea2
  rw [← hrt] at z1 z2 TZ
  rw [hx] at z1
  rw [hy] at z2
  have HZ : Hid (∀ V, Kp w V → V.cell? ⟨(ad.add (q * 3)).block, (ad.add (q * 3)).off + 1, none⟩ = some (.slice P5 x e5) ∧ V.cell? ⟨(ad.add (q * 3)).block, (ad.add (q * 3)).off + 1 + 1, none⟩ = some (.slice Q5 y f5)) := fun V kV => ⟨(kV.cell (by rw [block_of_add]; exact hlt5)).trans z1, (kV.cell (by rw [block_of_add]; exact hlt5)).trans z2⟩
  have HTZ : Hid (∀ V, Kp w V → TR V P5 rt.1 Q5 rt.2) := fun V kV => TZ.r.kp kV
  have HAM : Hid (atC l s = (q : Int)) := ca
  have q0 : decide ((q : Int) < 0) = false := decide_eq_false (by omega)
  have q1 : (0 : Int) ≤ (q : Int) := by omega
  have q2 : (q : Int) < (n : Int) := by omega
  have q3 : ¬ (q : Int) ≤ 0 := by omega
  have q4 : (0 : Int) < (q : Int) := by omega
  have HJ := Lib.hid (And.intro hx (And.intro hy (And.intro hx2 hy2)))
  obtain ⟨at_, hat⟩ : ∃ a, a = atC l s := ⟨_, rfl⟩
  have HAT : Hid (at_ = atF s (l.drop 0) 0 (-1)) := hat
  rw [← hat] at HAM
  have HN := Lib.hid hn
  clear C h hn hc hs sm hl30 hf hck hm hmk hmc RM smm hckm hr hq_ hx hy hat ca hx2 hy2 hv cs y0 hlt9 hrt z1 z2 TZ hlt5 hq
  subst hA9
  by_cases hn2 : (1 : Int) < (n : Int)
  · have hn3 : ¬ (n : Int) ≤ 1 := by omega
    go_enter Try.func6, Try.ntmps6
    go_wp2_with fail
    refine (HA.out _).mono ?_; rintro e w1 ⟨rfl, k1⟩
    have K1 := Lib.hid (K0.out.tr k1)
    clear k1
    go_wp2_with fail
    refine (HF.out _ K1.out).mono ?_; rintro e w2 ⟨rfl, k2⟩
    have K2 := Lib.hid (K1.out.tr k2)
    clear k2
    go_wp2_with fail
    refine (HC.out _ K2.out).mono ?_; rintro e w3 ⟨rfl, k3⟩
    have K3 := Lib.hid (K2.out.tr k3)
    clear k3
    go_wp2_with fail
    refine (c1.out _ K3.out).mono ?_; rintro e w4 ⟨P4, x4, Q4, y4, rfl, T4, k4⟩
    have K4 := Lib.hid (K3.out.tr k4)
    clear k4
    obtain ⟨w5, hw5⟩ : ∃ V, V = w4.alloc (.cells #[.slice P4 x x4, .slice Q4 y y4] 25) := ⟨_, rfl⟩
    have HX5 := Lib.hid hw5
    have k5 : Kp w4 w5 := by rw [hw5]; exact Kp.alloc_ _ _
    have TA_5 := Lib.hid (T4.out.kp k5)
    have BA_5 : Hid (Bk w5 w4.heap.size P4 x x4 Q4 y y4) := by show Bk _ _ _ _ _ _ _ _; rw [hw5]; exact Bk.new rfl
    have K5 := Lib.hid (K4.out.tr k5)
    clear k5 hw5
    go_wp2_with fail
    rw [← HX5.out]
    refine (c2.out _ K5.out).mono ?_; rintro e w6 ⟨P6, x6, Q6, y6, rfl, T6, k6⟩
    have K6 := Lib.hid (K5.out.tr k6)
    have TA_6 := Lib.hid (TA_5.out.kp k6)
    have BA_6 := Lib.hid (BA_5.out.kp k6)
    clear k6
    obtain ⟨w7, hw7⟩ : ∃ V, V = w6.alloc (.cells #[.slice P6 x2 x6, .slice Q6 y2 y6] 25) := ⟨_, rfl⟩
    have HX7 := Lib.hid hw7
    have k7 : Kp w6 w7 := by rw [hw7]; exact Kp.alloc_ _ _
    have TA_7 := Lib.hid (TA_6.out.kp k7)
    have BA_7 := Lib.hid (BA_6.out.kp k7)
    have TB_7 := Lib.hid (T6.out.kp k7)
    have BB_7 : Hid (Bk w7 w6.heap.size P6 x2 x6 Q6 y2 y6) := by show Bk _ _ _ _ _ _ _ _; rw [hw7]; exact Bk.new rfl
    have K7 := Lib.hid (K6.out.tr k7)
    clear k7 hw7
    have yv := HV.out _ K7.out
    rw [HX7.out] at yv
    go_wp2_with fail
    rw [← HX7.out]
    clear yv
    go_loopw [14, 15] (fun o i wx => ∃ (k' : Nat) (out : Int), o = .int .i64 out ∧ i = .int .i64 (k' : Int) ∧ Hid (k' ≤ n) ∧ Hid (at_ = atF s (l.drop k') k' out) ∧ Hid (wx = w7)) (fun _ i _ => n - (intOf i).toNat)
    case atStart => exact ⟨0, -1, rfl, rfl, Nat.zero_le _, HAT.out, rfl⟩
    case round =>
      obtain ⟨k', out, rfl, rfl, hk', hT, hw⟩ := hrel
      obtain ⟨wz, hwz⟩ : ∃ wz, wz = wr := ⟨_, rfl⟩
      have hwr : w7 = wz := by rw [hwz]; exact hw.out.symm
      clear hw
      subst hwz
      subst hwr
      by_cases hj : k' < n
      · have hj' : (k' : Int) < (n : Int) := by omega
        obtain ⟨ad', P', e', Q', f', ea, hlt', hc0', _, _, _⟩ := (HR.out _ K7.out).atv (show k' < l.length by rw [← HN.out]; exact hj)
        injection ea with ea
        subst ea
        have hd := atF_drop (s := s) (out := out) (show k' < l.length by rw [← HN.out]; exact hj)
        obtain ⟨x', hx'⟩ : ∃ x, x = (l.getD k' nd0).1 := ⟨_, rfl⟩
        rw [← hx'] at hc0' hd
        by_cases hs' : x' ≤ s
        · have HT2 : Hid (at_ = atF s (l.drop (k' + 1)) (k' + 1) (k' : Int)) := by show at_ = _; rw [hT.out, hd, if_pos hs']
          clear hd hx'
          go_wp2
          go_roundw
          case rel => exact ⟨k' + 1, _, rfl, by go_num, (by show k' + 1 ≤ n; omega), HT2.out, trivial⟩
          case measure => simp [intOf]; omega
        · have HT2 : Hid (at_ = atF s (l.drop (k' + 1)) (k' + 1) out) := by show at_ = _; rw [hT.out, hd, if_neg hs']
          clear hd hx'
          go_wp2
          go_roundw
          case rel => exact ⟨k' + 1, _, rfl, by go_num, (by show k' + 1 ≤ n; omega), HT2.out, trivial⟩
          case measure => simp [intOf]; omega
      · have hj' : ¬ (k' : Int) < (n : Int) := by omega
        have HT2 : Hid (out = at_) := by show out = at_; rw [hT.out, List.drop_eq_nil_of_le (by rw [← HN.out]; omega)]; rfl
        obtain ⟨o2, ho2⟩ : ∃ o2, o2 = out := ⟨_, rfl⟩
        have HE : Hid (o2 = at_) := by show o2 = _; rw [ho2]; exact HT2.out
        subst ho2
        obtain rfl := HE.out
        obtain rfl := HAM.out
        clear hT HT2 HE HAT
        have HSS : Hid (∀ V, Kp w7 V → V.cell? ⟨w4.heap.size, 0, none⟩ = some (.slice P4 x x4) ∧ V.cell? ⟨w4.heap.size, 1, none⟩ = some (.slice Q4 y y4) ∧ V.cell? ⟨(ad.add (q * 3)).block, (ad.add (q * 3)).off + 1, none⟩ = some (.slice P5 x e5) ∧ V.cell? ⟨(ad.add (q * 3)).block, (ad.add (q * 3)).off + 1 + 1, none⟩ = some (.slice Q5 y f5)) := fun V kV => ⟨(BA_7.out.kp kV).c0, (BA_7.out.kp kV).c1, (HZ.out _ (K7.out.tr kV)).1, (HZ.out _ (K7.out.tr kV)).2⟩
        have q9 := HSS.out _ (Kp.drewN_ w7 1)
        have HS9 : Hid (Calls Try.prog 15 #[.agg #[.slice P4 x x4, .slice Q4 y y4], .agg #[.slice P5 x e5, .slice Q5 y f5]] w7.drew fun e w' => e = .returned (.bool true) ∧ Kp w7.drew w') := tsame_u (TA_7.out.r.kp (Kp.drewN_ w7 1)) (HTZ.out _ (K7.out.tr (Kp.drewN_ w7 1))) HJ.out.1 HJ.out.2.1
        go_wp2_with fail
        go_cut [16] (fun v16 wx => v16 = .bool true ∧ Hid (Kp w7 wx))
        case first =>
          refine wp_region_held_drew (S := fun V => V.cell? ⟨w4.heap.size, 0, none⟩ = some (.slice P4 x x4) ∧ V.cell? ⟨w4.heap.size, 1, none⟩ = some (.slice Q4 y y4) ∧ V.cell? ⟨(ad.add (q * 3)).block, (ad.add (q * 3)).off + 1, none⟩ = some (.slice P5 x e5) ∧ V.cell? ⟨(ad.add (q * 3)).block, (ad.add (q * 3)).off + 1 + 1, none⟩ = some (.slice Q5 y f5)) (by kernel_rfl) q9 (fun hHeld => ?_)
          try simp only [Act.put, List.setIfInBounds_toArray, List.set_cons_zero, List.set_cons_succ]
          refine wpAnyH_take (i := 0) (v := .int .i64 (q : Int)) rfl (by kernel_rfl) (by kernel_rfl) (by kernel_rfl) (fun _ _ _ h => h) (Or.inl ⟨by kernel_rfl, fun V hSV => ?_⟩) hHeld ?_
          · (try dsimp only at hSV); go_simp
          try simp only [Act.put, List.setIfInBounds_toArray, List.set_cons_zero, List.set_cons_succ]
          refine wpAnyH_take (i := 1) (v := .bool false) rfl (by kernel_rfl) (by kernel_rfl) (by kernel_rfl) (fun _ _ _ h => h) (Or.inl ⟨by kernel_rfl, fun V hSV => ?_⟩) hHeld ?_
          · (try dsimp only at hSV); go_simp
          try simp only [Act.put, List.setIfInBounds_toArray, List.set_cons_zero, List.set_cons_succ]
          refine wpAnyH_take (i := 2) (v := .bool false) rfl (by kernel_rfl) (by kernel_rfl) (by kernel_rfl) (fun _ _ _ h => h) (Or.inl ⟨by kernel_rfl, fun V hSV => ?_⟩) hHeld ?_
          · (try dsimp only at hSV); go_simp
          try simp only [Act.put, List.setIfInBounds_toArray, List.set_cons_zero, List.set_cons_succ]
          refine wpAnyH_take (i := 3) (v := undef) rfl (by kernel_rfl) (by kernel_rfl) (by kernel_rfl) (fun _ _ _ h => h) (Or.inr ⟨by kernel_rfl, rfl⟩) hHeld ?_
          try simp only [Act.put, List.setIfInBounds_toArray, List.set_cons_zero, List.set_cons_succ]
          refine wpAnyH_take (i := 4) (v := undef) rfl (by kernel_rfl) (by kernel_rfl) (by kernel_rfl) (fun _ _ _ h => h) (Or.inr ⟨by kernel_rfl, rfl⟩) hHeld ?_
          try simp only [Act.put, List.setIfInBounds_toArray, List.set_cons_zero, List.set_cons_succ]
          refine wpAnyH_take (i := 5) (v := .bool false) rfl (by kernel_rfl) (by kernel_rfl) (by kernel_rfl) (fun _ _ _ h => h) (Or.inl ⟨by kernel_rfl, fun V hSV => ?_⟩) hHeld ?_
          · (try dsimp only at hSV); go_simp
          try simp only [Act.put, List.setIfInBounds_toArray, List.set_cons_zero, List.set_cons_succ]
          refine wpAnyH_take (i := 6) (v := .bool false) rfl (by kernel_rfl) (by kernel_rfl) (by kernel_rfl) (fun _ _ _ h => h) (Or.inl ⟨by kernel_rfl, fun V hSV => ?_⟩) hHeld ?_
          · (try dsimp only at hSV); go_simp
          try simp only [Act.put, List.setIfInBounds_toArray, List.set_cons_zero, List.set_cons_succ]
          refine wpAnyH_take (i := 7) (v := .int .i64 (q : Int)) rfl (by kernel_rfl) (by kernel_rfl) (by kernel_rfl) (fun _ _ _ h => h) (Or.inl ⟨by kernel_rfl, fun V hSV => ?_⟩) hHeld ?_
          · (try dsimp only at hSV); go_simp
          try simp only [Act.put, List.setIfInBounds_toArray, List.set_cons_zero, List.set_cons_succ]
          refine wpAnyH_take (i := 8) (v := .bool true) rfl (by kernel_rfl) (by kernel_rfl) (by kernel_rfl) (fun _ _ _ h => h) (Or.inl ⟨by kernel_rfl, fun V hSV => ?_⟩) hHeld ?_
          · (try dsimp only at hSV); go_simp
          try simp only [Act.put, List.setIfInBounds_toArray, List.set_cons_zero, List.set_cons_succ]
          refine wpAnyH_take (i := 9) (v := .bool true) rfl (by kernel_rfl) (by kernel_rfl) (by kernel_rfl) (fun _ _ _ h => h) (Or.inl ⟨by kernel_rfl, fun V hSV => ?_⟩) hHeld ?_
          · (try dsimp only at hSV); go_simp
          try simp only [Act.put, List.setIfInBounds_toArray, List.set_cons_zero, List.set_cons_succ]
          refine wpAnyH_take (i := 10) (v := .bool true) rfl (by kernel_rfl) (by kernel_rfl) (by kernel_rfl) (fun _ _ _ h => h) (Or.inl ⟨by kernel_rfl, fun V hSV => ?_⟩) hHeld ?_
          · (try dsimp only at hSV); go_simp
          try simp only [Act.put, List.setIfInBounds_toArray, List.set_cons_zero, List.set_cons_succ]
          refine wpAnyH_take (i := 11) (v := .bool true) rfl (by kernel_rfl) (by kernel_rfl) (by kernel_rfl) (fun _ _ _ h => h) (Or.inl ⟨by kernel_rfl, fun V hSV => ?_⟩) hHeld ?_
          · (try dsimp only at hSV); go_simp
          try simp only [Act.put, List.setIfInBounds_toArray, List.set_cons_zero, List.set_cons_succ]
          refine wpAnyH_take (i := 12) (v := .bool true) rfl (by kernel_rfl) (by kernel_rfl) (by kernel_rfl) (fun _ _ _ h => h) (Or.inl ⟨by kernel_rfl, fun V hSV => ?_⟩) hHeld ?_
          · (try dsimp only at hSV); go_simp
          try simp only [Act.put, List.setIfInBounds_toArray, List.set_cons_zero, List.set_cons_succ]
          refine wpAnyH_take (i := 13) (v := .agg #[.slice P4 x x4, .slice Q4 y y4]) rfl (by kernel_rfl) (by kernel_rfl) (by kernel_rfl) (fun _ _ _ h => h) (Or.inl ⟨by kernel_rfl, fun V hSV => ?_⟩) hHeld ?_
          · (try dsimp only at hSV); go_simp
          try simp only [Act.put, List.setIfInBounds_toArray, List.set_cons_zero, List.set_cons_succ]
          refine wpAnyH_take (i := 14) (v := .slice (some ad) n c) rfl (by kernel_rfl) (by kernel_rfl) (by kernel_rfl) (fun _ _ _ h => h) (Or.inl ⟨by kernel_rfl, fun V hSV => ?_⟩) hHeld ?_
          · (try dsimp only at hSV); go_simp
          try simp only [Act.put, List.setIfInBounds_toArray, List.set_cons_zero, List.set_cons_succ]
          refine wpAnyH_take (i := 15) (v := .int .i64 (q : Int)) rfl (by kernel_rfl) (by kernel_rfl) (by kernel_rfl) (fun _ _ _ h => h) (Or.inl ⟨by kernel_rfl, fun V hSV => ?_⟩) hHeld ?_
          · (try dsimp only at hSV); go_simp
          try simp only [Act.put, List.setIfInBounds_toArray, List.set_cons_zero, List.set_cons_succ]
          refine wpAnyH_take (i := 16) (v := .int .i64 (q : Int)) rfl (by kernel_rfl) (by kernel_rfl) (by kernel_rfl) (fun _ _ _ h => h) (Or.inl ⟨by kernel_rfl, fun V hSV => ?_⟩) hHeld ?_
          · (try dsimp only at hSV); go_simp
          try simp only [Act.put, List.setIfInBounds_toArray, List.set_cons_zero, List.set_cons_succ]
          refine wpAnyH_take (i := 17) (v := .pointer (some (ad.add (q * 3)))) rfl (by kernel_rfl) (by kernel_rfl) (by kernel_rfl) (fun _ _ _ h => h) (Or.inl ⟨by kernel_rfl, fun V hSV => ?_⟩) hHeld ?_
          · (try dsimp only at hSV); go_simp
          try simp only [Act.put, List.setIfInBounds_toArray, List.set_cons_zero, List.set_cons_succ]
          refine wpAnyH_take (i := 18) (v := .pointer (some ⟨(ad.add (q * 3)).block, (ad.add (q * 3)).off + 1, none⟩)) rfl (by kernel_rfl) (by kernel_rfl) (by kernel_rfl) (fun _ _ _ h => h) (Or.inl ⟨by kernel_rfl, fun V hSV => ?_⟩) hHeld ?_
          · (try dsimp only at hSV); go_simp
          try simp only [Act.put, List.setIfInBounds_toArray, List.set_cons_zero, List.set_cons_succ]
          refine wpAnyH_take (i := 19) (v := .agg #[.slice P5 x e5, .slice Q5 y f5]) rfl (by kernel_rfl) (by kernel_rfl) (by kernel_rfl) (fun _ _ _ h => h) (Or.inl ⟨by kernel_rfl, fun V hSV => ?_⟩) hHeld ?_
          · (try dsimp only at hSV); go_simp
          try simp only [Act.put, List.setIfInBounds_toArray, List.set_cons_zero, List.set_cons_succ]
          refine wpAnyH_ready (rs := [20]) (by kernel_rfl) (by simp) ?_
          refine AllReadyH.cons rfl (fun K9_ hK => ?_) AllReadyH.nil
          go_simp
          refine (Hid.out HS9).mono ?_; rintro e w5_ ⟨rfl, k5_⟩
          dsimp only
          have K5_ : Hid (Kp w7 w5_) := undrew17 k5_
          clear k5_
          refine hK.out _ _ ?_ (fun hHeld => ?_)
          · exact HSS.out _ K5_.out
          clear hK
          try simp only [Act.put, List.setIfInBounds_toArray, List.set_cons_zero, List.set_cons_succ]
          refine wpAnyH_take (i := 21) (v := .bool true) rfl (by kernel_rfl) (by kernel_rfl) (by kernel_rfl) (fun _ _ _ h => h) (Or.inl ⟨by kernel_rfl, fun V hSV => ?_⟩) hHeld ?_
          · (try dsimp only at hSV); go_simp
          try simp only [Act.put, List.setIfInBounds_toArray, List.set_cons_zero, List.set_cons_succ]
          refine wpAnyH_take (i := 22) (v := .bool true) rfl (by kernel_rfl) (by kernel_rfl) (by kernel_rfl) (fun _ _ _ h => h) (Or.inl ⟨by kernel_rfl, fun V hSV => ?_⟩) hHeld ?_
          · (try dsimp only at hSV); go_simp
          try simp only [Act.put, List.setIfInBounds_toArray, List.set_cons_zero, List.set_cons_succ]
          refine wpAnyH_ready (rs := [23]) (by kernel_rfl) (by simp) ?_
          refine AllReadyH.cons rfl (fun K9_ hK => ?_) AllReadyH.nil
          go_simp
          refine hK.out _ _ ?_ (fun hHeld => ?_)
          · exact HSS.out _ K5_.out
          clear hK
          try simp only [Act.put, List.setIfInBounds_toArray, List.set_cons_zero, List.set_cons_succ]
          refine wpAnyH_done (by kernel_rfl) ?_ _
          clear hHeld
          go_wp2
          go_meet
          exact ⟨rfl, K5_.out⟩
        case rest =>
          obtain ⟨rfl, hKc⟩ := hcut
          clear q9 HSS HS9
          have KQ := Lib.hid (K7.out.tr hKc.out)
          have TAQ := Lib.hid (TA_7.out.kp hKc.out)
          have TBQ := Lib.hid (TB_7.out.kp hKc.out)
          have BAQ := Lib.hid (BA_7.out.kp hKc.out)
          have BBQ := Lib.hid (BB_7.out.kp hKc.out)
          clear hKc
          go_wp2_with fail
          refine (c3.out _ KQ.out).mono ?_; rintro e w28 ⟨rfl, k28⟩
          have K28 := Lib.hid (KQ.out.tr k28)
          have TA_28 := Lib.hid (TAQ.out.kp k28)
          have TB_28 := Lib.hid (TBQ.out.kp k28)
          have BA_28 := Lib.hid (BAQ.out.kp k28)
          have BB_28 := Lib.hid (BBQ.out.kp k28)
          clear k28
          go_wp2
          go_ret
          exact ⟨rfl, K28.out⟩
  · omega
theorem ccuts_walk (C : ChC) (A : Option Addr) (c : Nat) (l : List Nd) (u8 s : Int) (w : World) (h : RdG w A l) (N : ∀ v ∈ l, In64 v.1 ∧ N64 v.2.1 ∧ N64 v.2.2) (hc : l.length ≤ c ∧ c ≤ 9223372036854775807) (g0 : 0 ≤ u8) (g1 : u8 ≤ 255) (hs : In64 s) :
    Calls Try.prog 6 #[.slice A l.length c, .int .u8 u8, .int .i64 s] w fun e w' => e = .returned (.bool true) ∧ Kp w w' := by
  cases hf : (fewC l && chkV l) with
  | false => exact ccuts_far C A _ c l u8 s w h rfl hc _ _ rfl (fun g => ⟨(sm_few g N).1, rfl⟩) hf
  | true =>
    rw [Bool.and_eq_true] at hf
    obtain ⟨s1, s2⟩ := sm_few hf.1 N
    have hb0 : 0 ≤ u8 % ((l.length : Int) + 1) := Int.emod_nonneg _ (by omega)
    have hb1 : u8 % ((l.length : Int) + 1) < (l.length : Int) + 1 := Int.emod_lt_of_pos _ (by omega)
    obtain ⟨k, hk⟩ : ∃ k : Nat, u8 % ((l.length : Int) + 1) = (k : Int) := ⟨(u8 % ((l.length : Int) + 1)).toNat, by omega⟩
    have hkn : k ≤ l.length := by omega
    rcases at_cases l s with ⟨ca, _⟩ | ⟨q, hq, ca, _, _⟩
    · by_cases ck : k = l.length
      · exact ccuts_all_none C A _ c l u8 s w h rfl hc g0 g1 k hk hkn hs s1 s2 hf.1 hf.2 ck ca
      · by_cases cs : s < (l.getD k nd0).1
        · exact ccuts_in_none C A _ c l u8 s w h rfl hc g0 g1 k hk hkn hs s1 s2 hf.1 hf.2 (by omega) cs ca
        · exact ccuts_out_none C A _ c l u8 s w h rfl hc g0 g1 k hk hkn hs s1 s2 hf.1 hf.2 (by omega) cs ca
    · by_cases ck : k = l.length
      · rcases Nat.eq_zero_or_pos q with rfl | hq0
        · exact ccuts_all_zero C A _ c l u8 s w h rfl hc g0 g1 k hk hkn hs s1 s2 hf.1 hf.2 ck hq ca
        · exact ccuts_all_some C A _ c l u8 s w h rfl hc g0 g1 k hk hkn hs s1 s2 hf.1 hf.2 ck q hq hq0 ca
      · by_cases cs : s < (l.getD k nd0).1
        · rcases Nat.eq_zero_or_pos q with rfl | hq0
          · exact ccuts_in_zero C A _ c l u8 s w h rfl hc g0 g1 k hk hkn hs s1 s2 hf.1 hf.2 (by omega) cs hq ca
          · exact ccuts_in_some C A _ c l u8 s w h rfl hc g0 g1 k hk hkn hs s1 s2 hf.1 hf.2 (by omega) cs q hq hq0 ca
        · rcases Nat.eq_zero_or_pos q with rfl | hq0
          · exact ccuts_out_zero C A _ c l u8 s w h rfl hc g0 g1 k hk hkn hs s1 s2 hf.1 hf.2 (by omega) cs hq ca
          · exact ccuts_out_some C A _ c l u8 s w h rfl hc g0 g1 k hk hkn hs s1 s2 hf.1 hf.2 (by omega) cs q hq hq0 ca
end Go.Proofs.Ytdcpekkkenckeaa
