/- ChainPuts: the law's walk, over what the calls answer. -/
import Derived.Test.YtdcpekkkenckeaaChTells
namespace Go.Proofs.Ytdcpekkkenckeaa
open Go.RowKit Go.Proofs.ShM Go.Proofs.GrM Go.Proofs.ImM Go.Proofs.ChM
set_option linter.unusedVariables false
set_option maxRecDepth 100000
set_option maxHeartbeats 8000000

theorem cputs_far (C : ChC) (A P Q : Option Addr) (n c a e b f : Nat) (l : List Nd) (s z : Int) (t : T) (w : World) (h : RdG w A l) (hn : n = l.length) (hc : l.length ≤ c ∧ c ≤ 9223372036854775807) (hT : TRm w P e Q f t) (ha : a = t.1.length) (hb : b = t.2.length) (u v x : Bool) (hu : fewC l = u) (hv : fewV t.1.length t.2.length = v) (hx : u = true → SmV l ∧ chkV l = x) (hf : (u && (v && x)) = false) :
    Calls Try.prog 4 #[.slice A n c, .int .i64 s, .agg #[.slice P a e, .slice Q b f], .int .i64 z] w fun e w' => e = .returned (.bool true) ∧ Kp w w' := by
  have F0 : Hid (Bk (w.alloc (.cells #[.slice P a e, .slice Q b f] 25)) w.heap.size P a e Q b f) := Bk.new rfl
  have K0 : Hid (Kp w (w.alloc (.cells #[.slice P a e, .slice Q b f] 25))) := Kp.alloc_ _ _
  have HA : Hid (∀ W, Calls Try.prog 8 #[] W fun e w' => e = .returned (.bool true) ∧ Kp W w') := fun W => chawake_any C W
  have la := hT.r.s.len
  have lb := hT.r.d.len
  have HF : Hid (∀ W, Kp w W → Calls Try.prog 9 #[.slice A n c] W fun e w' => e = .returned (.bool u) ∧ Kp W w') := fun W kW => rfew17_any A n c l W (h.kp kW) hn hu
  have HG : Hid (∀ W, Calls Try.prog 10 #[.agg #[.slice P a e, .slice Q b f]] W fun e w' => e = .returned (.bool v) ∧ Kp W w') := fun W => by
    rw [← hv, ha, hb]; exact few_any P Q e f t.1.length t.2.length _ la lb
  have HC : Hid (u = true → ∀ W, Kp w W → Calls Try.prog 17 #[.slice A n c] W fun e w' => e = .returned (.bool x) ∧ Kp W w') := fun g W kW => C.check A c n l x W (h.kp kW) hc (hx g).1 hn (hx g).2
  clear hu hv hx la lb h hn hc hT ha hb C
  cases u with
  | false =>
    clear hf
    go_enter Try.func4, Try.ntmps4
    go_wp2_with fail
    refine (HA.out _).mono ?_; rintro e w1 ⟨rfl, k1⟩
    have K1 := Lib.hid (K0.out.tr k1)
    have F_1 := Lib.hid (F0.out.kp k1)
    clear k1
    go_wp2_with fail
    refine (HF.out _ K1.out).mono ?_; rintro e w2 ⟨rfl, k2⟩
    have K2 := Lib.hid (K1.out.tr k2)
    have F_2 := Lib.hid (F_1.out.kp k2)
    clear k2
    go_wp2
    go_ret
    exact ⟨rfl, K2.out⟩
  | true =>
    cases v with
    | false =>
      clear hf
      go_enter Try.func4, Try.ntmps4
      go_wp2_with fail
      refine (HA.out _).mono ?_; rintro e w1 ⟨rfl, k1⟩
      have K1 := Lib.hid (K0.out.tr k1)
      have F_1 := Lib.hid (F0.out.kp k1)
      clear k1
      go_wp2_with fail
      refine (HF.out _ K1.out).mono ?_; rintro e w2 ⟨rfl, k2⟩
      have K2 := Lib.hid (K1.out.tr k2)
      have F_2 := Lib.hid (F_1.out.kp k2)
      clear k2
      have zF0 := F_2.out.c0
      have zF1 := F_2.out.c1
      go_wp2_with fail
      refine (HG.out _).mono ?_; rintro e w3 ⟨rfl, k3⟩
      have K3 := Lib.hid (K2.out.tr k3)
      have F_3 := Lib.hid (F_2.out.kp k3)
      clear k3 zF0 zF1
      go_wp2
      go_ret
      exact ⟨rfl, K3.out⟩
    | true =>
      obtain rfl : x = false := by simpa using hf
      clear hf
      go_enter Try.func4, Try.ntmps4
      go_wp2_with fail
      refine (HA.out _).mono ?_; rintro e w1 ⟨rfl, k1⟩
      have K1 := Lib.hid (K0.out.tr k1)
      have F_1 := Lib.hid (F0.out.kp k1)
      clear k1
      go_wp2_with fail
      refine (HF.out _ K1.out).mono ?_; rintro e w2 ⟨rfl, k2⟩
      have K2 := Lib.hid (K1.out.tr k2)
      have F_2 := Lib.hid (F_1.out.kp k2)
      clear k2
      have zF0 := F_2.out.c0
      have zF1 := F_2.out.c1
      go_wp2_with fail
      refine (HG.out _).mono ?_; rintro e w3 ⟨rfl, k3⟩
      have K3 := Lib.hid (K2.out.tr k3)
      have F_3 := Lib.hid (F_2.out.kp k3)
      clear k3 zF0 zF1
      go_wp2_with fail
      refine (HC.out (by trivial) _ K3.out).mono ?_; rintro e w4 ⟨rfl, k4⟩
      have K4 := Lib.hid (K3.out.tr k4)
      have F_4 := Lib.hid (F_3.out.kp k4)
      clear k4
      go_wp2
      go_ret
      exact ⟨rfl, K4.out⟩
theorem cputs_main (C : ChC) (A P Q : Option Addr) (n c a e b f : Nat) (l : List Nd) (s z : Int) (t : T) (w : World) (h : RdG w A l) (hn : n = l.length) (hc : l.length ≤ c ∧ c ≤ 9223372036854775807) (hT : TRm w P e Q f t) (ha : a = t.1.length) (hb : b = t.2.length) (hs : In64 s) (hz : In64 z) (sm : SmV l) (hl30 : l.length ≤ 30) (st : SmVt t) (hf : fewC l = true) (hg : fewV t.1.length t.2.length = true) (hk : chkV l = true) :
    Calls Try.prog 4 #[.slice A n c, .int .i64 s, .agg #[.slice P a e, .slice Q b f], .int .i64 z] w fun e w' => e = .returned (.bool true) ∧ Kp w w' := by
  have F0 : Hid (Bk (w.alloc (.cells #[.slice P a e, .slice Q b f] 25)) w.heap.size P a e Q b f) := Bk.new rfl
  have K0 : Hid (Kp w (w.alloc (.cells #[.slice P a e, .slice Q b f] 25))) := Kp.alloc_ _ _
  have HA : Hid (∀ W, Calls Try.prog 8 #[] W fun e w' => e = .returned (.bool true) ∧ Kp W w') := fun W => chawake_any C W
  have la := hT.r.s.len
  have lb := hT.r.d.len
  have HF : Hid (∀ W, Kp w W → Calls Try.prog 9 #[.slice A n c] W fun e w' => e = .returned (.bool true) ∧ Kp W w') := fun W kW => rfew17_any A n c l W (h.kp kW) hn hf
  have HG : Hid (∀ W, Calls Try.prog 10 #[.agg #[.slice P a e, .slice Q b f]] W fun e w' => e = .returned (.bool true) ∧ Kp W w') := fun W => by
    rw [← hg, ha, hb]; exact few_any P Q e f t.1.length t.2.length _ la lb
  have HC : Hid (∀ W, Kp w W → Calls Try.prog 17 #[.slice A n c] W fun e w' => e = .returned (.bool true) ∧ Kp W w') := fun W kW => C.check A c n l true W (h.kp kW) hc sm hn hk
  obtain ⟨m, err, hp⟩ : ∃ m err, putC l s t = (m, err) := ⟨_, _, rfl⟩
  obtain ⟨j, hj⟩ : ∃ j, m.length = j := ⟨_, rfl⟩
  have HP : Hid (∀ W, Kp w W → Calls Try.prog 13 #[.slice A n c, .int .i64 s, .agg #[.slice P a e, .slice Q b f]] W (RetVe m err j W)) := fun W kW => C.put A P Q c n a e b f l m s err t j W (h.kp kW) hc sm hn hs (hT.kp kW) st ha hb hp hj
  have HL : Hid (∀ W, Kp w W → RdG W A l ∧ TRm W P e Q f t) := fun W kW => ⟨h.kp kW, hT.kp kW⟩
  by_cases he : err = 0
  · subst he
    have smm : SmV m := sm_put hp sm (by omega) hs st
    obtain ⟨rt, rb, hr⟩ : ∃ rt rb, readC m z = (rt, rb) := ⟨_, _, rfl⟩
    obtain ⟨qt, qb, hq⟩ : ∃ qt qb, readC l z = (qt, qb) := ⟨_, _, rfl⟩
    obtain ⟨x, hx⟩ : ∃ x, rt.1.length = x := ⟨_, rfl⟩
    obtain ⟨y, hy⟩ : ∃ y, rt.2.length = y := ⟨_, rfl⟩
    obtain ⟨x2, hx2⟩ : ∃ x, qt.1.length = x := ⟨_, rfl⟩
    obtain ⟨y2, hy2⟩ : ∃ y, qt.2.length = y := ⟨_, rfl⟩
    obtain ⟨nb, hnb⟩ : ∃ nb, newerC m z = nb := ⟨_, rfl⟩
    have hck : chkV m = true := put_chk hp
    have c1 : Hid (∀ A' c' W, RdG W A' m → m.length ≤ c' ∧ c' ≤ 9223372036854775807 → Calls Try.prog 11 #[.slice A' j c', .int .i64 z] W (RetTB rt rb x y W)) := fun A' c' W h1 h2 => C.read A' c' j m z rt rb x y W h1 h2 smm hj.symm hz hr hx hy
    have c2 : Hid (∀ W, Kp w W → Calls Try.prog 11 #[.slice A n c, .int .i64 z] W (RetTB qt qb x2 y2 W)) := fun W kW => C.read A c n l z qt qb x2 y2 W (h.kp kW) hc sm hn hz hq hx2 hy2
    have c3 : Hid (∀ A' c' W, RdG W A' m → m.length ≤ c' ∧ c' ≤ 9223372036854775807 → Calls Try.prog 19 #[.slice A' j c', .int .i64 z] W fun e W' => e = .returned (.bool nb) ∧ Kp W W') := fun A' c' W h1 h2 => C.newer A' c' j m z nb W h1 h2 smm hj.symm hz hnb
    have c4 : Hid (∀ A' c' W, RdG W A' m → m.length ≤ c' ∧ c' ≤ 9223372036854775807 → Calls Try.prog 17 #[.slice A' j c'] W fun e W' => e = .returned (.bool true) ∧ Kp W W') := fun A' c' W h1 h2 => C.check A' c' j m true W h1 h2 smm hj.symm hck
    have HJ := Lib.hid (And.intro hx (And.intro hy (And.intro hx2 (And.intro hy2 (And.intro ha hb)))))
    have pr := puts_read hp z
    by_cases hsz : s ≤ z
    · obtain ⟨p1, p2⟩ := pr.1 hsz
      rw [hr] at p1
      injection p1 with e1 e2
      rw [hnb] at p2
      subst e1 e2 p2
      clear pr la lb C h hn hc hT ha hb hs sm st hf hg hk hp hj hr hq hx hy hx2 hy2 hnb hck smm hz
      have HJ2 : Hid (x = a ∧ y = b) := ⟨by rw [← HJ.out.1]; exact HJ.out.2.2.2.2.1.symm, by rw [← HJ.out.2.1]; exact HJ.out.2.2.2.2.2.symm⟩
      obtain ⟨rfl, rfl⟩ := HJ2.out
      go_enter Try.func4, Try.ntmps4
      go_wp2_with fail
      refine (HA.out _).mono ?_; rintro e w1 ⟨rfl, k1⟩
      have K1 := Lib.hid (K0.out.tr k1)
      have F_1 := Lib.hid (F0.out.kp k1)
      clear k1
      go_wp2_with fail
      refine (HF.out _ K1.out).mono ?_; rintro e w2 ⟨rfl, k2⟩
      have K2 := Lib.hid (K1.out.tr k2)
      have F_2 := Lib.hid (F_1.out.kp k2)
      clear k2
      have zF0 := F_2.out.c0
      have zF1 := F_2.out.c1
      go_wp2_with fail
      refine (HG.out _).mono ?_; rintro e w3 ⟨rfl, k3⟩
      have K3 := Lib.hid (K2.out.tr k3)
      have F_3 := Lib.hid (F_2.out.kp k3)
      clear k3 zF0 zF1
      go_wp2_with fail
      refine (HC.out _ K3.out).mono ?_; rintro e w4 ⟨rfl, k4⟩
      have K4 := Lib.hid (K3.out.tr k4)
      have F_4 := Lib.hid (F_3.out.kp k4)
      clear k4
      have zF0 := F_4.out.c0
      have zF1 := F_4.out.c1
      go_wp2_with fail
      refine (HP.out _ K4.out).mono ?_; rintro e w5 ⟨A5, d5, rfl, r5, l5, k5⟩
      have K5 := Lib.hid (K4.out.tr k5)
      have F_5 := Lib.hid (F_4.out.kp k5)
      clear k5 zF0 zF1
      go_wp2_with fail
      refine (c1.out A5 d5 _ r5.out l5.out).mono ?_; rintro e w6 ⟨P6, x6, Q6, y6, rfl, T6, k6⟩
      have K6 := Lib.hid (K5.out.tr k6)
      have F_6 := Lib.hid (F_5.out.kp k6)
      have RM_6 := Lib.hid (r5.out.kp k6)
      clear k6
      obtain ⟨w7, hw7⟩ : ∃ V, V = w6.alloc (.cells #[.slice P6 x x6, .slice Q6 y y6] 25) := ⟨_, rfl⟩
      have HX7 := Lib.hid hw7
      have k7 : Kp w6 w7 := by rw [hw7]; exact Kp.alloc_ _ _
      have F_7 := Lib.hid (F_6.out.kp k7)
      have RM_7 := Lib.hid (RM_6.out.kp k7)
      have TA_7 := Lib.hid (T6.out.kp k7)
      have BA_7 : Hid (Bk w7 w6.heap.size P6 x x6 Q6 y y6) := by show Bk _ _ _ _ _ _ _ _; rw [hw7]; exact Bk.new rfl
      have K7 := Lib.hid (K6.out.tr k7)
      clear k7 hw7
      go_wp2_with fail
      rw [← HX7.out]
      refine (c2.out _ K7.out).mono ?_; rintro e w8 ⟨P8, x8, Q8, y8, rfl, T8, k8⟩
      have K8 := Lib.hid (K7.out.tr k8)
      have F_8 := Lib.hid (F_7.out.kp k8)
      have RM_8 := Lib.hid (RM_7.out.kp k8)
      have TA_8 := Lib.hid (TA_7.out.kp k8)
      have BA_8 := Lib.hid (BA_7.out.kp k8)
      clear k8
      obtain ⟨w9, hw9⟩ : ∃ V, V = w8.alloc (.cells #[.slice P8 x2 x8, .slice Q8 y2 y8] 25) := ⟨_, rfl⟩
      have HX9 := Lib.hid hw9
      have k9 : Kp w8 w9 := by rw [hw9]; exact Kp.alloc_ _ _
      have F_9 := Lib.hid (F_8.out.kp k9)
      have RM_9 := Lib.hid (RM_8.out.kp k9)
      have TA_9 := Lib.hid (TA_8.out.kp k9)
      have BA_9 := Lib.hid (BA_8.out.kp k9)
      have TB_9 := Lib.hid (T8.out.kp k9)
      have BB_9 : Hid (Bk w9 w8.heap.size P8 x2 x8 Q8 y2 y8) := by show Bk _ _ _ _ _ _ _ _; rw [hw9]; exact Bk.new rfl
      have K9 := Lib.hid (K8.out.tr k9)
      clear k9 hw9
      have zBA0 := BA_9.out.c0
      have zBA1 := BA_9.out.c1
      have zF0 := F_9.out.c0
      have zF1 := F_9.out.c1
      rw [HX9.out] at zBA0 zBA1 zF0 zF1
      go_wp2_with fail
      rw [← HX9.out]
      refine (tsame_u TA_9.out.r (HL.out _ K9.out).2.r HJ.out.1 HJ.out.2.1).mono ?_; rintro e w10 ⟨rfl, k10⟩
      have K10 := Lib.hid (K9.out.tr k10)
      have F_10 := Lib.hid (F_9.out.kp k10)
      have RM_10 := Lib.hid (RM_9.out.kp k10)
      have TA_10 := Lib.hid (TA_9.out.kp k10)
      have BA_10 := Lib.hid (BA_9.out.kp k10)
      have TB_10 := Lib.hid (TB_9.out.kp k10)
      have BB_10 := Lib.hid (BB_9.out.kp k10)
      clear k10 zBA0 zBA1 zF0 zF1
      go_wp2_with fail
      refine (c3.out A5 d5 _ RM_10.out l5.out).mono ?_; rintro e w11 ⟨rfl, k11⟩
      have K11 := Lib.hid (K10.out.tr k11)
      have F_11 := Lib.hid (F_10.out.kp k11)
      have RM_11 := Lib.hid (RM_10.out.kp k11)
      have TA_11 := Lib.hid (TA_10.out.kp k11)
      have BA_11 := Lib.hid (BA_10.out.kp k11)
      have TB_11 := Lib.hid (TB_10.out.kp k11)
      have BB_11 := Lib.hid (BB_10.out.kp k11)
      clear k11
      go_wp2_with fail
      refine (c4.out A5 d5 _ RM_11.out l5.out).mono ?_; rintro e w12 ⟨rfl, k12⟩
      have K12 := Lib.hid (K11.out.tr k12)
      have F_12 := Lib.hid (F_11.out.kp k12)
      have RM_12 := Lib.hid (RM_11.out.kp k12)
      have TA_12 := Lib.hid (TA_11.out.kp k12)
      have BA_12 := Lib.hid (BA_11.out.kp k12)
      have TB_12 := Lib.hid (TB_11.out.kp k12)
      have BB_12 := Lib.hid (BB_11.out.kp k12)
      clear k12
      go_wp2
      go_ret
      exact ⟨rfl, K12.out⟩
    · obtain ⟨p1, p2⟩ := pr.2 (by omega)
      rw [hr, hq] at p1
      injection p1 with e1 e2
      rw [hnb] at p2
      subst e1 e2 p2
      obtain rfl : x = x2 := hx.symm.trans hx2
      obtain rfl : y = y2 := hy.symm.trans hy2
      have eb : (rb == rb) = true := by simp
      clear pr la lb C h hn hc hT ha hb hs sm st hf hg hk hp hj hr hq hx hy hx2 hy2 hnb hck smm hz
      go_enter Try.func4, Try.ntmps4
      go_wp2_with fail
      refine (HA.out _).mono ?_; rintro e w1 ⟨rfl, k1⟩
      have K1 := Lib.hid (K0.out.tr k1)
      have F_1 := Lib.hid (F0.out.kp k1)
      clear k1
      go_wp2_with fail
      refine (HF.out _ K1.out).mono ?_; rintro e w2 ⟨rfl, k2⟩
      have K2 := Lib.hid (K1.out.tr k2)
      have F_2 := Lib.hid (F_1.out.kp k2)
      clear k2
      have zF0 := F_2.out.c0
      have zF1 := F_2.out.c1
      go_wp2_with fail
      refine (HG.out _).mono ?_; rintro e w3 ⟨rfl, k3⟩
      have K3 := Lib.hid (K2.out.tr k3)
      have F_3 := Lib.hid (F_2.out.kp k3)
      clear k3 zF0 zF1
      go_wp2_with fail
      refine (HC.out _ K3.out).mono ?_; rintro e w4 ⟨rfl, k4⟩
      have K4 := Lib.hid (K3.out.tr k4)
      have F_4 := Lib.hid (F_3.out.kp k4)
      clear k4
      have zF0 := F_4.out.c0
      have zF1 := F_4.out.c1
      go_wp2_with fail
      refine (HP.out _ K4.out).mono ?_; rintro e w5 ⟨A5, d5, rfl, r5, l5, k5⟩
      have K5 := Lib.hid (K4.out.tr k5)
      have F_5 := Lib.hid (F_4.out.kp k5)
      clear k5 zF0 zF1
      go_wp2_with fail
      refine (c1.out A5 d5 _ r5.out l5.out).mono ?_; rintro e w6 ⟨P6, x6, Q6, y6, rfl, T6, k6⟩
      have K6 := Lib.hid (K5.out.tr k6)
      have F_6 := Lib.hid (F_5.out.kp k6)
      have RM_6 := Lib.hid (r5.out.kp k6)
      clear k6
      obtain ⟨w7, hw7⟩ : ∃ V, V = w6.alloc (.cells #[.slice P6 x x6, .slice Q6 y y6] 25) := ⟨_, rfl⟩
      have HX7 := Lib.hid hw7
      have k7 : Kp w6 w7 := by rw [hw7]; exact Kp.alloc_ _ _
      have F_7 := Lib.hid (F_6.out.kp k7)
      have RM_7 := Lib.hid (RM_6.out.kp k7)
      have TA_7 := Lib.hid (T6.out.kp k7)
      have BA_7 : Hid (Bk w7 w6.heap.size P6 x x6 Q6 y y6) := by show Bk _ _ _ _ _ _ _ _; rw [hw7]; exact Bk.new rfl
      have K7 := Lib.hid (K6.out.tr k7)
      clear k7 hw7
      go_wp2_with fail
      rw [← HX7.out]
      refine (c2.out _ K7.out).mono ?_; rintro e w8 ⟨P8, x8, Q8, y8, rfl, T8, k8⟩
      have K8 := Lib.hid (K7.out.tr k8)
      have F_8 := Lib.hid (F_7.out.kp k8)
      have RM_8 := Lib.hid (RM_7.out.kp k8)
      have TA_8 := Lib.hid (TA_7.out.kp k8)
      have BA_8 := Lib.hid (BA_7.out.kp k8)
      clear k8
      obtain ⟨w9, hw9⟩ : ∃ V, V = w8.alloc (.cells #[.slice P8 x x8, .slice Q8 y y8] 25) := ⟨_, rfl⟩
      have HX9 := Lib.hid hw9
      have k9 : Kp w8 w9 := by rw [hw9]; exact Kp.alloc_ _ _
      have F_9 := Lib.hid (F_8.out.kp k9)
      have RM_9 := Lib.hid (RM_8.out.kp k9)
      have TA_9 := Lib.hid (TA_8.out.kp k9)
      have BA_9 := Lib.hid (BA_8.out.kp k9)
      have TB_9 := Lib.hid (T8.out.kp k9)
      have BB_9 : Hid (Bk w9 w8.heap.size P8 x x8 Q8 y y8) := by show Bk _ _ _ _ _ _ _ _; rw [hw9]; exact Bk.new rfl
      have K9 := Lib.hid (K8.out.tr k9)
      clear k9 hw9
      have zBA0 := BA_9.out.c0
      have zBA1 := BA_9.out.c1
      have zBB0 := BB_9.out.c0
      have zBB1 := BB_9.out.c1
      rw [HX9.out] at zBA0 zBA1 zBB0 zBB1
      go_wp2_with fail
      rw [← HX9.out]
      refine (tsame_u TA_9.out.r TB_9.out.r HJ.out.1 HJ.out.2.1).mono ?_; rintro e w10 ⟨rfl, k10⟩
      have K10 := Lib.hid (K9.out.tr k10)
      have F_10 := Lib.hid (F_9.out.kp k10)
      have RM_10 := Lib.hid (RM_9.out.kp k10)
      have TA_10 := Lib.hid (TA_9.out.kp k10)
      have BA_10 := Lib.hid (BA_9.out.kp k10)
      have TB_10 := Lib.hid (TB_9.out.kp k10)
      have BB_10 := Lib.hid (BB_9.out.kp k10)
      clear k10 zBA0 zBA1 zBB0 zBB1
      go_wp2_with fail
      refine (c3.out A5 d5 _ RM_10.out l5.out).mono ?_; rintro e w11 ⟨rfl, k11⟩
      have K11 := Lib.hid (K10.out.tr k11)
      have F_11 := Lib.hid (F_10.out.kp k11)
      have RM_11 := Lib.hid (RM_10.out.kp k11)
      have TA_11 := Lib.hid (TA_10.out.kp k11)
      have BA_11 := Lib.hid (BA_10.out.kp k11)
      have TB_11 := Lib.hid (TB_10.out.kp k11)
      have BB_11 := Lib.hid (BB_10.out.kp k11)
      clear k11
      go_wp2_with fail
      refine (c4.out A5 d5 _ RM_11.out l5.out).mono ?_; rintro e w12 ⟨rfl, k12⟩
      have K12 := Lib.hid (K11.out.tr k12)
      have F_12 := Lib.hid (F_11.out.kp k12)
      have RM_12 := Lib.hid (RM_11.out.kp k12)
      have TA_12 := Lib.hid (TA_11.out.kp k12)
      have BA_12 := Lib.hid (BA_11.out.kp k12)
      have TB_12 := Lib.hid (TB_11.out.kp k12)
      have BB_12 := Lib.hid (BB_11.out.kp k12)
      clear k12
      go_wp2
      go_ret
      exact ⟨rfl, K12.out⟩
  · obtain rfl : m = l := put_err' hp he
    have en : (err != 0) = true := by simpa using he
    have HN := Lib.hid (And.intro hj hn)
    clear la lb C h hn hc hT ha hb hs sm st hf hg hk hp hj he hz
    go_enter Try.func4, Try.ntmps4
    go_wp2_with fail
    refine (HA.out _).mono ?_; rintro e w1 ⟨rfl, k1⟩
    have K1 := Lib.hid (K0.out.tr k1)
    have F_1 := Lib.hid (F0.out.kp k1)
    clear k1
    go_wp2_with fail
    refine (HF.out _ K1.out).mono ?_; rintro e w2 ⟨rfl, k2⟩
    have K2 := Lib.hid (K1.out.tr k2)
    have F_2 := Lib.hid (F_1.out.kp k2)
    clear k2
    have zF0 := F_2.out.c0
    have zF1 := F_2.out.c1
    go_wp2_with fail
    refine (HG.out _).mono ?_; rintro e w3 ⟨rfl, k3⟩
    have K3 := Lib.hid (K2.out.tr k3)
    have F_3 := Lib.hid (F_2.out.kp k3)
    clear k3 zF0 zF1
    go_wp2_with fail
    refine (HC.out _ K3.out).mono ?_; rintro e w4 ⟨rfl, k4⟩
    have K4 := Lib.hid (K3.out.tr k4)
    have F_4 := Lib.hid (F_3.out.kp k4)
    clear k4
    have zF0 := F_4.out.c0
    have zF1 := F_4.out.c1
    go_wp2_with fail
    refine (HP.out _ K4.out).mono ?_; rintro e w5 ⟨A5, d5, rfl, r5, l5, k5⟩
    have K5 := Lib.hid (K4.out.tr k5)
    have F_5 := Lib.hid (F_4.out.kp k5)
    clear k5 zF0 zF1
    go_wp2_with fail
    refine (rsame17_any A5 A j n d5 c m m _ r5.out (HL.out _ K5.out).1 HN.out.1.symm HN.out.2 (q := true) (by simp)).mono ?_; rintro e w6 ⟨rfl, k6⟩
    have K6 := Lib.hid (K5.out.tr k6)
    have F_6 := Lib.hid (F_5.out.kp k6)
    have RM_6 := Lib.hid (r5.out.kp k6)
    clear k6
    go_wp2
    go_ret
    exact ⟨rfl, K6.out⟩
theorem cputs_walk (C : ChC) (A P Q : Option Addr) (c e f : Nat) (l : List Nd) (s z : Int) (t : T) (w : World) (h : RdG w A l) (N : ∀ v ∈ l, In64 v.1 ∧ N64 v.2.1 ∧ N64 v.2.2) (hc : l.length ≤ c ∧ c ≤ 9223372036854775807) (hs : In64 s) (hz : In64 z) (hT : TRm w P e Q f t) (n1 : N64 t.1 ∧ N64 t.2) :
    Calls Try.prog 4 #[.slice A l.length c, .int .i64 s, .agg #[.slice P t.1.length e, .slice Q t.2.length f], .int .i64 z] w fun e w' => e = .returned (.bool true) ∧ Kp w w' := by
  cases hf : (fewC l && (fewV t.1.length t.2.length && chkV l)) with
  | false => exact cputs_far C A P Q _ c _ e _ f l s z t w h rfl hc hT rfl rfl _ _ _ rfl rfl (fun g => ⟨(sm_few g N).1, rfl⟩) hf
  | true =>
    rw [Bool.and_eq_true, Bool.and_eq_true] at hf
    have g := hf.2.1
    unfold fewV at g
    simp only [Bool.and_eq_true, decide_eq_true_eq] at g
    obtain ⟨s1, s2⟩ := sm_few hf.1 N
    exact cputs_main C A P Q _ c _ e _ f l s z t w h rfl hc hT rfl rfl hs hz s1 s2 ⟨g.1, g.2, n1⟩ hf.1 hf.2.1 hf.2.2
end Go.Proofs.Ytdcpekkkenckeaa
