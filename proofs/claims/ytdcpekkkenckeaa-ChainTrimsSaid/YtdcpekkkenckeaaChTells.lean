/- ChainTells: the law's walk, over what the calls answer. -/
import Derived.Test.YtdcpekkkenckeaaChAw
import Derived.Test.YtdcpekkkenckeaaR17B
import Derived.Test.YtdcpekkkenckeaaR17D
namespace Go.Proofs.Ytdcpekkkenckeaa
open Go.RowKit Go.Proofs.ShM Go.Proofs.GrM Go.Proofs.ImM Go.Proofs.ChM
set_option linter.unusedVariables false
set_option maxRecDepth 100000
set_option maxHeartbeats 8000000

theorem TRm.alloc_ {w : World} {P Q : Option Addr} {c d : Nat} {t : T} (h : TRm w P c Q d t) (o : Obj) : TRm (w.alloc o) P c Q d t := h.kp (Kp.alloc_ _ _)
theorem RdN.lenW {w : World} {A : Option Addr} {l : List Nd} (h : RdG w A l) {k : Nat} (e : k = l.length) : k ≤ 9223372036854775807 := by have := h.1; omega
theorem ctells_far (C : ChC) (A P Q : Option Addr) (n c a e b f : Nat) (l : List Nd) (s : Int) (t : T) (w : World) (h : RdG w A l) (hn : n = l.length) (hc : l.length ≤ c ∧ c ≤ 9223372036854775807) (hT : TRm w P e Q f t) (ha : a = t.1.length) (hb : b = t.2.length) (hf : (fewC l && fewV t.1.length t.2.length) = false) :
    Calls Try.prog 3 #[.slice A n c, .int .i64 s, .agg #[.slice P a e, .slice Q b f]] w fun e w' => e = .returned (.bool true) ∧ Kp w w' := by
  have F0 : Hid (Bk (w.alloc (.cells #[.slice P a e, .slice Q b f] 25)) w.heap.size P a e Q b f) := Bk.new rfl
  have K0 : Hid (Kp w (w.alloc (.cells #[.slice P a e, .slice Q b f] 25))) := Kp.alloc_ _ _
  have HA : Hid (∀ W, Calls Try.prog 8 #[] W fun e w' => e = .returned (.bool true) ∧ Kp W w') := fun W => chawake_any C W
  have la := hT.r.s.len
  have lb := hT.r.d.len
  obtain ⟨u, hu⟩ : ∃ u, u = fewC l := ⟨_, rfl⟩
  obtain ⟨v, hv⟩ : ∃ v, v = fewV t.1.length t.2.length := ⟨_, rfl⟩
  have HF : Hid (∀ W, Kp w W → Calls Try.prog 9 #[.slice A n c] W fun e w' => e = .returned (.bool u) ∧ Kp W w') := fun W kW => rfew17_any A n c l W (h.kp kW) hn hu.symm
  have HG : Hid (∀ W, Calls Try.prog 10 #[.agg #[.slice P a e, .slice Q b f]] W fun e w' => e = .returned (.bool v) ∧ Kp W w') := fun W => by
    rw [hv, ha, hb]; exact few_any P Q e f t.1.length t.2.length _ la lb
  rw [← hu, ← hv] at hf
  clear hu hv la lb h hn hc hT ha hb C
  cases u with
  | false =>
    clear hf
    go_enter Try.func3, Try.ntmps3
    go_wp2_with fail
    refine (HA.out _).mono ?_; rintro e w1 ⟨rfl, k1⟩
    have K1 := Lib.hid (K0.out.tr k1)
    have F_1 := Lib.hid (F0.out.kp k1)
    clear k1
    go_wp2_with fail
    refine (HF.out _ K1.out).mono ?_; rintro e w2 ⟨rfl, k2⟩
    have K2 := Lib.hid (K1.out.tr k2)
    have F_2 := Lib.hid (F_1.out.kp k2)
    clear k2
    go_wp2
    go_ret
    exact ⟨rfl, K2.out⟩
  | true =>
    obtain rfl : v = false := by simpa using hf
    clear hf
    go_enter Try.func3, Try.ntmps3
    go_wp2_with fail
    refine (HA.out _).mono ?_; rintro e w1 ⟨rfl, k1⟩
    have K1 := Lib.hid (K0.out.tr k1)
    have F_1 := Lib.hid (F0.out.kp k1)
    clear k1
    go_wp2_with fail
    refine (HF.out _ K1.out).mono ?_; rintro e w2 ⟨rfl, k2⟩
    have K2 := Lib.hid (K1.out.tr k2)
    have F_2 := Lib.hid (F_1.out.kp k2)
    clear k2
    have zF0 := F_2.out.c0
    have zF1 := F_2.out.c1
    go_wp2_with fail
    refine (HG.out _).mono ?_; rintro e w3 ⟨rfl, k3⟩
    have K3 := Lib.hid (K2.out.tr k3)
    have F_3 := Lib.hid (F_2.out.kp k3)
    clear k3 zF0 zF1
    go_wp2
    go_ret
    exact ⟨rfl, K3.out⟩
theorem ctells_main (C : ChC) (A P Q : Option Addr) (n c a e b f : Nat) (l : List Nd) (s : Int) (t : T) (w : World) (h : RdG w A l) (hn : n = l.length) (hc : l.length ≤ c ∧ c ≤ 9223372036854775807) (hT : TRm w P e Q f t) (ha : a = t.1.length) (hb : b = t.2.length) (hs : In64 s) (sm : SmV l) (hl30 : l.length ≤ 30) (st : SmVt t) (hf : fewC l = true) (hg : fewV t.1.length t.2.length = true) :
    Calls Try.prog 3 #[.slice A n c, .int .i64 s, .agg #[.slice P a e, .slice Q b f]] w fun e w' => e = .returned (.bool true) ∧ Kp w w' := by
  have F0 : Hid (Bk (w.alloc (.cells #[.slice P a e, .slice Q b f] 25)) w.heap.size P a e Q b f) := Bk.new rfl
  have K0 : Hid (Kp w (w.alloc (.cells #[.slice P a e, .slice Q b f] 25))) := Kp.alloc_ _ _
  have HA : Hid (∀ W, Calls Try.prog 8 #[] W fun e w' => e = .returned (.bool true) ∧ Kp W w') := fun W => chawake_any C W
  have la := hT.r.s.len
  have lb := hT.r.d.len
  have HF : Hid (∀ W, Kp w W → Calls Try.prog 9 #[.slice A n c] W fun e w' => e = .returned (.bool true) ∧ Kp W w') := fun W kW => rfew17_any A n c l W (h.kp kW) hn hf
  have HG : Hid (∀ W, Calls Try.prog 10 #[.agg #[.slice P a e, .slice Q b f]] W fun e w' => e = .returned (.bool true) ∧ Kp W w') := fun W => by
    rw [← hg, ha, hb]; exact few_any P Q e f t.1.length t.2.length _ la lb
  obtain ⟨rt, rb, hr⟩ : ∃ rt rb, readC l s = (rt, rb) := ⟨_, _, rfl⟩
  obtain ⟨m, err, hp⟩ : ∃ m err, putC l s t = (m, err) := ⟨_, _, rfl⟩
  obtain ⟨x, hx⟩ : ∃ x, rt.1.length = x := ⟨_, rfl⟩
  obtain ⟨y, hy⟩ : ∃ y, rt.2.length = y := ⟨_, rfl⟩
  obtain ⟨j, hj⟩ : ∃ j, m.length = j := ⟨_, rfl⟩
  obtain ⟨v, hv⟩ : ∃ v, trimC l s = v := ⟨_, rfl⟩
  obtain ⟨i, hi⟩ : ∃ i, v.length = i := ⟨_, rfl⟩
  obtain ⟨cb, hcb⟩ : ∃ cb, chkV l = cb := ⟨_, rfl⟩
  obtain ⟨nb, hnb⟩ : ∃ nb, newerC l s = nb := ⟨_, rfl⟩
  have HM : Hid (∀ W, Kp w W → RdG W A l ∧ TRm W P e Q f t) := fun W kW => ⟨h.kp kW, hT.kp kW⟩
  have c1 : Hid (∀ W, Kp w W → Calls Try.prog 11 #[.slice A n c, .int .i64 s] W (RetTB rt rb x y W)) := fun W kW => C.read A c n l s rt rb x y W (h.kp kW) hc sm hn hs hr hx hy
  have c2 : Hid (∀ W, Kp w W → Calls Try.prog 12 #[.slice A n c, .int .i64 s] W (RetTB rt rb x y W)) := fun W kW => rread17_any A n c l s rt rb x y W (h.kp kW) hn hr hx hy
  have c3 : Hid (∀ W, Kp w W → Calls Try.prog 13 #[.slice A n c, .int .i64 s, .agg #[.slice P a e, .slice Q b f]] W (RetVe m err j W)) := fun W kW => C.put A P Q c n a e b f l m s err t j W (h.kp kW) hc sm hn hs (hT.kp kW) st ha hb hp hj
  have c4 : Hid (∀ W, Kp w W → Calls Try.prog 14 #[.slice A n c, .int .i64 s, .agg #[.slice P a e, .slice Q b f]] W (RetVe m err j W)) := fun W kW => rput17_any A P Q n c a e b f l m s err t j W (h.kp kW) hn hc (hT.kp kW) ha hb hp hj
  have c5 : Hid (∀ W, Kp w W → Calls Try.prog 17 #[.slice A n c] W fun e W' => e = .returned (.bool cb) ∧ Kp W W') := fun W kW => C.check A c n l cb W (h.kp kW) hc sm hn hcb
  have c6 : Hid (∀ W, Kp w W → Calls Try.prog 18 #[.slice A n c] W fun e W' => e = .returned (.bool cb) ∧ Kp W W') := fun W kW => rcheck17_any A n c l W (h.kp kW) hn hcb
  have c7 : Hid (∀ W, Kp w W → Calls Try.prog 19 #[.slice A n c, .int .i64 s] W fun e W' => e = .returned (.bool nb) ∧ Kp W W') := fun W kW => C.newer A c n l s nb W (h.kp kW) hc sm hn hs hnb
  have c8 : Hid (∀ W, Kp w W → Calls Try.prog 20 #[.slice A n c, .int .i64 s] W fun e W' => e = .returned (.bool nb) ∧ Kp W W') := fun W kW => rnewer17_any A n c l s nb W (h.kp kW) hn hnb
  have c9 : Hid (∀ W, Kp w W → Calls Try.prog 21 #[.slice A n c, .int .i64 s] W (RetV v i W)) := fun W kW => C.trim A c n i l v s W (h.kp kW) hc sm hn hs hv hi
  have c10 : Hid (∀ W, Kp w W → Calls Try.prog 22 #[.slice A n c, .int .i64 s] W (RetV v i W)) := fun W kW => rtrim17_any A n c i l v s W (h.kp kW) hn hc hv hi
  have eb : (rb == rb) = true := by simp
  have ee : (err == err) = true := by simp
  have ec : (cb == cb) = true := by simp
  have en : (nb == nb) = true := by simp
  have HJ := Lib.hid (And.intro hx (And.intro hy (And.intro hj hi)))
  clear la lb C h hn hc hT ha hb hs sm st hf hg hr hp hx hy hj hv hi hcb hnb HM
  go_enter Try.func3, Try.ntmps3
  go_wp2_with fail
  refine (HA.out _).mono ?_; rintro e w1 ⟨rfl, k1⟩
  have K1 := Lib.hid (K0.out.tr k1)
  have F_1 := Lib.hid (F0.out.kp k1)
  clear k1
  go_wp2_with fail
  refine (HF.out _ K1.out).mono ?_; rintro e w2 ⟨rfl, k2⟩
  have K2 := Lib.hid (K1.out.tr k2)
  have F_2 := Lib.hid (F_1.out.kp k2)
  clear k2
  have zF0 := F_2.out.c0
  have zF1 := F_2.out.c1
  go_wp2_with fail
  refine (HG.out _).mono ?_; rintro e w3 ⟨rfl, k3⟩
  have K3 := Lib.hid (K2.out.tr k3)
  have F_3 := Lib.hid (F_2.out.kp k3)
  clear k3 zF0 zF1
  go_wp2_with fail
  refine (c1.out _ K3.out).mono ?_; rintro e w4 ⟨P4, x4, Q4, y4, rfl, T4, k4⟩
  have K4 := Lib.hid (K3.out.tr k4)
  have F_4 := Lib.hid (F_3.out.kp k4)
  clear k4
  obtain ⟨w5, hw5⟩ : ∃ V, V = w4.alloc (.cells #[.slice P4 x x4, .slice Q4 y y4] 25) := ⟨_, rfl⟩
  have HX5 := Lib.hid hw5
  have k5 : Kp w4 w5 := by rw [hw5]; exact Kp.alloc_ _ _
  have F_5 := Lib.hid (F_4.out.kp k5)
  have TA_5 := Lib.hid (T4.out.kp k5)
  have BA_5 : Hid (Bk w5 w4.heap.size P4 x x4 Q4 y y4) := by show Bk _ _ _ _ _ _ _ _; rw [hw5]; exact Bk.new rfl
  have K5 := Lib.hid (K4.out.tr k5)
  clear k5 hw5
  go_wp2_with fail
  rw [← HX5.out]
  refine (c2.out _ K5.out).mono ?_; rintro e w6 ⟨P6, x6, Q6, y6, rfl, T6, k6⟩
  have K6 := Lib.hid (K5.out.tr k6)
  have F_6 := Lib.hid (F_5.out.kp k6)
  have TA_6 := Lib.hid (TA_5.out.kp k6)
  have BA_6 := Lib.hid (BA_5.out.kp k6)
  clear k6
  obtain ⟨w7, hw7⟩ : ∃ V, V = w6.alloc (.cells #[.slice P6 x x6, .slice Q6 y y6] 25) := ⟨_, rfl⟩
  have HX7 := Lib.hid hw7
  have k7 : Kp w6 w7 := by rw [hw7]; exact Kp.alloc_ _ _
  have F_7 := Lib.hid (F_6.out.kp k7)
  have TA_7 := Lib.hid (TA_6.out.kp k7)
  have BA_7 := Lib.hid (BA_6.out.kp k7)
  have TB_7 := Lib.hid (T6.out.kp k7)
  have BB_7 : Hid (Bk w7 w6.heap.size P6 x x6 Q6 y y6) := by show Bk _ _ _ _ _ _ _ _; rw [hw7]; exact Bk.new rfl
  have K7 := Lib.hid (K6.out.tr k7)
  clear k7 hw7
  have zF0 := F_7.out.c0
  have zF1 := F_7.out.c1
  rw [HX7.out] at zF0 zF1
  go_wp2_with fail
  rw [← HX7.out]
  refine (c3.out _ K7.out).mono ?_; rintro e w8 ⟨A8, d8, rfl, r8, l8, k8⟩
  have K8 := Lib.hid (K7.out.tr k8)
  have F_8 := Lib.hid (F_7.out.kp k8)
  have TA_8 := Lib.hid (TA_7.out.kp k8)
  have BA_8 := Lib.hid (BA_7.out.kp k8)
  have TB_8 := Lib.hid (TB_7.out.kp k8)
  have BB_8 := Lib.hid (BB_7.out.kp k8)
  clear k8 zF0 zF1
  have zF0 := F_8.out.c0
  have zF1 := F_8.out.c1
  go_wp2_with fail
  refine (c4.out _ K8.out).mono ?_; rintro e w9 ⟨A9, d9, rfl, r9, l9, k9⟩
  have K9 := Lib.hid (K8.out.tr k9)
  have F_9 := Lib.hid (F_8.out.kp k9)
  have TA_9 := Lib.hid (TA_8.out.kp k9)
  have BA_9 := Lib.hid (BA_8.out.kp k9)
  have TB_9 := Lib.hid (TB_8.out.kp k9)
  have BB_9 := Lib.hid (BB_8.out.kp k9)
  have RA_9 := Lib.hid (r8.out.kp k9)
  clear k9 zF0 zF1
  have zBA0 := BA_9.out.c0
  have zBA1 := BA_9.out.c1
  have zBB0 := BB_9.out.c0
  have zBB1 := BB_9.out.c1
  go_wp2_with fail
  refine (tsame_u TA_9.out.r TB_9.out.r HJ.out.1 HJ.out.2.1).mono ?_; rintro e w10 ⟨rfl, k10⟩
  have K10 := Lib.hid (K9.out.tr k10)
  have F_10 := Lib.hid (F_9.out.kp k10)
  have TA_10 := Lib.hid (TA_9.out.kp k10)
  have BA_10 := Lib.hid (BA_9.out.kp k10)
  have TB_10 := Lib.hid (TB_9.out.kp k10)
  have BB_10 := Lib.hid (BB_9.out.kp k10)
  have RA_10 := Lib.hid (RA_9.out.kp k10)
  have RB_10 := Lib.hid (r9.out.kp k10)
  clear k10 zBA0 zBA1 zBB0 zBB1
  go_wp2_with fail
  refine (rsame17_any A8 A9 j j d8 d9 m m _ RA_10.out RB_10.out HJ.out.2.2.1.symm HJ.out.2.2.1.symm (q := true) (by simp)).mono ?_; rintro e w11 ⟨rfl, k11⟩
  have K11 := Lib.hid (K10.out.tr k11)
  have F_11 := Lib.hid (F_10.out.kp k11)
  have TA_11 := Lib.hid (TA_10.out.kp k11)
  have BA_11 := Lib.hid (BA_10.out.kp k11)
  have TB_11 := Lib.hid (TB_10.out.kp k11)
  have BB_11 := Lib.hid (BB_10.out.kp k11)
  have RA_11 := Lib.hid (RA_10.out.kp k11)
  have RB_11 := Lib.hid (RB_10.out.kp k11)
  clear k11
  go_wp2_with fail
  refine (c5.out _ K11.out).mono ?_; rintro e w12 ⟨rfl, k12⟩
  have K12 := Lib.hid (K11.out.tr k12)
  have F_12 := Lib.hid (F_11.out.kp k12)
  have TA_12 := Lib.hid (TA_11.out.kp k12)
  have BA_12 := Lib.hid (BA_11.out.kp k12)
  have TB_12 := Lib.hid (TB_11.out.kp k12)
  have BB_12 := Lib.hid (BB_11.out.kp k12)
  have RA_12 := Lib.hid (RA_11.out.kp k12)
  have RB_12 := Lib.hid (RB_11.out.kp k12)
  clear k12
  go_wp2_with fail
  refine (c6.out _ K12.out).mono ?_; rintro e w13 ⟨rfl, k13⟩
  have K13 := Lib.hid (K12.out.tr k13)
  have F_13 := Lib.hid (F_12.out.kp k13)
  have TA_13 := Lib.hid (TA_12.out.kp k13)
  have BA_13 := Lib.hid (BA_12.out.kp k13)
  have TB_13 := Lib.hid (TB_12.out.kp k13)
  have BB_13 := Lib.hid (BB_12.out.kp k13)
  have RA_13 := Lib.hid (RA_12.out.kp k13)
  have RB_13 := Lib.hid (RB_12.out.kp k13)
  clear k13
  go_wp2_with fail
  refine (c7.out _ K13.out).mono ?_; rintro e w14 ⟨rfl, k14⟩
  have K14 := Lib.hid (K13.out.tr k14)
  have F_14 := Lib.hid (F_13.out.kp k14)
  have TA_14 := Lib.hid (TA_13.out.kp k14)
  have BA_14 := Lib.hid (BA_13.out.kp k14)
  have TB_14 := Lib.hid (TB_13.out.kp k14)
  have BB_14 := Lib.hid (BB_13.out.kp k14)
  have RA_14 := Lib.hid (RA_13.out.kp k14)
  have RB_14 := Lib.hid (RB_13.out.kp k14)
  clear k14
  go_wp2_with fail
  refine (c8.out _ K14.out).mono ?_; rintro e w15 ⟨rfl, k15⟩
  have K15 := Lib.hid (K14.out.tr k15)
  have F_15 := Lib.hid (F_14.out.kp k15)
  have TA_15 := Lib.hid (TA_14.out.kp k15)
  have BA_15 := Lib.hid (BA_14.out.kp k15)
  have TB_15 := Lib.hid (TB_14.out.kp k15)
  have BB_15 := Lib.hid (BB_14.out.kp k15)
  have RA_15 := Lib.hid (RA_14.out.kp k15)
  have RB_15 := Lib.hid (RB_14.out.kp k15)
  clear k15
  go_wp2_with fail
  refine (c9.out _ K15.out).mono ?_; rintro e w16 ⟨A16, d16, rfl, r16, l16, k16⟩
  have K16 := Lib.hid (K15.out.tr k16)
  have F_16 := Lib.hid (F_15.out.kp k16)
  have TA_16 := Lib.hid (TA_15.out.kp k16)
  have BA_16 := Lib.hid (BA_15.out.kp k16)
  have TB_16 := Lib.hid (TB_15.out.kp k16)
  have BB_16 := Lib.hid (BB_15.out.kp k16)
  have RA_16 := Lib.hid (RA_15.out.kp k16)
  have RB_16 := Lib.hid (RB_15.out.kp k16)
  clear k16
  go_wp2_with fail
  refine (c10.out _ K16.out).mono ?_; rintro e w17 ⟨A17, d17, rfl, r17, l17, k17⟩
  have K17 := Lib.hid (K16.out.tr k17)
  have F_17 := Lib.hid (F_16.out.kp k17)
  have TA_17 := Lib.hid (TA_16.out.kp k17)
  have BA_17 := Lib.hid (BA_16.out.kp k17)
  have TB_17 := Lib.hid (TB_16.out.kp k17)
  have BB_17 := Lib.hid (BB_16.out.kp k17)
  have RA_17 := Lib.hid (RA_16.out.kp k17)
  have RB_17 := Lib.hid (RB_16.out.kp k17)
  have RC_17 := Lib.hid (r16.out.kp k17)
  clear k17
  go_wp2_with fail
  refine (rsame17_any A16 A17 i i d16 d17 v v _ RC_17.out r17.out HJ.out.2.2.2.symm HJ.out.2.2.2.symm (q := true) (by simp)).mono ?_; rintro e w18 ⟨rfl, k18⟩
  have K18 := Lib.hid (K17.out.tr k18)
  have F_18 := Lib.hid (F_17.out.kp k18)
  have TA_18 := Lib.hid (TA_17.out.kp k18)
  have BA_18 := Lib.hid (BA_17.out.kp k18)
  have TB_18 := Lib.hid (TB_17.out.kp k18)
  have BB_18 := Lib.hid (BB_17.out.kp k18)
  have RA_18 := Lib.hid (RA_17.out.kp k18)
  have RB_18 := Lib.hid (RB_17.out.kp k18)
  have RC_18 := Lib.hid (RC_17.out.kp k18)
  have RD_18 := Lib.hid (r17.out.kp k18)
  clear k18
  go_wp2
  go_ret
  exact ⟨rfl, K18.out⟩
theorem ctells_walk (C : ChC) (A P Q : Option Addr) (c e f : Nat) (l : List Nd) (s : Int) (t : T) (w : World) (h : RdG w A l) (N : ∀ v ∈ l, In64 v.1 ∧ N64 v.2.1 ∧ N64 v.2.2) (hc : l.length ≤ c ∧ c ≤ 9223372036854775807) (hs : In64 s) (hT : TRm w P e Q f t) (n1 : N64 t.1 ∧ N64 t.2) :
    Calls Try.prog 3 #[.slice A l.length c, .int .i64 s, .agg #[.slice P t.1.length e, .slice Q t.2.length f]] w fun e w' => e = .returned (.bool true) ∧ Kp w w' := by
  cases hf : (fewC l && fewV t.1.length t.2.length) with
  | false => exact ctells_far C A P Q _ c _ e _ f l s t w h rfl hc hT rfl rfl hf
  | true =>
    rw [Bool.and_eq_true] at hf
    have g := hf.2
    unfold fewV at g
    simp only [Bool.and_eq_true, decide_eq_true_eq] at g
    obtain ⟨s1, s2⟩ := sm_few hf.1 N
    exact ctells_main C A P Q _ c _ e _ f l s t w h rfl hc hT rfl rfl hs s1 s2 ⟨g.1, g.2, n1⟩ hf.1 hf.2
end Go.Proofs.Ytdcpekkkenckeaa
