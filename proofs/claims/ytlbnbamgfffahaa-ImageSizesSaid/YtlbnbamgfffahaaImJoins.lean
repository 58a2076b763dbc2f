/- ImageJoins, over the contracts of the calls. -/
import Derived.Test.YtlbnbamgfffahaaImApart
namespace Go.Proofs.Ytlbnbamgfffahaa
open Go.RowKit Go.Proofs.ShM Go.Proofs.PkM Go.Proofs.ImM
set_option linter.unusedVariables false

theorem ap_old {w W : World} {A : Option Addr} {ts : List T} {v : Value} (h : RdX w (fun k => k < w.heap.size) A ts) (k : Kp w W) (ho : ∀ k, v.ownBlock = some k → w.heap.size ≤ k) : RdX W (fun k => v.ownBlock ≠ some k) A ts :=
  h.mono k fun j _ hj e => by have := ho j e; omega
/-- Whether a tensor is small, answered. -/
def FewU (P Q : Option Addr) (n c m d : Nat) (q : Bool) : Prop := ∀ W, Calls Try.prog 10 #[.agg #[.slice P n c, .slice Q m d]] W fun e w' => e = .returned (.bool q) ∧ Kp W w'
set_option maxHeartbeats 8000000 in
theorem imjoins_far (HW : ∀ w : World, Calls Try.prog 8 #[] w fun e w' => e = .returned (.bool true) ∧ Kp w w') (A B P Q D : Option Addr) (c d p q n m e f k g : Nat) (w : World) (hk : k ≤ 9223372036854775807)
    (h : FewC A c p w false ∨ FewC A c p w true ∧ (FewC B d q w false ∨ FewC B d q w true ∧ (FewU P Q n e m f false ∨ FewU P Q n e m f true ∧ (1000 : Int) < (k : Int)))) :
    Calls Try.prog 6 #[.slice A p c, .slice B q d, .agg #[.slice P n e, .slice Q m f], .slice D k g] w fun e w' => e = .returned (.bool true) ∧ Kp w w' := by
  have HAW := Lib.hid HW
  clear HW
  have F0 := Lib.hid (Bk.new (W := w) (b := w.heap.size) (A := P) (n := n) (c := e) (B := Q) (m := m) (d := f) rfl)
  have K0 : Hid (Kp w (w.alloc (.cells #[.slice P n e, .slice Q m f] 26))) := Kp.alloc_ _ _
  rcases h with h | ⟨h, h2⟩
  · have H := Lib.hid h
    clear h
    go_enter Try.func6, Try.ntmps6
    go_wp2_with fail
    refine (HAW.out _).mono ?_; rintro e0 w1 ⟨rfl, k1⟩
    have K1 := Lib.hid (K0.out.tr k1)
    have p0 := (F0.out.kp k1).c0
    have p1 := (F0.out.kp k1).c1
    clear k1
    go_wp2_with fail
    refine (H.out _ K1.out).mono ?_; rintro e0 w2 ⟨rfl, k2⟩
    have K2 := Lib.hid (K1.out.tr k2)
    clear k2 p0 p1
    go_wp2
    go_ret
    exact ⟨rfl, K2.out⟩
  rcases h2 with h2 | ⟨h2, h3⟩
  · have H := Lib.hid h
    have H2 := Lib.hid h2
    clear h h2
    go_enter Try.func6, Try.ntmps6
    go_wp2_with fail
    refine (HAW.out _).mono ?_; rintro e0 w1 ⟨rfl, k1⟩
    have K1 := Lib.hid (K0.out.tr k1)
    clear k1
    go_wp2_with fail
    refine (H.out _ K1.out).mono ?_; rintro e0 w2 ⟨rfl, k2⟩
    have K2 := Lib.hid (K1.out.tr k2)
    clear k2
    go_wp2_with fail
    refine (H2.out _ K2.out).mono ?_; rintro e0 w3 ⟨rfl, k3⟩
    have K3 := Lib.hid (K2.out.tr k3)
    clear k3
    go_wp2
    go_ret
    exact ⟨rfl, K3.out⟩
  rcases h3 with h3 | ⟨h3, h4⟩
  · have H := Lib.hid h
    have H2 := Lib.hid h2
    have H3 := Lib.hid h3
    clear h h2 h3
    go_enter Try.func6, Try.ntmps6
    go_wp2_with fail
    refine (HAW.out _).mono ?_; rintro e0 w1 ⟨rfl, k1⟩
    have K1 := Lib.hid (K0.out.tr k1)
    have F1 := Lib.hid (F0.out.kp k1)
    clear k1
    go_wp2_with fail
    refine (H.out _ K1.out).mono ?_; rintro e0 w2 ⟨rfl, k2⟩
    have K2 := Lib.hid (K1.out.tr k2)
    have F2 := Lib.hid (F1.out.kp k2)
    clear k2
    go_wp2_with fail
    refine (H2.out _ K2.out).mono ?_; rintro e0 w3 ⟨rfl, k3⟩
    have K3 := Lib.hid (K2.out.tr k3)
    have p0 := (F2.out.kp k3).c0
    have p1 := (F2.out.kp k3).c1
    clear k3
    go_wp2_with fail
    refine (H3.out _).mono ?_; rintro e0 w4 ⟨rfl, k4⟩
    have K4 := Lib.hid (K3.out.tr k4)
    clear k4
    go_wp2
    go_ret
    exact ⟨rfl, K4.out⟩
  · have H := Lib.hid h
    have H2 := Lib.hid h2
    have H3 := Lib.hid h3
    clear h h2 h3
    go_enter Try.func6, Try.ntmps6
    go_wp2_with fail
    refine (HAW.out _).mono ?_; rintro e0 w1 ⟨rfl, k1⟩
    have K1 := Lib.hid (K0.out.tr k1)
    have F1 := Lib.hid (F0.out.kp k1)
    clear k1
    go_wp2_with fail
    refine (H.out _ K1.out).mono ?_; rintro e0 w2 ⟨rfl, k2⟩
    have K2 := Lib.hid (K1.out.tr k2)
    have F2 := Lib.hid (F1.out.kp k2)
    clear k2
    go_wp2_with fail
    refine (H2.out _ K2.out).mono ?_; rintro e0 w3 ⟨rfl, k3⟩
    have K3 := Lib.hid (K2.out.tr k3)
    have p0 := (F2.out.kp k3).c0
    have p1 := (F2.out.kp k3).c1
    clear k3
    go_wp2_with fail
    refine (H3.out _).mono ?_; rintro e0 w4 ⟨rfl, k4⟩
    have K4 := Lib.hid (K3.out.tr k4)
    clear k4
    go_wp2
    go_ret
    exact ⟨rfl, K4.out⟩

set_option maxHeartbeats 16000000 in
set_option maxRecDepth 100000 in
theorem imjoins_with (A B P Q D : Option Addr) (c d p q n m ce cf k g : Nat) (a b : List T) (t u : T) (bh rx ry rz rp rr : List Int) (e f gg h i : Int) (k1 k2 k3 k4 un um k5 : Nat) (w : World)
    (hk : ¬ (1000 : Int) < (k : Int)) (hk2 : k ≤ 1000) (FA : Hid (FewC A c p w true)) (FB : Hid (FewC B d q w true)) (FT : Hid (FewU P Q n ce m cf true))
    (RA : Hid (RdX w (fun k => k < w.heap.size) A a)) (RB : Hid (RdX w (fun k => k < w.heap.size) B b)) (RT : Hid (TR w P t.1 Q t.2)) (RD : Hid (B8.Rd w D bh))
    (LL : Hid (a.length = p ∧ b.length = q ∧ t.1.length = n ∧ t.2.length = m ∧ bh.length = k ∧ rx.length = k1 ∧ ry.length = k2 ∧ rz.length = k3 ∧ rp.length = k4 ∧ rr.length = k5 ∧ p ≤ 20 ∧ q ≤ 20 ∧ k4 ≤ 2000)) (LK : Hid (k1 ≤ 40000 ∧ k2 ≤ 40000))
    (HW : Hid (∀ w : World, Calls Try.prog 8 #[] w fun e w' => e = .returned (.bool true) ∧ Kp w w'))
    (H1 : Hid (e = 30 ∧ gg = 30 ∨ e = 0 ∧ (f = 30 ∧ gg = 30 ∨ f = 0 ∧ gg = 0 ∧ rz = rx ++ ry)))
    (H2 : Hid (h = 30 ∨ h = 0 ∧ i = 0 ∧ u = t ∧ un = n ∧ um = m ∧ rr = bh))
    (C1 : Hid (∀ W, Kp w W → Calls Try.prog 13 #[.slice A p c] W (RetB rx e k1 W)))
    (C2 : Hid (∀ W, Kp w W → Calls Try.prog 13 #[.slice B q d] W (RetB ry f k2 W)))
    (C3 : Hid (∀ W E c0 j, RdT W E (a ++ b) → (a ++ b).length ≤ c0 → c0 ≤ 9223372036854775807 → j = (a ++ b).length → Calls Try.prog 13 #[.slice E j c0] W (RetB rz gg k3 W)))
    (C4 : Hid (∀ W, Kp w W → Calls Try.prog 11 #[.slice none 0 0, .agg #[.slice P n ce, .slice Q m cf]] W (RetB rp h k4 W)))
    (C5 : Hid (∀ W E c0 j, B8.Rd W E (rp ++ bh) → (rp ++ bh).length ≤ c0 → c0 ≤ 9223372036854775807 → j = (rp ++ bh).length → Calls Try.prog 15 #[.slice E j c0] W (RetTB u.1 u.2 rr i un um k5 W))) :
    Calls Try.prog 6 #[.slice A p c, .slice B q d, .agg #[.slice P n ce, .slice Q m cf], .slice D k g] w fun e w' => e = .returned (.bool true) ∧ Kp w w' := by
  have F0 := Lib.hid (Bk.new (W := w) (b := w.heap.size) (A := P) (n := n) (c := ce) (B := Q) (m := m) (d := cf) rfl)
  have K : Hid (Kp w (w.alloc (.cells #[.slice P n ce, .slice Q m cf] 26))) := Kp.alloc_ _ _
  go_enter Try.func6, Try.ntmps6
  go_wp2_with fail
  refine (HW.out _).mono ?_; rintro e0 w1 ⟨rfl, k_⟩
  have K := Lib.hid (K.out.tr k_)
  have F0 := Lib.hid (F0.out.kp k_)
  clear k_
  go_wp2_with fail
  refine (FA.out _ K.out).mono ?_; rintro e0 w2 ⟨rfl, k_⟩
  have K := Lib.hid (K.out.tr k_)
  have F0 := Lib.hid (F0.out.kp k_)
  clear k_
  go_wp2_with fail
  refine (FB.out _ K.out).mono ?_; rintro e0 w3 ⟨rfl, k_⟩
  have K := Lib.hid (K.out.tr k_)
  have F0 := Lib.hid (F0.out.kp k_)
  have p0 := F0.out.c0
  have p1 := F0.out.c1
  clear k_
  go_wp2_with fail
  refine (FT.out _).mono ?_; rintro e0 w4 ⟨rfl, k_⟩
  have K := Lib.hid (K.out.tr k_)
  have F0 := Lib.hid (F0.out.kp k_)
  clear k_ p0 p1
  go_wp2_with fail
  refine (C1.out _ K.out).mono ?_; rintro e0 w5 ⟨A5, c5, rfl, r5, l5, k_⟩
  have K := Lib.hid (K.out.tr k_)
  have F0 := Lib.hid (F0.out.kp k_)
  clear k_
  go_wp2_with fail
  refine (C2.out _ K.out).mono ?_; rintro e0 w6 ⟨A6, c6, rfl, r6, l6, k_⟩
  have K := Lib.hid (K.out.tr k_)
  have F0 := Lib.hid (F0.out.kp k_)
  have r5 := Lib.hid (r5.out.kp k_)
  clear k_
  have OZ := Lib.hid (OwnT.zero (B := w6.heap.size) w6 (Nat.le_refl _))
  have RA6 : Hid (RdX (w6.alloc (.cells #[] 26)) (fun k => (Value.slice (some ⟨w6.heap.size, 0, none⟩) 0 0).ownBlock ≠ some k) A a) := ap_old RA.out (K.out.al _) (fun j hj => by have := K.out.size; simp [Value.ownBlock] at hj; omega)
  go_wp2_with (first
    | (at_builtin; refine wpList_appT (B := w6.heap.size) rfl (.tmp 53) (.tmp 54) rfl _ [] rfl OZ.out A c a _ rfl LL.out.1.symm RA6.out (by have := LL.out.1; have := LL.out.2.2.2.2.2.2.2.2.2.2.1; simp; omega) (by first | (simp; done) | (simp; omega)) ?_; intro z1 D1 g1 u1 HZ1 o1 b1 _; have O1 := Lib.hid o1; have KB : Hid (Kp w6 u1) := ((Kp.refl _).al _).trans b1; have RB1 : Hid (RdX u1 (fun k => (Value.slice D1 z1.length g1).ownBlock ≠ some k) B b) := ap_old RB.out (K.out.tr KB.out) (fun j hj => Nat.le_trans K.out.size (O1.out.from_ hj)); clear o1 b1)
    | (at_builtin; refine wpList_appT (B := w6.heap.size) rfl (.tmp 55) (.tmp 56) rfl _ z1 rfl O1.out B d b _ rfl LL.out.2.1.symm RB1.out (by have := LL.out.1; have := LL.out.2.1; have := LL.out.2.2.2.2.2.2.2.2.2.2.1; have := LL.out.2.2.2.2.2.2.2.2.2.2.2.1; rw [HZ1.out]; simp; omega) KB.out.size ?_; intro z2 D2 g2 u2 HZ2 o2 b2 _; have O2 := Lib.hid o2; have KC : Hid (Kp w6 u2) := KB.out.trans b2; clear o2 b2))
  have e2 : z2 = a ++ b := by rw [HZ2.out, HZ1.out]; simp
  subst e2
  obtain ⟨E3, c3, ef, rt3, lt3, mt3⟩ := O2.out.form
  injection ef with ef1 ef2 ef3
  rw [← ef1] at rt3
  rw [← ef3] at lt3 mt3
  have K := Lib.hid (K.out.tr KC.out)
  have F0 := Lib.hid (F0.out.kp KC.out)
  have r5 := Lib.hid (r5.out.kp KC.out)
  have r6 := Lib.hid (r6.out.kp KC.out)
  refine (C3.out _ _ _ _ rt3 lt3 mt3 rfl).mono ?_; rintro e0 w7 ⟨A7, c7, rfl, r7, l7, k_⟩
  have K := Lib.hid (K.out.tr k_)
  have F0 := Lib.hid (F0.out.kp k_)
  have r5 := Lib.hid (r5.out.kp k_)
  have r6 := Lib.hid (r6.out.kp k_)
  have p0 := F0.out.c0
  have p1 := F0.out.c1
  clear k_ O1 O2 KB KC OZ RA6 RB1 HZ1 HZ2 rt3 lt3 mt3 ef1 ef2 ef3 l5 l6 l7
  go_wp2_with fail
  refine (C4.out _ K.out).mono ?_; rintro e0 w8 ⟨A8, c8, rfl, r8, l8, k_⟩
  have K := Lib.hid (K.out.tr k_)
  have F0 := Lib.hid (F0.out.kp k_)
  have r5 := Lib.hid (r5.out.kp k_)
  have r6 := Lib.hid (r6.out.kp k_)
  have r7 := Lib.hid (r7.out.kp k_)
  clear k_ p0 p1
  have OB := Lib.hid (B8.Own.zero (B := w8.heap.size) w8 (Nat.le_refl _))
  have R8 := Lib.hid (r8.out.alloc_ (.cells #[] 5))
  go_wp2_with (first
    | (at_builtin; refine B8.wpList_app (B := w8.heap.size) rfl (.tmp 67) (.tmp 68) rfl _ [] rfl OB.out A8 c8 rp _ rfl LL.out.2.2.2.2.2.2.2.2.1.symm R8.out (by have := LL.out.2.2.2.2.2.2.2.2.1; have := LL.out.2.2.2.2.2.2.2.2.2.2.2.2; simp; omega) (by first | (simp; done) | (simp; omega)) ?_; intro y1 E1 h1 v1 HY1 o1 b1; have O1 := Lib.hid o1; have KB : Hid (Kp w8 v1) := ((Kp.refl _).al _).trans b1; have RB1 := Lib.hid (RD.out.kp (K.out.tr KB.out)); clear o1 b1)
    | (at_builtin; refine B8.wpList_app (B := w8.heap.size) rfl (.tmp 69) (.tmp 70) rfl _ y1 rfl O1.out D g bh _ rfl LL.out.2.2.2.2.1.symm RB1.out (by have := LL.out.2.2.2.2.1; have := LL.out.2.2.2.2.2.2.2.2.1; have := LL.out.2.2.2.2.2.2.2.2.2.2.2.2; rw [HY1.out]; simp; omega) KB.out.size ?_; intro y2 E2 h2 v2 HY2 o2 b2; have O2 := Lib.hid o2; have KC : Hid (Kp w8 v2) := KB.out.trans b2; clear o2 b2))
  have e3 : y2 = rp ++ bh := by rw [HY2.out, HY1.out]; simp
  subst e3
  obtain ⟨rt3, lt3, mt3⟩ := B8.own_rm O2.out
  have K := Lib.hid (K.out.tr KC.out)
  have F0 := Lib.hid (F0.out.kp KC.out)
  have r5 := Lib.hid (r5.out.kp KC.out)
  have r6 := Lib.hid (r6.out.kp KC.out)
  have r7 := Lib.hid (r7.out.kp KC.out)
  refine (C5.out _ _ _ _ rt3 lt3 mt3 rfl).mono ?_; rintro e0 w9 ⟨P9, c9, Q9, d9, R9, f9, rfl, t9, r9, _, k_⟩
  have k9' : Hid (Kp v2 (w9.alloc (.cells #[.slice P9 un c9, .slice Q9 um d9] 26))) := k_.al _
  have K := Lib.hid (K.out.tr k9'.out)
  have F0 := Lib.hid (F0.out.kp k9'.out)
  have r5 := Lib.hid (r5.out.kp k9'.out)
  have r6 := Lib.hid (r6.out.kp k9'.out)
  have r7 := Lib.hid (r7.out.kp k9'.out)
  have t9 := Lib.hid (t9.out.alloc_ (.cells #[.slice P9 un c9, .slice Q9 um d9] 26))
  have r9 := Lib.hid (r9.out.alloc_ (.cells #[.slice P9 un c9, .slice Q9 um d9] 26))
  have F9 : Hid (Bk (w9.alloc (.cells #[.slice P9 un c9, .slice Q9 um d9] 26)) w9.heap.size P9 un c9 Q9 um d9) := Bk.new rfl
  obtain ⟨W9, hW9⟩ : ∃ W9, W9 = w9.alloc (.cells #[.slice P9 un c9, .slice Q9 um d9] 26) := ⟨_, rfl⟩
  obtain ⟨b9, hb9⟩ : ∃ b9, b9 = w9.heap.size := ⟨_, rfl⟩
  rw [← hW9] at K F0 r5 r6 r7 t9 r9 F9
  rw [← hb9] at F9
  have HW9 := Lib.hid hW9
  have HB9 := Lib.hid hb9
  clear k_ k9' O1 O2 KB KC OB R8 RB1 HY1 HY2 rt3 lt3 mt3 r8 l8 hW9 hb9
  have HST : Hid (∀ V, Kp W9 V → ((convert 22 9 (.slice A5 k1 c5)).run Try.prog V = .ok (.string (strOfNums rx)) V) ∧ ((convert 22 9 (.slice A6 k2 c6)).run Try.prog V = .ok (.string (strOfNums ry)) V) ∧ ((convert 22 9 (.slice A7 k3 c7)).run Try.prog V = .ok (.string (strOfNums rz)) V) ∧ ((convert 22 9 (.slice R9 k5 f9)).run Try.prog V = .ok (.string (strOfNums rr)) V) ∧ ((convert 22 9 (.slice D k g)).run Try.prog V = .ok (.string (strOfNums bh)) V)) := fun V kV =>
    ⟨run_str _ (r5.out.kp kV) LL.out.2.2.2.2.2.1.symm, run_str _ (r6.out.kp kV) LL.out.2.2.2.2.2.2.1.symm, run_str _ (r7.out.kp kV) LL.out.2.2.2.2.2.2.2.1.symm, run_str _ (r9.out.kp kV) LL.out.2.2.2.2.2.2.2.2.2.1.symm, run_str _ (RD.out.kp (K.out.tr kV)) LL.out.2.2.2.2.1.symm⟩
  have KZ := Lib.hid K.out
  have FZ := Lib.hid F0.out
  have TZ := Lib.hid t9.out
  clear K F0 t9
  go_upto_region 9 with fail
  rw [← HW9.out, ← HB9.out]
  go_cut [21] (fun v wx => v = .bool true ∧ wx = W9)
  case first =>
    obtain ⟨s1, s2, s3, _, _⟩ := HST.out _ (Kp.refl _)
    rcases H1.out with ⟨h1, h2⟩ | ⟨h1, h2⟩
    · subst h1 h2
      go_wp2
      go_meet
      exact ⟨rfl, rfl⟩
    · rcases h2 with ⟨h2, h3⟩ | ⟨h2, h3, h4⟩
      · subst h1 h2 h3
        go_wp2
        go_meet
        exact ⟨rfl, rfl⟩
      · subst h1 h2 h3 h4
        have q3 := str_self9 (rx ++ ry)
        have q6 := str_add rx ry
        have q7 : ¬ 9223372036854775807 < (strOfNums rx).size + (strOfNums ry).size := by
          have h1 : (strOfNums rx).size = rx.length := strOfNums_size rx
          have h3 : (strOfNums ry).size = ry.length := strOfNums_size ry
          have h5 := LL.out.2.2.2.2.2.1
          have h6 := LL.out.2.2.2.2.2.2.1
          have h7 := LK.out
          omega
        go_wp2
        go_meet
        exact ⟨rfl, rfl⟩
  case rest =>
    obtain ⟨rfl, rfl⟩ := hcut
    rcases H2.out with h1 | ⟨h1, h2, h3, h4, h5, h6⟩
    · subst h1
      go_wp2
      go_ret
      exact ⟨rfl, KZ.out⟩
    · subst h1 h2 h3 h4 h5 h6
      have p0 := F9.out.c0
      have p1 := F9.out.c1
      have p2 := FZ.out.c0
      have p3 := FZ.out.c1
      go_wp2_with fail
      refine (tsame_u (l := u.1) (k := u.2) TZ.out (RT.out.kp KZ.out) LL.out.2.2.1 LL.out.2.2.2.1).mono ?_; rintro e0 w10 ⟨rfl, k10⟩
      obtain ⟨_, _, _, s4, s5⟩ := HST.out _ k10
      have K10 := Lib.hid (KZ.out.tr k10)
      have q3 := str_self9 rr
      clear k10 p0 p1 p2 p3
      go_wp2
      go_ret
      exact ⟨rfl, K10.out⟩
theorem put_cases_t (b : List Int) (t : T) : (tokT t = true ∧ iputV b t = (b ++ tnB t, 0)) ∨ (tokT t = false ∧ iputV b t = ([], 30)) := by
  cases h : tokT t with
  | true => exact .inl ⟨rfl, by unfold iputV; rw [if_pos h]⟩
  | false => exact .inr ⟨rfl, by unfold iputV; rw [if_neg (by simp [h])]⟩
theorem imjoins_walk (C : ImC) (A B P Q D : Option Addr) (c d e f g : Nat) (a b : List T) (t : T) (bh : List Int) (w : World) (hA : RdT w A a) (hB : RdT w B b) (hT : TR w P t.1 Q t.2) (hD : B8.Rd w D bh) (na : NT a) (nb : NT b) (n1 : N64 t.1) (n2 : N64 t.2) (hb : Bytes bh)
    (la : a.length ≤ c ∧ c ≤ 9223372036854775807) (lb : b.length ≤ d ∧ d ≤ 9223372036854775807) :
    Calls Try.prog 6 #[.slice A a.length c, .slice B b.length d, .agg #[.slice P t.1.length e, .slice Q t.2.length f], .slice D bh.length g] w fun e w' => e = .returned (.bool true) ∧ Kp w w' := by
  have ls := hT.s.len
  have ld := hT.d.len
  have lD := hD.1
  have far := fun h => imjoins_far (imawake_any C) A B P Q D c d a.length b.length t.1.length t.2.length e f bh.length g w lD h
  cases fa : fewT a 20 with
  | false => exact far (.inl (few_c hA fa))
  | true =>
  cases fb : fewT b 20 with
  | false => exact far (.inr ⟨few_c hA fa, .inl (few_c hB fb)⟩)
  | true =>
  by_cases ft : 100 < t.1.length ∨ 100 < t.2.length
  · exact far (.inr ⟨few_c hA fa, .inr ⟨few_c hB fb, .inl (fun W => few_no ls ld ft)⟩⟩)
  have FU : FewU P Q t.1.length e t.2.length f true := fun W => few_yes (by omega) (by omega)
  by_cases fd : 1000 < bh.length
  · exact far (.inr ⟨few_c hA fa, .inr ⟨few_c hB fb, .inr ⟨FU, by omega⟩⟩⟩)
  clear far
  obtain ⟨rx, e1, hx⟩ : ∃ rx e1, iwriteV a = (rx, e1) := ⟨_, _, rfl⟩
  obtain ⟨ry, e2, hy⟩ : ∃ ry e2, iwriteV b = (ry, e2) := ⟨_, _, rfl⟩
  obtain ⟨rz, e3, hz⟩ : ∃ rz e3, iwriteV (a ++ b) = (rz, e3) := ⟨_, _, rfl⟩
  obtain ⟨rp, e4, hp⟩ : ∃ rp e4, iputV [] t = (rp, e4) := ⟨_, _, rfl⟩
  obtain ⟨u, rr, e5, hu⟩ : ∃ u rr e5, itakeV (rp ++ bh) = (u, rr, e5) := ⟨_, _, _, rfl⟩
  obtain ⟨a1, a2⟩ := few_t fa
  obtain ⟨b1, b2⟩ := few_t fb
  have sa := all_small a2
  have sb := all_small b2
  have lx := write_len hx
  have ly := write_len hy
  have htl := tn_len t
  have P1 : e1 = 30 ∧ e3 = 30 ∨ e1 = 0 ∧ (e2 = 30 ∧ e3 = 30 ∨ e2 = 0 ∧ e3 = 0 ∧ rz = rx ++ ry) := by
    have hab : (a ++ b).all tokT = (a.all tokT && b.all tokT) := List.all_append
    rcases write_cases (a ++ b) with ⟨t3, g3⟩ | ⟨t3, g3⟩ <;> rcases write_cases a with ⟨t1, g1⟩ | ⟨t1, g1⟩ <;> rcases write_cases b with ⟨t2, g2⟩ | ⟨t2, g2⟩ <;> rw [hab, t1, t2] at t3 <;> (try cases t3) <;> rw [hx] at g1 <;> rw [hy] at g2 <;> rw [hz] at g3 <;> injection g1 with g1 h1 <;> injection g2 with g2 h2 <;> injection g3 with g3 h3 <;> subst g1 g2 g3 h1 h2 h3 <;> simp [all_t_append]
  have P2 : (e4 = 30 ∨ e4 = 0 ∧ e5 = 0 ∧ u = t ∧ u.1.length = t.1.length ∧ u.2.length = t.2.length ∧ rr = bh) ∧ rp.length ≤ 2000 ∧ Bytes rp := by
    rcases put_cases_t [] t with ⟨t1, g1⟩ | ⟨_, g1⟩
    · rw [hp] at g1
      injection g1 with g1 h1
      rw [List.nil_append] at g1
      subst g1 h1
      have := put_take_t t1 n2 bh
      unfold itakeV at hu
      rw [this] at hu
      injection hu with h1 h2
      injection h2 with h2 h3
      have h1' : t = u := h1
      have h2' : bh = rr := h2
      subst h1' h2'
      exact ⟨.inr ⟨rfl, h3.symm, rfl, rfl, rfl, rfl⟩, by omega, tn_bytes (by omega)⟩
    · rw [hp] at g1
      injection g1 with g1 h1
      subst g1 h1
      exact ⟨.inl rfl, by simp, fun _ h => by cases h⟩
  obtain ⟨P2, P3, P4⟩ := P2
  refine imjoins_with A B P Q D c d a.length b.length t.1.length t.2.length e f bh.length g a b t u bh rx ry rz rp rr e1 e2 e3 e4 e5 rx.length ry.length rz.length rp.length u.1.length u.2.length rr.length w (by omega) (by omega) (few_c hA fa) (few_c hB fb) FU hA.old hB.old hT hD ⟨rfl, rfl, rfl, rfl, rfl, rfl, rfl, rfl, rfl, rfl, by omega, by omega, P3⟩ ⟨by omega, by omega⟩ (imawake_any C) P1 P2 (write_c C hA fa na la hx) (write_c C hB fb nb lb hy) ?_ ?_ ?_
  · refine fun W E c0 j r h1 h2 hj => C.write E c0 j (a ++ b) rz e3 rz.length W r h1 h2 (by rw [List.length_append]; omega) (by rw [all_t_append, List.length_append]; omega) (fun t ht => ?_) hj hz rfl
    rcases List.mem_append.1 ht with ht | ht
    · exact ⟨(a2 t ht).1, (a2 t ht).2, (na t ht).1, (na t ht).2⟩
    · exact ⟨(b2 t ht).1, (b2 t ht).2, (nb t ht).1, (nb t ht).2⟩
  · exact fun W k => C.put none P Q 0 0 _ e _ f [] t rp e4 rp.length W (B8.Rd.nil _ _) (by simp) (by simp) (by simp) (fun _ h => by cases h) (hT.kp k) (by omega) (by omega) n1 n2 rfl rfl rfl hp rfl
  · refine fun W E c0 j r h1 h2 hj => C.take E c0 j (rp ++ bh) u rr e5 _ _ _ W r h1 h2 (by rw [List.length_append]; omega) (fun x hx => ?_) hj hu rfl rfl rfl
    rcases List.mem_append.1 hx with hx | hx
    · exact P4 x hx
    · exact hb x hx
end Go.Proofs.Ytlbnbamgfffahaa
