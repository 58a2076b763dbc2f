/- ImageTells, over the contracts of the calls. -/
import Derived.Test.YtlbnbamgfffahaaImJoins
import Derived.Test.YtlbnbamgfffahaaR9C
import Derived.Test.YtlbnbamgfffahaaR9E
namespace Go.Proofs.Ytlbnbamgfffahaa
open Go.RowKit Go.Proofs.ShM Go.Proofs.PkM Go.Proofs.ImM
set_option linter.unusedVariables false

theorem retBE_b {r : List Int} {err : Int} {w w' : World} {e : Ending} (h : RetBE r err w e w') : RetB r err r.length w e w' := by
  obtain ⟨A, c, h1, h2, h3⟩ := h
  obtain ⟨r1, r2, r3⟩ := B8.own_rm h2
  exact ⟨A, c, h1, r1, ⟨r2, r3⟩, h3⟩
theorem retTE_b {A0 : Option Addr} {bs : List Int} {t : T} {r : List Int} {err : Int} {w w' : World} {e : Ending} (h : RetTE A0 bs t r err w e w') (hA : B8.Rd w A0 bs) : RetTB t.1 t.2 r err t.1.length t.2.length r.length w e w' := by
  obtain ⟨P, a, Q, b, R, c, h1, o1, o2, h3, h4, h5, h6⟩ := h
  exact ⟨P, a, Q, b, R, c, h1, ⟨own_rdn o1, own_rdn o2⟩, h3 _ (hA.kp h6), ⟨h4, h5⟩, h6⟩
theorem retTsE_b {ts : List T} {err : Int} {w w' : World} {e : Ending} (h : RetTsE ts err w e w') : RetTs ts err ts.length w e w' := by
  obtain ⟨A, c, h1, h2, h3⟩ := h
  obtain ⟨A', c', e', r1, r2, r3⟩ := h2.form
  injection e' with e1 e2 e3
  subst e1 e3
  exact ⟨A, c, h1, r1, ⟨r2, r3⟩, h3⟩
set_option maxHeartbeats 8000000 in
theorem imtells_far (HW : ∀ w : World, Calls Try.prog 8 #[] w fun e w' => e = .returned (.bool true) ∧ Kp w w') (A B P Q : Option Addr) (c d p q n m e f : Nat) (w : World) (hp : p ≤ 9223372036854775807)
    (h : (5000 : Int) < (p : Int) ∨ (¬ (5000 : Int) < (p : Int)) ∧ (FewC B d q w false ∨ FewC B d q w true ∧ FewU P Q n e m f false)) :
    Calls Try.prog 3 #[.slice A p c, .slice B q d, .agg #[.slice P n e, .slice Q m f]] w fun e w' => e = .returned (.bool true) ∧ Kp w w' := by
  have HAW := Lib.hid HW
  clear HW
  have F0 := Lib.hid (Bk.new (W := w) (b := w.heap.size) (A := P) (n := n) (c := e) (B := Q) (m := m) (d := f) rfl)
  have K0 : Hid (Kp w (w.alloc (.cells #[.slice P n e, .slice Q m f] 26))) := Kp.alloc_ _ _
  rcases h with h | ⟨h, h2⟩
  · go_enter Try.func3, Try.ntmps3
    go_wp2_with fail
    refine (HAW.out _).mono ?_; rintro e0 w1 ⟨rfl, k1⟩
    have K1 := Lib.hid (K0.out.tr k1)
    have p0 := (F0.out.kp k1).c0
    have p1 := (F0.out.kp k1).c1
    clear k1
    go_wp2
    go_ret
    exact ⟨rfl, K1.out⟩
  rcases h2 with h2 | ⟨h2, h3⟩
  · have H := Lib.hid h2
    clear h2
    go_enter Try.func3, Try.ntmps3
    go_wp2_with fail
    refine (HAW.out _).mono ?_; rintro e0 w1 ⟨rfl, k1⟩
    have K1 := Lib.hid (K0.out.tr k1)
    clear k1
    go_wp2_with fail
    refine (H.out _ K1.out).mono ?_; rintro e0 w2 ⟨rfl, k2⟩
    have K2 := Lib.hid (K1.out.tr k2)
    clear k2
    go_wp2
    go_ret
    exact ⟨rfl, K2.out⟩
  · have H := Lib.hid h2
    have H2 := Lib.hid h3
    clear h2 h3
    go_enter Try.func3, Try.ntmps3
    go_wp2_with fail
    refine (HAW.out _).mono ?_; rintro e0 w1 ⟨rfl, k1⟩
    have K1 := Lib.hid (K0.out.tr k1)
    have F1 := Lib.hid (F0.out.kp k1)
    clear k1
    go_wp2_with fail
    refine (H.out _ K1.out).mono ?_; rintro e0 w2 ⟨rfl, k2⟩
    have K2 := Lib.hid (K1.out.tr k2)
    have p0 := (F1.out.kp k2).c0
    have p1 := (F1.out.kp k2).c1
    clear k2
    go_wp2_with fail
    refine (H2.out _).mono ?_; rintro e0 w3 ⟨rfl, k3⟩
    have K3 := Lib.hid (K2.out.tr k3)
    clear k3
    go_wp2
    go_ret
    exact ⟨rfl, K3.out⟩

set_option maxHeartbeats 16000000 in
set_option maxRecDepth 100000 in
theorem imtells_with (A B P Q : Option Addr) (c d p q n m ce cf : Nat) (x : T) (rp rw rr : List Int) (y : List T) (e f g h : Int) (k1 k2 un um k3 k4 : Nat) (w : World)
    (hp : ¬ (5000 : Int) < (p : Int)) (hp2 : p ≤ 5000) (FB : Hid (FewC B d q w true)) (FT : Hid (FewU P Q n ce m cf true))
    (LL : Hid (rp.length = k1 ∧ rw.length = k2 ∧ x.1.length = un ∧ x.2.length = um ∧ rr.length = k3 ∧ y.length = k4))
    (HW : Hid (∀ w : World, Calls Try.prog 8 #[] w fun e w' => e = .returned (.bool true) ∧ Kp w w'))
    (C1 : Hid (∀ W, Kp w W → Calls Try.prog 11 #[.slice A p c, .agg #[.slice P n ce, .slice Q m cf]] W (RetB rp e k1 W)))
    (D1 : Hid (∀ W, Kp w W → Calls Try.prog 12 #[.slice A p c, .agg #[.slice P n ce, .slice Q m cf]] W (RetB rp e k1 W)))
    (C2 : Hid (∀ W, Kp w W → Calls Try.prog 13 #[.slice B q d] W (RetB rw f k2 W)))
    (D2 : Hid (∀ W, Kp w W → Calls Try.prog 14 #[.slice B q d] W (RetB rw f k2 W)))
    (C3 : Hid (∀ W, Kp w W → Calls Try.prog 15 #[.slice A p c] W (RetTB x.1 x.2 rr g un um k3 W)))
    (D3 : Hid (∀ W, Kp w W → Calls Try.prog 16 #[.slice A p c] W (RetTB x.1 x.2 rr g un um k3 W)))
    (C4 : Hid (∀ W, Kp w W → Calls Try.prog 17 #[.slice A p c] W (RetTs y h k4 W)))
    (D4 : Hid (∀ W, Kp w W → Calls Try.prog 18 #[.slice A p c] W (RetTs y h k4 W)))
    (CS : Hid (∀ W E F c0 d0, RdT W E y → RdT W F y → Calls Try.prog 20 #[.slice E k4 c0, .slice F k4 d0] W fun e w' => e = .returned (.bool true) ∧ Kp W w')) :
    Calls Try.prog 3 #[.slice A p c, .slice B q d, .agg #[.slice P n ce, .slice Q m cf]] w fun e w' => e = .returned (.bool true) ∧ Kp w w' := by
  have F0 := Lib.hid (Bk.new (W := w) (b := w.heap.size) (A := P) (n := n) (c := ce) (B := Q) (m := m) (d := cf) rfl)
  have K : Hid (Kp w (w.alloc (.cells #[.slice P n ce, .slice Q m cf] 26))) := Kp.alloc_ _ _
  have qe : ∀ e : Int, (e == e) = true := fun e => by simp
  have qe1 := qe e
  have qe2 := qe f
  have qe3 := qe g
  have qe4 := qe h
  have q1 := str_self9 rp
  have q2 := str_self9 rw
  have q3 := str_self9 rr
  clear qe
  go_enter Try.func3, Try.ntmps3
  go_wp2_with fail
  refine (HW.out _).mono ?_; rintro e0 w1 ⟨rfl, k_⟩
  have K := Lib.hid (K.out.tr k_)
  have F0 := Lib.hid (F0.out.kp k_)
  clear k_
  go_wp2_with fail
  refine (FB.out _ K.out).mono ?_; rintro e0 w2 ⟨rfl, k_⟩
  have K := Lib.hid (K.out.tr k_)
  have F0 := Lib.hid (F0.out.kp k_)
  have p0 := F0.out.c0
  have p1 := F0.out.c1
  clear k_
  go_wp2_with fail
  refine (FT.out _).mono ?_; rintro e0 w3 ⟨rfl, k_⟩
  have K := Lib.hid (K.out.tr k_)
  have F0 := Lib.hid (F0.out.kp k_)
  have p0 := F0.out.c0
  have p1 := F0.out.c1
  clear k_
  go_wp2_with fail
  refine (C1.out _ K.out).mono ?_; rintro e0 w4 ⟨A4, c4, rfl, r4, _, k_⟩
  have K := Lib.hid (K.out.tr k_)
  have F0 := Lib.hid (F0.out.kp k_)
  have p0 := F0.out.c0
  have p1 := F0.out.c1
  clear k_
  go_wp2_with fail
  refine (D1.out _ K.out).mono ?_; rintro e0 w5 ⟨A5, c5, rfl, r5, _, k_⟩
  have K := Lib.hid (K.out.tr k_)
  have r4 := Lib.hid (r4.out.kp k_)
  have s1 := run_str c4 r4.out LL.out.1.symm
  have s2 := run_str c5 r5.out LL.out.1.symm
  clear k_ p0 p1
  go_wp2_with fail
  refine (C2.out _ K.out).mono ?_; rintro e0 w6 ⟨A6, c6, rfl, r6, _, k_⟩
  have K := Lib.hid (K.out.tr k_)
  clear k_ s1 s2
  go_wp2_with fail
  refine (D2.out _ K.out).mono ?_; rintro e0 w7 ⟨A7, c7, rfl, r7, _, k_⟩
  have K := Lib.hid (K.out.tr k_)
  have r6 := Lib.hid (r6.out.kp k_)
  have s1 := run_str c6 r6.out LL.out.2.1.symm
  have s2 := run_str c7 r7.out LL.out.2.1.symm
  clear k_
  go_wp2_with fail
  refine (C3.out _ K.out).mono ?_; rintro e0 w8 ⟨P8, a8, Q8, b8, R8, f8, rfl, t8, r8, _, k_⟩
  have k8 : Hid (Kp w7 (w8.alloc (.cells #[.slice P8 un a8, .slice Q8 um b8] 26))) := k_.al _
  have K := Lib.hid (K.out.tr k8.out)
  have F8 : Hid (Bk (w8.alloc (.cells #[.slice P8 un a8, .slice Q8 um b8] 26)) w8.heap.size P8 un a8 Q8 um b8) := Bk.new rfl
  have t8 := Lib.hid (t8.out.alloc_ (.cells #[.slice P8 un a8, .slice Q8 um b8] 26))
  have r8 := Lib.hid (r8.out.alloc_ (.cells #[.slice P8 un a8, .slice Q8 um b8] 26))
  clear k_ s1 s2 k8
  go_wp2_with fail
  refine (D3.out _ K.out).mono ?_; rintro e0 w9 ⟨P9, a9, Q9, b9, R9, f9, rfl, t9, r9, _, k_⟩
  have k9 : Hid (Kp _ (w9.alloc (.cells #[.slice P9 un a9, .slice Q9 um b9] 26))) := k_.al _
  have K := Lib.hid (K.out.tr k9.out)
  have F8 := Lib.hid (F8.out.kp k9.out)
  have t8 := Lib.hid (t8.out.kp k9.out)
  have r8 := Lib.hid (r8.out.kp k9.out)
  have F9 : Hid (Bk (w9.alloc (.cells #[.slice P9 un a9, .slice Q9 um b9] 26)) w9.heap.size P9 un a9 Q9 um b9) := Bk.new rfl
  have t9 := Lib.hid (t9.out.alloc_ (.cells #[.slice P9 un a9, .slice Q9 um b9] 26))
  have r9 := Lib.hid (r9.out.alloc_ (.cells #[.slice P9 un a9, .slice Q9 um b9] 26))
  clear k_ k9
  go_wp2_with fail
  refine (C4.out _ K.out).mono ?_; rintro e0 w10 ⟨A10, c10, rfl, r10, _, k_⟩
  have K := Lib.hid (K.out.tr k_)
  have F8 := Lib.hid (F8.out.kp k_)
  have F9 := Lib.hid (F9.out.kp k_)
  have t8 := Lib.hid (t8.out.kp k_)
  have t9 := Lib.hid (t9.out.kp k_)
  have r8 := Lib.hid (r8.out.kp k_)
  have r9 := Lib.hid (r9.out.kp k_)
  clear k_
  go_wp2_with fail
  refine (D4.out _ K.out).mono ?_; rintro e0 w11 ⟨A11, c11, rfl, r11, _, k_⟩
  have K := Lib.hid (K.out.tr k_)
  have F8 := Lib.hid (F8.out.kp k_)
  have F9 := Lib.hid (F9.out.kp k_)
  have t8 := Lib.hid (t8.out.kp k_)
  have t9 := Lib.hid (t9.out.kp k_)
  have r8 := Lib.hid (r8.out.kp k_)
  have r9 := Lib.hid (r9.out.kp k_)
  have r10 := Lib.hid (r10.out.kp k_)
  have p0 := F8.out.c0
  have p1 := F8.out.c1
  have p2 := F9.out.c0
  have p3 := F9.out.c1
  clear k_
  go_wp2_with fail
  refine (tsame_u (l := x.1) (k := x.2) t8.out t9.out LL.out.2.2.1 LL.out.2.2.2.1).mono ?_; rintro e0 w12 ⟨rfl, k_⟩
  have K := Lib.hid (K.out.tr k_)
  have r8 := Lib.hid (r8.out.kp k_)
  have r9 := Lib.hid (r9.out.kp k_)
  have r10 := Lib.hid (r10.out.kp k_)
  have r11 := Lib.hid (r11.out.kp k_)
  have s1 := run_str f8 r8.out LL.out.2.2.2.2.1.symm
  have s2 := run_str f9 r9.out LL.out.2.2.2.2.1.symm
  clear k_ p0 p1 p2 p3
  go_wp2_with fail
  refine (CS.out _ A10 A11 c10 c11 r10.out r11.out).mono ?_; rintro e0 w13 ⟨rfl, k_⟩
  have K := Lib.hid (K.out.tr k_)
  clear k_ s1 s2
  go_wp2
  go_ret
  exact ⟨rfl, K.out⟩
theorem imtells_walk (C : ImC) (A B P Q : Option Addr) (c d e f : Nat) (bs : List Int) (l : List T) (t : T) (w : World) (hA : B8.Rd w A bs) (hB : RdT w B l) (hT : TR w P t.1 Q t.2) (hb : Bytes bs) (nl : NT l) (n1 : N64 t.1) (n2 : N64 t.2) (lc : bs.length ≤ c ∧ c ≤ 9223372036854775807) (ld : l.length ≤ d ∧ d ≤ 9223372036854775807) :
    Calls Try.prog 3 #[.slice A bs.length c, .slice B l.length d, .agg #[.slice P t.1.length e, .slice Q t.2.length f]] w fun e w' => e = .returned (.bool true) ∧ Kp w w' := by
  have ls := hT.s.len
  have lt := hT.d.len
  have lA := hA.1
  by_cases f0 : 5000 < bs.length
  · exact imtells_far (imawake_any C) A B P Q c d _ _ _ _ e f w lA (.inl (by omega))
  cases fl : fewT l 20 with
  | false => exact imtells_far (imawake_any C) A B P Q c d _ _ _ _ e f w lA (.inr ⟨by omega, .inl (few_c hB fl)⟩)
  | true =>
  by_cases ft : 100 < t.1.length ∨ 100 < t.2.length
  · exact imtells_far (imawake_any C) A B P Q c d _ _ _ _ e f w lA (.inr ⟨by omega, .inr ⟨few_c hB fl, fun W => few_no ls lt ft⟩⟩)
  obtain ⟨rp, e1, hp⟩ : ∃ rp e1, iputV bs t = (rp, e1) := ⟨_, _, rfl⟩
  obtain ⟨rw, e2, hw⟩ : ∃ rw e2, iwriteV l = (rw, e2) := ⟨_, _, rfl⟩
  obtain ⟨x, rr, e3, hx⟩ : ∃ x rr e3, itakeV bs = (x, rr, e3) := ⟨_, _, _, rfl⟩
  obtain ⟨y, e4, hy⟩ : ∃ y e4, ireadV bs = (y, e4) := ⟨_, _, rfl⟩
  obtain ⟨l1, l2⟩ := few_t fl
  have sl := all_small l2
  refine imtells_with A B P Q c d bs.length l.length t.1.length t.2.length e f x rp rw rr y e1 e2 e3 e4 rp.length rw.length x.1.length x.2.length rr.length y.length w (by omega) (by omega) (few_c hB fl) (fun W => few_yes (by omega) (by omega)) ⟨rfl, rfl, rfl, rfl, rfl, rfl⟩ (imawake_any C) ?_ ?_ (write_c C hB fl nl ld hw) ?_ ?_ ?_ ?_ ?_ ?_
  · exact fun W k => C.put A P Q c _ _ e _ f bs t rp e1 _ W (hA.kp k) lc.1 lc.2 (by omega) hb (hT.kp k) (by omega) (by omega) n1 n2 rfl rfl rfl hp rfl
  · intro W k
    have h := rput9_any A P Q c e f bs t W (hA.kp k) (by omega) (hT.kp k)
    rw [hp] at h
    exact h.mono fun _ _ g => retBE_b g
  · intro W k
    have h := rwrite9_any B d l W (hB.kp k) (by omega)
    rw [hw] at h
    exact h.mono fun _ _ g => retBE_b g
  · exact fun W k => C.take A c _ bs x rr e3 _ _ _ W (hA.kp k) lc.1 lc.2 (by omega) hb rfl hx rfl rfl rfl
  · intro W k
    have h := rtake9_any A c bs W (hA.kp k) lc.1 lc.2 hb (by omega)
    rw [hx] at h
    exact h.mono fun _ _ g => retTE_b g (hA.kp k)
  · exact fun W k => C.read A c _ bs y e4 _ W (hA.kp k) lc.1 lc.2 (by omega) hb rfl hy rfl
  · intro W k
    have h := rread9_any A c bs W (hA.kp k) lc.1 lc.2 hb (by omega)
    rw [hy] at h
    exact h.mono fun _ _ g => retTsE_b g
  · intro W E F c0 d0 r1 r2
    have h := rsame9_any E F c0 d0 y y W r1 r2
    simpa using h
end Go.Proofs.Ytlbnbamgfffahaa
