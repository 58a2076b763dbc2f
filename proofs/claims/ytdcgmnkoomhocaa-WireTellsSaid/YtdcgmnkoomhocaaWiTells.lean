/- WireTells and WireBack, over the contracts of the calls. -/
import Derived.Test.YtdcgmnkoomhocaaWiC
namespace Go.Proofs.Ytdcgmnkoomhocaa
open Go.RowKit Go.Proofs.ShM Go.Proofs.GrM Go.Proofs.PkM Go.Proofs.WiM
set_option linter.unusedVariables false
set_option maxHeartbeats 8000000

/-- Few nodes, answered. -/
def FewN (A : Option Addr) (c n : Nat) (w : World) (q : Bool) : Prop := ∀ W, Kp w W → Calls Try.prog 8 #[.slice A n c] W fun e w' => e = .returned (.bool q) ∧ w' = W
theorem few_n {A : Option Addr} {c : Nat} {l : List Nd} {w : World} (h : RdG w A l) {q : Bool} (hq : fewN l = q) : FewN A c l.length w q := fun W k => by rw [← hq]; exact rfew10_any A c l W (h.kp k)
theorem nodes_ns {r : List Nd × Int} {w w' : World} {e : Ending} (h : RetNE r w e w') : RetNs r.1 r.2 r.1.length w e w' := h
theorem bytes_b {r : List Int} {err : Int} {w w' : World} {e : Ending} (h : RetBE r err w e w') : RetB r err r.length w e w' := by
  obtain ⟨A, c, h1, h2, h3⟩ := h
  obtain ⟨r1, r2, r3⟩ := B8.own_room h2
  exact ⟨A, c, h1, r1, ⟨r2, r3⟩, h3⟩

set_option maxRecDepth 100000 in
theorem wtells_far (HW : ∀ w : World, Calls Try.prog 7 #[] w fun e w' => e = .returned (.bool true) ∧ Kp w w') (A B : Option Addr) (c d p q : Nat) (w : World) (hq : q ≤ 9223372036854775807) (h : FewN A c p w false ∨ FewN A c p w true ∧ 5000 < q) :
    Calls Try.prog 3 #[.slice A p c, .slice B q d] w fun e w' => e = .returned (.bool true) ∧ Kp w w' := by
  have HAW := Lib.hid HW
  clear HW
  rcases h with h | ⟨h, g⟩
  · have H := Lib.hid h
    clear h
    go_enter Try.func3, Try.ntmps3
    go_wp2_with fail
    refine (HAW.out _).mono ?_; rintro e0 w1 ⟨rfl, k1⟩
    have K1 := Lib.hid k1
    clear k1
    go_wp2_with fail
    refine (H.out _ K1.out).mono ?_; rintro e0 w2 ⟨rfl, rfl⟩
    go_wp2
    go_ret
    exact ⟨rfl, K1.out⟩
  · have H := Lib.hid h
    have g1 : (5000 : Int) < (q : Int) := by omega
    clear h g
    go_enter Try.func3, Try.ntmps3
    go_wp2_with fail
    refine (HAW.out _).mono ?_; rintro e0 w1 ⟨rfl, k1⟩
    have K1 := Lib.hid k1
    clear k1
    go_wp2_with fail
    refine (H.out _ K1.out).mono ?_; rintro e0 w2 ⟨rfl, rfl⟩
    go_wp2
    go_ret
    exact ⟨rfl, K1.out⟩

set_option maxRecDepth 100000 in
theorem wtells_with (A B : Option Addr) (c d p q : Nat) (x : List Int) (y : List Nd) (e g : Int) (k1 k2 : Nat) (w : World) (hq : ¬ (5000 : Int) < (q : Int)) (hq2 : q ≤ 5000) (FA : Hid (FewN A c p w true)) (LL : Hid (x.length = k1 ∧ y.length = k2))
    (HW : Hid (∀ w : World, Calls Try.prog 7 #[] w fun e w' => e = .returned (.bool true) ∧ Kp w w'))
    (C1 : Hid (∀ W, Kp w W → Calls Try.prog 9 #[.slice A p c] W (RetB x e k1 W)))
    (D1 : Hid (∀ W, Kp w W → Calls Try.prog 10 #[.slice A p c] W (RetB x e k1 W)))
    (C2 : Hid (∀ W, Kp w W → Calls Try.prog 11 #[.slice B q d] W (RetNs y g k2 W)))
    (D2 : Hid (∀ W, Kp w W → Calls Try.prog 12 #[.slice B q d] W (RetNs y g k2 W)))
    (CS : Hid (∀ W E F c0 d0, RdG W E y → RdG W F y → Calls Try.prog 13 #[.slice E k2 c0, .slice F k2 d0] W fun e w' => e = .returned (.bool true) ∧ Kp W w')) :
    Calls Try.prog 3 #[.slice A p c, .slice B q d] w fun e w' => e = .returned (.bool true) ∧ Kp w w' := by
  have qe : ∀ e : Int, (e == e) = true := fun e => by simp
  have qe1 := qe e
  have qe2 := qe g
  have q1 := str_self12 x
  clear qe
  go_enter Try.func3, Try.ntmps3
  go_wp2_with fail
  refine (HW.out _).mono ?_; rintro e0 w1 ⟨rfl, k_⟩
  have K := Lib.hid k_
  clear k_
  go_wp2_with fail
  refine (FA.out _ K.out).mono ?_; rintro e0 w2 ⟨rfl, rfl⟩
  go_wp2_with fail
  refine (C1.out _ K.out).mono ?_; rintro e0 w4 ⟨A4, c4, rfl, r4, _, k_⟩
  have K := Lib.hid (K.out.tr k_)
  clear k_
  go_wp2_with fail
  refine (D1.out _ K.out).mono ?_; rintro e0 w5 ⟨A5, c5, rfl, r5, _, k_⟩
  have K := Lib.hid (K.out.tr k_)
  have r4 := Lib.hid (r4.out.kp k_)
  clear k_
  go_wp2_with fail
  refine (C2.out _ K.out).mono ?_; rintro e0 w6 ⟨A6, c6, rfl, r6, _, k_⟩
  have K := Lib.hid (K.out.tr k_)
  have r4 := Lib.hid (r4.out.kp k_)
  have r5 := Lib.hid (r5.out.kp k_)
  clear k_
  go_wp2_with fail
  refine (D2.out _ K.out).mono ?_; rintro e0 w7 ⟨A7, c7, rfl, r7, _, k_⟩
  have K := Lib.hid (K.out.tr k_)
  have r4 := Lib.hid (r4.out.kp k_)
  have r5 := Lib.hid (r5.out.kp k_)
  have r6 := Lib.hid (r6.out.kp k_)
  have s1 := run_str c4 r4.out LL.out.1.symm
  have s2 := run_str c5 r5.out LL.out.1.symm
  clear k_
  go_wp2_with fail
  refine (CS.out _ A6 A7 c6 c7 r6.out r7.out).mono ?_; rintro e0 w8 ⟨rfl, k_⟩
  have K := Lib.hid (K.out.tr k_)
  clear k_ s1 s2
  go_wp2
  go_ret
  exact ⟨rfl, K.out⟩
theorem wtells_walk (C : WiC) (A B : Option Addr) (c d : Nat) (l : List Nd) (bs : List Int) (w : World) (R : RdG w A l) (N : ∀ t ∈ l, Nd64 t) (L : l.length ≤ c) (M : c ≤ 9223372036854775807) (hB : B8.Rd w B bs) (hb : Bytes bs) (ld : bs.length ≤ d ∧ d ≤ 9223372036854775807) :
    Calls Try.prog 3 #[.slice A l.length c, .slice B bs.length d] w fun e w' => e = .returned (.bool true) ∧ Kp w w' := by
  have lb := hB.1
  cases hf : fewN l with
  | false => exact wtells_far (wiawake_any C) A B c d _ _ w lb (.inl (few_n R hf))
  | true =>
  by_cases f0 : 5000 < bs.length
  · exact wtells_far (wiawake_any C) A B c d _ _ w lb (.inr ⟨few_n R hf, f0⟩)
  have hs := small_few hf N
  obtain ⟨x, e, hx⟩ : ∃ x e, writeV l = (x, e) := ⟨_, _, rfl⟩
  obtain ⟨y, g, hy⟩ : ∃ y g, readV bs = (y, g) := ⟨_, _, rfl⟩
  refine wtells_with A B c d l.length bs.length x y e g x.length y.length w (by omega) (by omega) (few_n R hf) ⟨rfl, rfl⟩ (wiawake_any C)
    (fun W k => C.write A c l.length l x e x.length W (R.kp k) L M hs rfl hx rfl) (fun W k => ?_)
    (fun W k => C.read B d bs.length bs y g y.length W (hB.kp k) ld.1 ld.2 (by omega) hb rfl hy rfl) (fun W k => ?_) (fun W E F c0 d0 h1 h2 => same_ns y rfl W E F c0 d0 h1 h2)
  · have h := rwrite12 A c l W (R.kp k)
    rw [hx] at h
    exact h.mono fun _ _ g => bytes_b g
  · have h := rread12_any B d bs W (hB.kp k) ld.1 ld.2 hb (by omega)
    rw [hy] at h
    exact h

/-! ### WireBack -/
set_option maxRecDepth 100000 in
theorem wback_far (HW : ∀ w : World, Calls Try.prog 7 #[] w fun e w' => e = .returned (.bool true) ∧ Kp w w') (A B : Option Addr) (c d p q : Nat) (w : World) (hq : q ≤ 9223372036854775807) (h : FewN A c p w false ∨ FewN A c p w true ∧ 5000 < q) :
    Calls Try.prog 4 #[.slice A p c, .slice B q d] w fun e w' => e = .returned (.bool true) ∧ Kp w w' := by
  have HAW := Lib.hid HW
  clear HW
  rcases h with h | ⟨h, g⟩
  · have H := Lib.hid h
    clear h
    go_enter Try.func4, Try.ntmps4
    go_wp2_with fail
    refine (HAW.out _).mono ?_; rintro e0 w1 ⟨rfl, k1⟩
    have K1 := Lib.hid k1
    clear k1
    go_wp2_with fail
    refine (H.out _ K1.out).mono ?_; rintro e0 w2 ⟨rfl, rfl⟩
    go_wp2
    go_ret
    exact ⟨rfl, K1.out⟩
  · have H := Lib.hid h
    have g1 : (5000 : Int) < (q : Int) := by omega
    clear h g
    go_enter Try.func4, Try.ntmps4
    go_wp2_with fail
    refine (HAW.out _).mono ?_; rintro e0 w1 ⟨rfl, k1⟩
    have K1 := Lib.hid k1
    clear k1
    go_wp2_with fail
    refine (H.out _ K1.out).mono ?_; rintro e0 w2 ⟨rfl, rfl⟩
    go_wp2
    go_ret
    exact ⟨rfl, K1.out⟩
set_option maxRecDepth 100000 in
theorem wback_with (A B : Option Addr) (c d p q : Nat) (l y : List Nd) (x bs v : List Int) (e f g h : Int) (j : List Nd) (b : Bool) (k1 k2 k3 k4 : Nat) (w : World) (hq : ¬ (5000 : Int) < (q : Int)) (hq2 : q ≤ 5000) (FA : Hid (FewN A c p w true)) (LL : Hid (x.length = k1 ∧ j.length = k2 ∧ y.length = k3 ∧ v.length = k4 ∧ l.length = p ∧ bs.length = q))
    (RA : Hid (RdG w A l)) (RB : Hid (B8.Rd w B bs))
    (HE : Hid (e = 100 ∧ b = false ∨ e = 0 ∧ f = 0 ∧ j = l)) (HG : Hid (g = 120 ∧ k3 = 0 ∨ g = 0 ∧ h = 0 ∧ v = bs))
    (HW : Hid (∀ w : World, Calls Try.prog 7 #[] w fun e w' => e = .returned (.bool true) ∧ Kp w w'))
    (C1 : Hid (∀ W, Kp w W → Calls Try.prog 9 #[.slice A p c] W (RetB x e k1 W)))
    (C2 : Hid (∀ W E c0, B8.Rd W E x → x.length ≤ c0 ∧ c0 ≤ 9223372036854775807 → Calls Try.prog 11 #[.slice E k1 c0] W (RetNs j f k2 W)))
    (C3 : Hid (∀ W, Kp w W → Calls Try.prog 11 #[.slice B q d] W (RetNs y g k3 W)))
    (C4 : Hid (∀ W E c0, RdG W E y → y.length ≤ c0 ∧ c0 ≤ 9223372036854775807 → Calls Try.prog 9 #[.slice E k3 c0] W (RetB v h k4 W)))
    (CK : Hid (∀ W, Kp w W → Calls Try.prog 14 #[.slice A p c] W fun e w' => e = .returned (.bool b) ∧ Kp W w'))
    (CY : Hid (g = 0 → ∀ W E c0, RdG W E y → y.length ≤ c0 ∧ c0 ≤ 9223372036854775807 → Calls Try.prog 14 #[.slice E k3 c0] W fun e w' => e = .returned (.bool true) ∧ Kp W w')) :
    Calls Try.prog 4 #[.slice A p c, .slice B q d] w fun e w' => e = .returned (.bool true) ∧ Kp w w' := by
  go_enter Try.func4, Try.ntmps4
  go_wp2_with fail
  refine (HW.out _).mono ?_; rintro e0 w1 ⟨rfl, k_⟩
  have K := Lib.hid k_
  clear k_
  go_wp2_with fail
  refine (FA.out _ K.out).mono ?_; rintro e0 w2 ⟨rfl, rfl⟩
  go_wp2_with fail
  refine (C1.out _ K.out).mono ?_; rintro e0 w4 ⟨A4, c4, rfl, r4, l4, k_⟩
  have K := Lib.hid (K.out.tr k_)
  clear k_
  go_wp2_with fail
  refine (C2.out _ _ _ r4.out l4.out).mono ?_; rintro e0 w5 ⟨A5, c5, rfl, r5, l5, k_⟩
  have K := Lib.hid (K.out.tr k_)
  clear k_
  go_wp2_with fail
  refine (C3.out _ K.out).mono ?_; rintro e0 w6 ⟨A6, c6, rfl, r6, l6, k_⟩
  have K := Lib.hid (K.out.tr k_)
  have r5 := Lib.hid (r5.out.kp k_)
  clear k_
  go_wp2_with fail
  refine (C4.out _ _ _ r6.out l6.out).mono ?_; rintro e0 w7 ⟨A7, c7, rfl, r7, l7, k_⟩
  have K := Lib.hid (K.out.tr k_)
  have r5 := Lib.hid (r5.out.kp k_)
  have r6 := Lib.hid (r6.out.kp k_)
  clear k_
  obtain ⟨hk1, hk2, hk3, hk4, hp, hqq⟩ := LL.out
  have HK := LL
  clear hk1 hk2 hk3 hk4 hp hqq
  rcases HE.out with ⟨rfl, rfl⟩ | ⟨rfl, rfl, hjl⟩
  · go_wp2_with fail
    refine (CK.out _ K.out).mono ?_; rintro e0 w8 ⟨rfl, k_⟩
    have K := Lib.hid (K.out.tr k_)
    have r6 := Lib.hid (r6.out.kp k_)
    have r7 := Lib.hid (r7.out.kp k_)
    clear k_
    rcases HG.out with ⟨rfl, rfl⟩ | ⟨rfl, rfl, hvb⟩
    · go_wp2
      go_ret
      exact ⟨rfl, K.out⟩
    · have q1 := str_self12 bs
      have s1 := run_str c7 r7.out (LL.out.2.2.2.1.symm)
      have s2 := run_str d (RB.out.kp K.out) (LL.out.2.2.2.2.2.symm)
      rw [hvb] at s1
      clear hvb
      go_wp2_with fail
      refine (CY.out (by trivial) _ _ _ r6.out l6.out).mono ?_; rintro e0 w9 ⟨rfl, k_⟩
      have K := Lib.hid (K.out.tr k_)
      clear k_ s1 s2
      go_wp2
      go_ret
      exact ⟨rfl, K.out⟩
  · have HS : Hid (∀ W, RdG W A5 j → RdG W A l → Calls Try.prog 13 #[.slice A5 k2 c5, .slice A p c] W fun e w' => e = .returned (.bool true) ∧ Kp W w') := fun W h1 h2 => by
      have e1 := LL.out.2.1
      have e2 := LL.out.2.2.2.2.1
      rw [hjl] at e1 h1
      rw [← e2, ← e1]
      exact same_ns l rfl W A5 A c5 c h1 h2
    go_wp2_with fail
    refine (HS.out _ r5.out (RA.out.kp K.out)).mono ?_; rintro e0 w8 ⟨rfl, k_⟩
    have K := Lib.hid (K.out.tr k_)
    have r6 := Lib.hid (r6.out.kp k_)
    have r7 := Lib.hid (r7.out.kp k_)
    clear k_ hjl
    rcases HG.out with ⟨rfl, rfl⟩ | ⟨rfl, rfl, hvb⟩
    · go_wp2
      go_ret
      exact ⟨rfl, K.out⟩
    · have q1 := str_self12 bs
      have s1 := run_str c7 r7.out (LL.out.2.2.2.1.symm)
      have s2 := run_str d (RB.out.kp K.out) (LL.out.2.2.2.2.2.symm)
      rw [hvb] at s1
      clear hvb
      go_wp2_with fail
      refine (CY.out (by trivial) _ _ _ r6.out l6.out).mono ?_; rintro e0 w9 ⟨rfl, k_⟩
      have K := Lib.hid (K.out.tr k_)
      clear k_ s1 s2
      go_wp2
      go_ret
      exact ⟨rfl, K.out⟩
theorem wback_walk (C : WiC) (A B : Option Addr) (c d : Nat) (l : List Nd) (bs : List Int) (w : World) (R : RdG w A l) (N : ∀ t ∈ l, Nd64 t) (L : l.length ≤ c) (M : c ≤ 9223372036854775807) (hB : B8.Rd w B bs) (hb : Bytes bs) (ld : bs.length ≤ d ∧ d ≤ 9223372036854775807) :
    Calls Try.prog 4 #[.slice A l.length c, .slice B bs.length d] w fun e w' => e = .returned (.bool true) ∧ Kp w w' := by
  have lb := hB.1
  cases hf : fewN l with
  | false => exact wback_far (wiawake_any C) A B c d _ _ w lb (.inl (few_n R hf))
  | true =>
  by_cases f0 : 5000 < bs.length
  · exact wback_far (wiawake_any C) A B c d _ _ w lb (.inr ⟨few_n R hf, f0⟩)
  have hs := small_few hf N
  obtain ⟨x, e, hx⟩ : ∃ x e, writeV l = (x, e) := ⟨_, _, rfl⟩
  obtain ⟨j, f, hj⟩ : ∃ j f, readV x = (j, f) := ⟨_, _, rfl⟩
  obtain ⟨y, g, hy⟩ : ∃ y g, readV bs = (y, g) := ⟨_, _, rfl⟩
  obtain ⟨v, h, hv⟩ : ∃ v h, writeV y = (v, h) := ⟨_, _, rfl⟩
  obtain ⟨x1, x2, x3⟩ := small_write hs hx
  have hsy : SmallG y := by
    rcases read_err hy with h0 | ⟨_, h0⟩
    · subst h0; exact (small_read hb hy).1
    · subst h0; exact ⟨by simp, fun _ h => by cases h⟩
  refine wback_with A B c d l.length bs.length l y x bs v e f g h j (checkB l) x.length j.length y.length v.length w (by omega) (by omega) (few_n R hf) ⟨rfl, rfl, rfl, rfl, rfl, rfl⟩ R hB ?_ ?_ (wiawake_any C)
    (fun W k => C.write A c l.length l x e x.length W (R.kp k) L M hs rfl hx rfl)
    (fun W E c0 h1 h2 => C.read E c0 x.length x j f j.length W h1 h2.1 h2.2 (by omega) x2 rfl hj rfl)
    (fun W k => C.read B d bs.length bs y g y.length W (hB.kp k) ld.1 ld.2 (by omega) hb rfl hy rfl)
    (fun W E c0 h1 h2 => C.write E c0 y.length y v h v.length W h1 h2.1 h2.2 hsy rfl hv rfl)
    (fun W k => C.check A c l.length l (checkB l) W (R.kp k) L M hs rfl rfl)
    (fun h0 W E c0 h1 h2 => C.check E c0 y.length y true W h1 h2.1 h2.2 hsy rfl (by subst h0; exact (small_read hb hy).2.1))
  · rcases write_err hx with ⟨h1, _, _⟩ | ⟨h1, h2, _⟩
    · have := (x3 h1).2
      rw [hj] at this
      injection this with t1 t2
      exact .inr ⟨h1, t2, t1⟩
    · exact .inl ⟨h1, h2⟩
  · rcases read_err hy with h0 | ⟨h0, h1⟩
    · subst h0
      have := (small_read hb hy).2.2
      rw [hv] at this
      injection this with t1 t2
      exact .inr ⟨rfl, t2, t1⟩
    · exact .inl ⟨h0, by rw [h1]; rfl⟩
end Go.Proofs.Ytdcgmnkoomhocaa
