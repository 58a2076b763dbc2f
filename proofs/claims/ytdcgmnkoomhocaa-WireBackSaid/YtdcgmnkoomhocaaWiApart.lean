/- WireApart, over the contracts of the calls. -/
import Derived.Test.YtdcgmnkoomhocaaWiTells
import Derived.BigQuiet
import Derived.Deep.QuietTactic
namespace Go.Proofs.Ytdcgmnkoomhocaa
open Go.RowKit Go.Proofs.ShM Go.Proofs.GrM Go.Proofs.PkM Go.Proofs.WiM
set_option linter.unusedVariables false
set_option maxHeartbeats 8000000

set_option maxRecDepth 100000 in
theorem wapart_far (HW : ∀ w : World, Calls Try.prog 7 #[] w fun e w' => e = .returned (.bool true) ∧ Kp w w') (A B : Option Addr) (c d p q : Nat) (w : World) (h : FewN A c p w false ∨ FewN A c p w true ∧ FewN B d q w false) :
    Calls Try.prog 6 #[.slice A p c, .slice B q d] w fun e w' => e = .returned (.bool true) ∧ Kp w w' := by
  have HAW := Lib.hid HW
  clear HW
  rcases h with h | ⟨h, g⟩
  · have H := Lib.hid h
    clear h
    go_enter Try.func6, Try.ntmps6
    go_wp2_with fail
    refine (HAW.out _).mono ?_; rintro e0 w1 ⟨rfl, k1⟩
    have K1 := Lib.hid k1
    clear k1
    go_wp2_with fail
    refine (H.out _ K1.out).mono ?_; rintro e0 w2 ⟨rfl, rfl⟩
    go_wp2
    go_ret
    exact ⟨rfl, K1.out⟩
  · have H := Lib.hid h
    have G := Lib.hid g
    clear h g
    go_enter Try.func6, Try.ntmps6
    go_wp2_with fail
    refine (HAW.out _).mono ?_; rintro e0 w1 ⟨rfl, k1⟩
    have K1 := Lib.hid k1
    clear k1
    go_wp2_with fail
    refine (H.out _ K1.out).mono ?_; rintro e0 w2 ⟨rfl, rfl⟩
    go_wp2_with fail
    refine (G.out _ K1.out).mono ?_; rintro e0 w2 ⟨rfl, rfl⟩
    go_wp2
    go_ret
    exact ⟨rfl, K1.out⟩
/-- A graph's first bytes. -/
def Hd (a : List Nd) (x : List Int) : Prop := ∃ (t : Nd) (a' : List Nd) (r : List Int), a = t :: a' ∧ x = (a.length : Int) :: t.1 :: r ∧ 0 ≤ t.1 ∧ t.1 ≤ 255 ∧ a.length ≤ 24
set_option maxRecDepth 100000 in
theorem wapart_with (A B : Option Addr) (c d p q : Nat) (a b : List Nd) (x y : List Int) (e f : Int) (ba bb r : Bool) (k1 k2 : Nat) (w : World) (FA : Hid (FewN A c p w true)) (FB : Hid (FewN B d q w true)) (RA : Hid (RdG w A a)) (RB : Hid (RdG w B b)) (LL : Hid (x.length = k1 ∧ y.length = k2 ∧ a.length = p ∧ b.length = q ∧ k1 ≤ 1000))
    (HE : Hid (e = 100 ∧ ba = false ∨ e = 0 ∧ ba = true ∧ (f = 100 ∧ bb = false ∨ f = 0 ∧ Hd a x ∧ (a == b) = r ∧ ((strOfNums x).toList == (strOfNums y).toList) = r)))
    (HW : Hid (∀ w : World, Calls Try.prog 7 #[] w fun e w' => e = .returned (.bool true) ∧ Kp w w'))
    (C1 : Hid (∀ W, Kp w W → Calls Try.prog 9 #[.slice A p c] W (RetB x e k1 W)))
    (C2 : Hid (∀ W, Kp w W → Calls Try.prog 9 #[.slice B q d] W (RetB y f k2 W)))
    (CA : Hid (∀ W, Kp w W → Calls Try.prog 14 #[.slice A p c] W fun e w' => e = .returned (.bool ba) ∧ Kp W w'))
    (CB : Hid (∀ W, Kp w W → Calls Try.prog 14 #[.slice B q d] W fun e w' => e = .returned (.bool bb) ∧ Kp W w')) :
    Calls Try.prog 6 #[.slice A p c, .slice B q d] w fun e w' => e = .returned (.bool true) ∧ Kp w w' := by
  go_enter Try.func6, Try.ntmps6
  go_wp2_with fail
  refine (HW.out _).mono ?_; rintro e0 w1 ⟨rfl, k_⟩
  have K := Lib.hid k_
  clear k_
  go_wp2_with fail
  refine (FA.out _ K.out).mono ?_; rintro e0 w2 ⟨rfl, rfl⟩
  go_wp2_with fail
  refine (FB.out _ K.out).mono ?_; rintro e0 w2 ⟨rfl, rfl⟩
  go_wp2_with fail
  refine (C1.out _ K.out).mono ?_; rintro e0 w4 ⟨A4, c4, rfl, r4, _, k_⟩
  have K := Lib.hid (K.out.tr k_)
  clear k_
  go_wp2_with fail
  refine (C2.out _ K.out).mono ?_; rintro e0 w5 ⟨A5, c5, rfl, r5, _, k_⟩
  have K := Lib.hid (K.out.tr k_)
  have r4 := Lib.hid (r4.out.kp k_)
  clear k_
  rcases HE.out with ⟨rfl, rfl⟩ | ⟨rfl, rfl, ⟨rfl, rfl⟩ | ⟨rfl, hd, hr, hs⟩⟩
  · go_wp2_with fail
    refine (CA.out _ K.out).mono ?_; rintro e0 w8 ⟨rfl, k_⟩
    have K := Lib.hid (K.out.tr k_)
    clear k_
    go_wp2
    go_ret
    exact ⟨rfl, K.out⟩
  · go_wp2_with fail
    refine (CA.out _ K.out).mono ?_; rintro e0 w8 ⟨rfl, k_⟩
    have K := Lib.hid (K.out.tr k_)
    clear k_
    go_wp2_with fail
    refine (CB.out _ K.out).mono ?_; rintro e0 w9 ⟨rfl, k_⟩
    have K := Lib.hid (K.out.tr k_)
    clear k_
    go_wp2
    go_ret
    exact ⟨rfl, K.out⟩
  · have HQ : Hid (∀ n, Calls Try.prog 13 #[.slice A p c, .slice B q d] (w5.drewN n) fun e w'' => e = .returned (.bool r) ∧ ∃ m, w'' = w5.drewN m) := fun n => by
      have h := rsame10_q A B c d a b (w5.drewN n) (RA.out.kp (K.out.tr (Kp.drewN_ _ _))) (RB.out.kp (K.out.tr (Kp.drewN_ _ _)))
      rw [hr, LL.out.2.2.1, LL.out.2.2.2.1] at h
      exact quiet10S h
    have s1 : ∀ n, (convert 23 9 (.slice A4 k1 c4)).run Try.prog (w5.drewN n) = .ok (.string (strOfNums x)) (w5.drewN n) := fun n => run_str c4 (r4.out.kp (Kp.drewN_ _ _)) LL.out.1.symm
    have s2 : ∀ n, (convert 23 9 (.slice A5 k2 c5)).run Try.prog (w5.drewN n) = .ok (.string (strOfNums y)) (w5.drewN n) := fun n => run_str c5 (r5.out.kp (Kp.drewN_ _ _)) LL.out.2.1.symm
    have rr : (r == r) = true := by simp
    obtain ⟨t, a', z, ea, ex, o0, o1, hl⟩ := hd
    have hk1 : 2 ≤ k1 := by rw [← LL.out.1, ex]; simp
    have hk1' : k1 ≤ 1000 := LL.out.2.2.2.2
    have hp : 1 ≤ p := by rw [← LL.out.2.2.1, ea]; simp
    have hp2 : p ≤ 24 := by rw [← LL.out.2.2.1]; exact hl
    obtain ⟨ad, v0, rfl, hb4, hv0, hc0⟩ := r4.out.at_ (k := 0) (by rw [ex]; simp)
    obtain ⟨ad', v1, e1, _, hv1, hc1⟩ := r4.out.at_ (k := 1) (by rw [ex]; simp)
    injection e1 with e1
    subst e1
    have hv0' : v0 = (p : Int) := by rw [ex] at hv0; rw [← LL.out.2.2.1]; simpa using hv0.symm
    have hv1' : v1 = t.1 := by rw [ex] at hv1; simpa using hv1.symm
    subst hv0' hv1'
    have ee0 : ad.add 0 = ad := by unfold Addr.add; simp
    have ee1 : ad.add 1 = ⟨ad.block, ad.off + 1, none⟩ := by unfold Addr.add; simp
    rw [ee0] at hc0
    rw [ee1] at hc1
    obtain ⟨ae, t', P, g, Q, h, rfl, hlt, ht, hd0, _, _, _, _, _⟩ := (RA.out.kp K.out).at_ (k := 0) (by rw [ea]; simp)
    have htt : t = t' := by rw [ea] at ht; simpa using ht
    subst htt
    have ee2 : ae.add (0 * 3) = ae := by unfold Addr.add; simp
    rw [ee2] at hd0
    obtain ⟨op, la, nu⟩ := t
    dsimp only at o0 o1 hd0 hc1
    have g1 : (1 : Int) < (k1 : Int) := by omega
    have g2 : (0 : Int) < (p : Int) := by omega
    have g3 : ((p : Int) == (p : Int)) = true := by simp
    have g4 : (op == op) = true := by simp
    have g5 : (0 : Int) < (k1 : Int) := by omega
    have u1 : IntKind.i64.wrap (p : Int) = (p : Int) := by rw [IntKind.wrap_i64]; omega
    have u2 : IntKind.i64.wrap op = op := by rw [IntKind.wrap_i64]; omega
    have g6 : 0 < k1 := by omega
    have g7 : 0 < p := by omega
    clear hr hv0 hv1 ht ea ex hl ee0 ee2 hk1 hp
    go_wp2_with fail
    go_quiet ((go_at_call 13; exact HQ.out _))
    go_wp2
    go_ret
    exact ⟨rfl, K.out.tr (Kp.drewN_ _ _)⟩
theorem hd_of {a : List Nd} {x : List Int} (h : checkB a = true) (hx : x = (a.length : Int) :: encN a) : Hd a x := by
  obtain ⟨h1, h2, _⟩ := check_iff.1 h
  cases a with
  | nil => simp at h1
  | cons t a' =>
    obtain ⟨g1, g2, _⟩ := small_nd h (k := 0) (t := t) rfl
    refine ⟨t, a', ((t.2.1.length : Int) :: allB t.2.1 1) ++ ((t.2.2.length : Int) :: allB t.2.2 8) ++ encN a', rfl, ?_, g1, g2, h2⟩
    rw [hx]
    unfold encN nodeW
    rw [List.flatMap_cons]
    simp
theorem wapart_walk (C : WiC) (A B : Option Addr) (c d : Nat) (a b : List Nd) (w : World) (RA : RdG w A a) (NA : ∀ t ∈ a, Nd64 t) (LA : a.length ≤ c) (MA : c ≤ 9223372036854775807) (RB : RdG w B b) (NB : ∀ t ∈ b, Nd64 t) (LB : b.length ≤ d) (MB : d ≤ 9223372036854775807) :
    Calls Try.prog 6 #[.slice A a.length c, .slice B b.length d] w fun e w' => e = .returned (.bool true) ∧ Kp w w' := by
  cases hf : fewN a with
  | false => exact wapart_far (wiawake_any C) A B c d _ _ w (.inl (few_n RA hf))
  | true =>
  cases hg : fewN b with
  | false => exact wapart_far (wiawake_any C) A B c d _ _ w (.inr ⟨few_n RA hf, few_n RB hg⟩)
  | true =>
  have sa := small_few hf NA
  have sb := small_few hg NB
  obtain ⟨x, e, hx⟩ : ∃ x e, writeV a = (x, e) := ⟨_, _, rfl⟩
  obtain ⟨y, f, hy⟩ : ∃ y f, writeV b = (y, f) := ⟨_, _, rfl⟩
  obtain ⟨x1, x2, x3⟩ := small_write sa hx
  obtain ⟨y1, y2, y3⟩ := small_write sb hy
  refine wapart_with A B c d a.length b.length a b x y e f (checkB a) (checkB b) (a == b) x.length y.length w (few_n RA hf) (few_n RB hg) RA RB ⟨rfl, rfl, rfl, rfl, x1⟩ ?_ (wiawake_any C)
    (fun W k => C.write A c a.length a x e x.length W (RA.kp k) LA MA sa rfl hx rfl)
    (fun W k => C.write B d b.length b y f y.length W (RB.kp k) LB MB sb rfl hy rfl)
    (fun W k => C.check A c a.length a (checkB a) W (RA.kp k) LA MA sa rfl rfl)
    (fun W k => C.check B d b.length b (checkB b) W (RB.kp k) LB MB sb rfl rfl)
  rcases write_err hx with ⟨h1, h2, h3⟩ | ⟨h1, h2, _⟩
  · rcases write_err hy with ⟨g1, g2, g3⟩ | ⟨g1, g2, _⟩
    · refine .inr ⟨h1, h2, .inr ⟨g1, hd_of h2 h3, rfl, ?_⟩⟩
      have hap := write_apart h2 g2 (x3 h1).1 (y3 g1).1
      rw [← h3, ← g3] at hap
      refine str_eq x2 y2 ?_
      rw [Bool.eq_iff_iff, beq_iff_eq, beq_iff_eq]
      exact hap
    · exact .inr ⟨h1, h2, .inl ⟨g1, g2⟩⟩
  · exact .inl ⟨h1, h2⟩
end Go.Proofs.Ytdcgmnkoomhocaa
