/- What two shapes are joined to does not hang on which is first, and both fit it: the law's call returns true. -/
import Derived.Test.YtggdhfdklmmgjaaShTellsW
namespace Go.Proofs.Ytggdhfdklmmgjaa
open Go.RowKit Go.Proofs.ShM

section
variable {A B : Option Addr} {c d : Nat} {a b : List Int} {w : World}
/-- Some calls' contracts, at every later world. -/
theorem join_k (h : Rd w A a) (g : Rd w B b) {l : List Int} {e : Int} (hr : joinV a b = (l, e)) : Hid (∀ W, Kp w W → Calls Try.prog 15 #[.slice A a.length c, .slice B b.length d] W (RetL l e W)) :=
  fun _ k => join_n a b (h.kp k) (g.kp k) rfl rfl hr
theorem joinnil_k (h : Rd w A a) {l : List Int} {e : Int} (hr : joinV [] a = (l, e)) : Hid (∀ W, Kp w W → Calls Try.prog 15 #[.slice none 0 0, .slice A a.length c] W (RetL l e W)) :=
  fun _ k => join_n [] a (Rd.nil _ _) (h.kp k) rfl rfl hr
theorem fits_k (h : Rd w A a) (g : Rd w B b) {r : Bool} (hr : fitsV a b = r) : Hid (∀ W, Kp w W → Calls Try.prog 22 #[.slice A a.length c, .slice B b.length d] W (RetB r W)) :=
  fun _ k => fits_n a b (h.kp k) (g.kp k) rfl rfl hr
theorem check_k (h : Rd w A a) {r : Bool} (hr : okS a = r) : Hid (∀ W, Kp w W → Calls Try.prog 18 #[.slice A a.length c] W (RetB r W)) :=
  fun _ k => retB_of (check_n a (h.kp k) rfl hr)
theorem same_b (h : Rd w A a) (g : Rd w B b) {r : Bool} (hr : (a == b) = r) : Calls Try.prog 17 #[.slice A a.length c, .slice B b.length d] w (RetB r w) :=
  (same_n a b h g rfl rfl hr).mono fun _ _ ⟨h, _, e⟩ => ⟨h, e ▸ Kp.drewN_ _ _⟩
end

namespace ShJ
theorem fits_err {a b : List Int} (h : joinV a b = ([], 20)) : fitsV a b = false := by unfold fitsV; rw [h]; simp
theorem selfs {a : List Int} (h : okS a = true) : joinV a a = (a, 0) ∧ joinV [] a = (a, 0) := ⟨join_iff.2 (Jn.self h), join_iff.2 (Jn.nil_ h)⟩
end ShJ

/-- One may not be. -/
theorem joins_bad (A B : Option Addr) (c d : Nat) (a b : List Int) (w : World) (h : Rd w A a) (g : Rd w B b) (h1 : a.length ≤ 100) (h2 : b.length ≤ 100) (ho : okS a = false) :
    Calls Try.prog 5 #[.slice A a.length c, .slice B b.length d] w fun e w' => e = .returned (.bool true) ∧ Kp w w' := by
  have hj := join_no (b := b) (.inl ho)
  have C1 := join_k (c := c) (d := d) h g hj
  have C2 := join_k (c := d) (d := c) g h ((join_comm b a).trans hj)
  have C3 := join_k (c := c) (d := c) h h (join_no (.inl ho))
  have C4 := joinnil_k (c := c) h (join_no (.inr ho))
  have C5 := check_k (c := c) h ho
  have C6 := fits_k (c := c) (d := d) h g (ShJ.fits_err hj)
  have C7 := fits_k (c := d) (d := c) g h (ShJ.fits_err ((join_comm b a).trans hj))
  clear hj ho h g
  go_enter Try.func5, Try.ntmps5
  go_wp2_with fail
  refine (shawake_any _).mono ?_; rintro e0 w0 ⟨rfl, k0⟩
  go_wp2_with fail
  refine (C1.out _ k0).mono ?_; rintro e1 w1 ⟨A1, c1, rfl, r1, k1⟩
  have K1 := Lib.hid (k0.tr k1); clear k0 k1
  go_wp2_with fail
  refine (C2.out _ K1.out).mono ?_; rintro e1 w2 ⟨A2, c2, rfl, r2, k2⟩
  have K2 := Lib.hid (K1.out.tr k2); clear k2 K1
  go_wp2_with fail
  refine (C3.out _ K2.out).mono ?_; rintro e1 w3 ⟨A3, c3, rfl, r3, k3⟩
  have K3 := Lib.hid (K2.out.tr k3); clear k3 K2
  go_wp2_with fail
  refine (C4.out _ K3.out).mono ?_; rintro e1 w4 ⟨A4, c4, rfl, r4, k4⟩
  have K4 := Lib.hid (K3.out.tr k4); clear k4 K3
  go_wp2_with fail
  refine (C5.out _ K4.out).mono ?_; rintro e1 w5 ⟨rfl, k5⟩
  have K5 := Lib.hid (K4.out.tr k5); clear k5 K4
  go_wp2_with fail
  refine (C5.out _ K5.out).mono ?_; rintro e1 w6 ⟨rfl, k6⟩
  have K6 := Lib.hid (K5.out.tr k6); clear k6 K5
  go_wp2_with fail
  refine (C6.out _ K6.out).mono ?_; rintro e1 w7 ⟨rfl, k7⟩
  have K7 := Lib.hid (K6.out.tr k7); clear k7 K6
  go_wp2_with fail
  refine (C7.out _ K7.out).mono ?_; rintro e1 w8 ⟨rfl, k8⟩
  have K8 := Lib.hid (K7.out.tr k8); clear k8 K7
  go_wp2
  go_ret
  exact ⟨rfl, K8.out⟩

/-- The first may be, they aren't joined. -/
theorem joins_none (A B : Option Addr) (c d : Nat) (a b : List Int) (w : World) (h : Rd w A a) (g : Rd w B b) (h1 : a.length ≤ 100) (h2 : b.length ≤ 100) (ho : okS a = true) (hj : joinV a b = ([], 20)) :
    Calls Try.prog 5 #[.slice A a.length c, .slice B b.length d] w fun e w' => e = .returned (.bool true) ∧ Kp w w' := by
  have C1 := join_k (c := c) (d := d) h g hj
  have C2 := join_k (c := d) (d := c) g h ((join_comm b a).trans hj)
  have C3 := join_k (c := c) (d := c) h h (ShJ.selfs ho).1
  have C4 := joinnil_k (c := c) h (ShJ.selfs ho).2
  have C5 := check_k (c := c) h ho
  have C6 := fits_k (c := c) (d := d) h g (ShJ.fits_err hj)
  have C7 := fits_k (c := d) (d := c) g h (ShJ.fits_err ((join_comm b a).trans hj))
  have H := Lib.hid h
  clear hj ho h g
  go_enter Try.func5, Try.ntmps5
  go_wp2_with fail
  refine (shawake_any _).mono ?_; rintro e0 w0 ⟨rfl, k0⟩
  go_wp2_with fail
  refine (C1.out _ k0).mono ?_; rintro e1 w1 ⟨A1, c1, rfl, r1, k1⟩
  have K1 := Lib.hid (k0.tr k1); clear k0 k1
  go_wp2_with fail
  refine (C2.out _ K1.out).mono ?_; rintro e1 w2 ⟨A2, c2, rfl, r2, k2⟩
  have K2 := Lib.hid (K1.out.tr k2); clear k2 K1
  go_wp2_with fail
  refine (C3.out _ K2.out).mono ?_; rintro e1 w3 ⟨A3, c3, rfl, r3, k3⟩
  have K3 := Lib.hid (K2.out.tr k3); clear k3 K2
  go_wp2_with fail
  refine (C4.out _ K3.out).mono ?_; rintro e1 w4 ⟨A4, c4, rfl, r4, k4⟩
  have K4 := Lib.hid (K3.out.tr k4); have R := Lib.hid (And.intro (r3.rd.kp k4) r4.rd); clear k4 K3 r3 r4 r1 r2
  go_wp2_with fail
  refine (C5.out _ K4.out).mono ?_; rintro e1 w5 ⟨rfl, k5⟩
  have K5 := Lib.hid (K4.out.tr k5); have R5 := Lib.hid (And.intro (R.out.1.kp k5) (R.out.2.kp k5)); clear k5 K4 R
  go_wp2_with fail
  refine (same_b R5.out.1 (H.out.kp K5.out) (r := true) (by simp)).mono ?_; rintro e1 w6 ⟨rfl, k6⟩
  have K6 := Lib.hid (K5.out.tr k6); have R6 := Lib.hid (R5.out.2.kp k6); clear k6 K5 R5
  go_wp2_with fail
  refine (same_b R6.out (H.out.kp K6.out) (r := true) (by simp)).mono ?_; rintro e1 w7 ⟨rfl, k7⟩
  have K7 := Lib.hid (K6.out.tr k7); clear k7 K6 R6
  go_wp2_with fail
  refine (C6.out _ K7.out).mono ?_; rintro e1 w8 ⟨rfl, k8⟩
  have K8 := Lib.hid (K7.out.tr k8); clear k8 K7
  go_wp2_with fail
  refine (C7.out _ K8.out).mono ?_; rintro e1 w9 ⟨rfl, k9⟩
  have K9 := Lib.hid (K8.out.tr k9); clear k9 K8
  go_wp2
  go_ret
  exact ⟨rfl, K9.out⟩

/-- They are joined. -/
theorem joins_good (A B : Option Addr) (c d : Nat) (a b l : List Int) (w : World) (h : Rd w A a) (g : Rd w B b) (h1 : a.length ≤ 100) (h2 : b.length ≤ 100) (hj : joinV a b = (l, 0)) :
    Calls Try.prog 5 #[.slice A a.length c, .slice B b.length d] w fun e w' => e = .returned (.bool true) ∧ Kp w w' := by
  have J := join_iff.1 hj
  have C1 := join_k (c := c) (d := d) h g hj
  have C2 := join_k (c := d) (d := c) g h ((join_comm b a).trans hj)
  have C3 := join_k (c := c) (d := c) h h (ShJ.selfs J.1).1
  have C4 := joinnil_k (c := c) h (ShJ.selfs J.1).2
  have C5 := check_k (c := c) h J.1
  have F1 := Lib.hid (fits_iff.2 J.left)
  have F2 := Lib.hid (fits_iff.2 J.right)
  have F3 := Lib.hid J.2.2.1
  have H := Lib.hid h
  have G := Lib.hid g
  clear hj h g J
  go_enter Try.func5, Try.ntmps5
  go_wp2_with fail
  refine (shawake_any _).mono ?_; rintro e0 w0 ⟨rfl, k0⟩
  go_wp2_with fail
  refine (C1.out _ k0).mono ?_; rintro e1 w1 ⟨A1, c1, rfl, r1, k1⟩
  have K1 := Lib.hid (k0.tr k1); clear k0 k1
  go_wp2_with fail
  refine (C2.out _ K1.out).mono ?_; rintro e1 w2 ⟨A2, c2, rfl, r2, k2⟩
  have K2 := Lib.hid (K1.out.tr k2); have R2 := Lib.hid (And.intro (r1.rd.kp k2) r2.rd); clear k2 K1 r1 r2
  go_wp2_with fail
  refine (C3.out _ K2.out).mono ?_; rintro e1 w3 ⟨A3, c3, rfl, r3, k3⟩
  have K3 := Lib.hid (K2.out.tr k3); have K23 := Lib.hid k3; have R3 := Lib.hid r3.rd; clear k3 r3
  go_wp2_with fail
  refine (C4.out _ K3.out).mono ?_; rintro e1 w4 ⟨A4, c4, rfl, r4, k4⟩
  have K4 := Lib.hid (K3.out.tr k4); have K24 := Lib.hid (K23.out.tr k4); have R := Lib.hid (And.intro (R3.out.kp k4) r4.rd); clear k4 K3 r4
  go_wp2_with fail
  refine (C5.out _ K4.out).mono ?_; rintro e1 w5 ⟨rfl, k5⟩
  have K5 := Lib.hid (K4.out.tr k5); have K25 := Lib.hid (K24.out.tr k5); have R5 := Lib.hid (And.intro (R.out.1.kp k5) (R.out.2.kp k5)); clear k5 K4 R
  go_wp2_with fail
  refine (same_b R5.out.1 (H.out.kp K5.out) (r := true) (by simp)).mono ?_; rintro e1 w6 ⟨rfl, k6⟩
  have K6 := Lib.hid (K5.out.tr k6); have K26 := Lib.hid (K25.out.tr k6); have R6 := Lib.hid (R5.out.2.kp k6); clear k6 K5 R5
  go_wp2_with fail
  refine (same_b R6.out (H.out.kp K6.out) (r := true) (by simp)).mono ?_; rintro e1 w7 ⟨rfl, k7⟩
  have K7 := Lib.hid (K6.out.tr k7); have K27 := Lib.hid (K26.out.tr k7); clear k7 K6 R6
  go_wp2_with fail
  refine (same_b (R2.out.1.kp K27.out) (R2.out.2.kp K27.out) (r := true) (by simp)).mono ?_; rintro e1 w8 ⟨rfl, k8⟩
  have K8 := Lib.hid (K7.out.tr k8); have R8 := Lib.hid (R2.out.1.kp (K27.out.tr k8)); clear k8 K7
  go_wp2_with fail
  refine (fits_n a l (H.out.kp K8.out) R8.out rfl rfl F1.out).mono ?_; rintro e1 w9 ⟨rfl, k9⟩
  have K9 := Lib.hid (K8.out.tr k9); have R9 := Lib.hid (R8.out.kp k9); clear k9 K8
  go_wp2_with fail
  refine (fits_n b l (G.out.kp K9.out) R9.out rfl rfl F2.out).mono ?_; rintro e1 w10 ⟨rfl, k10⟩
  have K10 := Lib.hid (K9.out.tr k10); have R10 := Lib.hid (R9.out.kp k10); clear k10 K9
  go_wp2_with fail
  refine (check_n l R10.out rfl F3.out).mono ?_; rintro e1 w11 ⟨rfl, rfl⟩
  go_wp2
  go_ret
  exact ⟨rfl, K10.out⟩

theorem shjoins_far (A B : Option Addr) (c d n m : Nat) (w : World) (h0 : n ≤ 9223372036854775807) (h0' : m ≤ 9223372036854775807) (h : 100 < n ∨ 100 < m) :
    Calls Try.prog 5 #[.slice A n c, .slice B m d] w fun e w' => e = .returned (.bool true) ∧ Kp w w' := by
  by_cases h1 : 100 < n
  all_goals by_cases h2 : 100 < m
  all_goals
    first
    | exact absurd h (by omega)
    | (clear h
       go_enter Try.func5, Try.ntmps5
       go_wp2_with (go_at_call 10; refine (shawake_any _).mono ?_; rintro e0 w0 ⟨rfl, k0⟩)
       go_ret
       exact ⟨rfl, k0⟩)

theorem shjoins_walk (A B : Option Addr) (c d : Nat) (a b : List Int) (w : World) (h : Rd w A a) (g : Rd w B b) :
    Calls Try.prog 5 #[.slice A a.length c, .slice B b.length d] w fun e w' => e = .returned (.bool true) ∧ Kp w w' := by
  by_cases hf : 100 < a.length ∨ 100 < b.length
  · exact shjoins_far A B c d a.length b.length w h.len g.len hf
  · cases ho : okS a with
    | false => exact joins_bad A B c d a b w h g (by omega) (by omega) ho
    | true =>
      rcases join_cases a b with ⟨l, hl, _⟩ | hl
      · exact joins_good A B c d a b l w h g (by omega) (by omega) hl
      · exact joins_none A B c d a b w h g (by omega) (by omega) ho hl
end Go.Proofs.Ytggdhfdklmmgjaa
