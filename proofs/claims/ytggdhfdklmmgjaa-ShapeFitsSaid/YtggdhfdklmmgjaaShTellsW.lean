/- Sizes, places, indices and joins are the document's: the law's call returns true. -/
import Derived.Test.YtggdhfdklmmgjaaShapeW
namespace Go.Proofs.Ytggdhfdklmmgjaa
open Go.RowKit Go.Proofs.ShM

theorem RetN.k {r : Int × Int} {w : World} {e : Ending} {w' : World} (h : RetN r w e w') : RetK r.1 r.2 w e w' := by
  obtain ⟨h1, n, rfl⟩ := h
  exact ⟨h1, Kp.drewN_ _ _⟩
/-- The answer is the bool; nothing that was there has changed. -/
def RetB (b : Bool) (w : World) (e : Ending) (w' : World) : Prop := e = .returned (.bool b) ∧ Kp w w'
theorem retB_of {f : FuncId} {args : Array Value} {b : Bool} {w : World} (h : Calls Try.prog f args w fun e w' => e = .returned (.bool b) ∧ w = w') : Calls Try.prog f args w (RetB b w) := h.mono fun _ _ ⟨h, k⟩ => ⟨h, k ▸ Kp.refl _⟩

set_option maxHeartbeats 2000000 in
set_option maxRecDepth 100000 in
theorem tells_with (A B : Option Addr) (c d n m : Nat) (pl : Int) (w : World) (h1 : n ≤ 100) (h2 : m ≤ 100) (p e g i z : Int) (xs js : List Int) (k f : Bool)
    (C1 : Hid (∀ W, Kp w W → Calls Try.prog 11 #[.slice A n c, .slice B m d] W (RetK p e W)))
    (D1 : Hid (∀ W, Kp w W → Calls Try.prog 12 #[.slice A n c, .slice B m d] W (RetK p e W)))
    (C2 : Hid (∀ W, Kp w W → Calls Try.prog 13 #[.slice A n c, .int .i64 pl] W (RetL xs g W)))
    (D2 : Hid (∀ W, Kp w W → Calls Try.prog 14 #[.slice A n c, .int .i64 pl] W (RetL xs g W)))
    (C3 : Hid (∀ W, Kp w W → Calls Try.prog 15 #[.slice A n c, .slice B m d] W (RetL js i W)))
    (D3 : Hid (∀ W, Kp w W → Calls Try.prog 16 #[.slice A n c, .slice B m d] W (RetL js i W)))
    (C4 : Hid (∀ W, Kp w W → Calls Try.prog 18 #[.slice A n c] W (RetB k W)))
    (D4 : Hid (∀ W, Kp w W → Calls Try.prog 19 #[.slice A n c] W (RetB k W)))
    (C5 : Hid (∀ W, Kp w W → Calls Try.prog 20 #[.slice A n c] W fun e w' => e = .returned (.int .i64 z) ∧ W = w'))
    (D5 : Hid (∀ W, Kp w W → Calls Try.prog 21 #[.slice A n c] W fun e w' => e = .returned (.int .i64 z) ∧ W = w'))
    (C6 : Hid (∀ W, Kp w W → Calls Try.prog 22 #[.slice A n c, .slice B m d] W (RetB f W)))
    (D6 : Hid (∀ W, Kp w W → Calls Try.prog 23 #[.slice A n c, .slice B m d] W (RetB f W))) :
    Calls Try.prog 3 #[.slice A n c, .slice B m d, .int .i64 pl] w fun e w' => e = .returned (.bool true) ∧ Kp w w' := by
  go_enter Try.func3, Try.ntmps3
  go_wp2_with fail
  refine (shawake_any _).mono ?_; rintro e0 w0 ⟨rfl, k0⟩
  have K0 := Lib.hid k0; clear k0
  go_wp2_with fail
  refine (C1.out _ K0.out).mono ?_; rintro e1 w1 ⟨rfl, k1⟩
  have K1 := Lib.hid (K0.out.tr k1); clear k1 K0
  go_wp2_with fail
  refine (D1.out _ K1.out).mono ?_; rintro e1 w2 ⟨rfl, k2⟩
  have K2 := Lib.hid (K1.out.tr k2); clear k2 K1
  go_wp2_with fail
  refine (C2.out _ K2.out).mono ?_; rintro e1 w3 ⟨A3, c3, rfl, r3, k3⟩
  have K3 := Lib.hid (K2.out.tr k3); have R3 := Lib.hid r3.rd; clear k3 K2 r3
  go_wp2_with fail
  refine (D2.out _ K3.out).mono ?_; rintro e1 w4 ⟨A4, c4, rfl, r4, k4⟩
  have K4 := Lib.hid (K3.out.tr k4); have R4 := Lib.hid (And.intro (R3.out.kp k4) r4.rd); clear k4 K3 r4 R3
  go_wp2_with fail
  refine (C3.out _ K4.out).mono ?_; rintro e1 w5 ⟨A5, c5, rfl, r5, k5⟩
  have K5 := Lib.hid (K4.out.tr k5); have R5 := Lib.hid (And.intro ((R4.out.1.kp k5)) (And.intro (R4.out.2.kp k5) r5.rd)); clear k5 K4 r5 R4
  go_wp2_with fail
  refine (D3.out _ K5.out).mono ?_; rintro e1 w6 ⟨A6, c6, rfl, r6, k6⟩
  have K6 := Lib.hid (K5.out.tr k6); have R6 := Lib.hid (And.intro (R5.out.1.kp k6) (And.intro (R5.out.2.1.kp k6) (And.intro (R5.out.2.2.kp k6) r6.rd))); clear k6 K5 r6 R5
  go_wp2_with fail
  refine (same_n xs xs R6.out.1 R6.out.2.1 rfl rfl (r := true) (by simp)).mono ?_; rintro e1 w7 ⟨rfl, q7, h7⟩
  have k7 : Kp w6 w7 := by rw [h7]; exact Kp.drewN_ _ _
  have K7 := Lib.hid (K6.out.tr k7); have R7 := Lib.hid (And.intro (R6.out.2.2.1.kp k7) (R6.out.2.2.2.kp k7)); clear k7 K6 R6 h7
  go_wp2_with fail
  refine (same_n js js R7.out.1 R7.out.2 rfl rfl (r := true) (by simp)).mono ?_; rintro e1 w8 ⟨rfl, q8, h8⟩
  have k8 : Kp w7 w8 := by rw [h8]; exact Kp.drewN_ _ _
  have K8 := Lib.hid (K7.out.tr k8); clear k8 K7 R7 h8
  go_wp2_with fail
  refine (C4.out _ K8.out).mono ?_; rintro e1 w9 ⟨rfl, k9⟩
  have K9 := Lib.hid (K8.out.tr k9); clear k9 K8
  go_wp2_with fail
  refine (D4.out _ K9.out).mono ?_; rintro e1 w10 ⟨rfl, k10⟩
  have K10 := Lib.hid (K9.out.tr k10); clear k10 K9
  go_wp2_with fail
  refine (C5.out _ K10.out).mono ?_; rintro e1 w11 ⟨rfl, rfl⟩
  go_wp2_with fail
  refine (D5.out _ K10.out).mono ?_; rintro e1 w12 ⟨rfl, rfl⟩
  go_wp2_with fail
  refine (C6.out _ K10.out).mono ?_; rintro e1 w13 ⟨rfl, k13⟩
  have K13 := Lib.hid (K10.out.tr k13); clear k13 K10
  go_wp2_with fail
  refine (D6.out _ K13.out).mono ?_; rintro e1 w14 ⟨rfl, k14⟩
  have K14 := Lib.hid (K13.out.tr k14); clear k14 K13
  go_wp2
  go_ret
  exact ⟨rfl, K14.out⟩

/-- Beyond a hundred nothing is asked. -/
theorem shtells_far (A B : Option Addr) (c d n m : Nat) (pl : Int) (w : World) (h0 : n ≤ 9223372036854775807) (h0' : m ≤ 9223372036854775807) (h : 100 < n ∨ 100 < m) :
    Calls Try.prog 3 #[.slice A n c, .slice B m d, .int .i64 pl] w fun e w' => e = .returned (.bool true) ∧ Kp w w' := by
  by_cases h1 : 100 < n
  all_goals by_cases h2 : 100 < m
  all_goals
    first
    | exact absurd h (by omega)
    | (clear h
       go_enter Try.func3, Try.ntmps3
       go_wp2_with (go_at_call 10; refine (shawake_any _).mono ?_; rintro e0 w0 ⟨rfl, k0⟩)
       go_ret
       exact ⟨rfl, k0⟩)

theorem shtells_walk (A B : Option Addr) (c d : Nat) (a b : List Int) (pl : Int) (w : World) (h : Rd w A a) (g : Rd w B b) :
    Calls Try.prog 3 #[.slice A a.length c, .slice B b.length d, .int .i64 pl] w fun e w' => e = .returned (.bool true) ∧ Kp w w' := by
  by_cases hf : 100 < a.length ∨ 100 < b.length
  · exact shtells_far A B c d a.length b.length pl w h.len g.len hf
  · exact tells_with A B c d a.length b.length pl w (by omega) (by omega) _ _ _ _ _ _ _ _ _
      (fun W k => (place_any A B c d a b W (h.kp k) (g.kp k)).mono fun _ _ r => r.k)
      (fun W k => rplace_any A B c d a b W (h.kp k) (g.kp k))
      (fun W k => index_any A c a pl W (h.kp k))
      (fun W k => rindex_any A c a pl W (h.kp k))
      (fun W k => join_any A B c d a b W (h.kp k) (g.kp k))
      (fun W k => rjoin_any A B c d a b W (h.kp k) (g.kp k))
      (fun W k => retB_of (check_any A c a W (h.kp k)))
      (fun W k => retB_of (rcheck_any A c a W (h.kp k)))
      (fun W k => size_any A c a W (h.kp k))
      (fun W k => rsize_any A c a W (h.kp k))
      (fun W k => fits_any A B c d a b W (h.kp k) (g.kp k))
      (fun W k => rfits_any A B c d a b W (h.kp k) (g.kp k))
end Go.Proofs.Ytggdhfdklmmgjaa
